/- The law ErasureSums returns true for all arguments, and leaves them as they were. No conditions. -/
import Derived.Test.YtmlcenocjpjcfaaGo
import Derived.Test.YtmlcenocjpjcfaaE19
namespace Go.Proofs.Ytmlcenocjpjcfaa.erasureSums
open Go.Proofs.Ytmlcenocjpjcfaa Go.ChangeShapes Go.WideShapes Go.ChangeAt Go.RowKit GfM

set_option maxRecDepth 100000 in
theorem contract (H : Type) (enc : TypeId × Value → H) (W : World) (base : Nat) (args : Array Value) (ds gs : List (DataW H)) (before : List MemPlace)
    (hval : ∀ (j : Nat) t v, Try.f8.params[j]? = some t → args[j]? = some v → Value.okWide Try.prog W .any base t v)
    (hW : DataW.Whole enc Try.prog Try.f8.params.toList Rows.erasureSumsSpec.vars false W args.toList ds gs before)
    (hz : (DataW.weightsEach Try.prog (Try.f8.params.toList ++ Rows.erasureSumsSpec.plain.varTypes Try.prog) (ds ++ gs)).all (· ≤ reachBytes) = true) :
    Calls Try.prog 8 args W fun e W' => ∃ v, e = .returned v ∧ Rows.erasureSumsSpec.post enc Try.prog Try.f8 false true false false W args v W' := by
  have hW' := hW
  obtain ⟨p, q, hA0, hV, rfl, -, -⟩ := hW
  have hA : DataW.TrodAll enc Try.prog W 0 (fun _ => true) true Try.f8.params.toList args.toList ds p := hA0
  rw [Try.params8] at hA hval hz
  obtain ⟨v0, us0, d0, ds0, p0, q0, hargs0, rfl, rfl, h0, t0⟩ := trodAll_cons hA
  obtain ⟨v1, us1, d1, ds1, p1, q1, hargs1, rfl, rfl, h1, t1⟩ := trodAll_cons t0
  obtain ⟨v2, us2, d2, ds2, p2, q2, hargs2, rfl, rfl, h2, t2⟩ := trodAll_cons t1
  obtain ⟨v3, us3, d3, ds3, p3, q3, hargs3, rfl, rfl, h3, t3⟩ := trodAll_cons t2
  obtain ⟨v4, us4, d4, ds4, p4, q4, hargs4, rfl, rfl, h4, t4⟩ := trodAll_cons t3
  obtain ⟨v5, us5, d5, ds5, p5, q5, hargs5, rfl, rfl, h5, t5⟩ := trodAll_cons t4
  obtain ⟨rfl, rfl, rfl⟩ := trodAll_nil t5
  obtain rfl : args = #[v0, v1, v2, v3, v4, v5] := by cases args; simp_all
  obtain ⟨rfl, rfl⟩ := trodVars_none hV
  obtain ⟨m0, rfl, rfl, rfl, wf0⟩ := open_int Try.underlying5 (hval 0 5 v0 rfl rfl) h0
  obtain ⟨m1, rfl, rfl, rfl, wf1⟩ := open_int Try.underlying5 (hval 1 5 v1 rfl rfl) h1
  obtain ⟨m2, rfl, rfl, rfl, wf2⟩ := open_int Try.underlying5 (hval 2 5 v2 rfl rfl) h2
  obtain ⟨xs3, r3⟩ := open_bytes (hval 3 32 v3 rfl rfl) h3
  obtain ⟨xs4, r4⟩ := open_bytes (hval 4 32 v4 rfl rfl) h4
  obtain ⟨m5, rfl, rfl, rfl, wf5⟩ := open_int Try.underlying5 (hval 5 5 v5 rfl rfl) h5
  clear hA0 hz
  simp only [List.append_nil] at hW'
  have hlt : ∀ x, x ∈ p3 ++ p4 → x.block < W.heap.size := fun x hx => by simpa using hW'.lt x (by simpa using hx)
  have walk : Calls Try.prog 8 #[(.int .u8 m0), (.int .u8 m1), (.int .u8 m2), v3, v4, (.int .u8 m5)] W (LawB W) := by
    obtain ⟨n0, hn0, rfl⟩ := byte_of wf0
    obtain ⟨n1, hn1, rfl⟩ := byte_of wf1
    obtain ⟨n2, hn2, rfl⟩ := byte_of wf2
    obtain ⟨n5, hn5, rfl⟩ := byte_of wf5
    exact sums_any r3 r4 n0 n1 n2 n5 hn0 hn1 hn2 hn5
  refine walk.mono fun e W' ⟨he, hb⟩ => ?_
  subst he
  have hargs := trodAll_cons_mk (shut_int Try.underlying5 wf0) (trodAll_cons_mk (shut_int Try.underlying5 wf1) (trodAll_cons_mk (shut_int Try.underlying5 wf2) (trodAll_cons_mk (kept_arg readB ltB h3 hb fun x hx => hlt x (by simp [hx])) (trodAll_cons_mk (kept_arg readB ltB h4 hb fun x hx => hlt x (by simp [hx])) (trodAll_cons_mk (shut_int Try.underlying5 wf5) (trodAll_mk0))))))
  exact ⟨_, rfl, _, _, _, [], _, [], hW', trodAll_cons_mk (shut_bool Try.underlying4 _) trodAll_mk0, hargs, rfl, Below.frame hb _, fun h => by cases h⟩

set_option maxRecDepth 100000 in
theorem lifted (os : Os) (started : os.Started) (H : Type) (enc : TypeId × Value → H) :
    ReturnsInHanded {} Try.checked os 8 .any (Rows.erasureSumsSpec.pre6 enc Try.prog Try.f8 Rows.erasureSumsRow.domain false) (Rows.erasureSumsSpec.post enc Try.prog Try.f8 false true false false) := by
  refine returnsInHanded_of_change_sized (C := Try.checked) own started (by kernel_rfl) Try.func8
    (ChangeSpec.witness6 (enc := enc) (C := Try.checked) false ⟨#[], #[.int .u8 0, .int .u8 0, .int .u8 0, .slice none 0 0, .slice none 0 0, .int .u8 0], []⟩ 8 (by kernel_rfl) (by kernel_rfl) (by kernel_rfl) (by kernel_rfl)) ?_
  intro W base args ds gs before hval hW _ hz _
  exact contract H enc W base args ds gs before hval hW hz

theorem proved : Rows.ErasureSumsSaid :=
  OpenClaim.holds_of_wide 8 Try.f8 rfl rfl rfl rfl rfl rfl rfl ⟨rfl, rfl, rfl, rfl, rfl⟩ rfl rfl rfl rfl rfl (by kernel_rfl) Try.func8 (by kernel_rfl)
    (of_decide_eq_true (by kernel_rfl)) (by unfold Func.isWrapper; first | (rw [if_pos (by decide +kernel)]; kernel_rfl) | (rw [if_neg (by decide +kernel)]; exact ⟨rfl, rfl⟩))
    (fun os started H enc _ => lifted os started H enc)
end Go.Proofs.Ytmlcenocjpjcfaa.erasureSums
namespace Go.Proofs.Ytmlcenocjpjcfaa
theorem erasureSums_said : Rows.ErasureSumsSaid := erasureSums.proved
end Go.Proofs.Ytmlcenocjpjcfaa
