/- The law ErasureMinors returns true for all arguments, and leaves them as they were. No conditions. -/
import Derived.Test.YtmlcenocjpjcfaaGo
import Derived.Test.YtmlcenocjpjcfaaE17
namespace Go.Proofs.Ytmlcenocjpjcfaa.erasureMinors
open Go.Proofs.Ytmlcenocjpjcfaa Go.ChangeShapes Go.WideShapes Go.ChangeAt Go.RowKit GfM

set_option maxRecDepth 100000 in
theorem contract (H : Type) (enc : TypeId × Value → H) (W : World) (base : Nat) (args : Array Value) (ds gs : List (DataW H)) (before : List MemPlace)
    (hval : ∀ (j : Nat) t v, Try.f9.params[j]? = some t → args[j]? = some v → Value.okWide Try.prog W .any base t v)
    (hW : DataW.Whole enc Try.prog Try.f9.params.toList Rows.erasureMinorsSpec.vars false W args.toList ds gs before)
    (hz : (DataW.weightsEach Try.prog (Try.f9.params.toList ++ Rows.erasureMinorsSpec.plain.varTypes Try.prog) (ds ++ gs)).all (· ≤ reachBytes) = true) :
    Calls Try.prog 9 args W fun e W' => ∃ v, e = .returned v ∧ Rows.erasureMinorsSpec.post enc Try.prog Try.f9 false true false false W args v W' := by
  have hW' := hW
  obtain ⟨p, q, hA0, hV, rfl, -, -⟩ := hW
  have hA : DataW.TrodAll enc Try.prog W 0 (fun _ => true) true Try.f9.params.toList args.toList ds p := hA0
  rw [Try.params9] at hA hval hz
  obtain ⟨v0, us0, d0, ds0, p0, q0, hargs0, rfl, rfl, h0, t0⟩ := trodAll_cons hA
  obtain ⟨v1, us1, d1, ds1, p1, q1, hargs1, rfl, rfl, h1, t1⟩ := trodAll_cons t0
  obtain ⟨rfl, rfl, rfl⟩ := trodAll_nil t1
  obtain rfl : args = #[v0, v1] := by cases args; simp_all
  obtain ⟨rfl, rfl⟩ := trodVars_none hV
  obtain ⟨m0, rfl, rfl, rfl, wf0⟩ := open_int Try.underlying47 (hval 0 47 v0 rfl rfl) h0
  obtain ⟨m1, rfl, rfl, rfl, wf1⟩ := open_int Try.underlying47 (hval 1 47 v1 rfl rfl) h1
  clear hA0 hz
  simp only [List.append_nil] at hW'
  have hlt : ∀ x, x ∈ ([] : List MemPlace) → x.block < W.heap.size := fun x hx => by cases hx
  have walk : Calls Try.prog 9 #[(.int .u64 m0), (.int .u64 m1)] W (LawB W) := by
    obtain ⟨n0, hn0, rfl⟩ := u64_of wf0
    obtain ⟨n1, hn1, rfl⟩ := u64_of wf1
    exact minors_any n0 n1 hn0 hn1
  refine walk.mono fun e W' ⟨he, hb⟩ => ?_
  subst he
  have hargs : DataW.TrodAll enc Try.prog W' 0 (fun b => decide (b < W.heap.size)) true [47, 47] [(.int .u64 m0), (.int .u64 m1)] _ _ := trodAll_cons_mk (shut_int Try.underlying47 wf0) (trodAll_cons_mk (shut_int Try.underlying47 wf1) (trodAll_mk0))
  exact ⟨_, rfl, _, _, _, [], _, [], hW', trodAll_cons_mk (shut_bool Try.underlying4 _) trodAll_mk0, hargs, rfl, Below.frame hb _, fun h => by cases h⟩

set_option maxRecDepth 100000 in
theorem lifted (os : Os) (started : os.Started) (H : Type) (enc : TypeId × Value → H) :
    ReturnsInHanded {} Try.checked os 9 .any (Rows.erasureMinorsSpec.pre6 enc Try.prog Try.f9 Rows.erasureMinorsRow.domain false) (Rows.erasureMinorsSpec.post enc Try.prog Try.f9 false true false false) := by
  refine returnsInHanded_of_change_sized (C := Try.checked) own started (by kernel_rfl) Try.func9
    (ChangeSpec.witness6 (enc := enc) (C := Try.checked) false ⟨#[], #[.int .u64 0, .int .u64 0], []⟩ 8 (by kernel_rfl) (by kernel_rfl) (by kernel_rfl) (by kernel_rfl)) ?_
  intro W base args ds gs before hval hW _ hz _
  exact contract H enc W base args ds gs before hval hW hz

theorem proved : Rows.ErasureMinorsSaid :=
  OpenClaim.holds_of_wide 9 Try.f9 rfl rfl rfl rfl rfl rfl rfl ⟨rfl, rfl, rfl, rfl, rfl⟩ rfl rfl rfl rfl rfl (by kernel_rfl) Try.func9 (by kernel_rfl)
    (of_decide_eq_true (by kernel_rfl)) (by unfold Func.isWrapper; first | (rw [if_pos (by decide +kernel)]; kernel_rfl) | (rw [if_neg (by decide +kernel)]; exact ⟨rfl, rfl⟩))
    (fun os started H enc _ => lifted os started H enc)
end Go.Proofs.Ytmlcenocjpjcfaa.erasureMinors
namespace Go.Proofs.Ytmlcenocjpjcfaa
theorem erasureMinors_said : Rows.ErasureMinorsSaid := erasureMinors.proved
end Go.Proofs.Ytmlcenocjpjcfaa
