/- The laws of layer 12: their helpers solved, heavy and awake. The program's functions come in by the contracts of text Np. -/
import Derived.Test.YtdihmbbkmbnomaaNp
namespace Go.Proofs.Ytdihmbbkmbnomaa
open Go.RowKit NetM

/-- True is returned; new blocks are laid at most. -/
def LawB (w : World) (e : Ending) (w' : World) : Prop := e = .returned (.bool true) ∧ Add w w'
/-- What solved returns for a valid network. -/
def SolvedP (w : World) (N s t : Nat) (A : List Arc) (e : Ending) (w' : World) : Prop := ∃ v, e = .returned (.tuple #[.int .i64 v, .bool true]) ∧ Opt N s t A v ∧ Add w w'
theorem VNet.big {N s t : Nat} {A : List Arc} {F : List Int} (hv : VNet N s t A) (hf : isFlow N s t A F) : -5368709117500 ≤ net s A F ∧ net s A F ≤ 5368709117500 := by
  have h := net_bound (x := (s : Int)) hv.1 hf.1
  obtain ⟨-, -, -, -, -, -, hm⟩ := hv
  have h2 : (A.length : Int) * 2147483647 ≤ 2500 * 2147483647 := Int.mul_le_mul_of_nonneg_right (by omega) (by decide)
  omega
set_option maxRecDepth 100000 in
set_option maxHeartbeats 1000000 in
theorem solved_any {w : World} {v : Value} {N s t : Nat} {A : List Arc} (h : NetA w v N s t A) (hv : VNet N s t A) : Calls Try.prog 20 #[v] w (SolvedP w N s t A) := by
  have CS : Hid (∀ W1, Add w W1 → Calls Try.prog 19 #[v] W1 (SolveP W1 N s t A)) := Lib.hid fun W1 ha => progSolve_any (h.add ha) hv
  have CV : Hid (∀ W1 vf F, Add w W1 → RdI W1 vf F → Calls Try.prog 12 #[v, vf] W1 (ValP W1 N s t A F)) := Lib.hid fun W1 vf F ha hf => refValue_any (h.add ha) hv hf
  have CC : Hid (∀ W1 vf vc F S, Add w W1 → RdI W1 vf F → RdB W1 vc S → Calls Try.prog 18 #[v, vf, vc] W1 (CheckP W1 N s t A F S)) := Lib.hid fun W1 vf vc F S ha hf hc => refCheck_any (h.add ha) hv hf hc
  obtain ⟨va, rfl, ⟨a, m, c, rfl, -⟩⟩ := h
  have B1 := Lib.hid (nbox_new w N s t a m c)
  have T1 := add_new w (.cells #[.int .i64 N, .int .i64 s, .int .i64 t, .slice a m c] 24)
  clear hv
  go_enter Try.func20, Try.ntmps20
  go_wp2_with fail
  refine (CS.out _ T1).mono ?_
  rintro e w1 ⟨vf, x, vc, F, S, rfl, hf, hc, h1, h2, h3, h4, h5⟩
  obtain ⟨fa, fc, rfl, -⟩ := hf.open
  obtain ⟨ca, cc, rfl, -⟩ := hc.open
  have hB := B1.out.add h5
  have c0 := hB.c0
  have c1 := hB.c1
  have c2 := hB.c2
  have c3 := hB.c3
  have hT := Add.trans T1 h5
  have HF := Lib.hid hf
  have HC := Lib.hid hc
  have HFL := Lib.hid h1
  have HCU := Lib.hid h2
  have HNX := Lib.hid h3
  have HCX := Lib.hid h4
  have HB := Lib.hid hB
  clear hf hc h1 h2 h3 h4 h5 T1 B1 hB
  go_wp2_with fail
  refine (CV.out _ _ _ hT HF.out).mono ?_
  rintro e w2 ⟨y, b1, rfl, h2, y1, n1⟩
  have hb1 : b1 = true := by
    cases b1 with
    | true => rfl
    | false => exact absurd HFL.out (n1 rfl).1
  subst hb1
  have hyx : y = x := by rw [(y1 rfl).2, HNX.out]
  subst hyx
  have d1 : (y == y) = true := by simp
  have hT2 := Add.trans hT h2
  have hB2 := HB.out.add h2
  have HF2 := Lib.hid (Rd.add HF.out h2)
  have HC2 := Lib.hid (Rd.add HC.out h2)
  clear c0 c1 c2 c3 y1 n1 h2 hT
  have c0 := hB2.c0
  have c1 := hB2.c1
  have c2 := hB2.c2
  have c3 := hB2.c3
  clear hB2
  go_wp2_with fail
  refine (CC.out _ _ _ _ _ hT2 HF2.out HC2.out).mono ?_
  rintro e w3 ⟨b2, rfl, h3, hiff⟩
  have hb2 : b2 = true := hiff.2 ⟨HFL.out, HCU.out, by rw [HNX.out, HCX.out]⟩
  subst hb2
  have HE : Hid (SolvedP w N s t A (.returned (.tuple #[.int .i64 y, .bool true])) w3) := Lib.hid ⟨y, rfl, ⟨F, S, HFL.out, HCU.out.1, HCU.out.c.1, HCU.out.c.2, HNX.out, HCX.out⟩, Add.trans hT2 h3⟩
  clear h3 hiff hT2 c0 c1 c2 c3
  go_wp2_with fail
  go_ret2
  exact HE.out
/-- The network of the sanity check. -/
def net0 : List Arc := [(0, 1, 2, 0), (1, 2, 3, 0)]
theorem net0_ok : VNet 3 0 2 net0 := by
  refine ⟨?_, by decide, by decide, by decide, by decide, by decide, by decide⟩
  intro a ha
  simp only [net0, List.mem_cons, List.not_mem_nil, or_false] at ha
  rcases ha with rfl | rfl <;> (unfold okArc; decide)
theorem net0_value {F : List Int} {S : List Bool} {v : Int} (h1 : isFlow 3 0 2 net0 F) (h2 : isCut 3 0 2 S) (h3 : net (0 : Nat) net0 F = v) (h4 : capF (cutOf S) net0 = v) : v = 2 ∧ F.length = 2 ∧ S.length = 3 := by
  have hl := NetM.within_length h1.1
  refine ⟨?_, hl, h2.1⟩
  match F, hl with
  | [f0, f1], _ =>
    obtain ⟨⟨⟨w1, w2⟩, ⟨w3, w4⟩, -⟩, hc⟩ := h1
    have := hc 1 (by decide) (by decide) (by decide)
    simp [net, net0] at this h3 w2 w4
    match S, h2.1 with
    | [s0, s1, s2], _ =>
      have e0 : s0 = true := h2.2.1
      have e2 : s2 = false := h2.2.2
      subst e0 e2
      cases s1 <;> simp [capF, net0, cutOf, getB] at h4 <;> omega
theorem net0_one {S : List Bool} (h : capF (cutOf S) net0 = 2) : ¬ checkOk 3 0 2 net0 [1, 1] S := by
  rintro ⟨-, -, h3⟩
  rw [h] at h3
  revert h3
  decide
theorem arcs_block {w : World} {g : Nat} (h : w.heap[g]? = some (.cells #[.int .i64 0, .int .i64 1, .int .i64 2, .int .i64 0, .int .i64 1, .int .i64 2, .int .i64 3, .int .i64 0] 44 (0, 0))) : ArcsA w (.slice (some ⟨g, 0, none⟩) 2 2) net0 := by
  refine ⟨_, 2, 2, rfl, rfl, Nat.le_refl _, by unfold maxLen; omega, fun i hi => ⟨g, 0, rfl, ?_⟩⟩
  have k := fun j => cell_of_row w g j _ 44 (0, 0) h
  have e : i = 0 ∨ i = 1 := by omega
  rcases e with rfl | rfl
  · exact ⟨(k 0).trans rfl, (k 1).trans rfl, (k 2).trans rfl, (k 3).trans rfl⟩
  · exact ⟨(k 4).trans rfl, (k 5).trans rfl, (k 6).trans rfl, (k 7).trans rfl⟩
theorem ones_block {w : World} {g : Nat} (h : w.heap[g]? = some (.cells #[.int .i64 1, .int .i64 1] 3 (0, 0))) : RdI w (.slice (some ⟨g, 0, none⟩) 2 2) [1, 1] :=
  Blk.rdAll (g := g) (T := 3) (vs := [1, 1].map iv) h rfl (Nat.le_refl _) (by unfold maxLen; omega)
set_option maxRecDepth 100000 in
set_option maxHeartbeats 2000000 in
theorem awake_any (w : World) : Calls Try.prog 10 #[] w (LawB w) := by
  obtain ⟨g, hg⟩ : ∃ g, g = w.heap.size := ⟨_, rfl⟩
  obtain ⟨W0, hW0⟩ : ∃ W0, W0 = w.alloc (.cells #[.int .i64 0, .int .i64 1, .int .i64 2, .int .i64 0, .int .i64 1, .int .i64 2, .int .i64 3, .int .i64 0] 44) := ⟨_, rfl⟩
  have hA0 : ArcsA W0 (.slice (some ⟨g, 0, none⟩) 2 2) net0 := arcs_block (by rw [hW0, hg]; exact heap_alloc_new w _)
  have CS : Hid (∀ W1, Add W0 W1 → Calls Try.prog 19 #[.agg #[.int .i64 3, .int .i64 0, .int .i64 2, .slice (some ⟨g, 0, none⟩) 2 2]] W1 (SolveP W1 3 0 2 net0)) := Lib.hid fun W1 ha => progSolve_any ⟨_, rfl, hA0.add ha⟩ net0_ok
  have CN : Hid (∀ W1, Calls Try.prog 19 #[.agg #[.int .i64 0, .int .i64 0, .int .i64 0, .slice none 0 0]] W1 (SolveN W1)) := Lib.hid fun W1 => progSolve_inv (N := 0) (s := 0) (t := 0) (A := []) ⟨_, rfl, none, 0, 0, rfl, rfl, Nat.le_refl _, by unfold maxLen; omega, fun i hi => by omega⟩ (by decide)
  have CC : Hid (∀ W1 vf vc F S, Add W0 W1 → RdI W1 vf F → RdB W1 vc S → Calls Try.prog 17 #[.agg #[.int .i64 3, .int .i64 0, .int .i64 2, .slice (some ⟨g, 0, none⟩) 2 2], vf, vc] W1 (CheckP W1 3 0 2 net0 F S)) := Lib.hid fun W1 vf vc F S ha hf hc => progCheck_any ⟨_, rfl, hA0.add ha⟩ net0_ok hf hc
  have T0 : Hid (Add w W0) := Lib.hid (by rw [hW0]; exact add_new _ _)
  have HG : Hid (W0.heap.size = g + 1) := Lib.hid (by rw [hW0, hg]; simp)
  clear hA0
  go_enter Try.func10, Try.ntmps10
  go_upto_region 2 with fail
  rw [← hW0, ← hg]
  clear hW0 hg
  obtain ⟨W1, hW1⟩ : ∃ W1, W1 = W0.alloc (.cells #[.int .i64 3, .int .i64 0, .int .i64 2, .slice (some ⟨g, 0, none⟩) 2 2] 24) := ⟨_, rfl⟩
  have hB : NBox W1 (g + 1) 3 0 2 (some ⟨g, 0, none⟩) 2 2 := by rw [hW1, ← HG.out]; exact nbox_new W0 3 0 2 _ 2 2
  have hT1 : Add W0 W1 := by rw [hW1]; exact add_new _ _
  rw [← hW1]
  have c0 := hB.c0
  have c1 := hB.c1
  have c2 := hB.c2
  have c3 := hB.c3
  have HB := Lib.hid hB
  clear hW1 hB
  go_wp2_with fail
  refine (CS.out _ hT1).mono ?_
  rintro e w1 ⟨vf, x, vc, F, S, rfl, hf, hc, h1, h2, h3, h4, h5⟩
  obtain ⟨rfl, hfl, hsl⟩ := net0_value h1 h2 h3 h4
  obtain ⟨fa, fc, rfl, -⟩ := hf.open
  obtain ⟨ca, cc, rfl, -⟩ := hc.open
  rw [hfl] at hf ⊢
  rw [hsl] at hc ⊢
  have hT2 := Add.trans hT1 h5
  have HF := Lib.hid hf
  have HC := Lib.hid hc
  have HOK : Hid (checkOk 3 0 2 net0 F S) := Lib.hid ⟨h1, h2, by rw [h3, h4]⟩
  have HNO : Hid (¬ checkOk 3 0 2 net0 [1, 1] S) := Lib.hid (net0_one h4)
  have HB1 := Lib.hid (HB.out.add h5)
  clear hf hc h1 h2 h3 h4 h5 hfl hsl hT1 c0 c1 c2 c3 HB
  go_wp2_with fail
  refine (CN.out _).mono ?_
  rintro e w2 ⟨a3, c3, a4, c4, rfl, h2⟩
  have hT3 := Add.trans hT2 h2
  have hB2 := HB1.out.add h2
  have c0 := hB2.c0
  have c1 := hB2.c1
  have c2 := hB2.c2
  have c3' := hB2.c3
  have HF2 := Lib.hid (Rd.add HF.out h2)
  have HC2 := Lib.hid (Rd.add HC.out h2)
  have HB2 := Lib.hid hB2
  clear h2 hT2 hB2
  go_wp2_with fail
  refine (CC.out _ _ _ _ _ hT3 HF2.out HC2.out).mono ?_
  rintro e w3 ⟨b2, rfl, h3, hiff⟩
  have hb2 : b2 = true := hiff.2 HOK.out
  subst hb2
  have hT4 := Add.trans hT3 h3
  have hB3 := HB2.out.add h3
  have HC3 := Lib.hid (Rd.add HC2.out h3)
  obtain ⟨W4, hW4⟩ : ∃ W4, W4 = w3.alloc (.cells #[.int .i64 1, .int .i64 1] 3) := ⟨_, rfl⟩
  have hO : RdI W4 (.slice (some ⟨w3.heap.size, 0, none⟩) 2 2) [1, 1] := by rw [hW4]; exact ones_block (heap_alloc_new w3 _)
  have hT5 : Add w3 W4 := by rw [hW4]; exact add_new _ _
  have HO := Lib.hid hO
  have HC4 := Lib.hid (Rd.add HC3.out hT5)
  have HT5 := Lib.hid (Add.trans hT4 hT5)
  clear h3 hiff hT3 c0 c1 c2 c3' hO hT5 hT4
  have c0 := hB3.c0
  have c1 := hB3.c1
  have c2 := hB3.c2
  have c3' := hB3.c3
  clear hB3
  go_wp2_with fail
  rw [← hW4]
  clear hW4
  refine (CC.out _ _ _ _ _ HT5.out HO.out HC4.out).mono ?_
  rintro e w5 ⟨b5, rfl, h5, hiff⟩
  have hb5 : b5 = false := by
    cases b5 with
    | false => rfl
    | true => exact absurd (hiff.1 rfl) HNO.out
  subst hb5
  have HE : Hid (LawB w (.returned (.bool true)) w5) := Lib.hid ⟨rfl, Add.trans T0.out (Add.trans HT5.out h5)⟩
  clear h5 hiff c0 c1 c2 c3'
  go_wp2_with fail
  go_ret
  exact HE.out
end Go.Proofs.Ytdihmbbkmbnomaa
