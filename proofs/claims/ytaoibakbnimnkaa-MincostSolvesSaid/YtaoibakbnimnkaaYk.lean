/- Package mincost: Valid, sumOf, Cost, flow. -/
import Derived.Test.YtaoibakbnimnkaaYj
import Derived.Test.YtaoibakbnimnkaaPE
import Derived.Test.YtaoibakbnimnkaaJR
import Derived.Test.YtaoibakbnimnkaaJW
namespace Go.Proofs.Ytaoibakbnimnkaa
open Go.RowKit NetM

/-! ### Valid -/
def badC : Value := .func (.func 30) #[] #[]
set_option maxRecDepth 100000 in
theorem badC_any {w : World} (x y z u : Int) : Calls Try.prog 30 #[.agg #[.int .i64 x, .int .i64 y, .int .i64 z, .int .i64 u]] w fun e w' => e = .returned (.bool (!okCB (x, y, z, u))) ∧ Add w w' := by
  have hA := abox_new w x y z u
  have c2 := hA.c2
  have c3 : (w.alloc (.cells #[.int .i64 x, .int .i64 y, .int .i64 z, .int .i64 u] 35)).cell? ⟨w.heap.size, 3, none⟩ = some (.int .i64 u) := (cell_of_row _ _ 3 _ _ _ hA).trans rfl
  have T1 := Lib.hid (add_new w (.cells #[.int .i64 x, .int .i64 y, .int .i64 z, .int .i64 u] 35))
  clear hA
  have hv : okCB (x, y, z, u) = decide (z ≤ 1000000 ∧ 0 ≤ u ∧ u ≤ 1000) := rfl
  by_cases h1 : 1000000 < z
  · have HV : Hid (okCB (x, y, z, u) = false) := Lib.hid (by rw [hv]; exact decide_eq_false (by omega))
    rw [HV.out]
    have d1 : decide (1000000 < z) = true := decide_eq_true h1
    clear hv HV
    go_enter Try.func30, Try.ntmps30
    go_wp2_with fail
    go_ret
    exact ⟨rfl, T1.out⟩
  · have d1 : decide (1000000 < z) = false := decide_eq_false h1
    by_cases h2 : u < 0
    · have HV : Hid (okCB (x, y, z, u) = false) := Lib.hid (by rw [hv]; exact decide_eq_false (by omega))
      rw [HV.out]
      have d2 : decide (u < 0) = true := decide_eq_true h2
      clear hv HV
      go_enter Try.func30, Try.ntmps30
      go_wp2_with fail
      go_ret
      exact ⟨rfl, T1.out⟩
    · have d2 : decide (u < 0) = false := decide_eq_false h2
      by_cases h3 : 1000 < u
      · have HV : Hid (okCB (x, y, z, u) = false) := Lib.hid (by rw [hv]; exact decide_eq_false (by omega))
        rw [HV.out]
        have d3 : decide (1000 < u) = true := decide_eq_true h3
        clear hv HV
        go_enter Try.func30, Try.ntmps30
        go_wp2_with fail
        go_ret
        exact ⟨rfl, T1.out⟩
      · have HV : Hid (okCB (x, y, z, u) = true) := Lib.hid (by rw [hv]; exact decide_eq_true (by omega))
        rw [HV.out]
        have d3 : decide (1000 < u) = false := decide_eq_false h3
        clear hv HV
        go_enter Try.func30, Try.ntmps30
        go_wp2_with fail
        go_ret
        exact ⟨rfl, T1.out⟩
set_option maxRecDepth 100000 in
set_option maxHeartbeats 1000000 in
theorem indexC_any {w : World} {va : Value} {A : List Arc} (hA : ArcsA w va A) :
    Calls Try.prog 42 #[va, badC] w (IdxP w (!A.all okCB)) := by
  obtain ⟨aa, mm, cc, rfl, hl, hc, hm, -⟩ := id hA
  have HA := Lib.hid hA
  have HL := Lib.hid hl
  have CB : Hid (∀ W1 x y z u, Calls Try.prog 30 #[.agg #[.int .i64 x, .int .i64 y, .int .i64 z, .int .i64 u]] W1 fun e w' => e = .returned (.bool (!okCB (x, y, z, u))) ∧ Add W1 w') := Lib.hid fun W1 x y z u => badC_any x y z u
  unfold badC
  unfold maxLen at hm
  clear hA hl
  go_enter Try.func42, Try.ntmps42
  go_wp2_with fail
  go_loopw [8] (fun i wr => ∃ k : Nat, k ≤ mm ∧ i = .int .i64 k ∧ Hid ((A.take k).all okCB = true) ∧ Hid (Add w wr)) (fun i _ => mm - (intOf i).toNat)
  case atStart => exact ⟨0, Nat.zero_le _, rfl, Lib.hid (by simp), Lib.hid (add_refl w)⟩
  case round =>
    obtain ⟨k, hk, rfl, hpre, hadd⟩ := hrel
    by_cases hlt : k < mm
    · obtain ⟨b, off, rfl, q0, q1, q2, q3⟩ := (HA.out.add hadd.out).cell hlt
      have hm1 := at_mem (A := A) (k := k) (by rw [HL.out]; exact hlt)
      have ht1 := at_take (A := A) (k := k) (by rw [HL.out]; exact hlt)
      obtain ⟨⟨x, y, z, u⟩, hx⟩ : ∃ x, at' A k = x := ⟨_, rfl⟩
      rw [hx] at q0 q1 q2 q3 hm1 ht1
      dsimp only at q0 q1 q2 q3
      have HM := Lib.hid hm1
      have HTK := Lib.hid ht1
      clear hx hm1 ht1
      cases hb : okCB (x, y, z, u) with
      | true =>
        have HB := Lib.hid hb
        clear hb
        go_wp2_with fail
        refine (CB.out _ x y z u).mono ?_
        rw [HB.out]
        rintro e w2 ⟨rfl, h2⟩
        have HAD := Lib.hid (Add.trans hadd.out h2)
        clear h2
        go_wp2_with fail
        go_roundw
        case rel => exact ⟨k + 1, by omega, by go_num, Lib.hid (by rw [HTK.out, List.all_append, hpre.out]; simp [HB.out]), HAD⟩
        case measure => simp [intOf]; omega
      | false =>
        have HB := Lib.hid hb
        have hall : A.all okCB = false := by
          rw [Bool.eq_false_iff]
          intro h
          have := List.all_eq_true.1 h _ HM.out
          rw [hb] at this; cases this
        have HALL := Lib.hid hall
        clear hb hall
        go_wp2_with fail
        refine (CB.out _ x y z u).mono ?_
        rw [HB.out]
        rintro e w2 ⟨rfl, h2⟩
        have HF : IdxP w (!A.all okCB) (.returned (.int .i64 (k : Nat))) w2 := ⟨_, rfl, by rw [HALL.out]; simp, Add.trans hadd.out h2⟩
        have HF := Lib.hid HF
        clear h2
        go_wp2_with fail
        go_ret
        exact HF.out
    · obtain rfl : k = mm := by omega
      have HF : IdxP w (!A.all okCB) (.returned (.int .i64 (-1))) wr := ⟨_, rfl, by
        have := hpre.out
        rw [List.take_of_length_le (by rw [HL.out]; exact Nat.le_refl _)] at this
        rw [this]; rfl, hadd.out⟩
      have HF := Lib.hid HF
      go_wp2_with fail
      go_ret
      exact HF.out
theorem containsC_any {w : World} {va : Value} {A : List Arc} (hA : ArcsA w va A) (b : Bool) (hb : (!A.all okCB) = b) :
    Calls Try.prog 29 #[va, badC] w (RetB w b) := by
  have C := Lib.hid (indexC_any hA)
  have HB := Lib.hid hb
  unfold badC at C ⊢
  clear hA hb
  go_enter Try.func29, Try.ntmps29
  go_wp2_with fail
  refine C.out.mono ?_
  rw [HB.out]
  rintro e w1 ⟨r, rfl, h1, h2⟩
  have H2 := Lib.hid h2
  clear h2
  cases b with
  | true =>
    have d := of_decide_eq_true h1
    clear h1
    go_wp2_with fail
    go_ret
    exact ⟨rfl, H2.out⟩
  | false =>
    have d := of_decide_eq_false h1
    go_wp2_with fail
    go_ret
    exact ⟨rfl, H2.out⟩
set_option maxRecDepth 100000 in
theorem progValidC_any {w : World} {v : Value} {N s t : Int} {A : List Arc} (h : NetA w v N s t A) : Calls Try.prog 13 #[v] w (RetB w (validC N s t A)) := by
  have CV : Hid (∀ W1, Add w W1 → Calls Try.prog 28 #[v] W1 (RetB W1 (validB N s t A))) := Lib.hid fun W1 ha => progValid_any (h.add ha)
  obtain ⟨va, rfl, ha⟩ := h
  obtain ⟨a, m, c, rfl, -⟩ := id ha
  have CC : Hid (∀ W1, Add w W1 → Calls Try.prog 29 #[.slice a m c, .func (.func 30) #[] #[]] W1 (RetB W1 (!A.all okCB))) := Lib.hid fun W1 h1 => containsC_any (ha.add h1) _ rfl
  have T1 := add_new w (.cells #[.int .i64 N, .int .i64 s, .int .i64 t, .slice a m c] 24)
  have B1 := Lib.hid (nbox_new w N s t a m c)
  unfold validC
  clear ha
  cases hv : validB N s t A with
  | false =>
    rw [hv] at CV
    clear hv
    go_enter Try.func13, Try.ntmps13
    go_wp2_with (go_at_call 28; refine (CV.out _ T1).mono ?_; rintro e w1 ⟨rfl, h1⟩; have HF := Lib.hid (Add.trans T1 h1); clear h1)
    go_ret
    exact ⟨rfl, HF.out⟩
  | true =>
    rw [hv] at CV
    clear hv
    have HT1 := Lib.hid T1
    have CA : Hid (∀ W1, Add (w.alloc (.cells #[.int .i64 N, .int .i64 s, .int .i64 t, .slice a m c] 24)) W1 → W1.cell? ⟨w.heap.size, 3, none⟩ = some (.slice a m c)) := Lib.hid fun W1 h1 => (B1.out.add h1).c3
    go_enter Try.func13, Try.ntmps13
    go_wp2_with (first | (go_at_call 28; refine (CV.out _ HT1.out).mono ?_; rintro e w1 ⟨rfl, h1⟩; have b3 := CA.out _ h1; have HF1 := Lib.hid (Add.trans HT1.out h1); clear h1) | (go_at_call 29; refine (CC.out _ HF1.out).mono ?_; rintro e w2 ⟨rfl, h2⟩; have HF2 := Lib.hid (Add.trans HF1.out h2); clear h2))
    go_ret
    refine ⟨?_, HF2.out⟩
    first | rfl | simp
/-! ### sumOf -/
set_option maxRecDepth 100000 in
set_option maxHeartbeats 2000000 in
theorem sumOf_any {w : World} {v vf : Value} {N s t : Nat} {A : List Arc} {F : List Int} (h : NetA w v N s t A) (hv : CNet N s t A) (hf : RdI w vf F) (hfl : isFlow N s t A F) :
    Calls Try.prog 27 #[v, vf] w fun e w' => e = .returned (.int .i64 (costF A F)) ∧ Add w w' := by
  obtain ⟨va, rfl, ha⟩ := h
  obtain ⟨a, m, c, rfl, hl, hmc, hm, -⟩ := id ha
  obtain ⟨fa, fc, rfl, -⟩ := id hf.open
  have hpm : F.length = m := by rw [NetM.within_length hfl.1, hl]
  rw [hpm] at hf ⊢
  have HA := Lib.hid ha
  have HL := Lib.hid hl
  have HV := Lib.hid hv
  have HFL := Lib.hid hf
  have HP := Lib.hid hpm
  have HFLOW := Lib.hid hfl
  obtain ⟨⟨-, -, -, -, -, -, hm2⟩, -⟩ := hv
  rw [hl] at hm2
  clear ha hl hf hpm hfl
  have B1 := Lib.hid (nbox_new w N s t a m c)
  have T1 := Lib.hid (add_new w (.cells #[.int .i64 N, .int .i64 s, .int .i64 t, .slice a m c] 24))
  go_enter Try.func27, Try.ntmps27
  go_wp2_with fail
  go_loopw [5, 11] (fun sv i wr => ∃ (k : Nat) (v : Int), k ≤ m ∧ sv = .int .i64 v ∧ i = .int .i64 k ∧ Hid (v = costF (A.take k) (F.take k)) ∧ Hid (Add w wr)) (fun _ i _ => m - (intOf i).toNat)
  case atStart => exact ⟨0, 0, Nat.zero_le _, rfl, rfl, Lib.hid rfl, T1⟩
  case round =>
    obtain ⟨k, v, hk, rfl, rfl, hpre, hadd⟩ := hrel
    by_cases hlt : k < m
    · obtain ⟨ab, aoff, rfl, g0, g1, g2, g3⟩ := (HA.out.add hadd.out).cell hlt
      obtain ⟨fb, foff, rfl, q0⟩ := RdI.cell (Rd.add HFL.out hadd.out) hlt
      have hm1 := at_mem (A := A) (k := k) (by rw [HL.out]; exact hlt)
      have hok := HV.out.2 _ hm1
      unfold okCost at hok
      have hwi := (NetM.within_iff.1 HFLOW.out.1).2 k (by rw [HL.out]; exact hlt)
      have hct := cost_take (A := A) (F := F) (k := k) (by rw [HL.out]; exact hlt) (by rw [HL.out, HP.out])
      have hb := cost_bound (HV.out.take k) (within_take k HFLOW.out.1)
      rw [List.length_take, ← hpre.out] at hb
      rw [← hpre.out] at hct
      obtain ⟨⟨x, y, z, u⟩, hx⟩ : ∃ x, at' A k = x := ⟨_, rfl⟩
      rw [hx] at g0 g1 g2 g3 hok hwi hct
      dsimp only at g0 g1 g2 g3 hok hwi hct
      obtain ⟨f, hf⟩ : ∃ f, F.getD k 0 = f := ⟨_, rfl⟩
      rw [hf] at q0 hwi hct
      have m0 : 0 ≤ f * u := Int.mul_nonneg hwi.1 hok.2.1
      have m1 : f * u ≤ 1000000 * 1000 := Int.mul_le_mul (by omega) hok.2.2 hok.2.1 (by omega)
      have hv2 : 0 ≤ v ∧ v ≤ 2500 * 1000000000 := by omega
      obtain ⟨fu, hfu⟩ : ∃ fu, f * u = fu := ⟨_, rfl⟩
      rw [hfu] at m0 m1 hct
      have W0 : IntKind.i64.wrap (f * u) = fu := by rw [hfu]; exact IntWalk.i64_in _ (by omega)
      have W1 : IntKind.i64.wrap (v + fu) = v + fu := IntWalk.i64_in _ (by omega)
      have HC := Lib.hid hct.symm
      have hfb : fb < wr.heap.size := World.block_lt_of_cell? _ _ q0
      have hab : ab < wr.heap.size := World.block_lt_of_cell? _ _ g3
      have HAQ : Hid (∀ n, Add w ((wr.alloc (.cells #[.int .i64 x, .int .i64 y, .int .i64 z, .int .i64 u] 35)).drewN n)) := Lib.hid fun n => Add.trans hadd.out (Add.trans (add_new _ _) (add_drewN _ _))
      clear hx hf hfu hm1 hok hwi hct hb m0 m1 hv2
      go_upto_region 5 with fail
      go_quiet (fail)
      have HN := Lib.hid (HAQ.out nq)
      go_wp2_with fail
      go_roundw
      case rel => exact ⟨k + 1, v + fu, by omega, rfl, by go_num, HC, HN⟩
      case measure => simp [intOf]; omega
    · obtain rfl : k = m := by omega
      have HF : Hid (v = costF A F ∧ Add w wr) := Lib.hid ⟨by rw [hpre.out, List.take_of_length_le (by rw [HL.out]; exact Nat.le_refl _), List.take_of_length_le (by rw [HP.out]; exact Nat.le_refl _)], hadd.out⟩
      clear hpre hadd
      go_wp2_with fail
      go_ret
      exact ⟨by rw [← HF.out.1]; rfl, HF.out.2⟩
/-! ### Cost -/
set_option maxRecDepth 100000 in
set_option maxHeartbeats 1000000 in
theorem progCost_inv {w : World} {v vf : Value} {N s t : Int} {A : List Arc} {F : List Int} (h : NetA w v N s t A) (hv : validC N s t A = false) (hf : RdI w vf F) : Calls Try.prog 11 #[v, vf] w (NoV w) := by
  cases hb : validB N s t A with
  | false =>
    have CL : Hid (∀ W1, Add w W1 → Calls Try.prog 26 #[v, vf] W1 (NoV W1)) := Lib.hid fun W1 ha => progValue_inv (h.add ha) hb (hf.add ha)
    obtain ⟨va, rfl, ⟨a, m, c, rfl, -⟩⟩ := h
    obtain ⟨fa, fc, rfl, -⟩ := hf.open
    have T1 := add_new w (.cells #[.int .i64 N, .int .i64 s, .int .i64 t, .slice a m c] 24)
    clear hf hv hb
    go_enter Try.func11, Try.ntmps11
    go_wp2_with fail
    refine (CL.out _ T1).mono ?_
    rintro e w1 ⟨rfl, h1⟩
    have HF : Hid (NoV w (.returned (.tuple #[.int .i64 0, .bool false])) w1) := Lib.hid ⟨rfl, Add.trans T1 h1⟩
    clear h1 T1
    go_wp2_with fail
    go_ret2
    exact HF.out
  | true =>
    have CV : Hid (∀ W1, Add w W1 → Calls Try.prog 13 #[v] W1 (RetB W1 false)) := Lib.hid fun W1 ha => by have := progValidC_any (h.add ha); rw [hv] at this; exact this
    obtain ⟨N', s', t', rfl, rfl, rfl, hV⟩ := VNet.of hb
    have CL : Hid (∀ W1, Add w W1 → Calls Try.prog 26 #[v, vf] W1 (ValP W1 N' s' t' A F)) := Lib.hid fun W1 ha => progValue_any (h.add ha) hV (hf.add ha)
    obtain ⟨va, rfl, ⟨a, m, c, rfl, -⟩⟩ := h
    obtain ⟨fa, fc, rfl, -⟩ := hf.open
    have T1 := add_new w (.cells #[.int .i64 N', .int .i64 s', .int .i64 t', .slice a m c] 24)
    have B1 := Lib.hid (nbox_new w N' s' t' a m c)
    clear hf hv hb hV
    go_enter Try.func11, Try.ntmps11
    go_wp2_with fail
    refine (CL.out _ T1).mono ?_
    rintro e w1 ⟨x, b, rfl, h1, -, -⟩
    have hB := B1.out.add h1
    have c0 := hB.c0
    have c1 := hB.c1
    have c2 := hB.c2
    have c3 := hB.c3
    have hT2 := Add.trans T1 h1
    have HT2 := Lib.hid hT2
    clear h1 T1 B1 hB hT2
    cases b with
    | false =>
      go_wp2_with fail
      go_ret2
      exact ⟨rfl, HT2.out⟩
    | true =>
      go_wp2_with (go_at_call 13; refine (CV.out _ HT2.out).mono ?_; rintro e w2 ⟨rfl, h2⟩; have HT3 := Lib.hid (Add.trans HT2.out h2); clear h2)
      go_ret2
      exact ⟨rfl, HT3.out⟩
set_option maxRecDepth 100000 in
set_option maxHeartbeats 1000000 in
theorem progCost_any {w : World} {v vf : Value} {N s t : Nat} {A : List Arc} {F : List Int} (h : NetA w v N s t A) (hv : CNet N s t A) (hf : RdI w vf F) : Calls Try.prog 11 #[v, vf] w (CostP w N s t A F) := by
  have CV : Hid (∀ W1, Add w W1 → Calls Try.prog 13 #[v] W1 (RetB W1 true)) := Lib.hid fun W1 ha => by have := progValidC_any (h.add ha); rw [hv.valid] at this; exact this
  have CL : Hid (∀ W1, Add w W1 → Calls Try.prog 26 #[v, vf] W1 (ValP W1 N s t A F)) := Lib.hid fun W1 ha => progValue_any (h.add ha) hv.1 (hf.add ha)
  have CS : Hid (isFlow N s t A F → ∀ W1, Add w W1 → Calls Try.prog 27 #[v, vf] W1 fun e w' => e = .returned (.int .i64 (costF A F)) ∧ Add W1 w') := Lib.hid fun hfl W1 ha => sumOf_any (h.add ha) hv (hf.add ha) hfl
  obtain ⟨va, rfl, ⟨a, m, c, rfl, -⟩⟩ := h
  obtain ⟨fa, fc, rfl, -⟩ := hf.open
  have T1 := add_new w (.cells #[.int .i64 N, .int .i64 s, .int .i64 t, .slice a m c] 24)
  have B1 := Lib.hid (nbox_new w N s t a m c)
  obtain ⟨cf, hcf⟩ : ∃ cf, cf = costF A F := ⟨_, rfl⟩
  rw [← hcf] at CS
  have HCF := Lib.hid hcf
  clear hf hv hcf
  go_enter Try.func11, Try.ntmps11
  go_wp2_with fail
  refine (CL.out _ T1).mono ?_
  rintro e w1 ⟨x, b, rfl, h1, y1, n1⟩
  have hB := B1.out.add h1
  have c0 := hB.c0
  have c1 := hB.c1
  have c2 := hB.c2
  have c3 := hB.c3
  have hT2 := Add.trans T1 h1
  have HT2 := Lib.hid hT2
  have HB := Lib.hid hB
  clear h1 T1 B1 hB hT2
  cases b with
  | false =>
    have HF : Hid (∀ w', Add w w' → CostP w N s t A F (.returned (.tuple #[.int .i64 0, .bool false])) w') := Lib.hid fun w' ha => ⟨0, false, rfl, ha, fun h => Bool.noConfusion h, fun _ => ⟨(n1 rfl).1, rfl⟩⟩
    clear y1 n1
    go_wp2_with fail
    go_ret2
    exact HF.out _ HT2.out
  | true =>
    have hfl := (y1 rfl).1
    have HF : Hid (∀ w', Add w w' → CostP w N s t A F (.returned (.tuple #[.int .i64 cf, .bool true])) w') := Lib.hid fun w' ha => ⟨cf, true, rfl, ha, fun _ => ⟨hfl, HCF.out⟩, fun h => Bool.noConfusion h⟩
    have CS2 := Lib.hid (CS.out hfl)
    clear y1 n1 hfl
    go_upto_region 4 with (go_at_call 13; refine (CV.out _ HT2.out).mono ?_; rintro e w2 ⟨rfl, h2⟩; have HT3 := Lib.hid (Add.trans HT2.out h2); have HB3 := Lib.hid (HB.out.add h2); clear h2)
    have d0 := HB3.out.c0
    have d1 := HB3.out.c1
    have d2 := HB3.out.c2
    have d3 := HB3.out.c3
    go_wp2_with (go_at_call 27; refine (CS2.out _ HT3.out).mono ?_; rintro e w3 ⟨rfl, h3⟩; have HT4 := Lib.hid (Add.trans HT3.out h3); clear h3)
    go_ret2
    exact HF.out _ HT4.out
/-! ### flow -/
set_option maxRecDepth 100000 in
set_option maxHeartbeats 2000000 in
theorem cflow_any {w0 w : World} {A : List Arc} {b : Arc} {N gr ga gs gf gp gx gt : Nat} {va sv : Value} {F P X : List Int} {T : List Bool} (hC : CB w0 w (A ++ [b]) (A ++ [b]) N gr ga gs gf gp gx gt va sv (roomS (A ++ [b]) F) P X T) (hF : F.length = A.length + 1) (hm : A.length ≤ 2500) :
    Calls Try.prog 36 #[.pointer (some ⟨gr, 0, none⟩)] w (FlowP w (F.take A.length) A.length) := by
  obtain ⟨i0, hi, hz0, hz1, hz2⟩ := info_parts infoInt
  have HR := Lib.hid hC
  have HF := Lib.hid hF
  have c0 := hC.1.c0
  obtain ⟨ac, hva, ha1, ha2, -⟩ := hC.2.1
  rw [hva, List.length_append, List.length_singleton] at c0
  obtain ⟨sc, hsv, hs1, hs2, -⟩ := hC.2.2.1
  have HSV := Lib.hid hsv
  obtain ⟨m, hmm⟩ : ∃ m, A.length = m := ⟨_, rfl⟩
  have HM := Lib.hid hmm
  obtain ⟨G, hG⟩ : ∃ G, G = F.take A.length := ⟨_, rfl⟩
  have HGL : Hid (G.length = m) := Lib.hid (by rw [hG]; simp; omega)
  have HGG : Hid (∀ k, k < m → F.getD k 0 = G.getD k 0) := Lib.hid fun k hk => by rw [hG]; simp [List.getD, hmm, hk]
  have HL1 : Hid ((A ++ [b]).length = m + 1) := Lib.hid (by simp; omega)
  rw [← hG]
  rw [hmm] at c0 hm ⊢
  have l1 := hC.1.lt
  unfold maxLen at ha2 hs2
  have hq : (((m + 1 : Nat) : Int) - 1) = (m : Int) := by omega
  have ham : m + 1 ≤ ac := by rw [← HL1.out]; exact ha1
  clear hC hF hsv hva hmm hG ha1
  go_enter Try.func36, Try.ntmps36
  go_wp2_with (at_make; refine wpList_make_full _ rfl _ _ 25 rfl w.heap.size 3 i0 (.int .i64 0) 1 Try.underlying25 hi hz0 hz1 _ _ _ _ m rfl rfl rfl rfl (by rw [hz2]; omega) (by unfold maxLen; omega) (Nat.le_refl _) ?_)
  intro w2 hown hgr
  try rw [Nat.mul_one] at hown
  have hI := IBlk.made hown
  have hgr2 : Add w w2 := grown_add hgr
  obtain ⟨g, hg⟩ : ∃ g, g = w.heap.size := ⟨_, rfl⟩
  rw [← hg] at hI ⊢
  have HI : Hid (IBlk w2 g (G.take 0 ++ List.replicate (m - 0) 0)) := Lib.hid (by simpa using hI)
  have HA := Lib.hid hgr2
  have hgw : w.heap.size ≤ g := by omega
  clear hown hgr hgr2 hI hi hz0 hz1 hz2 c0 hg hq
  go_wp2_with fail
  go_loopw [14] (fun i wr => ∃ k : Nat, k ≤ m ∧ i = .int .i64 k ∧ Hid (IBlk wr g (G.take k ++ List.replicate (m - k) 0)) ∧ Hid (Add w wr)) (fun i _ => m - (intOf i).toNat)
  case atStart => exact ⟨0, Nat.zero_le _, rfl, HI, HA⟩
  case round =>
    clear HI HA
    obtain ⟨k, hk, rfl, hI, hadd⟩ := hrel
    by_cases hlt : k < m
    · have hR1 := HR.out.add hadd.out
      have c1 := hR1.1.c1
      have hj : 2 * k + 1 < 2 * (A ++ [b]).length := by rw [HL1.out]; omega
      obtain ⟨sc', hsv', -, -, s0, s1, s2, -, sgl⟩ := hR1.2.2.1.get hj
      have hsv2 := HSV.out
      rw [hsv'] at hsv2
      simp only [Value.slice.injEq] at hsv2
      obtain ⟨-, -, rfl⟩ := hsv2
      rw [hsv', HL1.out] at c1
      rw [HL1.out] at hs1
      rw [room_odd, HGG.out k hlt] at s1
      obtain ⟨f, hf⟩ : ∃ f, G.getD k 0 = f := ⟨_, rfl⟩
      rw [hf] at s1
      have hkl : k < (G.take k ++ List.replicate (m - k) (0 : Int)).length := by simp; rw [HGL.out]; omega
      have q0 := IBlk.get hI.out k hkl
      have fr := Blk.free hI.out k
      have l2 := Blk.lt hI.out
      have l3 := hR1.1.lt
      have HN : Hid (IBlk (wr.setCell ⟨g, k, none⟩ (.int .i64 f)) g (G.take (k + 1) ++ List.replicate (m - (k + 1)) 0)) := Lib.hid (by
        rw [← fill_step HGL.out hlt, hf]; exact IBlk.put hI.out k f)
      have HA2 : Hid (∀ W', Add (wr.setCell ⟨g, k, none⟩ (.int .i64 f)) W' → Add w W') := Lib.hid fun W' h => Add.trans (add_setLow hadd.out hgw _ _) h
      have e1 : ((2 * k + 1 : Nat) : Int) = 2 * (k : Int) + 1 := by omega
      obtain ⟨v0, hv0⟩ : ∃ v0, v0 = (G.take k ++ List.replicate (m - k) (0 : Int)).getD k 0 := ⟨_, rfl⟩
      rw [← hv0] at q0
      clear hR1 hsv' hf hI hadd hv0 s0 s2 e1 hj
      go_wp2_with fail
      go_roundw
      case rel => exact ⟨k + 1, by omega, by go_num, HN, Lib.hid (HA2.out _ (add_refl _))⟩
      case measure => simp [intOf]; omega
    · obtain rfl : k = m := by omega
      have HFIN : Hid (FlowP w G k (.returned (.slice (some ⟨g, 0, none⟩) k k)) wr) := Lib.hid ⟨g, rfl, by
        have h := hI.out
        rw [List.take_of_length_le (by rw [HGL.out]; exact Nat.le_refl _), Nat.sub_self, List.replicate_zero, List.append_nil] at h
        exact h, hadd.out⟩
      clear hI hadd
      go_wp2_with fail
      go_ret
      exact HFIN.out
end Go.Proofs.Ytaoibakbnimnkaa
