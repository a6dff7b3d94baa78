/- The reference of layer 13: Valid. | The reference of layer 13: Cost. | The reference of layer 13: Check. -/
import Derived.Test.YtaoibakbnimnkaaJO
import Derived.Test.YtaoibakbnimnkaaJA

namespace Go.Proofs.Ytaoibakbnimnkaa
open Go.RowKit NetM

def okCB (a : Arc) : Bool := decide (a.2.2.1 ≤ 1000000 ∧ 0 ≤ a.2.2.2 ∧ a.2.2.2 ≤ 1000)
def validC (N s t : Int) (A : List Arc) : Bool := validB N s t A && A.all okCB
/-- A valid network with costs. -/
def CNet (N s t : Nat) (A : List Arc) : Prop := VNet N s t A ∧ okCosts A
theorem CNet.of {N s t : Int} {A : List Arc} (h : validC N s t A = true) : ∃ N' s' t' : Nat, N = N' ∧ s = s' ∧ t = t' ∧ CNet N' s' t' A := by
  unfold validC at h
  rw [Bool.and_eq_true] at h
  obtain ⟨N', s', t', h1, h2, h3, h4⟩ := VNet.of h.1
  exact ⟨N', s', t', h1, h2, h3, h4, fun a ha => by
    have k := List.all_eq_true.1 h.2 a ha
    unfold okCB at k
    have k2 := of_decide_eq_true k
    exact k2⟩
theorem CNet.all {N s t : Nat} {A : List Arc} (h : CNet N s t A) : A.all okCB = true := List.all_eq_true.2 fun a ha => by
  have k := h.2 a ha
  unfold okCost at k
  unfold okCB
  exact decide_eq_true k
theorem CNet.valid {N s t : Nat} {A : List Arc} (h : CNet N s t A) : validC N s t A = true := by
  unfold validC validB
  rw [h.all, h.1.all, h.1.head]; rfl
theorem okCB_cases {x y z u : Int} (h : okCB (x, y, z, u) = false) : 1000000 < z ∨ (z ≤ 1000000 ∧ u < 0) ∨ (z ≤ 1000000 ∧ 0 ≤ u ∧ 1000 < u) := by
  have := of_decide_eq_false h
  dsimp only at this
  omega

set_option maxRecDepth 100000 in
set_option maxHeartbeats 1000000 in
theorem refValidC_inv {w : World} {v : Value} {N s t : Int} {A : List Arc} (h : NetA w v N s t A) (hv : validB N s t A = false) :
    Calls Try.prog 14 #[v] w (RetB w false) := by
  have CV : Hid (∀ W1, Add w W1 → Calls Try.prog 31 #[v] W1 (RetB W1 false)) := Lib.hid fun W1 ha => refValid_not (h.add ha) hv
  obtain ⟨va, rfl, ⟨a, m, c, rfl, -⟩⟩ := h
  have T1 := add_new w (.cells #[.int .i64 N, .int .i64 s, .int .i64 t, .slice a m c] 24)
  clear hv
  go_enter Try.func14, Try.ntmps14
  go_wp2_with fail
  refine (CV.out _ T1).mono ?_
  rintro e w1 ⟨rfl, h1⟩
  have HF : Hid (RetB w false (.returned (.bool false)) w1) := Lib.hid ⟨rfl, Add.trans T1 h1⟩
  clear h1 T1
  go_wp2_with fail
  go_ret
  exact HF.out
set_option maxRecDepth 100000 in
set_option maxHeartbeats 2000000 in
theorem refValidC_head {w : World} {v : Value} {N s t : Nat} {A : List Arc} (h : NetA w v N s t A) (hv : VNet N s t A) :
    Calls Try.prog 14 #[v] w (RetB w (A.all okCB)) := by
  have CV : Hid (∀ W1, Add w W1 → Calls Try.prog 31 #[v] W1 (RetB W1 true)) := Lib.hid fun W1 ha => refValid_yes (h.add ha) hv
  obtain ⟨va, rfl, ha⟩ := h
  obtain ⟨a, m, c, rfl, hl, hmc, hm, -⟩ := id ha
  have HA := Lib.hid ha
  have HL := Lib.hid hl
  obtain ⟨-, -, -, -, -, -, hm2⟩ := hv
  rw [hl] at hm2
  clear ha hl
  have B1 := Lib.hid (nbox_new w N s t a m c)
  have T1 := add_new w (.cells #[.int .i64 N, .int .i64 s, .int .i64 t, .slice a m c] 24)
  go_enter Try.func14, Try.ntmps14
  go_wp2_with fail
  refine (CV.out _ T1).mono ?_
  rintro e w1 ⟨rfl, h1⟩
  have hB := B1.out.add h1
  have b3 := hB.c3
  have hT2 := Add.trans T1 h1
  have T2 := Lib.hid hT2
  have HA1 := Lib.hid (HA.out.add hT2)
  clear h1 hB B1 T1 hT2
  go_wp2_with fail
  go_loop [3] (fun i => ∃ k : Nat, k ≤ m ∧ i = .int .i64 k ∧ Hid ((A.take k).all okCB = true)) (fun i => m - (intOf i).toNat)
  case atStart => exact ⟨0, Nat.zero_le _, rfl, Lib.hid (by simp)⟩
  case round =>
    obtain ⟨k, hk, rfl, hpre⟩ := hrel
    by_cases hlt : k < m
    · obtain ⟨ab, aoff, rfl, g0, g1, g2, g3⟩ := HA1.out.cell hlt
      have hm1 := at_mem (A := A) (k := k) (by rw [HL.out]; exact hlt)
      have ht1 := at_take (A := A) (k := k) (by rw [HL.out]; exact hlt)
      obtain ⟨⟨x, y, z, u⟩, hx⟩ : ∃ x, at' A k = x := ⟨_, rfl⟩
      rw [hx] at g0 g1 g2 g3 hm1 ht1
      dsimp only at g0 g1 g2 g3
      have HM := Lib.hid hm1
      have HTK := Lib.hid ht1
      clear hx hm1 ht1 g0 g1
      cases hb : okCB (x, y, z, u) with
      | true =>
        obtain ⟨r1, r2, r3⟩ := of_decide_eq_true hb
        dsimp only at r1 r2 r3
        have HB := Lib.hid hb
        clear hb
        go_wp2
        go_round
        case rel => exact ⟨k + 1, by omega, by go_num, Lib.hid (by rw [HTK.out, List.all_append, hpre.out]; simp [HB.out])⟩
        case measure => simp [intOf]; omega
      | false =>
        have hF : RetB w (A.all okCB) (.returned (.bool false)) w1 := by
          refine ⟨?_, T2.out⟩
          have : A.all okCB = false := by
            rw [Bool.eq_false_iff]
            intro h
            have := List.all_eq_true.1 h _ HM.out
            rw [hb] at this; cases this
          rw [this]
        have h1 := okCB_cases hb
        have HF := Lib.hid hF
        clear hF hb
        rcases h1 with h1 | ⟨h1, h2⟩ | ⟨h1, h2, h3⟩
        all_goals
          go_wp2
          go_ret
          exact HF.out
    · obtain rfl : k = m := by omega
      have hF : RetB w (A.all okCB) (.returned (.bool true)) w1 := by
        refine ⟨?_, T2.out⟩
        have := hpre.out
        rw [List.take_of_length_le (by rw [HL.out]; exact Nat.le_refl _)] at this
        rw [this]
      have HF := Lib.hid hF
      clear hF hpre
      go_wp2
      go_ret
      exact HF.out
theorem refValidC_any {w : World} {v : Value} {N s t : Int} {A : List Arc} (h : NetA w v N s t A) : Calls Try.prog 14 #[v] w (RetB w (validC N s t A)) := by
  unfold validC
  cases hv : validB N s t A with
  | false => exact refValidC_inv h hv
  | true =>
    obtain ⟨N', s', t', rfl, rfl, rfl, hn⟩ := VNet.of hv
    exact refValidC_head h hn
theorem refValidC_yes {w : World} {v : Value} {N s t : Nat} {A : List Arc} (h : NetA w v N s t A) (hv : CNet N s t A) : Calls Try.prog 14 #[v] w (RetB w true) := by
  have := refValidC_any h
  rwa [hv.valid] at this
theorem refValidC_not {w : World} {v : Value} {N s t : Int} {A : List Arc} (h : NetA w v N s t A) (hv : validC N s t A = false) : Calls Try.prog 14 #[v] w (RetB w false) := by
  have := refValidC_any h
  rwa [hv] at this
end Go.Proofs.Ytaoibakbnimnkaa

namespace Go.Proofs.Ytaoibakbnimnkaa
open Go.RowKit NetM

/-- What Cost returns for a valid network with costs. -/
def CostP (w : World) (N s t : Nat) (A : List Arc) (F : List Int) (e : Ending) (w' : World) : Prop :=
  ∃ (v : Int) (b : Bool), e = .returned (.tuple #[.int .i64 v, .bool b]) ∧ Add w w' ∧ (b = true → isFlow N s t A F ∧ v = costF A F) ∧ (b = false → ¬ isFlow N s t A F ∧ v = 0)
theorem cost_take {A : List Arc} {F : List Int} {k : Nat} (hA : k < A.length) (hF : F.length = A.length) : costF (A.take (k + 1)) (F.take (k + 1)) = costF (A.take k) (F.take k) + F.getD k 0 * (at' A k).2.2.2 := by
  rw [at_take hA, take_snocI (by omega), cost_snoc _ _ (by rw [List.length_take, List.length_take, hF])]
theorem within_take : ∀ {l : List Arc} {f : List Int} (k : Nat), within l f → within (l.take k) (f.take k)
  | [], [], _, _ => by simp [within]
  | a :: l, f :: g, 0, _ => by simp [within]
  | a :: l, f :: g, k + 1, h => ⟨h.1, within_take k h.2⟩
  | [], _ :: _, _, h => h.elim
  | _ :: _, [], _, h => h.elim
theorem CNet.take {N s t : Nat} {A : List Arc} (h : CNet N s t A) (k : Nat) : okCosts (A.take k) := fun a ha => h.2 a (List.mem_of_mem_take ha)

set_option maxRecDepth 100000 in
set_option maxHeartbeats 1000000 in
theorem refCost_inv {w : World} {v vf : Value} {N s t : Int} {A : List Arc} {F : List Int} (h : NetA w v N s t A) (hv : validC N s t A = false) (hf : RdI w vf F) :
    Calls Try.prog 12 #[v, vf] w (NoV w) := by
  have CV : Hid (∀ W1, Add w W1 → Calls Try.prog 14 #[v] W1 (RetB W1 false)) := Lib.hid fun W1 ha => refValidC_not (h.add ha) hv
  obtain ⟨va, rfl, ⟨a, m, c, rfl, -⟩⟩ := h
  obtain ⟨fa, fc, rfl, -⟩ := hf.open
  have T1 := add_new w (.cells #[.int .i64 N, .int .i64 s, .int .i64 t, .slice a m c] 24)
  clear hf hv
  go_enter Try.func12, Try.ntmps12
  go_wp2_with fail
  refine (CV.out _ T1).mono ?_
  rintro e w1 ⟨rfl, h1⟩
  have HF : Hid (NoV w (.returned (.tuple #[.int .i64 0, .bool false])) w1) := Lib.hid ⟨rfl, Add.trans T1 h1⟩
  clear h1 T1
  go_wp2_with fail
  go_ret2
  exact HF.out
set_option maxRecDepth 100000 in
set_option maxHeartbeats 2000000 in
theorem refCost_any {w : World} {v vf : Value} {N s t : Nat} {A : List Arc} {F : List Int} (h : NetA w v N s t A) (hv : CNet N s t A) (hf : RdI w vf F) :
    Calls Try.prog 12 #[v, vf] w (CostP w N s t A F) := by
  have CV : Hid (∀ W1, Add w W1 → Calls Try.prog 14 #[v] W1 (RetB W1 true)) := Lib.hid fun W1 ha => refValidC_yes (h.add ha) hv
  have CL : Hid (∀ W1, Add w W1 → Calls Try.prog 24 #[v, vf] W1 (ValP W1 N s t A F)) := Lib.hid fun W1 ha => refValue_any (h.add ha) hv.1 (hf.add ha)
  obtain ⟨va, rfl, ha⟩ := h
  obtain ⟨a, m, c, rfl, hl, hmc, hm, -⟩ := id ha
  obtain ⟨fa, fc, rfl, -⟩ := id hf.open
  obtain ⟨p, hp⟩ : ∃ p, F.length = p := ⟨_, rfl⟩
  rw [hp] at hf CL ⊢
  have HA := Lib.hid ha
  have HL := Lib.hid hl
  have HV := Lib.hid hv
  have HFL := Lib.hid hf
  have HP := Lib.hid hp
  obtain ⟨⟨-, -, -, -, -, -, hm2⟩, -⟩ := hv
  rw [hl] at hm2
  clear ha hl hf hp
  have B1 := Lib.hid (nbox_new w N s t a m c)
  have T1 := add_new w (.cells #[.int .i64 N, .int .i64 s, .int .i64 t, .slice a m c] 24)
  go_enter Try.func12, Try.ntmps12
  go_wp2_with fail
  refine (CV.out _ T1).mono ?_
  rintro e w1 ⟨rfl, h1⟩
  have hB := B1.out.add h1
  have c0 := hB.c0
  have c1 := hB.c1
  have c2 := hB.c2
  have c3 := hB.c3
  have hT2 := Add.trans T1 h1
  have B2 := Lib.hid hB
  clear h1 hB B1 T1
  go_wp2_with fail
  refine (CL.out _ hT2).mono ?_
  rintro e w2 ⟨x, b1, rfl, h2, y1, n1⟩
  have T3 := Lib.hid (Add.trans hT2 h2)
  have B3 := Lib.hid (B2.out.add h2)
  clear h2 hT2 c0 c1 c2 c3 B2
  cases b1 with
  | false =>
    have HF : Hid (CostP w N s t A F (.returned (.tuple #[.int .i64 0, .bool false])) w2) := Lib.hid ⟨0, false, rfl, T3.out, fun h => Bool.noConfusion h, fun _ => ⟨(n1 rfl).1, rfl⟩⟩
    clear y1 n1
    go_wp2_with fail
    go_ret2
    exact HF.out
  | true =>
    have hfl := (y1 rfl).1
    have hpm : p = m := by rw [← HP.out, NetM.within_length hfl.1, HL.out]
    subst hpm
    have HFLOW := Lib.hid hfl
    clear y1 n1 hfl
    go_wp2_with fail
    go_loopw [8, 9] (fun sv i wr => ∃ (k : Nat) (v : Int), k ≤ p ∧ sv = .int .i64 v ∧ i = .int .i64 k ∧ Hid (v = costF (A.take k) (F.take k)) ∧ Add w2 wr) (fun _ i _ => p - (intOf i).toNat)
    case atStart => exact ⟨0, 0, Nat.zero_le _, rfl, rfl, Lib.hid rfl, Below.refl _ _⟩
    case round =>
      obtain ⟨k, v, hk, rfl, rfl, hpre, hadd⟩ := hrel
      have T4 := Lib.hid (Add.trans T3.out hadd)
      have b3 := (B3.out.add hadd).c3
      by_cases hlt : k < p
      · obtain ⟨ab, aoff, rfl, g0, g1, g2, g3⟩ := (HA.out.add T4.out).cell hlt
        obtain ⟨fb, foff, rfl, q0⟩ := RdI.cell (HFLOW.out |> fun _ => Rd.add HFL.out T4.out) hlt
        have hm1 := at_mem (A := A) (k := k) (by rw [HL.out]; exact hlt)
        have hok := HV.out.2 _ hm1
        unfold okCost at hok
        have hwi := (NetM.within_iff.1 HFLOW.out.1).2 k (by rw [HL.out]; exact hlt)
        have hct := cost_take (A := A) (F := F) (k := k) (by rw [HL.out]; exact hlt) (by rw [HL.out, HP.out])
        have hb := cost_bound (HV.out.take k) (within_take k HFLOW.out.1)
        rw [List.length_take, ← hpre.out] at hb
        rw [← hpre.out] at hct
        obtain ⟨⟨x, y, z, u⟩, hx⟩ : ∃ x, at' A k = x := ⟨_, rfl⟩
        rw [hx] at g0 g1 g2 g3 hok hwi hct
        dsimp only at g0 g1 g2 g3 hok hwi hct
        obtain ⟨f, hf⟩ : ∃ f, F.getD k 0 = f := ⟨_, rfl⟩
        rw [hf] at q0 hwi hct
        have m0 : 0 ≤ f * u := Int.mul_nonneg hwi.1 hok.2.1
        have m1 : f * u ≤ 1000000 * 1000 := Int.mul_le_mul (by omega) hok.2.2 hok.2.1 (by omega)
        have hv2 : 0 ≤ v ∧ v ≤ 2500 * 1000000000 := by omega
        obtain ⟨fu, hfu⟩ : ∃ fu, f * u = fu := ⟨_, rfl⟩
        rw [hfu] at m0 m1 hct
        have W0 : IntKind.i64.wrap (f * u) = fu := by rw [hfu]; exact IntWalk.i64_in _ (by omega)
        have W1 : IntKind.i64.wrap (v + fu) = v + fu := IntWalk.i64_in _ (by omega)
        have HC := Lib.hid hct.symm
        clear hx hf hfu hm1 hok hwi hct hb g0 g1 g2 m0 m1 hv2
        go_wp2_with fail
        go_region
        go_wp2_with fail
        go_roundw
        case rel => exact ⟨k + 1, v + fu, by omega, rfl, by go_num, HC, b_drew hadd⟩
        case measure => simp [intOf]; omega
      · obtain rfl : k = p := by omega
        have HYES : Hid (CostP w N s t A F (.returned (.tuple #[.int .i64 v, .bool true])) wr) := Lib.hid ⟨_, true, rfl, T4.out, fun _ => ⟨HFLOW.out, by rw [hpre.out, List.take_of_length_le (by rw [HL.out]; exact Nat.le_refl _), List.take_of_length_le (by rw [HP.out]; exact Nat.le_refl _)]⟩, fun h => Bool.noConfusion h⟩
        clear hpre hadd
        go_wp2_with fail
        go_ret2
        exact HYES.out
end Go.Proofs.Ytaoibakbnimnkaa

namespace Go.Proofs.Ytaoibakbnimnkaa
open Go.RowKit NetM

def potL (Q : List Int) (x : Int) : Int := Q.getD x.toNat 0
theorem potL_nat (Q : List Int) (x : Nat) : potL Q (x : Int) = Q.getD x 0 := by simp [potL]
def lowQ (q : Int) : Prop := -1000000000 ≤ q ∧ q ≤ 1000000000
/-- A flow of the value am, with potentials. -/
def certOk (N s t : Nat) (A : List Arc) (am : Int) (F Q : List Int) : Prop :=
  isFlow N s t A F ∧ net s A F = am ∧ Q.length = N ∧ (∀ i, i < N → lowQ (Q.getD i 0)) ∧ Pot (potL Q) A F
theorem certOk.min {N s t : Nat} {A : List Arc} {am : Int} {F Q : List Int} (h : certOk N s t A am F Q) : MinC N s t A am (costF A F) := ⟨F, _, h.1, h.2.2.2.2, h.2.1, rfl⟩
/-- What Check returns for a valid network with costs. -/
def CertP (w : World) (N s t : Nat) (A : List Arc) (am : Int) (F Q : List Int) (e : Ending) (w' : World) : Prop := ∃ b : Bool, e = .returned (.bool b) ∧ Add w w' ∧ (b = true ↔ certOk N s t A am F Q)
/-- Arc j fits the potentials. -/
def fitsA (A : List Arc) (F Q : List Int) (j : Nat) : Prop := (F.getD j 0 < (at' A j).2.2.1 → 0 ≤ rc (potL Q) (at' A j)) ∧ (0 < F.getD j 0 → rc (potL Q) (at' A j) ≤ 0)

set_option maxRecDepth 100000 in
set_option maxHeartbeats 1000000 in
theorem refCert_inv {w : World} {v vf vq : Value} {N s t am : Int} {A : List Arc} {F Q : List Int} (h : NetA w v N s t A) (hv : validC N s t A = false) (hf : RdI w vf F) (hq : RdI w vq Q) :
    Calls Try.prog 16 #[v, .int .i64 am, vf, vq] w (RetB w false) := by
  have CV : Hid (∀ W1, Add w W1 → Calls Try.prog 14 #[v] W1 (RetB W1 false)) := Lib.hid fun W1 ha => refValidC_not (h.add ha) hv
  obtain ⟨va, rfl, ⟨a, m, c, rfl, -⟩⟩ := h
  obtain ⟨fa, fc, rfl, -⟩ := hf.open
  obtain ⟨qa, qc, rfl, -⟩ := hq.open
  have T1 := add_new w (.cells #[.int .i64 N, .int .i64 s, .int .i64 t, .slice a m c] 24)
  clear hf hq hv
  go_enter Try.func16, Try.ntmps16
  go_wp2_with fail
  refine (CV.out _ T1).mono ?_
  rintro e w1 ⟨rfl, h1⟩
  have HF : Hid (RetB w false (.returned (.bool false)) w1) := Lib.hid ⟨rfl, Add.trans T1 h1⟩
  clear h1 T1
  go_wp2_with fail
  go_ret
  exact HF.out
set_option maxRecDepth 100000 in
set_option maxHeartbeats 2000000 in
theorem refCert_any {w : World} {v vf vq : Value} {N s t : Nat} {am : Int} {A : List Arc} {F Q : List Int} (h : NetA w v N s t A) (hv : CNet N s t A) (hf : RdI w vf F) (hq : RdI w vq Q) :
    Calls Try.prog 16 #[v, .int .i64 am, vf, vq] w (CertP w N s t A am F Q) := by
  have CV : Hid (∀ W1, Add w W1 → Calls Try.prog 14 #[v] W1 (RetB W1 true)) := Lib.hid fun W1 ha => refValidC_yes (h.add ha) hv
  have CL : Hid (∀ W1, Add w W1 → Calls Try.prog 24 #[v, vf] W1 (ValP W1 N s t A F)) := Lib.hid fun W1 ha => refValue_any (h.add ha) hv.1 (hf.add ha)
  obtain ⟨va, rfl, ha⟩ := h
  obtain ⟨a, m, c, rfl, hl, hmc, hm, -⟩ := id ha
  obtain ⟨fa, fc, rfl, -⟩ := id hf.open
  obtain ⟨qa, qc, rfl, -⟩ := id hq.open
  obtain ⟨p, hp⟩ : ∃ p, F.length = p := ⟨_, rfl⟩
  obtain ⟨q, hqn⟩ : ∃ q, Q.length = q := ⟨_, rfl⟩
  rw [hp] at hf CL ⊢
  rw [hqn] at hq ⊢
  have HA := Lib.hid ha
  have HL := Lib.hid hl
  have HV := Lib.hid hv
  have HFL := Lib.hid hf
  have HP := Lib.hid hp
  have HQ := Lib.hid hq
  have HQN := Lib.hid hqn
  obtain ⟨⟨-, hs, ht, -, -, hN2, hm2⟩, -⟩ := hv
  rw [hl] at hm2
  clear ha hl hf hp hq hqn
  have B1 := Lib.hid (nbox_new w N s t a m c)
  have T1 := add_new w (.cells #[.int .i64 N, .int .i64 s, .int .i64 t, .slice a m c] 24)
  have HNO : Hid (¬ certOk N s t A am F Q → ∀ w', Add w w' → CertP w N s t A am F Q (.returned (.bool false)) w') := Lib.hid fun hn w' ha => ⟨false, rfl, ha, ⟨fun h => (Bool.false_ne_true h).elim, fun h => absurd h hn⟩⟩
  by_cases hqN : q = N
  · subst hqN
    have dq : ((q : Int) == (q : Int)) = true := by simp
    have dq2 : ((q : Int) != (q : Int)) = false := by simp
    go_enter Try.func16, Try.ntmps16
    go_wp2_with fail
    refine (CV.out _ T1).mono ?_
    rintro e w1 ⟨rfl, h1⟩
    have hB := B1.out.add h1
    have c0 := hB.c0
    have c1 := hB.c1
    have c2 := hB.c2
    have c3 := hB.c3
    have hT2 := Add.trans T1 h1
    have B2 := Lib.hid hB
    clear h1 hB B1 T1
    go_wp2_with fail
    refine (CL.out _ hT2).mono ?_
    rintro e w2 ⟨x, b1, rfl, h2, y1, n1⟩
    have T3 := Lib.hid (Add.trans hT2 h2)
    have B3 := Lib.hid (B2.out.add h2)
    clear h2 hT2 c0 c1 c2 c3 B2 dq dq2
    cases b1 with
    | false =>
      have HF := Lib.hid (HNO.out (fun h => (n1 rfl).1 h.1) w2 T3.out)
      clear y1 n1
      go_wp2_with fail
      go_ret
      exact HF.out
    | true =>
      obtain ⟨hfl, hval⟩ := y1 rfl
      have hpm : p = m := by rw [← HP.out, NetM.within_length hfl.1, HL.out]
      subst hpm
      have HFLOW := Lib.hid hfl
      have HVAL := Lib.hid hval
      clear y1 n1 hfl hval
      by_cases hxa : x = am
      · subst hxa
        have da : (x == x) = true := by simp
        have da2 : (x != x) = false := by simp
        have b0 := B3.out.c0
        go_wp2_with fail
        clear da da2
        go_loop [11] (fun i => ∃ j : Nat, j ≤ q ∧ i = .int .i64 j ∧ Hid (∀ k : Nat, k < j → lowQ (Q.getD k 0))) (fun i => q - (intOf i).toNat)
        case atStart => exact ⟨0, Nat.zero_le _, rfl, Lib.hid fun k hk => absurd hk (Nat.not_lt_zero _)⟩
        case round =>
          obtain ⟨j, hj, rfl, hz⟩ := hrel
          by_cases hlt : j < q
          · obtain ⟨qb, qoff, rfl, q0⟩ := RdI.cell (Rd.add HQ.out T3.out) hlt
            obtain ⟨r, hr⟩ : ∃ r, Q.getD j 0 = r := ⟨_, rfl⟩
            rw [hr] at q0
            have HR := Lib.hid hr
            clear hr
            by_cases h1 : r < -1000000000
            · have HF := Lib.hid (HNO.out (fun h => by have := (h.2.2.2.1 j hlt).1; rw [HR.out] at this; omega) w2 T3.out)
              have d1 : decide (r < -1000000000) = true := decide_eq_true h1
              clear h1
              go_wp2_with fail
              go_ret
              exact HF.out
            · have d1 : decide (r < -1000000000) = false := decide_eq_false h1
              by_cases h2 : 1000000000 < r
              · have HF := Lib.hid (HNO.out (fun h => by have := (h.2.2.2.1 j hlt).2; rw [HR.out] at this; omega) w2 T3.out)
                have d2 : decide (1000000000 < r) = true := decide_eq_true h2
                clear h1 h2
                go_wp2_with fail
                go_ret
                exact HF.out
              · have d2 : decide (1000000000 < r) = false := decide_eq_false h2
                have HJ : Hid (∀ k : Nat, k < j + 1 → lowQ (Q.getD k 0)) := Lib.hid fun k hk => by
                  by_cases e : k = j
                  · subst e; rw [HR.out]; exact ⟨by omega, by omega⟩
                  · exact hz.out k (by omega)
                clear h1 h2
                go_wp2_with fail
                go_round
                case rel => exact ⟨j + 1, by omega, by go_num, HJ⟩
                case measure => simp [intOf]; omega
          · obtain rfl : j = q := by omega
            go_wp2_with fail
            clear b0
            go_loopw [12] (fun i wr => ∃ k : Nat, k ≤ p ∧ i = .int .i64 k ∧ Hid (∀ i, i < k → fitsA A F Q i) ∧ Hid (Add w2 wr)) (fun i _ => p - (intOf i).toNat)
            case atStart => exact ⟨0, Nat.zero_le _, rfl, Lib.hid fun k hk => absurd hk (Nat.not_lt_zero _), Lib.hid (Below.refl _ _)⟩
            case round =>
              obtain ⟨k, hk, rfl, hpre, hadd⟩ := hrel
              have T4 := Lib.hid (Add.trans T3.out hadd.out)
              have b3 := (B3.out.add hadd.out).c3
              by_cases hlt2 : k < p
              · obtain ⟨ab, aoff, rfl, g0, g1, g2, g3⟩ := (HA.out.add T4.out).cell hlt2
                obtain ⟨fb, foff, rfl, q0⟩ := RdI.cell (Rd.add HFL.out T4.out) hlt2
                obtain ⟨X, Y, z, u, hx, hxN, hyN, hz0, hz1⟩ := HV.out.1.at (k := k) (by rw [HL.out]; exact hlt2)
                have hm1 := at_mem (A := A) (k := k) (by rw [HL.out]; exact hlt2)
                have hok := HV.out.2 _ hm1
                unfold okCost at hok
                obtain ⟨qb, qoff, rfl, p0⟩ := RdI.cell (Rd.add HQ.out T4.out) hxN
                obtain ⟨qb', qoff', e', p1⟩ := RdI.cell (Rd.add HQ.out T4.out) hyN
                simp only [Option.some.injEq, Addr.mk.injEq, and_true] at e'
                obtain ⟨rfl, rfl⟩ := e'
                rw [hx] at g0 g1 g2 g3 hok
                dsimp only at g0 g1 g2 g3 hok
                obtain ⟨f, hf⟩ : ∃ f, F.getD k 0 = f := ⟨_, rfl⟩
                rw [hf] at q0
                have l1 := hz.out X hxN
                have l2 := hz.out Y hyN
                unfold lowQ at l1 l2
                have hfit : fitsA A F Q k ↔ (f < z → 0 ≤ u + Q.getD X 0 - Q.getD Y 0) ∧ (0 < f → u + Q.getD X 0 - Q.getD Y 0 ≤ 0) := by
                  unfold fitsA rc
                  rw [hx, hf]
                  dsimp only
                  rw [potL_nat, potL_nat]
                obtain ⟨px, hpx⟩ : ∃ px, Q.getD X 0 = px := ⟨_, rfl⟩
                obtain ⟨py, hpy⟩ : ∃ py, Q.getD Y 0 = py := ⟨_, rfl⟩
                rw [hpx] at p0 l1 hfit
                rw [hpy] at p1 l2 hfit
                have W1 : IntKind.i64.wrap (u + px) = u + px := IntWalk.i64_in _ (by omega)
                have W2 : IntKind.i64.wrap (u + px - py) = u + px - py := IntWalk.i64_in _ (by omega)
                obtain ⟨r, hr⟩ : ∃ r, u + px - py = r := ⟨_, rfl⟩
                rw [hr] at W2 hfit
                have HFIT := Lib.hid hfit
                have hbf : fb < wr.heap.size := World.block_lt_of_cell? _ _ q0
                have hbq : qb < wr.heap.size := World.block_lt_of_cell? _ _ p0
                have HNO2 : Hid (¬ fitsA A F Q k → ∀ w', Add w w' → CertP w j s t A x F Q (.returned (.bool false)) w') := Lib.hid fun hn => HNO.out fun h => hn ((pot_iff (by rw [HL.out, HP.out])).1 h.2.2.2.2 k (by rw [HL.out]; exact hlt2))
                have HNEXT : Hid (fitsA A F Q k → Hid (∀ i, i < k + 1 → fitsA A F Q i)) := Lib.hid fun h => Lib.hid fun i hi => by
                  by_cases e : i = k
                  · subst e; exact h
                  · exact hpre.out i (by omega)
                have HADD : Hid (∀ q, Add w2 ((wr.alloc (.cells #[.int .i64 (X : Nat), .int .i64 (Y : Nat), .int .i64 z, .int .i64 u] 35)).drewN q)) := Lib.hid fun q => Add.trans hadd.out (Add.trans (add_new _ _) (add_drewN _ _))
                clear hx hf hpx hpy hm1 hok hfit l1 l2
                go_wp2_with fail
                go_quiet (fail)
                clear W1 W2 p0 p1 g0 g1 g2 g3 hr
                have HADD2 : Hid (∀ q q2, Add w2 (((wr.alloc (.cells #[.int .i64 (X : Nat), .int .i64 (Y : Nat), .int .i64 z, .int .i64 u] 35)).drewN q).drewN q2)) := Lib.hid fun q q2 => Add.trans (HADD.out q) (add_drewN _ _)
                have hcase : (f < z ∧ r < 0) ∨ (f < z ∧ ¬ r < 0 ∧ 0 < f ∧ 0 < r) ∨ (¬ f < z ∧ 0 < f ∧ 0 < r) ∨ (f < z ∧ ¬ r < 0 ∧ 0 < f ∧ ¬ 0 < r) ∨ (f < z ∧ ¬ r < 0 ∧ ¬ 0 < f) ∨ (¬ f < z ∧ 0 < f ∧ ¬ 0 < r) ∨ (¬ f < z ∧ ¬ 0 < f) := by omega
                rcases hcase with ⟨e1, e2⟩ | ⟨e1, e2, e3, e4⟩ | ⟨e1, e3, e4⟩ | ⟨e1, e2, e3, e4⟩ | ⟨e1, e2, e3⟩ | ⟨e1, e3, e4⟩ | ⟨e1, e3⟩
                · have HF := Lib.hid (HNO2.out (fun h => by have := HFIT.out.1 h; omega))
                  have d1 : decide (f < z) = true := decide_eq_true e1
                  have d2 : decide (r < 0) = true := decide_eq_true e2
                  clear HFIT HNO2 HNEXT e1 e2
                  go_wp2_with fail
                  go_quiet (fail)
                  clear d1 d2
                  go_wp2_with fail
                  go_ret
                  exact HF.out _ (Add.trans T3.out (by first | exact HADD.out _ | exact HADD2.out _ _))
                · have HF := Lib.hid (HNO2.out (fun h => by have := HFIT.out.1 h; omega))
                  have d1 : decide (f < z) = true := decide_eq_true e1
                  have d2 : decide (r < 0) = false := decide_eq_false e2
                  have d3 : decide (0 < f) = true := decide_eq_true e3
                  have d4 : decide (0 < r) = true := decide_eq_true e4
                  clear HFIT HNO2 HNEXT e1 e2 e3 e4
                  go_wp2_with fail
                  go_quiet (fail)
                  clear d1 d2 d3 d4
                  go_wp2_with fail
                  go_ret
                  exact HF.out _ (Add.trans T3.out (by first | exact HADD.out _ | exact HADD2.out _ _))
                · have HF := Lib.hid (HNO2.out (fun h => by have := HFIT.out.1 h; omega))
                  have d1 : decide (f < z) = false := decide_eq_false e1
                  have d3 : decide (0 < f) = true := decide_eq_true e3
                  have d4 : decide (0 < r) = true := decide_eq_true e4
                  clear HFIT HNO2 HNEXT e1 e3 e4
                  go_wp2_with fail
                  go_quiet (fail)
                  clear d1 d3 d4
                  go_wp2_with fail
                  go_ret
                  exact HF.out _ (Add.trans T3.out (by first | exact HADD.out _ | exact HADD2.out _ _))
                · have HN := HNEXT.out (HFIT.out.2 (by omega))
                  have d1 : decide (f < z) = true := decide_eq_true e1
                  have d2 : decide (r < 0) = false := decide_eq_false e2
                  have d3 : decide (0 < f) = true := decide_eq_true e3
                  have d4 : decide (0 < r) = false := decide_eq_false e4
                  clear HFIT HNO2 HNEXT e1 e2 e3 e4
                  go_wp2_with fail
                  go_quiet (fail)
                  clear d1 d2 d3 d4
                  go_wp2_with fail
                  go_roundw
                  case rel => exact ⟨k + 1, by omega, by go_num, HN, Lib.hid (by first | exact HADD.out _ | exact HADD2.out _ _)⟩
                  case measure => simp [intOf]; omega
                · have HN := HNEXT.out (HFIT.out.2 (by omega))
                  have d1 : decide (f < z) = true := decide_eq_true e1
                  have d2 : decide (r < 0) = false := decide_eq_false e2
                  have d3 : decide (0 < f) = false := decide_eq_false e3
                  clear HFIT HNO2 HNEXT e1 e2 e3
                  go_wp2_with fail
                  go_quiet (fail)
                  clear d1 d2 d3
                  go_wp2_with fail
                  go_roundw
                  case rel => exact ⟨k + 1, by omega, by go_num, HN, Lib.hid (by first | exact HADD.out _ | exact HADD2.out _ _)⟩
                  case measure => simp [intOf]; omega
                · have HN := HNEXT.out (HFIT.out.2 (by omega))
                  have d1 : decide (f < z) = false := decide_eq_false e1
                  have d3 : decide (0 < f) = true := decide_eq_true e3
                  have d4 : decide (0 < r) = false := decide_eq_false e4
                  clear HFIT HNO2 HNEXT e1 e3 e4
                  go_wp2_with fail
                  go_quiet (fail)
                  clear d1 d3 d4
                  go_wp2_with fail
                  go_roundw
                  case rel => exact ⟨k + 1, by omega, by go_num, HN, Lib.hid (by first | exact HADD.out _ | exact HADD2.out _ _)⟩
                  case measure => simp [intOf]; omega
                · have HN := HNEXT.out (HFIT.out.2 (by omega))
                  have d1 : decide (f < z) = false := decide_eq_false e1
                  have d3 : decide (0 < f) = false := decide_eq_false e3
                  clear HFIT HNO2 HNEXT e1 e3
                  go_wp2_with fail
                  go_quiet (fail)
                  clear d1 d3
                  go_wp2_with fail
                  go_roundw
                  case rel => exact ⟨k + 1, by omega, by go_num, HN, Lib.hid (by first | exact HADD.out _ | exact HADD2.out _ _)⟩
                  case measure => simp [intOf]; omega
              · obtain rfl : k = p := by omega
                have HYES : Hid (CertP w j s t A x F Q (.returned (.bool true)) wr) := Lib.hid ⟨true, rfl, T4.out, ⟨fun _ => ⟨HFLOW.out, HVAL.out.symm, HQN.out, hz.out, (pot_iff (by rw [HL.out, HP.out])).2 (fun i hi => hpre.out i (by rw [← HL.out]; exact hi))⟩, fun _ => rfl⟩⟩
                clear hpre hadd
                go_wp2_with fail
                go_ret
                exact HYES.out
      · have HF := Lib.hid (HNO.out (fun h => hxa (by rw [HVAL.out]; exact h.2.1)) w2 T3.out)
        have da : (x == am) = false := by simpa using hxa
        have da2 : (x != am) = true := by simpa using hxa
        clear hxa
        go_wp2_with fail
        go_ret
        exact HF.out
  · have HF : Hid (∀ w', Add w w' → CertP w N s t A am F Q (.returned (.bool false)) w') := Lib.hid (HNO.out fun h => hqN (by rw [← HQN.out]; exact h.2.2.1))
    have dq : ((q : Int) == (N : Int)) = false := by simp; omega
    have dq2 : ((q : Int) != (N : Int)) = true := by simp; omega
    clear hqN
    go_enter Try.func16, Try.ntmps16
    go_wp2_with fail
    refine (CV.out _ T1).mono ?_
    rintro e w1 ⟨rfl, h1⟩
    have hB := B1.out.add h1
    have c0 := hB.c0
    have T2 := Lib.hid (Add.trans T1 h1)
    clear h1 hB B1 T1
    go_wp2_with fail
    go_ret
    exact HF.out _ T2.out
end Go.Proofs.Ytaoibakbnimnkaa
