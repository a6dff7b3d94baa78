/- The law LinearAssociates. Made by gen/lassoc.py. -/
import Derived.Test.YtbeoeackahmpbaaGreatDoorVV
import Derived.Deep.Cut
namespace Go.Proofs.YtbeoeackahmpbaaGreatDoor
open Go.RowKit NatM Go.Proofs.YtbeoeackahmpbaaGreatDoor.Api LinM

/-- Three matrices of any shapes that fit, and a sum. -/
theorem sum_assoc2 (n m : Nat) (a : Nat → Rat) (B : Mat) (c : Nat → Rat) : LinM.sumQ (fun q => LinM.sumQ (fun s => a s * B s q) m * c q) n = LinM.sumQ (fun s => a s * LinM.sumQ (fun q => B s q * c q) n) m := by
  have e1 : LinM.sumQ (fun q => LinM.sumQ (fun s => a s * B s q) m * c q) n = LinM.sumQ (fun q => LinM.sumQ (fun s => a s * B s q * c q) m) n := LinM.sumQ_congr fun q _ => (sumQ_mulR _ _ _).symm
  have e2 : LinM.sumQ (fun s => a s * LinM.sumQ (fun q => B s q * c q) n) m = LinM.sumQ (fun s => LinM.sumQ (fun q => a s * B s q * c q) n) m := LinM.sumQ_congr fun s _ => by
    rw [← LinM.sumQ_mul]
    exact LinM.sumQ_congr fun q _ => by grind
  rw [e1, e2, LinM.sumQ_swap]
theorem mulM_assoc (A B C : Mat) (m o : Nat) : mulM (mulM A B m) C o = mulM A (mulM B C o) m := by
  funext i l
  exact sum_assoc2 o m (A i) B (fun q => C q l)
theorem mul_wt2 {A B : Mat} {n k p : Nat} (hn : n ≤ 5) (hk : k ≤ 5) (hp : p ≤ 5) (ha : ∀ i j, Small (A i j)) (hb : ∀ i j, Small (B i j)) : wtM (fun i j => can (mulM A B k i j)) (fun _ => p) n ≤ 1550 := by
  have h1 : wtM (fun i j => can (mulM A B k i j)) (fun _ => p) n ≤ n * (p * (2 * (30 + 1))) := sumK_le fun i _ => sumK_le fun j _ => wtF_bound (mul_bound hk ha hb i j).1 (mul_bound hk ha hb i j).2
  have h2 : n * (p * (2 * (30 + 1))) ≤ 5 * (5 * (2 * (30 + 1))) := Nat.mul_le_mul hn (Nat.mul_le_mul_right _ hp)
  omega
theorem small_shape {n : Nat} {L : Nat → Int} (hL : ∀ i, i < n → -128 ≤ L i ∧ L i ≤ 127) {r k : Nat} (h1 : 1 ≤ r ∧ r ≤ 24) (h2 : 1 ≤ k ∧ k ≤ 24) : shapeOk (matT n L k) (fun _ => k) r = true :=
  shapeOk_iff.2 ⟨h1, h2, fun i _ => ⟨rfl, fun j _ => by rw [matT_can]; exact (small_mQ hL k i j).fit.ok⟩⟩
theorem mul_shape {A B : Mat} {n k p : Nat} (hn : 1 ≤ n ∧ n ≤ 5) (hk : k ≤ 5) (hp : 1 ≤ p ∧ p ≤ 5) (ha : ∀ i j, Small (A i j)) (hb : ∀ i j, Small (B i j)) : shapeOk (fun i j => can (mulM A B k i j)) (fun _ => p) n = true :=
  shapeOk_iff.2 ⟨⟨hn.1, by omega⟩, ⟨hp.1, by omega⟩, fun i _ => ⟨rfl, fun j _ => (mul_fit hk ha hb i j).ok⟩⟩
theorem small_w200 {A : Mat} (h : ∀ i j, Small (A i j)) {n k : Nat} (hn : n ≤ 5) (hk : k ≤ 5) : wtM (fun i j => can (A i j)) (fun _ => k) n ≤ 200 := by
  have h1 := small_wtM h n k
  have h2 : n * (k * 8) ≤ 5 * (5 * 8) := Nat.mul_le_mul hn (Nat.mul_le_mul_right 8 hk)
  omega
theorem ordB_lim (n : Nat) : 1 ≤ ordB n ∧ ordB n ≤ 5 := by unfold ordB; omega

set_option maxRecDepth 100000 in
set_option maxHeartbeats 8000000 in
theorem associates_any {w : World} {m1 m2 m3 m4 n1 n2 n3 : Nat} {v1 v2 v3 : Value} {L1 L2 L3 : Nat → Int} (h1 : m1 < 256) (h2 : m2 < 256) (h3 : m3 < 256) (h4 : m4 < 256) (i1 : Ri8 w v1 n1 L1) (i2 : Ri8 w v2 n2 L2) (i3 : Ri8 w v3 n3 L3) (hT : Tab w) :
    Calls Tryz.prog 9 #[.int .u8 (m1 : Nat), .int .u8 (m2 : Nat), .int .u8 (m3 : Nat), .int .u8 (m4 : Nat), v1, v2, v3] w (BoolIs w true) := by
  obtain ⟨n, hn⟩ : ∃ k, ordB m1 = k := ⟨_, rfl⟩
  obtain ⟨m, hm⟩ : ∃ k, ordB m2 = k := ⟨_, rfl⟩
  obtain ⟨o, ho⟩ : ∃ k, ordB m3 = k := ⟨_, rfl⟩
  obtain ⟨p, hp⟩ : ∃ k, ordB m4 = k := ⟨_, rfl⟩
  have ln : 1 ≤ n ∧ n ≤ 5 := by rw [← hn]; exact ordB_lim _
  have lm : 1 ≤ m ∧ m ≤ 5 := by rw [← hm]; exact ordB_lim _
  have lo : 1 ≤ o ∧ o ≤ 5 := by rw [← ho]; exact ordB_lim _
  have lp : 1 ≤ p ∧ p ≤ 5 := by rw [← hp]; exact ordB_lim _
  have CO1 := Lib.hid (fun w' => orderLN (w := w') h1 (Lib.hid hn))
  have CO2 := Lib.hid (fun w' => orderLN (w := w') h2 (Lib.hid hm))
  have CO3 := Lib.hid (fun w' => orderLN (w := w') h3 (Lib.hid ho))
  have CO4 := Lib.hid (fun w' => orderLN (w := w') h4 (Lib.hid hp))
  have HL := Lib.hid (And.intro (small_mQ i1.lims m) (And.intro (small_mQ i2.lims o) (small_mQ i3.lims p)))
  have HS := Lib.hid (And.intro (small_shape i1.lims (r := n) (k := m) (by omega) (by omega)) (And.intro (small_shape i2.lims (r := m) (k := o) (by omega) (by omega)) (small_shape i3.lims (r := o) (k := p) (by omega) (by omega))))
  have HM := Lib.hid (And.intro (small_sm i1.lims m) (And.intro (small_sm i2.lims o) (small_sm i3.lims p)))
  have CM1 := Lib.hid (fun w' (ha : Add w w') => matrixN (rows := n) (cols := m) (i1.add ha) (hT.mono ha) (by omega) (by omega))
  have CM2 := Lib.hid (fun w' (ha : Add w w') => matrixN (rows := m) (cols := o) (i2.add ha) (hT.mono ha) (by omega) (by omega))
  have CM3 := Lib.hid (fun w' (ha : Add w w') => matrixN (rows := o) (cols := p) (i3.add ha) (hT.mono ha) (by omega) (by omega))
  have HT := Lib.hid hT
  obtain ⟨ao1, ca1, rfl, -, -⟩ := i1
  obtain ⟨ao2, ca2, rfl, -, -⟩ := i2
  obtain ⟨ao3, ca3, rfl, -, -⟩ := i3
  clear h1 h2 h3 h4 hT hn hm ho hp
  go_enter Tryz.func9, Tryz.ntmps9
  go_wp2_with fail
  refine (CO1.out w).mono ?_
  rintro e w1 ⟨rfl, k1⟩
  have HT1 := Lib.hid k1
  clear k1
  go_wp2_with fail
  refine (CO2.out w1).mono ?_
  rintro e w2 ⟨rfl, k2⟩
  have HT2 := Lib.hid (Add.trans HT1.out k2)
  clear HT1 k2
  go_wp2_with fail
  refine (CM1.out w2 HT2.out).mono ?_
  rintro e w3 ⟨r1, hv1, rfl, hG, k3⟩
  obtain ⟨ra1, rc1, rfl⟩ := own_isSlice hG.own
  have HT3 := Lib.hid (Add.trans HT2.out k3)
  clear HT2 k3
  have HA1 := Lib.hid hG.mat
  clear hG CM1
  go_wp2_with fail
  refine (CO2.out w3).mono ?_
  rintro e w4 ⟨rfl, k4⟩
  replace HA1 := Lib.hid (HA1.out.add k4)
  have HT4 := Lib.hid (Add.trans HT3.out k4)
  clear HT3 k4
  go_wp2_with fail
  refine (CO3.out w4).mono ?_
  rintro e w5 ⟨rfl, k5⟩
  replace HA1 := Lib.hid (HA1.out.add k5)
  have HT5 := Lib.hid (Add.trans HT4.out k5)
  clear HT4 k5
  go_wp2_with fail
  refine (CM2.out w5 HT5.out).mono ?_
  rintro e w6 ⟨r2, hv2, rfl, hG, k6⟩
  obtain ⟨ra2, rc2, rfl⟩ := own_isSlice hG.own
  replace HA1 := Lib.hid (HA1.out.add k6)
  have HT6 := Lib.hid (Add.trans HT5.out k6)
  clear HT5 k6
  have HA2 := Lib.hid hG.mat
  clear hG CM2
  go_wp2_with fail
  refine (CO3.out w6).mono ?_
  rintro e w7 ⟨rfl, k7⟩
  replace HA1 := Lib.hid (HA1.out.add k7)
  replace HA2 := Lib.hid (HA2.out.add k7)
  have HT7 := Lib.hid (Add.trans HT6.out k7)
  clear HT6 k7
  go_wp2_with fail
  refine (CO4.out w7).mono ?_
  rintro e w8 ⟨rfl, k8⟩
  replace HA1 := Lib.hid (HA1.out.add k8)
  replace HA2 := Lib.hid (HA2.out.add k8)
  have HT8 := Lib.hid (Add.trans HT7.out k8)
  clear HT7 k8
  go_wp2_with fail
  refine (CM3.out w8 HT8.out).mono ?_
  rintro e w9 ⟨r3, hv3, rfl, hG, k9⟩
  obtain ⟨ra3, rc3, rfl⟩ := own_isSlice hG.own
  replace HA1 := Lib.hid (HA1.out.add k9)
  replace HA2 := Lib.hid (HA2.out.add k9)
  have HT9 := Lib.hid (Add.trans HT8.out k9)
  clear HT8 k9
  have HA3 := Lib.hid hG.mat
  clear hG CM3
  clear CO1 CO2 CO3 CO4
  have CU := Lib.hid (mulN_ok (HA1.out.arg fun i j _ _ => HM.out.1 i j) (HA2.out.arg fun i j _ _ => HM.out.2.1 i j) (HT.out.mono HT9.out) HS.out.1 rfl HS.out.2.1 rfl (by rw [qm_mat, qm_mat]; have q1 := small_w200 HL.out.1 ln.2 lm.2; have q2 := small_w200 HL.out.2.1 lm.2 lo.2; omega))
  go_wp2_with fail
  refine CU.out.mono ?_
  rintro e w10 ⟨G10, gs10, rfl, hE, k10⟩
  rw [qm_mat, qm_mat] at hE
  replace HA1 := Lib.hid (HA1.out.add k10)
  replace HA2 := Lib.hid (HA2.out.add k10)
  replace HA3 := Lib.hid (HA3.out.add k10)
  have HT10 := Lib.hid (Add.trans HT9.out k10)
  clear HT9 k10
  have HAB : Hid (MatP true w10 (.slice (some ⟨G10, 0, none⟩) n n) n (fun _ => o) _) := Lib.hid (hE.mat (by unfold maxLen; omega) (fun i hi => by unfold maxLen; omega))
  clear hE CU
  have CU := Lib.hid (mulN_ok (HA2.out.arg fun i j _ _ => HM.out.2.1 i j) (HA3.out.arg fun i j _ _ => HM.out.2.2 i j) (HT.out.mono HT10.out) HS.out.2.1 rfl HS.out.2.2 rfl (by rw [qm_mat, qm_mat]; have q1 := small_w200 HL.out.2.1 lm.2 lo.2; have q2 := small_w200 HL.out.2.2 lo.2 lp.2; omega))
  go_wp2_with fail
  refine CU.out.mono ?_
  rintro e w11 ⟨G11, gs11, rfl, hE, k11⟩
  rw [qm_mat, qm_mat] at hE
  replace HA1 := Lib.hid (HA1.out.add k11)
  replace HA2 := Lib.hid (HA2.out.add k11)
  replace HA3 := Lib.hid (HA3.out.add k11)
  replace HAB := Lib.hid (HAB.out.add k11)
  have HT11 := Lib.hid (Add.trans HT10.out k11)
  clear HT10 k11
  have HBC : Hid (MatP true w11 (.slice (some ⟨G11, 0, none⟩) m m) m (fun _ => p) _) := Lib.hid (hE.mat (by unfold maxLen; omega) (fun i hi => by unfold maxLen; omega))
  clear hE CU
  have CU := Lib.hid (mulN_ok (HAB.out.arg fun i j _ _ => (mul_fit lm.2 HL.out.1 HL.out.2.1 i j).sm) (HA3.out.arg fun i j _ _ => HM.out.2.2 i j) (HT.out.mono HT11.out) (mul_shape ln lm.2 lo HL.out.1 HL.out.2.1) rfl HS.out.2.2 rfl (by rw [qm_can, qm_mat]; have q1 := mul_wt2 ln.2 lm.2 lo.2 HL.out.1 HL.out.2.1; have q2 := small_w200 HL.out.2.2 lo.2 lp.2; omega))
  go_wp2_with fail
  refine CU.out.mono ?_
  rintro e w12 ⟨G12, gs12, rfl, hE, k12⟩
  rw [qm_can, qm_mat, mulM_assoc] at hE
  replace HA1 := Lib.hid (HA1.out.add k12)
  replace HA2 := Lib.hid (HA2.out.add k12)
  replace HA3 := Lib.hid (HA3.out.add k12)
  replace HAB := Lib.hid (HAB.out.add k12)
  replace HBC := Lib.hid (HBC.out.add k12)
  have HT12 := Lib.hid (Add.trans HT11.out k12)
  clear HT11 k12
  have HX : Hid (MatP true w12 (.slice (some ⟨G12, 0, none⟩) n n) n (fun _ => p) _) := Lib.hid (hE.mat (by unfold maxLen; omega) (fun i hi => by unfold maxLen; omega))
  clear hE CU
  have CU := Lib.hid (mulN_ok (HA1.out.arg fun i j _ _ => HM.out.1 i j) (HBC.out.arg fun i j _ _ => (mul_fit lo.2 HL.out.2.1 HL.out.2.2 i j).sm) (HT.out.mono HT12.out) HS.out.1 rfl (mul_shape lm lo.2 lp HL.out.2.1 HL.out.2.2) rfl (by rw [qm_mat, qm_can]; have q1 := mul_wt2 lm.2 lo.2 lp.2 HL.out.2.1 HL.out.2.2; have q2 := small_w200 HL.out.1 ln.2 lm.2; omega))
  go_wp2_with fail
  refine CU.out.mono ?_
  rintro e w13 ⟨G13, gs13, rfl, hE, k13⟩
  rw [qm_mat, qm_can] at hE
  replace HA1 := Lib.hid (HA1.out.add k13)
  replace HA2 := Lib.hid (HA2.out.add k13)
  replace HA3 := Lib.hid (HA3.out.add k13)
  replace HAB := Lib.hid (HAB.out.add k13)
  replace HBC := Lib.hid (HBC.out.add k13)
  replace HX := Lib.hid (HX.out.add k13)
  have HT13 := Lib.hid (Add.trans HT12.out k13)
  clear HT12 k13
  have HY : Hid (MatP true w13 (.slice (some ⟨G13, 0, none⟩) n n) n (fun _ => p) _) := Lib.hid (hE.mat (by unfold maxLen; omega) (fun i hi => by unfold maxLen; omega))
  clear hE CU
  have CQ := Lib.hid (matrix_yes HX.out HY.out (fun i _ => by omega))
  go_wp2_with fail
  refine CQ.out.mono ?_
  rintro e w14 ⟨rfl, k14⟩
  have HT14 := Lib.hid (Add.trans HT13.out k14)
  clear HT13 k14 CQ
  have CA := Lib.hid (awakeN w14 (HT.out.mono HT14.out))
  go_wp2_with fail
  refine CA.out.mono ?_
  rintro e w15 ⟨rfl, k15⟩
  go_wp2_with fail
  go_ret
  exact ⟨rfl, Add.trans HT14.out k15⟩
end Go.Proofs.YtbeoeackahmpbaaGreatDoor
