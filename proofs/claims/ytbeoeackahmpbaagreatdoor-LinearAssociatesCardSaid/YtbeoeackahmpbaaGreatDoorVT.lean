/- The law LinearSolves. -/
import Derived.Test.YtbeoeackahmpbaaGreatDoorVS
import Derived.Test.YtbeoeackahmpbaaGreatDoorJV8
import Derived.Test.YtbeoeackahmpbaaGreatDoorVo
import Derived.Deep.Cut
namespace Go.Proofs.YtbeoeackahmpbaaGreatDoor
open Go.RowKit NatM Go.Proofs.YtbeoeackahmpbaaGreatDoor.Api LinM

/-- A determinant of a matrix of small weight fits. -/
theorem det_fit {A : Mat} {n x : Nat} (hn : n ≤ 24) (hw : wtM (fun i j => can (A i j)) (fun _ => n) n ≤ x) (hx : x ≤ 1930) : Fit (LinM.det n A) := by
  have h := elim_start A n n x hw
  have hd := h.det fun l => l
  have h0 := h.s0
  obtain ⟨e, k1, k2, k3⟩ := h.size
  have w1 : Whole (LinM.det n (fun i l => ((wf (A i) n : Nat) : Rat) * A i l)) := det_whole n _ fun i k hi hk => (k1 i k hi hk).1
  have one0 : (0 : Rat) ≤ 1 := by decide
  have w2 := det_bound n (fun i l => ((wf (A i) n : Nat) : Rat) * A i l) e (fun i hi => Rat.le_trans one0 (k2 i hi)) fun i k hi hk => (k1 i k hi hk).2
  have hp : (0 : Rat) ≤ prodQ e n := prodQ_nonneg fun i hi => Rat.le_trans one0 (k2 i hi)
  have w3 : fac n * prodQ e n ≤ ((2 ^ (80 + x) : Nat) : Rat) := by
    have q1 := Rat.mul_le_mul_of_nonneg_right (fac24 n hn) hp
    have q2 : ((2 ^ 80 : Nat) : Rat) * prodQ e n ≤ ((2 ^ 80 : Nat) : Rat) * ((2 ^ x : Nat) : Rat) := Rat.mul_le_mul_of_nonneg_left k3 (by decide)
    rw [← Rat.natCast_mul, ← Nat.pow_add] at q2
    exact Rat.le_trans q1 q2
  have hwb := wb_of w1 (Rat.le_trans w2 w3)
  have hs : WB (2 ^ x) ((scN A n n : Nat) : Rat) := (wb_nat _).up (Nat.le_trans (scN_le A n n) (Nat.pow_le_pow_right (by decide) hw))
  have e1 : LinM.det n A = LinM.det n (fun i l => ((wf (A i) n : Nat) : Rat) * A i l) / ((scN A n n : Nat) : Rat) := by
    rw [show (fun i l => ((wf (A i) n : Nat) : Rat) * A i l) = (fun r l => (fun i l => ((wf (A i) n : Nat) : Rat) * A i l) r ((fun l => l) l)) from rfl, hd]
    show LinM.det n A = ((scN A n n : Nat) : Rat) * LinM.det n A / ((scN A n n : Nat) : Rat)
    generalize ((scN A n n : Nat) : Rat) = s at h0 ⊢
    generalize LinM.det n A = D
    grind
  rw [e1]
  exact wb_div hwb hs h0 (pw_two128 (Nat.le_refl _) (by omega)) (pw_two128 (Nat.le_refl _) (by omega))
/-- The values of the matrix that bytes stand for. -/
def mQ (n : Nat) (L : Nat → Int) (cols : Nat) : Mat := fun i j => if i * cols + j < n then elQ (L (i * cols + j)) else 0
theorem matT_can (n : Nat) (L : Nat → Int) (cols i j : Nat) : matT n L cols i j = can (mQ n L cols i j) := by
  unfold matT mQ elT
  split <;> rfl
theorem qm_mat (n : Nat) (L : Nat → Int) (cols : Nat) : qm (matT n L cols) = mQ n L cols := by
  funext i j
  unfold qm
  rw [matT_can, qv_can]
/-- Small numbers. -/
def Small (q : Rat) : Prop := q.num.natAbs ≤ 15 ∧ q.den ≤ 8
theorem small_mQ {n : Nat} {L : Nat → Int} (hL : ∀ i, i < n → -128 ≤ L i ∧ L i ≤ 127) (cols i j : Nat) : Small (mQ n L cols i j) := by
  unfold mQ
  split
  · next h => obtain ⟨h1, h2⟩ := hL _ h; exact (elQ_ok h1 h2).2
  · exact ⟨by decide, by decide⟩
theorem Small.fit {q : Rat} (h : Small q) : Fit q := ⟨small128 (by have := h.1; omega), small128 (by have := h.2; omega)⟩
theorem Small.wt {q : Rat} (h : Small q) : wtF (can q) ≤ 8 := by
  rw [wtF_can]
  have h1 : nb q.num.natAbs ≤ 4 := nb_le_of_lt (by have := h.1; omega)
  have h2 : dbits q ≤ 4 := by
    unfold dbits
    split
    · omega
    · exact nb_le_of_lt (by have := h.2; omega)
  omega
theorem small_wtR {t : Nat → Rat} (h : ∀ j, Small (t j)) (k : Nat) : wtR (fun j => can (t j)) k ≤ k * 8 := sumK_le fun j _ => (h j).wt
theorem small_wtM {A : Mat} (h : ∀ i j, Small (A i j)) (n k : Nat) : wtM (fun i j => can (A i j)) (fun _ => k) n ≤ n * (k * 8) := sumK_le fun i _ => small_wtR (h i) k
theorem small_sq {n : Nat} {L : Nat → Int} (hL : ∀ i, i < n → -128 ≤ L i ∧ L i ≤ 127) {k : Nat} (h1 : 1 ≤ k) (h2 : k ≤ 24) : sqOkL (matT n L k) (fun _ => k) k = true :=
  sqOkL_iff.2 ⟨⟨h1, h2⟩, fun i _ => ⟨rfl, fun j _ => by rw [matT_can]; exact (small_mQ hL k i j).fit.ok⟩⟩
theorem small_vec {n : Nat} {L : Nat → Int} (hL : ∀ i, i < n → -128 ≤ L i ∧ L i ≤ 127) (k : Nat) : vecOk (matT n L k 0) k k = true :=
  vecOk_iff.2 ⟨rfl, fun j _ => by rw [matT_can]; exact (small_mQ hL k 0 j).fit.ok⟩
theorem small_sm {n : Nat} {L : Nat → Int} (hL : ∀ i, i < n → -128 ≤ L i ∧ L i ≤ 127) (k i j : Nat) : Sm (matT n L k i j) := by rw [matT_can]; exact (small_mQ hL k i j).fit.sm
theorem wtF_bound {q : Rat} {k : Nat} (h1 : q.num.natAbs ≤ 2 ^ k) (h2 : q.den ≤ 2 ^ k) : wtF (can q) ≤ 2 * (k + 1) := by
  rw [wtF_can]
  have e : ∀ m, m ≤ 2 ^ k → nb m ≤ k + 1 := fun m hm => nb_le_of_lt (Nat.lt_of_le_of_lt hm (Nat.pow_lt_pow_right (by decide) (by omega)))
  have h3 := e _ h1
  have h4 : dbits q ≤ k + 1 := by
    unfold dbits
    split
    · omega
    · exact e _ h2
  omega
theorem Ri8.lims {w : World} {v : Value} {n : Nat} {L : Nat → Int} (h : Ri8 w v n L) : ∀ i, i < n → -128 ≤ L i ∧ L i ≤ 127 := by
  intro i hi
  obtain ⟨ao, c, e, h0, h1⟩ := h
  obtain ⟨b, off, -, h2⟩ := h1 (by omega)
  exact (h2 i hi).2
set_option maxRecDepth 100000 in
set_option maxHeartbeats 4000000 in
theorem solves_any {w : World} {m0 n1 n2 : Nat} {v1 v2 : Value} {L Lb : Nat → Int} (h0 : m0 < 256) (h1 : Ri8 w v1 n1 L) (h2 : Ri8 w v2 n2 Lb) (hT : Tab w) :
    Calls Tryz.prog 5 #[.int .u8 (m0 : Nat), v1, v2] w (BoolIs w true) := by
  obtain ⟨k, hk⟩ : ∃ k, ordB m0 = k := ⟨_, rfl⟩
  have hk1 : 1 ≤ k ∧ k ≤ 5 := by rw [← hk]; unfold ordB; omega
  have CO := Lib.hid (orderLN (w := w) h0 (Lib.hid hk))
  have HL := Lib.hid (And.intro h1.lims h2.lims)
  have CM1 := Lib.hid (fun w' (ha : Add w w') => matrixN (rows := k) (cols := k) (h1.add ha) (hT.mono ha) (by omega) (by omega))
  have CM2 := Lib.hid (fun w' (ha : Add w w') => matrixN (rows := 1) (cols := k) (h2.add ha) (hT.mono ha) (by omega) (by omega))
  have HT := Lib.hid hT
  obtain ⟨ao, ca, rfl, -, -⟩ := h1
  obtain ⟨bo, cb, rfl, -, -⟩ := h2
  clear h0 hT hk
  go_enter Tryz.func5, Tryz.ntmps5
  go_wp2_with fail
  refine CO.out.mono ?_
  rintro e w1 ⟨rfl, h1⟩
  go_wp2_with fail
  refine (CM1.out w1 h1).mono ?_
  rintro e w2 ⟨ra, hva, rfl, hGa, h2⟩
  obtain ⟨ra1, rc1, rfl⟩ := own_isSlice hGa.own
  have T2 := Add.trans h1 h2
  have HA := Lib.hid hGa
  clear h1 h2 hGa CO CM1
  go_wp2_with fail
  refine (CM2.out w2 T2).mono ?_
  rintro e w3 ⟨rb, hvb, rfl, hGb, h3⟩
  obtain ⟨rb1, rc2, rfl⟩ := own_isSlice hGb.own
  obtain ⟨b, off, ar, cr, rfl, -, hcell, hrow⟩ := hGb.mat.row (show 0 < 1 by omega)
  rw [Nat.add_zero] at hcell
  have T3 := Add.trans T2 h3
  have hMa := (HA.out.add h3).mat.arg fun i j _ _ => small_sm HL.out.1 k i j
  have hRb := hrow.arg fun j _ => small_sm HL.out.2 k 0 j
  have hwa := small_wtM (small_mQ HL.out.1 k) k k
  have hwb := small_wtR (small_mQ HL.out.2 k 0) k
  have hkk : k * (k * 8) ≤ 5 * (5 * 8) := Nat.mul_le_mul hk1.2 (Nat.mul_le_mul_right 8 hk1.2)
  have hqr : qr (matT n2 Lb k 0) = mQ n2 Lb k 0 := by funext j; unfold qr; rw [matT_can, qv_can]
  have hw0 : wtM (fun i j => can (qm (matT n1 L k) i j)) (fun _ => k) k + wtR (fun j => can (qr (matT n2 Lb k 0) j)) k ≤ 240 := by rw [qm_mat, hqr]; omega
  have CS := Lib.hid (fun w' (ha : Add w3 w') => solveN_ok (hMa.add ha) (hRb.add ha) (HT.out.mono (Add.trans T3 ha)) (small_sq HL.out.1 hk1.1 (by omega)) (small_vec HL.out.2 k) (by omega))
  have hdF : detF (matT n1 L k) (fun _ => k) k = (can (LinM.det k (mQ n1 L k)), 0) := by
    unfold detF
    rw [if_pos (small_sq HL.out.1 hk1.1 (by omega)), if_pos (by rw [qm_mat]; omega), qm_mat]
  have CD := Lib.hid (fun w' (ha : Add w3 w') => detN (hMa.add ha) (HT.out.mono (Add.trans T3 ha)) _ (Lib.hid hdF))
  have HR := Lib.hid (And.intro hMa (And.intro hRb hrow))
  have HT3 := Lib.hid T3
  have HW0 := Lib.hid (And.intro hw0 (And.intro hqr (And.intro hwa hkk)))
  clear hGb hrow T2 T3 hMa hRb hwa hwb hkk hqr hw0 hdF h3 HA CM2
  go_wp2_with fail
  refine (CS.out w3 (Below.refl _ _)).mono ?_
  clear hcell
  have HDF : Hid (Fit (LinM.det k (mQ n1 L k))) := Lib.hid (det_fit (x := 240) (by omega) (by rw [← qm_mat]; have := HW0.out.1; omega) (by omega))
  rintro e w4 (⟨hz, ax, cx, rfl, h4⟩ | ⟨hz, hsol, hbd, ax, cx, rfl, hO, h4⟩)
  · rw [qm_mat] at hz
    have T4 := Add.trans HT3.out h4
    have HSG : Hid (signQ (LinM.det k (mQ n1 L k)) = 0) := Lib.hid (sign_zero.2 hz)
    have H4 := Lib.hid h4
    have HT4 := Lib.hid T4
    clear hz h4 T4 CS
    go_wp2_with fail
    refine (CD.out w4 H4.out).mono ?_
    rintro e w5 ⟨v5, rfl, hv5, h5⟩
    obtain ⟨a5, n5, c5, e5, d5, f5, rfl, -, -⟩ := id hv5
    obtain ⟨y5, hy5⟩ : ∃ y, y = (can (LinM.det k (mQ n1 L k))).1 := ⟨_, rfl⟩
    dsimp only at hv5 ⊢
    rw [← hy5] at hv5 ⊢
    rw [Int.natCast_zero]
    have hB := box_new w5 y5 a5 n5 c5 e5 d5 f5
    have A6 := add_new w5 (.cells #[.bool y5, .slice a5 n5 c5, .slice e5 d5 f5] 37)
    obtain ⟨W6, hW6⟩ : ∃ W, W = w5.alloc (.cells #[.bool y5, .slice a5 n5 c5, .slice e5 d5 f5] 37) := ⟨_, rfl⟩
    obtain ⟨gd, hgd⟩ : ∃ g, g = w5.heap.size := ⟨_, rfl⟩
    rw [← hW6, ← hgd] at hB
    rw [← hW6] at A6
    have hv6 := hv5.mono A6
    have CSg := Lib.hid (refSignN 0 (Sm.arg hv6 HDF.out.sm) (Lib.hid HDF.out.ok) (Lib.hid (by rw [qv_can]; exact HSG.out)))
    have HT6 := Lib.hid (Add.trans HT4.out (Add.trans h5 A6))
    have H6 := Lib.hid (Add.trans h5 A6)
    have HW6 := Lib.hid (And.intro hW6 hgd)
    have p0 := hB.c0
    have p1 := hB.c1
    have p2 := hB.c2
    clear hv5 hv6 hB A6 h5 hW6 hgd hy5 CD
    go_upto_region 6 with fail
    rw [← HW6.out.1, ← HW6.out.2]
    clear HW6
    go_wp2_with fail
    refine CSg.out.mono ?_
    rintro e w7 ⟨rfl, h7⟩
    clear CSg
    have CA := Lib.hid (awakeN w7 (HT.out.mono (Add.trans HT6.out h7)))
    have HT7 := Lib.hid (Add.trans HT6.out h7)
    clear h7
    go_wp2_with fail
    refine CA.out.mono ?_
    rintro e w8 ⟨rfl, h8⟩
    go_wp2_with fail
    go_ret
    exact ⟨rfl, Add.trans HT7.out h8⟩
  · rw [qm_mat] at hz
    have T4 := Add.trans HT3.out h4
    obtain ⟨t, ht⟩ : ∃ t, t = signQ (LinM.det k (mQ n1 L k)) := ⟨_, rfl⟩
    have ht0 : (t == 0) = false := by
      have : t ≠ 0 := fun e => hz (sign_zero.1 (by rw [← ht, e]))
      simpa using this
    have HSG : Hid (signQ (LinM.det k (mQ n1 L k)) = t) := Lib.hid ht.symm
    obtain ⟨so, hso⟩ : ∃ so : Nat → Rat, so = fun i => solB k (qm (matT n1 L k)) (fun i _ => qr (matT n2 Lb k 0) i) i 0 := ⟨_, rfl⟩
    have hx : OwnF w4 w3.heap.size (.slice ax k cx) k (fun i => can (so i)) := by rw [hso]; exact hO
    have hbs : ∀ i, i < k → (so i).num.natAbs ≤ 2 ^ (80 + wtAb k (qm (matT n1 L k)) (qr (matT n2 Lb k 0))) ∧ (so i).den ≤ 2 ^ (80 + wtAb k (qm (matT n1 L k)) (qr (matT n2 Lb k 0))) := by rw [hso]; exact hbd
    have hq : ∀ i, i < k → qr (matT n2 Lb k 0) i = LinM.sumQ (fun q => qm (matT n1 L k) i q * so q) k := by rw [hso]; exact hsol
    have hW240 : wtAb k (qm (matT n1 L k)) (qr (matT n2 Lb k 0)) ≤ 240 := HW0.out.1
    obtain ⟨xw, hxw⟩ : ∃ xw, xw = wtAb k (qm (matT n1 L k)) (qr (matT n2 Lb k 0)) := ⟨_, rfl⟩
    rw [← hxw] at hbs hW240
    have hfs : ∀ i, i < k → Fit (so i) := fun i hi => ⟨pw_two128 (hbs i hi).1 (by omega), pw_two128 (hbs i hi).2 (by omega)⟩
    have hqs : qr (fun i => can (so i)) = so := by funext i; unfold qr; rw [qv_can]
    have hws : wtR (fun j => can (so j)) k ≤ k * (2 * (80 + xw + 1)) := sumK_le fun i hi => wtF_bound (hbs i hi).1 (hbs i hi).2
    have hws2 : k * (2 * (80 + xw + 1)) ≤ 5 * (2 * (80 + 240 + 1)) := Nat.mul_le_mul hk1.2 (by omega)
    have CAp := Lib.hid (fun w' (ha : Add w4 w') => applyN_ok (c := k) ((HR.out.1.add h4).add ha) ((hx.row.arg fun i hi => (hfs i hi).sm).add ha) (HT.out.mono (Add.trans T4 ha)) (by have := small_sq HL.out.1 hk1.1 (show k ≤ 24 by omega); unfold sqOkL at this; exact (Bool.and_eq_true _ _ ▸ this).1) rfl (vecOk_iff.2 ⟨rfl, fun j hj => (hfs j hj).ok⟩) (by rw [hqs, qm_mat]; have := HW0.out.2.2; omega))
    have HMV : Hid (∀ i, i < k → can (mulV (qm (matT n1 L k)) (qr fun i => can (so i)) k i) = matT n2 Lb k 0 i) := Lib.hid fun i hi => by
      rw [hqs, matT_can, ← HW0.out.2.1, hq i hi]; rfl
    have H4 := Lib.hid h4
    have HT4 := Lib.hid T4
    clear hz h4 T4 CS hsol hbd hO ht hx hbs hq hW240 hxw hfs hqs hws hws2 hso
    go_wp2_with fail
    refine (CD.out w4 H4.out).mono ?_
    rintro e w5 ⟨v5, rfl, hv5, h5⟩
    obtain ⟨a5, n5, c5, e5, d5, f5, rfl, -, -⟩ := id hv5
    obtain ⟨y5, hy5⟩ : ∃ y, y = (can (LinM.det k (mQ n1 L k))).1 := ⟨_, rfl⟩
    dsimp only at hv5 ⊢
    rw [← hy5] at hv5 ⊢
    rw [Int.natCast_zero]
    have hB := box_new w5 y5 a5 n5 c5 e5 d5 f5
    have A6 := add_new w5 (.cells #[.bool y5, .slice a5 n5 c5, .slice e5 d5 f5] 37)
    obtain ⟨W6, hW6⟩ : ∃ W, W = w5.alloc (.cells #[.bool y5, .slice a5 n5 c5, .slice e5 d5 f5] 37) := ⟨_, rfl⟩
    obtain ⟨gd, hgd⟩ : ∃ g, g = w5.heap.size := ⟨_, rfl⟩
    rw [← hW6, ← hgd] at hB
    rw [← hW6] at A6
    have hv6 := hv5.mono A6
    have CSg := Lib.hid (refSignN t (Sm.arg hv6 HDF.out.sm) (Lib.hid HDF.out.ok) (Lib.hid (by rw [qv_can]; exact HSG.out)))
    have HT6 := Lib.hid (Add.trans HT4.out (Add.trans h5 A6))
    have H6 := Lib.hid (Add.trans h5 A6)
    have HW6 := Lib.hid (And.intro hW6 hgd)
    have p0 := hB.c0
    have p1 := hB.c1
    have p2 := hB.c2
    clear hv5 hv6 hB A6 h5 hW6 hgd hy5 CD
    go_upto_region 6 with fail
    rw [← HW6.out.1, ← HW6.out.2]
    clear HW6
    go_wp2_with fail
    refine CSg.out.mono ?_
    rintro e w7 ⟨rfl, h7⟩
    clear CSg
    have CAp7 := Lib.hid (CAp.out w7 (Add.trans H6.out h7))
    have HT7 := Lib.hid (Add.trans HT6.out h7)
    have H7 := Lib.hid (Add.trans H4.out (Add.trans H6.out h7))
    clear h7 CAp H6 HT6
    go_wp2_with fail
    refine CAp7.out.mono ?_
    rintro e w8 ⟨g8, rfl, hB8, hg8, h8⟩
    have CF := Lib.hid (fracs_yes ((hB8.row (by unfold maxLen; omega)).congr HMV.out) (HR.out.2.2.add (Add.trans H7.out h8)) (by omega))
    have HT8 := Lib.hid (Add.trans HT7.out h8)
    clear hB8 hg8 h8 CAp7 HT7 H7
    go_wp2_with fail
    refine CF.out.mono ?_
    rintro e w9 ⟨rfl, h9⟩
    have CA := Lib.hid (awakeN w9 (HT.out.mono (Add.trans HT8.out h9)))
    have HT9 := Lib.hid (Add.trans HT8.out h9)
    clear h9 CF
    go_wp2_with fail
    refine CA.out.mono ?_
    rintro e w10 ⟨rfl, h10⟩
    go_wp2_with fail
    go_ret
    exact ⟨rfl, Add.trans HT9.out h10⟩
end Go.Proofs.YtbeoeackahmpbaaGreatDoor
