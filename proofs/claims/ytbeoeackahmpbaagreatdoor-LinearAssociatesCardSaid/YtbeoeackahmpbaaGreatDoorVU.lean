/- The law LinearInverse. -/
import Derived.Test.YtbeoeackahmpbaaGreatDoorD9
import Derived.Test.YtbeoeackahmpbaaGreatDoorJV8
import Derived.Test.YtbeoeackahmpbaaGreatDoorJV9
import Derived.Deep.Cut
import Derived.Deep.RegionHeld3
namespace Go.Proofs.YtbeoeackahmpbaaGreatDoor
open Go.RowKit NatM Go.Proofs.YtbeoeackahmpbaaGreatDoor.Api LinM

set_option maxRecDepth 100000 in
set_option maxHeartbeats 8000000 in
theorem inverse_any {w : World} {m0 n1 n2 : Nat} {v1 v2 : Value} {L Lb : Nat → Int} (h0 : m0 < 256) (h1 : Ri8 w v1 n1 L) (h2 : Ri8 w v2 n2 Lb) (hT : Tab w) :
    Calls Tryz.prog 6 #[.int .u8 (m0 : Nat), v1, v2] w (BoolIs w true) := by
  have HL := Lib.hid (And.intro h1.lims h2.lims)
  have HRI := Lib.hid (And.intro h1 h2)
  have HT := Lib.hid hT
  obtain ⟨ao, ca, rfl, -, -⟩ := h1
  obtain ⟨bo, cb, rfl, -, -⟩ := h2
  by_cases hk0 : ordB m0 = 1
  · have CO := Lib.hid (orderLN (w := w) h0 (Lib.hid hk0))
    have hk1 : 1 ≤ 1 ∧ 1 ≤ 4 := by omega
    have CM1 := Lib.hid (fun w' (ha : Add w w') => matrixN (rows := 1) (cols := 1) (HRI.out.1.add ha) (HT.out.mono ha) (by omega) (by omega))
    have CM2 := Lib.hid (fun w' (ha : Add w w') => matrixN (rows := 1) (cols := 1) (HRI.out.2.add ha) (HT.out.mono ha) (by omega) (by omega))
    clear h0 hT hk0 HRI
    go_enter Tryz.func6, Tryz.ntmps6
    go_wp2_with fail
    refine CO.out.mono ?_
    rintro e w1 ⟨rfl, h1⟩
    go_wp2_with fail
    refine (CM1.out w1 h1).mono ?_
    rintro e w2 ⟨ra, hva, rfl, hGa, h2⟩
    obtain ⟨ra1, rc1, rfl⟩ := own_isSlice hGa.own
    have T2 := Add.trans h1 h2
    have HA := Lib.hid hGa
    clear h1 h2 hGa CO CM1
    go_wp2_with fail
    refine (CM2.out w2 T2).mono ?_
    rintro e w3 ⟨rb, hvb, rfl, hGb, h3⟩
    obtain ⟨rb1, rc2, rfl⟩ := own_isSlice hGb.own
    obtain ⟨b, off, ar, cr, rfl, -, hcell, hrow⟩ := hGb.mat.row (show 0 < 1 by omega)
    rw [Nat.add_zero] at hcell
    have T3 := Add.trans T2 h3
    have hMa := (HA.out.add h3).mat.arg fun i j _ _ => small_sm HL.out.1 1 i j
    have hRb := hrow.arg fun j _ => small_sm HL.out.2 1 0 j
    have hwa := small_wtM (small_mQ HL.out.1 1) 1 1
    have hwb := small_wtR (small_mQ HL.out.2 1 0) 1
    have hkk : 1 * (1 * 8) ≤ 4 * (4 * 8) := Nat.mul_le_mul hk1.2 (Nat.mul_le_mul_right 8 hk1.2)
    have hqr : qr (matT n2 Lb 1 0) = mQ n2 Lb 1 0 := by funext j; unfold qr; rw [matT_can, qv_can]
    have hsq := small_sq HL.out.1 hk1.1 (show 1 ≤ 24 by omega)
    have hsh : shapeOk (matT n1 L 1) (fun _ => 1) 1 = true := by have := hsq; unfold sqOkL at this; exact (Bool.and_eq_true _ _ ▸ this).1
    have hw1 : wtM (fun i j => can (qm (matT n1 L 1) i j)) (fun _ => 1) 1 ≤ 128 := by rw [qm_mat]; omega
    have hw0 : wtM (fun i j => can (qm (matT n1 L 1) i j)) (fun _ => 1) 1 + wtR (fun j => can (qr (matT n2 Lb 1 0) j)) 1 ≤ 240 := by rw [qm_mat, hqr]; omega
    have CS := Lib.hid (fun w' (ha : Add w3 w') => solveN_ok (hMa.add ha) (hRb.add ha) (HT.out.mono (Add.trans T3 ha)) hsq (small_vec HL.out.2 1) (by omega))
    have CI := Lib.hid (fun w' (ha : Add w3 w') => invertN_ok (hMa.add ha) (HT.out.mono (Add.trans T3 ha)) hsq (by omega))
    have hdF : detF (matT n1 L 1) (fun _ => 1) 1 = (can (LinM.det 1 (mQ n1 L 1)), 0) := by
      unfold detF
      rw [if_pos hsq, if_pos (by omega), qm_mat]
    have CD := Lib.hid (fun w' (ha : Add w3 w') => detN (hMa.add ha) (HT.out.mono (Add.trans T3 ha)) _ (Lib.hid hdF))
    have HR := Lib.hid (And.intro hMa (And.intro hRb hrow))
    have HT3 := Lib.hid T3
    have HW0 := Lib.hid (And.intro hw0 (And.intro hw1 (And.intro hqr hsh)))
    have HDF : Hid (Fit (LinM.det 1 (mQ n1 L 1))) := Lib.hid (det_fit (x := 128) (by omega) (by rw [← qm_mat]; exact hw1) (by omega))
    clear hGb hrow T2 T3 hMa hRb hwa hwb hkk hqr hsq hsh hw1 hw0 hdF h3 HA CM2
    go_wp2_with fail
    refine (CI.out w3 (Below.refl _ _)).mono ?_
    clear hcell CI
    rintro e w4 (⟨hz, rfl, h4⟩ | ⟨hd, hinv, Gi, hvi, rfl, hAI, h4⟩)
    · rw [qm_mat] at hz
      have T4 := Add.trans HT3.out h4
      have HSG : Hid (signQ (LinM.det 1 (mQ n1 L 1)) = 0) := Lib.hid (sign_zero.2 hz)
      have H4 := Lib.hid h4
      have HT4 := Lib.hid T4
      clear hz h4 T4 CS
      go_wp2_with fail
      refine (CD.out w4 H4.out).mono ?_
      rintro e w5 ⟨v5, rfl, hv5, h5⟩
      obtain ⟨a5, n5, c5, e5, d5, f5, rfl, -, -⟩ := id hv5
      obtain ⟨y5, hy5⟩ : ∃ y, y = (can (LinM.det 1 (mQ n1 L 1))).1 := ⟨_, rfl⟩
      dsimp only at hv5 ⊢
      rw [← hy5] at hv5 ⊢
      rw [Int.natCast_zero]
      have hB := box_new w5 y5 a5 n5 c5 e5 d5 f5
      have A6 := add_new w5 (.cells #[.bool y5, .slice a5 n5 c5, .slice e5 d5 f5] 37)
      obtain ⟨W6, hW6⟩ : ∃ W, W = w5.alloc (.cells #[.bool y5, .slice a5 n5 c5, .slice e5 d5 f5] 37) := ⟨_, rfl⟩
      obtain ⟨gd, hgd⟩ : ∃ g, g = w5.heap.size := ⟨_, rfl⟩
      rw [← hW6, ← hgd] at hB
      rw [← hW6] at A6
      have hv6 := hv5.mono A6
      have CSg := Lib.hid (refSignN 0 (Sm.arg hv6 HDF.out.sm) (Lib.hid HDF.out.ok) (Lib.hid (by rw [qv_can]; exact HSG.out)))
      have HT6 := Lib.hid (Add.trans HT4.out (Add.trans h5 A6))
      have HW6 := Lib.hid (And.intro hW6 hgd)
      have p0 := hB.c0
      have p1 := hB.c1
      have p2 := hB.c2
      clear hv5 hv6 hB A6 h5 hW6 hgd hy5 CD
      go_upto_region 9 with fail
      rw [← HW6.out.1, ← HW6.out.2]
      clear HW6
      go_wp2_with fail
      refine CSg.out.mono ?_
      rintro e w7 ⟨rfl, h7⟩
      have CA := Lib.hid (awakeN w7 (HT.out.mono (Add.trans HT6.out h7)))
      have HT7 := Lib.hid (Add.trans HT6.out h7)
      clear h7 CSg
      go_wp2_with fail
      refine CA.out.mono ?_
      rintro e w8 ⟨rfl, h8⟩
      go_wp2_with fail
      go_ret
      exact ⟨rfl, Add.trans HT7.out h8⟩
    · rw [qm_mat] at hd hinv hAI
      obtain ⟨iv, hiv⟩ : ∃ iv : Mat, iv = solB 1 (mQ n1 L 1) idQ := ⟨_, rfl⟩
      rw [← hiv] at hinv hAI
      have hbd : ∀ i l, (iv i l).num.natAbs ≤ 2 ^ 60 ∧ (iv i l).den ≤ 2 ^ 60 := fun i l => by
        rw [hiv]; exact sol_small (by omega) (small_mQ HL.out.1 1) small_id hd i l
      have hfi : ∀ i l, Fit (iv i l) := fun i l => ⟨pw_two128 (hbd i l).1 (by omega), pw_two128 (hbd i l).2 (by omega)⟩
      have hwi : wtM (fun i j => can (iv i j)) (fun _ => 1) 1 ≤ 1 * (1 * (2 * (60 + 1))) := sumK_le fun i _ => sumK_le fun j _ => wtF_bound (hbd i j).1 (hbd i j).2
      have hwi2 : 1 * (1 * (2 * (60 + 1))) ≤ 4 * (4 * (2 * (60 + 1))) := Nat.mul_le_mul hk1.2 (Nat.mul_le_mul_right _ hk1.2)
      have hwI : wtM (fun i j => can (iv i j)) (fun _ => 1) 1 ≤ 1952 := by omega
      have hshI := can_sq (A := iv) ⟨hk1.1, show 1 ≤ 24 by omega⟩ fun i j _ _ => hfi i j
      have hMi := hAI.mat (show 1 ≤ maxLen by unfold maxLen; omega)
      have hMiA := hMi.arg fun i j _ _ => (hfi i j).sm
      have T4 := Add.trans HT3.out h4
      have hleft := left_inv (n := 1) (A := mQ n1 L 1) (V := iv) fun i l hi _ => hinv i l hi
      have CId := Lib.hid (identityN (n := 1) (HT.out.mono T4) hk1.1 (by omega))
      have CM1 := Lib.hid (fun w' (ha : Add w4 w') => mulN_ok ((HR.out.1.add h4).add ha) (hMiA.add ha) (HT.out.mono (Add.trans T4 ha)) HW0.out.2.2.2 rfl hshI rfl (by rw [qm_can]; have := HW0.out.2.1; omega))
      have CM2 := Lib.hid (fun w' (ha : Add w4 w') => mulN_ok (hMiA.add ha) ((HR.out.1.add h4).add ha) (HT.out.mono (Add.trans T4 ha)) hshI rfl HW0.out.2.2.2 rfl (by rw [qm_can]; have := HW0.out.2.1; omega))
      have CAp := Lib.hid (fun w' (ha : Add w4 w') => applyN_ok (c := 1) (hMiA.add ha) ((HR.out.2.1.add h4).add ha) (HT.out.mono (Add.trans T4 ha)) hshI rfl (small_vec HL.out.2 1) (by rw [qm_can]; have := HW0.out.1; omega))
      have HE1 : Hid (∀ i l, i < 1 → l < 1 → can (mulM (qm (matT n1 L 1)) (qm fun i j => can (iv i j)) 1 i l) = idX i l) := Lib.hid fun i l hi hl => by
        rw [qm_mat, qm_can]
        show can (LinM.sumQ (fun q => mQ n1 L 1 i q * iv q l) 1) = can (idQ i l)
        rw [← hinv i l hi]
      have HE2 : Hid (∀ i l, i < 1 → l < 1 → can (mulM (qm fun i j => can (iv i j)) (qm (matT n1 L 1)) 1 i l) = idX i l) := Lib.hid fun i l hi hl => by
        rw [qm_mat, qm_can]
        show can (LinM.sumQ (fun q => iv i q * mQ n1 L 1 q l) 1) = can (idQ i l)
        rw [hleft i l hi hl]
      have HIN := Lib.hid (And.intro hd hleft)
      have H4 := Lib.hid h4
      have HT4 := Lib.hid T4
      clear hd hinv hAI h4 T4 hiv hbd hfi hwi hwi2 hwI hshI hMi hMiA hleft CD
      go_wp2_with fail
      refine CId.out.mono ?_
      rintro e w5 ⟨G5, g5, rfl, hE5, h5⟩
      have hOne : MatP true w5 (.slice (some ⟨G5, 0, none⟩) 1 1) 1 (fun _ => 1) idX := hE5.mat (by unfold maxLen; omega) (fun i hi => by unfold maxLen; omega)
      have HO5 := Lib.hid (And.intro hOne h5)
      clear hE5 hOne h5 CId
      go_wp2_with fail
      refine (CM1.out w5 HO5.out.2).mono ?_
      rintro e w6 ⟨G6, g6, rfl, hE6, h6⟩
      have hP6 : MatP true w6 (.slice (some ⟨G6, 0, none⟩) 1 1) 1 (fun _ => 1) idX := (hE6.congr fun i j hi hj => HE1.out i j hi hj).mat (by unfold maxLen; omega) (fun i hi => by unfold maxLen; omega)
      have HO6 := Lib.hid (And.intro (HO5.out.1.add h6) (And.intro hP6 (Add.trans HO5.out.2 h6)))
      clear hE6 hP6 h6 CM1 HO5 HE1
      go_wp2_with fail
      refine (CM2.out w6 HO6.out.2.2).mono ?_
      rintro e w7 ⟨G7, g7, rfl, hE7, h7⟩
      have hP7 : MatP true w7 (.slice (some ⟨G7, 0, none⟩) 1 1) 1 (fun _ => 1) idX := (hE7.congr fun i j hi hj => HE2.out i j hi hj).mat (by unfold maxLen; omega) (fun i hi => by unfold maxLen; omega)
      have HO7 := Lib.hid (And.intro (HO6.out.1.add h7) (And.intro (HO6.out.2.1.add h7) (And.intro hP7 (Add.trans HO6.out.2.2 h7))))
      clear hE7 hP7 h7 CM2 HO6 HE2
      go_wp2_with fail
      refine (CS.out w7 (Add.trans H4.out HO7.out.2.2.2)).mono ?_
      rintro e w8 (⟨hz, -⟩ | ⟨-, hsol, -, ax, cx, rfl, hO, h8⟩)
      · rw [qm_mat] at hz
        exact absurd hz HIN.out.1
      · have hsx := fun i (hi : i < 1) => inv_sol HIN.out.2 (b := qr (matT n2 Lb 1 0)) (x := fun i => solB 1 (qm (matT n1 L 1)) (fun i _ => qr (matT n2 Lb 1 0) i) i 0) (fun i hi => by have := hsol i hi; rw [qm_mat] at this ⊢; exact this) hi
        have HX8 := Lib.hid (And.intro hO.row hsx)
        have HO8 := Lib.hid (And.intro (HO7.out.1.add h8) (And.intro (HO7.out.2.1.add h8) (And.intro (HO7.out.2.2.1.add h8) (Add.trans HO7.out.2.2.2 h8))))
        clear hsol hO h8 hsx CS HO7
        go_wp2_with fail
        refine (CAp.out w8 HO8.out.2.2.2).mono ?_
        rintro e w9 ⟨g9, rfl, hB9, -, h9⟩
        have hR9 : RowP true w9 (.slice (some ⟨g9, 0, none⟩) 1 1) 1 (fun i => can (solB 1 (qm (matT n1 L 1)) (fun i _ => qr (matT n2 Lb 1 0) i) i 0)) := (hB9.row (by unfold maxLen; omega)).congr fun i hi => by
          rw [qm_can]; exact congrArg can (HX8.out.2 i hi)
        have CQ1 := Lib.hid (matrix_yes (HO8.out.2.1.add h9) (HO8.out.1.add h9) (fun i _ => by omega))
        have CQ2 := Lib.hid (fun w' (ha : Add w9 w') => matrix_yes ((HO8.out.2.2.1.add h9).add ha) ((HO8.out.1.add h9).add ha) (fun i _ => by omega))
        have CF := Lib.hid (fun w' (ha : Add w9 w') => fracs_yes ((HX8.out.1.add h9).add ha) (hR9.add ha) (by omega))
        have HT9 := Lib.hid (Add.trans HT4.out (Add.trans HO8.out.2.2.2 h9))
        clear hB9 hR9 h9 CAp HO8 HX8
        go_wp2_with fail
        refine CQ1.out.mono ?_
        rintro e w10 ⟨rfl, h10⟩
        go_wp2_with fail
        refine (CQ2.out w10 h10).mono ?_
        rintro e w11 ⟨rfl, h11⟩
        replace h11 := Add.trans h10 h11
        clear h10
        go_wp2_with fail
        refine (CF.out w11 h11).mono ?_
        rintro e w12 ⟨rfl, h12⟩
        replace h12 := Add.trans HT9.out (Add.trans h11 h12)
        clear h11 CQ1 CQ2 CF
        have CA := Lib.hid (awakeN w12 (HT.out.mono h12))
        have HT12 := Lib.hid h12
        clear h12
        go_wp2_with fail
        refine CA.out.mono ?_
        rintro e w13 ⟨rfl, h13⟩
        go_wp2_with fail
        go_ret
        exact ⟨rfl, Add.trans HT12.out h13⟩
  · obtain ⟨k0, hk⟩ : ∃ k0, ordB m0 = k0 := ⟨_, rfl⟩
    obtain ⟨k, hkk0⟩ : ∃ k, k = k0 - 1 := ⟨_, rfl⟩
    have hk2 : 2 ≤ k0 ∧ k0 ≤ 5 := by rw [← hk]; unfold ordB at hk0 ⊢; omega
    have hk1 : 1 ≤ k ∧ k ≤ 4 := by omega
    have HEK : Hid ((k0 : Int) - 1 = (k : Int)) := Lib.hid (by omega)
    have CO := Lib.hid (orderLN (w := w) h0 (Lib.hid hk))
    have CM1 := Lib.hid (fun w' (ha : Add w w') => matrixN (rows := k) (cols := k) (HRI.out.1.add ha) (HT.out.mono ha) (by omega) (by omega))
    have CM2 := Lib.hid (fun w' (ha : Add w w') => matrixN (rows := 1) (cols := k) (HRI.out.2.add ha) (HT.out.mono ha) (by omega) (by omega))
    have dk : ((k : Int) == 0) = false := by simp; omega
    clear h0 hT hk0 hk HRI hkk0
    go_enter Tryz.func6, Tryz.ntmps6
    go_wp2_with fail
    refine CO.out.mono ?_
    rintro e w1 ⟨rfl, h1⟩
    go_upto_region 2 with fail
    rw [HEK.out]
    go_wp2_with fail
    refine (CM1.out w1 h1).mono ?_
    rintro e w2 ⟨ra, hva, rfl, hGa, h2⟩
    obtain ⟨ra1, rc1, rfl⟩ := own_isSlice hGa.own
    have T2 := Add.trans h1 h2
    have HA := Lib.hid hGa
    clear h1 h2 hGa CO CM1
    go_wp2_with fail
    refine (CM2.out w2 T2).mono ?_
    rintro e w3 ⟨rb, hvb, rfl, hGb, h3⟩
    obtain ⟨rb1, rc2, rfl⟩ := own_isSlice hGb.own
    obtain ⟨b, off, ar, cr, rfl, -, hcell, hrow⟩ := hGb.mat.row (show 0 < 1 by omega)
    rw [Nat.add_zero] at hcell
    have T3 := Add.trans T2 h3
    have hMa := (HA.out.add h3).mat.arg fun i j _ _ => small_sm HL.out.1 k i j
    have hRb := hrow.arg fun j _ => small_sm HL.out.2 k 0 j
    have hwa := small_wtM (small_mQ HL.out.1 k) k k
    have hwb := small_wtR (small_mQ HL.out.2 k 0) k
    have hkk : k * (k * 8) ≤ 4 * (4 * 8) := Nat.mul_le_mul hk1.2 (Nat.mul_le_mul_right 8 hk1.2)
    have hqr : qr (matT n2 Lb k 0) = mQ n2 Lb k 0 := by funext j; unfold qr; rw [matT_can, qv_can]
    have hsq := small_sq HL.out.1 hk1.1 (show k ≤ 24 by omega)
    have hsh : shapeOk (matT n1 L k) (fun _ => k) k = true := by have := hsq; unfold sqOkL at this; exact (Bool.and_eq_true _ _ ▸ this).1
    have hw1 : wtM (fun i j => can (qm (matT n1 L k) i j)) (fun _ => k) k ≤ 128 := by rw [qm_mat]; omega
    have hw0 : wtM (fun i j => can (qm (matT n1 L k) i j)) (fun _ => k) k + wtR (fun j => can (qr (matT n2 Lb k 0) j)) k ≤ 240 := by rw [qm_mat, hqr]; omega
    have CS := Lib.hid (fun w' (ha : Add w3 w') => solveN_ok (hMa.add ha) (hRb.add ha) (HT.out.mono (Add.trans T3 ha)) hsq (small_vec HL.out.2 k) (by omega))
    have CI := Lib.hid (fun w' (ha : Add w3 w') => invertN_ok (hMa.add ha) (HT.out.mono (Add.trans T3 ha)) hsq (by omega))
    have hdF : detF (matT n1 L k) (fun _ => k) k = (can (LinM.det k (mQ n1 L k)), 0) := by
      unfold detF
      rw [if_pos hsq, if_pos (by omega), qm_mat]
    have CD := Lib.hid (fun w' (ha : Add w3 w') => detN (hMa.add ha) (HT.out.mono (Add.trans T3 ha)) _ (Lib.hid hdF))
    have HR := Lib.hid (And.intro hMa (And.intro hRb hrow))
    have HT3 := Lib.hid T3
    have HW0 := Lib.hid (And.intro hw0 (And.intro hw1 (And.intro hqr hsh)))
    have HDF : Hid (Fit (LinM.det k (mQ n1 L k))) := Lib.hid (det_fit (x := 128) (by omega) (by rw [← qm_mat]; exact hw1) (by omega))
    clear hGb hrow T2 T3 hMa hRb hwa hwb hkk hqr hsq hsh hw1 hw0 hdF h3 HA CM2
    go_wp2_with fail
    refine (CI.out w3 (Below.refl _ _)).mono ?_
    clear hcell CI
    rintro e w4 (⟨hz, rfl, h4⟩ | ⟨hd, hinv, Gi, hvi, rfl, hAI, h4⟩)
    · rw [qm_mat] at hz
      have T4 := Add.trans HT3.out h4
      have HSG : Hid (signQ (LinM.det k (mQ n1 L k)) = 0) := Lib.hid (sign_zero.2 hz)
      have H4 := Lib.hid h4
      have HT4 := Lib.hid T4
      clear hz h4 T4 CS
      go_wp2_with fail
      refine (CD.out w4 H4.out).mono ?_
      rintro e w5 ⟨v5, rfl, hv5, h5⟩
      obtain ⟨a5, n5, c5, e5, d5, f5, rfl, -, -⟩ := id hv5
      obtain ⟨y5, hy5⟩ : ∃ y, y = (can (LinM.det k (mQ n1 L k))).1 := ⟨_, rfl⟩
      dsimp only at hv5 ⊢
      rw [← hy5] at hv5 ⊢
      rw [Int.natCast_zero]
      have hB := box_new w5 y5 a5 n5 c5 e5 d5 f5
      have A6 := add_new w5 (.cells #[.bool y5, .slice a5 n5 c5, .slice e5 d5 f5] 37)
      obtain ⟨W6, hW6⟩ : ∃ W, W = w5.alloc (.cells #[.bool y5, .slice a5 n5 c5, .slice e5 d5 f5] 37) := ⟨_, rfl⟩
      obtain ⟨gd, hgd⟩ : ∃ g, g = w5.heap.size := ⟨_, rfl⟩
      rw [← hW6, ← hgd] at hB
      rw [← hW6] at A6
      have hv6 := hv5.mono A6
      have CSg := Lib.hid (refSignN 0 (Sm.arg hv6 HDF.out.sm) (Lib.hid HDF.out.ok) (Lib.hid (by rw [qv_can]; exact HSG.out)))
      have HT6 := Lib.hid (Add.trans HT4.out (Add.trans h5 A6))
      have HW6 := Lib.hid (And.intro hW6 hgd)
      have p0 := hB.c0
      have p1 := hB.c1
      have p2 := hB.c2
      clear hv5 hv6 hB A6 h5 hW6 hgd hy5 CD
      go_upto_region 9 with fail
      rw [← HW6.out.1, ← HW6.out.2]
      clear HW6
      go_wp2_with fail
      refine CSg.out.mono ?_
      rintro e w7 ⟨rfl, h7⟩
      have CA := Lib.hid (awakeN w7 (HT.out.mono (Add.trans HT6.out h7)))
      have HT7 := Lib.hid (Add.trans HT6.out h7)
      clear h7 CSg
      go_wp2_with fail
      refine CA.out.mono ?_
      rintro e w8 ⟨rfl, h8⟩
      go_wp2_with fail
      go_ret
      exact ⟨rfl, Add.trans HT7.out h8⟩
    · rw [qm_mat] at hd hinv hAI
      obtain ⟨iv, hiv⟩ : ∃ iv : Mat, iv = solB k (mQ n1 L k) idQ := ⟨_, rfl⟩
      rw [← hiv] at hinv hAI
      have hbd : ∀ i l, (iv i l).num.natAbs ≤ 2 ^ 60 ∧ (iv i l).den ≤ 2 ^ 60 := fun i l => by
        rw [hiv]; exact sol_small (by omega) (small_mQ HL.out.1 k) small_id hd i l
      have hfi : ∀ i l, Fit (iv i l) := fun i l => ⟨pw_two128 (hbd i l).1 (by omega), pw_two128 (hbd i l).2 (by omega)⟩
      have hwi : wtM (fun i j => can (iv i j)) (fun _ => k) k ≤ k * (k * (2 * (60 + 1))) := sumK_le fun i _ => sumK_le fun j _ => wtF_bound (hbd i j).1 (hbd i j).2
      have hwi2 : k * (k * (2 * (60 + 1))) ≤ 4 * (4 * (2 * (60 + 1))) := Nat.mul_le_mul hk1.2 (Nat.mul_le_mul_right _ hk1.2)
      have hwI : wtM (fun i j => can (iv i j)) (fun _ => k) k ≤ 1952 := by omega
      have hshI := can_sq (A := iv) ⟨hk1.1, show k ≤ 24 by omega⟩ fun i j _ _ => hfi i j
      have hMi := hAI.mat (show k ≤ maxLen by unfold maxLen; omega)
      have hMiA := hMi.arg fun i j _ _ => (hfi i j).sm
      have T4 := Add.trans HT3.out h4
      have hleft := left_inv (n := k) (A := mQ n1 L k) (V := iv) fun i l hi _ => hinv i l hi
      have CId := Lib.hid (identityN (n := k) (HT.out.mono T4) hk1.1 (by omega))
      have CM1 := Lib.hid (fun w' (ha : Add w4 w') => mulN_ok ((HR.out.1.add h4).add ha) (hMiA.add ha) (HT.out.mono (Add.trans T4 ha)) HW0.out.2.2.2 rfl hshI rfl (by rw [qm_can]; have := HW0.out.2.1; omega))
      have CM2 := Lib.hid (fun w' (ha : Add w4 w') => mulN_ok (hMiA.add ha) ((HR.out.1.add h4).add ha) (HT.out.mono (Add.trans T4 ha)) hshI rfl HW0.out.2.2.2 rfl (by rw [qm_can]; have := HW0.out.2.1; omega))
      have CAp := Lib.hid (fun w' (ha : Add w4 w') => applyN_ok (c := k) (hMiA.add ha) ((HR.out.2.1.add h4).add ha) (HT.out.mono (Add.trans T4 ha)) hshI rfl (small_vec HL.out.2 k) (by rw [qm_can]; have := HW0.out.1; omega))
      have HE1 : Hid (∀ i l, i < k → l < k → can (mulM (qm (matT n1 L k)) (qm fun i j => can (iv i j)) k i l) = idX i l) := Lib.hid fun i l hi hl => by
        rw [qm_mat, qm_can]
        show can (LinM.sumQ (fun q => mQ n1 L k i q * iv q l) k) = can (idQ i l)
        rw [← hinv i l hi]
      have HE2 : Hid (∀ i l, i < k → l < k → can (mulM (qm fun i j => can (iv i j)) (qm (matT n1 L k)) k i l) = idX i l) := Lib.hid fun i l hi hl => by
        rw [qm_mat, qm_can]
        show can (LinM.sumQ (fun q => iv i q * mQ n1 L k q l) k) = can (idQ i l)
        rw [hleft i l hi hl]
      have HIN := Lib.hid (And.intro hd hleft)
      have H4 := Lib.hid h4
      have HT4 := Lib.hid T4
      clear hd hinv hAI h4 T4 hiv hbd hfi hwi hwi2 hwI hshI hMi hMiA hleft CD
      go_wp2_with fail
      refine CId.out.mono ?_
      rintro e w5 ⟨G5, g5, rfl, hE5, h5⟩
      have hOne : MatP true w5 (.slice (some ⟨G5, 0, none⟩) k k) k (fun _ => k) idX := hE5.mat (by unfold maxLen; omega) (fun i hi => by unfold maxLen; omega)
      have HO5 := Lib.hid (And.intro hOne h5)
      clear hE5 hOne h5 CId
      go_wp2_with fail
      refine (CM1.out w5 HO5.out.2).mono ?_
      rintro e w6 ⟨G6, g6, rfl, hE6, h6⟩
      have hP6 : MatP true w6 (.slice (some ⟨G6, 0, none⟩) k k) k (fun _ => k) idX := (hE6.congr fun i j hi hj => HE1.out i j hi hj).mat (by unfold maxLen; omega) (fun i hi => by unfold maxLen; omega)
      have HO6 := Lib.hid (And.intro (HO5.out.1.add h6) (And.intro hP6 (Add.trans HO5.out.2 h6)))
      clear hE6 hP6 h6 CM1 HO5 HE1
      go_wp2_with fail
      refine (CM2.out w6 HO6.out.2.2).mono ?_
      rintro e w7 ⟨G7, g7, rfl, hE7, h7⟩
      have hP7 : MatP true w7 (.slice (some ⟨G7, 0, none⟩) k k) k (fun _ => k) idX := (hE7.congr fun i j hi hj => HE2.out i j hi hj).mat (by unfold maxLen; omega) (fun i hi => by unfold maxLen; omega)
      have HO7 := Lib.hid (And.intro (HO6.out.1.add h7) (And.intro (HO6.out.2.1.add h7) (And.intro hP7 (Add.trans HO6.out.2.2 h7))))
      clear hE7 hP7 h7 CM2 HO6 HE2
      go_wp2_with fail
      refine (CS.out w7 (Add.trans H4.out HO7.out.2.2.2)).mono ?_
      rintro e w8 (⟨hz, -⟩ | ⟨-, hsol, -, ax, cx, rfl, hO, h8⟩)
      · rw [qm_mat] at hz
        exact absurd hz HIN.out.1
      · have hsx := fun i (hi : i < k) => inv_sol HIN.out.2 (b := qr (matT n2 Lb k 0)) (x := fun i => solB k (qm (matT n1 L k)) (fun i _ => qr (matT n2 Lb k 0) i) i 0) (fun i hi => by have := hsol i hi; rw [qm_mat] at this ⊢; exact this) hi
        have HX8 := Lib.hid (And.intro hO.row hsx)
        have HO8 := Lib.hid (And.intro (HO7.out.1.add h8) (And.intro (HO7.out.2.1.add h8) (And.intro (HO7.out.2.2.1.add h8) (Add.trans HO7.out.2.2.2 h8))))
        clear hsol hO h8 hsx CS HO7
        go_wp2_with fail
        refine (CAp.out w8 HO8.out.2.2.2).mono ?_
        rintro e w9 ⟨g9, rfl, hB9, -, h9⟩
        have hR9 : RowP true w9 (.slice (some ⟨g9, 0, none⟩) k k) k (fun i => can (solB k (qm (matT n1 L k)) (fun i _ => qr (matT n2 Lb k 0) i) i 0)) := (hB9.row (by unfold maxLen; omega)).congr fun i hi => by
          rw [qm_can]; exact congrArg can (HX8.out.2 i hi)
        have CQ1 := Lib.hid (matrix_yes (HO8.out.2.1.add h9) (HO8.out.1.add h9) (fun i _ => by omega))
        have CQ2 := Lib.hid (fun w' (ha : Add w9 w') => matrix_yes ((HO8.out.2.2.1.add h9).add ha) ((HO8.out.1.add h9).add ha) (fun i _ => by omega))
        have CF := Lib.hid (fun w' (ha : Add w9 w') => fracs_yes ((HX8.out.1.add h9).add ha) (hR9.add ha) (by omega))
        have HT9 := Lib.hid (Add.trans HT4.out (Add.trans HO8.out.2.2.2 h9))
        clear hB9 hR9 h9 CAp HO8 HX8
        go_wp2_with fail
        refine CQ1.out.mono ?_
        rintro e w10 ⟨rfl, h10⟩
        go_wp2_with fail
        refine (CQ2.out w10 h10).mono ?_
        rintro e w11 ⟨rfl, h11⟩
        replace h11 := Add.trans h10 h11
        clear h10
        go_wp2_with fail
        refine (CF.out w11 h11).mono ?_
        rintro e w12 ⟨rfl, h12⟩
        replace h12 := Add.trans HT9.out (Add.trans h11 h12)
        clear h11 CQ1 CQ2 CF
        have CA := Lib.hid (awakeN w12 (HT.out.mono h12))
        have HT12 := Lib.hid h12
        clear h12
        go_wp2_with fail
        refine CA.out.mono ?_
        rintro e w13 ⟨rfl, h13⟩
        go_wp2_with fail
        go_ret
        exact ⟨rfl, Add.trans HT12.out h13⟩
end Go.Proofs.YtbeoeackahmpbaaGreatDoor
