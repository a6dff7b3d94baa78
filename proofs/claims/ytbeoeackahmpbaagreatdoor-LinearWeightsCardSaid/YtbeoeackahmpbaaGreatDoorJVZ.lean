import Derived.Test.YtbeoeackahmpbaaGreatDoorJVO
import Derived.Deep.Cut
namespace Go.Proofs.YtbeoeackahmpbaaGreatDoor
open Go.RowKit NatM Go.Proofs.YtbeoeackahmpbaaGreatDoor.Api LinM
end Go.Proofs.YtbeoeackahmpbaaGreatDoor
namespace Go.Proofs.YtbeoeackahmpbaaGreatDoor
open Go.RowKit NatM Go.Proofs.YtbeoeackahmpbaaGreatDoor.Api LinM
set_option maxRecDepth 100000 in
set_option maxHeartbeats 4000000 in
theorem mulN_size {w : World} {va vb : Value} {n c p : Nat} {ma mb : Nat → Nat} {X Y : Nat → Nat → Tri} (h : MatP false w va n ma X) (hv : MatP false w vb c mb Y) (hT : Tab w) (hb : shapeOk X ma n = true) (hc : ma 0 = c) (hy : shapeOk Y mb c = true) (hp : mb 0 = p)
 (hw : wtM (fun i j => can (qm X i j)) (fun _ => c) n + wtM (fun i j => can (qm Y i j)) (fun _ => p) c > 3800) :
 Calls Tryz.prog 26 #[va, vb] w (RefP w 2) := by
 obtain ⟨hn, hc1, hX⟩ := shapeOk_iff.1 hb
 rw [hc] at hX hc1
 obtain ⟨-, hp1, hY⟩ := shapeOk_iff.1 hy
 rw [hp] at hY hp1
 have CS := Lib.hid (shapeN (n, c, true) h (Lib.hid (by unfold shN; rw [if_pos hb, hc])))
 have CS2 := Lib.hid (fun w' (ha : Add w w') => shapeN (c, p, true) (hv.add ha) (Lib.hid (by unfold shN; rw [if_pos hy, hp])))
 have C1 := Lib.hid (fun w' (ha : Add w w') => reducedN (h.add ha) (hT.mono ha) (by omega) (fun i hi => by rw [(hX i hi).1]; omega))
 have C2 := Lib.hid (fun w' (ha : Add w w') => reducedN (hv.add ha) (hT.mono ha) (by omega) (fun i hi => by rw [(hY i hi).1]; omega))
 have HX := Lib.hid hX
 have HY := Lib.hid hY
 have HT := Lib.hid hT
 have HW := Lib.hid hw
 obtain ⟨ao, ca, rfl, -⟩ := h.isSlice
 obtain ⟨bo, cb, rfl, -⟩ := hv.isSlice
 clear h hv hT hb hy hX hY hw hc hp
 go_enter Tryz.func26, Tryz.ntmps26
 go_wp2_with fail
 refine CS.out.mono ?_
 rintro e w1 ⟨rfl, h1⟩
 go_wp2_with fail
 refine (CS2.out w1 h1).mono ?_
 rintro e w2 ⟨rfl, h2⟩
 replace h2 := Add.trans h1 h2
 clear h1 CS CS2
 go_wp2_with fail
 refine (C1.out w2 h2).mono ?_
 rintro e w3 ⟨Ga, ga, rfl, hEa, h3⟩
 replace h3 := Add.trans h2 h3
 have hMa := red_mat hEa (by omega) (by omega) (fun i hi => (HX.out i hi).1) (fun i j hi hj => (HX.out i hi).2 j hj)
 have HMa := Lib.hid hMa
 clear hEa h2 hMa C1
 go_wp2_with fail
 refine (C2.out w3 h3).mono ?_
 rintro e w4 ⟨Gb, gb, rfl, hEb, h4⟩
 have hMa := HMa.out.add h4
 have hMb := red_mat hEb (by omega) (by omega) (fun i hi => (HY.out i hi).1) (fun i j hi hj => (HY.out i hi).2 j hj)
 replace h4 := Add.trans h3 h4
 have hF : ∀ i j, i < n → j < c → Fit (qm X i j) := fun i j hi hj => fit_red ((HX.out i hi).2 j (by rw [(HX.out i hi).1]; exact hj))
 have hFb : ∀ i j, i < c → j < p → Fit (qm Y i j) := fun i j hi hj => fit_red ((HY.out i hi).2 j (by rw [(HY.out i hi).1]; exact hj))
 have CW1 := Lib.hid (weightN hMa (fun i j hi hj => (hF i j hi hj).sm) (by omega) (fun i hi => by omega))
 have CW2 := Lib.hid (fun w' (ha : Add w4 w') => weightN (hMb.add ha) (fun i j hi hj => (hFb i j hi hj).sm) (by omega) (fun i hi => by omega))
 have hbA : wtM (fun i j => can (qm X i j)) (fun _ => c) n ≤ n * (c * 8192) := sumK_le fun i hi => sumK_le fun j hj => wtF_le (hF i j hi hj).sm
 have hbA2 : n * (c * 8192) ≤ 24 * (24 * 8192) := Nat.mul_le_mul hn.2 (Nat.mul_le_mul_right _ hc1.2)
 have hbB : wtM (fun i j => can (qm Y i j)) (fun _ => p) c ≤ c * (p * 8192) := sumK_le fun i hi => sumK_le fun j hj => wtF_le (hFb i j hi hj).sm
 have hbC : c * (p * 8192) ≤ 24 * (24 * 8192) := Nat.mul_le_mul hc1.2 (Nat.mul_le_mul_right _ hp1.2)
 have hb3 : wtM (fun i j => can (qm X i j)) (fun _ => c) n ≤ 4718592 := by omega
 have hb4 : wtM (fun i j => can (qm Y i j)) (fun _ => p) c ≤ 4718592 := by omega
 clear hbA hbA2 hbB hbC
 have H4 := Lib.hid h4
 clear hMa hMb hF hFb hEb h3 h4 HMa C2
 go_wp2_with fail
 refine CW1.out.mono ?_
 rintro e w5 ⟨rfl, h5⟩
 go_wp2_with fail
 refine (CW2.out w5 h5).mono ?_
 rintro e wo ⟨rfl, h6⟩
 have hw2 := HW.out
 have d : (3800 : Int) < ((wtM (fun i j => can (qm X i j)) (fun _ => c) n : Nat) : Int) + ((wtM (fun i j => can (qm Y i j)) (fun _ => p) c : Nat) : Int) := by omega
 have HT6 := Lib.hid (Add.trans H4.out (Add.trans h5 h6))
 clear h5 h6 CW1 CW2 H4
 go_wp2_with fail
 go_ret2
 exact refP2 HT6.out
end Go.Proofs.YtbeoeackahmpbaaGreatDoor
