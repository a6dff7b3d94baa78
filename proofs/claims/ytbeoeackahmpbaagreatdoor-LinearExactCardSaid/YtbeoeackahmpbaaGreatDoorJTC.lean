import Derived.Test.YtbeoeackahmpbaaGreatDoorTb
import Derived.Test.YtbeoeackahmpbaaGreatDoorJVY
import Derived.Test.YtbeoeackahmpbaaGreatDoorVS
import Derived.Test.YtbeoeackahmpbaaGreatDoorJDR
import Derived.Test.YtbeoeackahmpbaaGreatDoorJV3
import Derived.Test.YtbeoeackahmpbaaGreatDoorU5
namespace Go.Proofs.YtbeoeackahmpbaaGreatDoor
open Go.RowKit NatM Go.Proofs.YtbeoeackahmpbaaGreatDoor.Api LinM
theorem elm_add {w3 w4 w5 : World} {G n C : Nat} {gs cs : Nat → Nat} {T : Nat → Nat → Tri} (hT : TM w4 w3.heap.size G n C gs cs T) (h34 : Add w3 w4) (hc : Chg (inT w4 G n gs) w4 w5) : Add w3 w5 :=
 hc.below h34 h34.size fun k hk => by
  rcases hk with rfl | ⟨i, hi, rfl⟩ | hk
  · exact hT.low.1
  · exact hT.low.2 i hi
  · exact Nat.le_trans h34.size hk
def IRes (w : World) (k z : Nat) (e : Ending) (w' : World) : Prop := e = .returned (.tuple #[.int .i64 (k : Nat), .int .i64 (z : Nat)]) ∧ Add w w'
theorem shape_n1 {n q : Nat} {X : Nat → Nat → Tri} {m : Nat → Nat} (hb : shapeOk X m n = true) (hq : m 0 = q) : (1 ≤ n ∧ n ≤ 24) ∧ (1 ≤ q ∧ q ≤ 24) ∧ (∀ i, i < n → m i = q) ∧ ∀ i j, i < n → j < q → okF (X i j) = true := by
 obtain ⟨h1, h2, h3⟩ := shapeOk_iff.1 hb
 rw [hq] at h2 h3
 exact ⟨h1, h2, fun i hi => (h3 i hi).1, fun i j hi hj => (h3 i hi).2 j (by rw [(h3 i hi).1]; exact hj)⟩
set_option maxRecDepth 100000 in
set_option maxHeartbeats 2000000 in
theorem refRank_ok {w : World} {v : Value} {n q : Nat} {m : Nat → Nat} {X : Nat → Nat → Tri} (h : MatP false w v n m X) (hb : shapeOk X m n = true) (hq : m 0 = q) (hw : wtM (fun i j => can (qm X i j)) (fun _ => q) n ≤ 1900) :
 Calls Tryz.prog 23 #[v] w (RkP w n q (qm X)) := by
 obtain ⟨hn, hq1, hm, hok⟩ := shape_n1 hb hq
 have CS := Lib.hid (fun w' (ha : Add w w') => refShapeN (n, q, true) (h.add ha) (Lib.hid (by unfold shN; rw [if_pos hb, hq])))
 have CW := Lib.hid (fun w' (ha : Add w w') => refWeightsN (h.add ha) (fun i j hi hj => hok i j hi (by rw [← hm i hi]; exact hj)) (by omega) (fun i hi => by rw [hm i hi]; omega))
 rw [wtM_shape hm] at CW
 have CC := Lib.hid (fun w' (ha : Add w w') => refCopiedN (h.add ha) hok hm hn (by omega))
 have HWT : Hid (wtM (fun i j => can (qm X i j)) (fun _ => q) n ≤ 1900) := Lib.hid hw
 obtain ⟨N1, hN1⟩ : ∃ z, wtM (fun i j => can (qm X i j)) (fun _ => q) n = z := ⟨_, rfl⟩
 rw [hN1] at CW hw
 have dnw : decide ((1900 : Int) < (N1 : Int)) = false := by simp; omega
 have fnw : ¬ ((1900 : Int) < (N1 : Int)) := by omega
 obtain ⟨ao, ca, rfl, -⟩ := h.isSlice
 clear h hb hok hm hN1 hq
 go_enter Tryz.func23, Tryz.ntmps23
 go_wp2_with fail
 refine (CS.out w (Below.refl _ _)).mono ?_
 rintro e w1 ⟨rfl, h1⟩
 go_wp2_with fail
 refine (CW.out w1 h1).mono ?_
 rintro e w3 ⟨rfl, h3⟩
 have HT3 := Lib.hid (Add.trans h1 h3)
 clear h1 h3 CS CW
 go_wp2_with fail
 refine (CC.out w3 HT3.out).mono ?_
 rintro e w4 ⟨G, cap, hv, rfl, hc1, hc2, hAM, h4⟩
 have hTM := AM.tm hAM (C := q) (fun i _ => rfl) (by omega)
 have CE := Lib.hid (refElimN (cap := cap) (q := q) (x := 1900) hTM hn (Nat.le_refl q) (by omega) HWT.out (by omega))
 have HAM := Lib.hid (And.intro hTM h4)
 clear hAM hTM CC h4 hc1 hc2
 go_wp2_with fail
 refine CE.out.mono ?_
 rintro e w5 ⟨k, p, s, Y, c, W, f, u, d, gs, cs, y5, a5, n5, c5, e5, d5, f5, rfl, hfd, hRE, hT5, hch⟩
 have h35 := elm_add HAM.out.1 HAM.out.2 hch
 have hA := add_new w5 (.cells #[.bool y5, .slice a5 n5 c5, .slice e5 d5 f5] 37)
 have hB := box_new w5 y5 a5 n5 c5 e5 d5 f5
 have HT6 := Lib.hid (Add.trans HT3.out (Add.trans h35 hA))
 have HF : Hid (RkP w n q (qm X) (.returned (.tuple #[.int .i64 (k : Nat), .int .i64 0])) (w5.alloc (.cells #[.bool y5, .slice a5 n5 c5, .slice e5 d5 f5] 37))) := Lib.hid ⟨k, rfl, rank_elim hRE.el, HT6.out⟩
 clear hfd hRE hT5 hch h35 hA hB HT6
 go_wp2_with fail
 go_ret2
 exact HF.out
set_option maxRecDepth 100000 in
set_option maxHeartbeats 1000000 in
theorem refRank_size {w : World} {v : Value} {n q : Nat} {m : Nat → Nat} {X : Nat → Nat → Tri} (h : MatP false w v n m X) (hb : shapeOk X m n = true) (hq : m 0 = q) (hw : ¬ wtM (fun i j => can (qm X i j)) (fun _ => q) n ≤ 1900) :
 Calls Tryz.prog 23 #[v] w (IRes w 0 2) := by
 obtain ⟨hn, hq1, hm, hok⟩ := shape_n1 hb hq
 have CS := Lib.hid (fun w' (ha : Add w w') => refShapeN (n, q, true) (h.add ha) (Lib.hid (by unfold shN; rw [if_pos hb, hq])))
 have CW := Lib.hid (fun w' (ha : Add w w') => refWeightsN (h.add ha) (fun i j hi hj => hok i j hi (by rw [← hm i hi]; exact hj)) (by omega) (fun i hi => by rw [hm i hi]; omega))
 rw [wtM_shape hm] at CW
 have u1 : wtM (fun i j => can (qm X i j)) (fun _ => q) n ≤ 8192000000 := wtM_le (n := n) (fun i j hi hj => (fit_red (hok i j hi hj)).sm) (fun i _ => by omega) (by omega) (Nat.le_refl n)
 obtain ⟨N1, hN1⟩ : ∃ z, wtM (fun i j => can (qm X i j)) (fun _ => q) n = z := ⟨_, rfl⟩
 rw [hN1] at CW hw u1
 have dnw : decide ((1900 : Int) < (N1 : Int)) = true := by simp; omega
 have fnw : ((1900 : Int) < (N1 : Int)) := by omega
 obtain ⟨ao, ca, rfl, -⟩ := h.isSlice
 clear h hb hok hm hN1 hq hw
 go_enter Tryz.func23, Tryz.ntmps23
 go_wp2_with fail
 refine (CS.out w (Below.refl _ _)).mono ?_
 rintro e w1 ⟨rfl, h1⟩
 go_wp2_with fail
 refine (CW.out w1 h1).mono ?_
 rintro e w3 ⟨rfl, h3⟩
 have HT3 := Lib.hid (Add.trans h1 h3)
 clear h1 h3 CS CW
 go_wp2_with fail
 go_ret2
 exact ⟨rfl, HT3.out⟩
set_option maxRecDepth 100000 in
theorem refRank_arg {w : World} {v : Value} {n : Nat} {m : Nat → Nat} {X : Nat → Nat → Tri} (h : MatP false w v n m X) (hb : shapeOk X m n = false) :
 Calls Tryz.prog 23 #[v] w (IRes w 0 1) := by
 have CS := Lib.hid (refShapeN (0, 0, false) h (Lib.hid (by unfold shN; rw [if_neg (by rw [hb]; decide)])))
 obtain ⟨ao, ca, rfl, -⟩ := h.isSlice
 clear h hb
 go_enter Tryz.func23, Tryz.ntmps23
 go_wp2_with fail
 refine CS.out.mono ?_
 rintro e w1 ⟨rfl, h1⟩
 have H1 := Lib.hid h1
 clear h1 CS
 go_wp2_with fail
 go_ret2
 exact ⟨rfl, H1.out⟩
theorem rank_both {w : World} {v : Value} {n : Nat} {m : Nat → Nat} {X : Nat → Nat → Tri} (h : MatP false w v n m X) (hT : Tab w) :
 ∃ K Z : Nat, ∀ w', Add w w' → Calls Tryz.prog 22 #[v] w' (IRes w' K Z) ∧ Calls Tryz.prog 23 #[v] w' (IRes w' K Z) := by
 by_cases hb : shapeOk X m n = true
 · by_cases hw : wtM (fun i j => can (qm X i j)) (fun _ => m 0) n ≤ 1900
   · obtain ⟨K, hK⟩ := rank_exists (qm X) n (m 0)
     refine ⟨K, 0, fun w' ha => ⟨(rankR (h.add ha) (hT.mono ha) hb rfl hw).mono ?_, (refRank_ok (h.add ha) hb rfl hw).mono ?_⟩⟩
     · rintro e w2 ⟨k, rfl, hR, h2⟩
       rw [hR.unique hK]; exact ⟨rfl, h2⟩
     · rintro e w2 ⟨k, rfl, hR, h2⟩
       rw [hR.unique hK]; exact ⟨rfl, h2⟩
   · exact ⟨0, 2, fun w' ha => ⟨rankN_size (h.add ha) (hT.mono ha) hb rfl hw, refRank_size (h.add ha) hb rfl hw⟩⟩
 · exact ⟨0, 1, fun w' ha => ⟨rankN_arg (h.add ha) (by simpa using hb), refRank_arg (h.add ha) (by simpa using hb)⟩⟩
set_option maxRecDepth 100000 in
set_option maxHeartbeats 4000000 in
theorem refDet_ok {w : World} {v : Value} {n q : Nat} {m : Nat → Nat} {X : Nat → Nat → Tri} (h : MatP false w v n m X) (hb : shapeOk X m n = true) (hq : m 0 = q) (hnq : n = q) (hw : wtM (fun i j => can (qm X i j)) (fun _ => q) n ≤ 1900) :
 Calls Tryz.prog 21 #[v] w (ResF w (can (LinM.det n (qm X)), 0)) := by
 obtain ⟨hn, hq1, hm, hok⟩ := shape_n1 hb hq
 have CS := Lib.hid (fun w' (ha : Add w w') => refShapeN (n, q, true) (h.add ha) (Lib.hid (by unfold shN; rw [if_pos hb, hq])))
 have CW := Lib.hid (fun w' (ha : Add w w') => refWeightsN (h.add ha) (fun i j hi hj => hok i j hi (by rw [← hm i hi]; exact hj)) (by omega) (fun i hi => by rw [hm i hi]; omega))
 rw [wtM_shape hm] at CW
 have CC := Lib.hid (fun w' (ha : Add w w') => refCopiedN (h.add ha) hok hm hn (by omega))
 have HWT : Hid (wtM (fun i j => can (qm X i j)) (fun _ => q) n ≤ 1900) := Lib.hid hw
 obtain ⟨N1, hN1⟩ : ∃ z, wtM (fun i j => can (qm X i j)) (fun _ => q) n = z := ⟨_, rfl⟩
 rw [hN1] at CW hw
 have dnw : decide ((1900 : Int) < (N1 : Int)) = false := by simp; omega
 have fnw : ¬ ((1900 : Int) < (N1 : Int)) := by omega
 obtain ⟨T0, hR⟩ := laid_var w false none 0 0 none 0 0
 obtain ⟨W0, hW0⟩ : ∃ W, W = w.alloc (.cells #[.bool false, .slice none 0 0, .slice none 0 0] 37) := ⟨_, rfl⟩
 obtain ⟨g2, hg2⟩ : ∃ g, g = w.heap.size := ⟨_, rfl⟩
 rw [← hW0] at T0 hR
 rw [← hg2] at hR
 have HW0 := Lib.hid (And.intro hW0 hg2)
 have HR := Lib.hid (And.intro hR T0)
 have I0 : Hid (∀ w', Calls Tryz.prog 38 #[.int .i64 0] w' (RetQ w' 0)) := Lib.hid fun w' => intQ w' (by decide) (by decide +kernel)
 obtain ⟨ao, ca, rfl, -⟩ := h.isSlice
 clear h hb hok hm hN1 hq hW0 hg2 hR T0
 subst hnq
 go_enter Tryz.func21, Tryz.ntmps21
 go_upto_region 1 with fail
 rw [← HW0.out.1, ← HW0.out.2]
 go_wp2_with fail
 refine (CS.out W0 HR.out.2).mono ?_
 rintro e w1 ⟨rfl, h1⟩
 go_wp2_with fail
 refine (CW.out w1 (Add.trans HR.out.2 h1)).mono ?_
 rintro e w3 ⟨rfl, h3⟩
 have HT3 := Lib.hid (Add.trans HR.out.2 (Add.trans h1 h3))
 have HR3 := Lib.hid (HR.out.1.mono (Add.trans h1 h3))
 clear h1 h3 CS CW
 go_wp2_with fail
 refine (CC.out w3 HT3.out).mono ?_
 rintro e w4 ⟨G, cap, hv, rfl, hc1, hc2, hAM, h4⟩
 have hTM := AM.tm hAM (C := n) (fun i _ => rfl) (by omega)
 have CE := Lib.hid (refElimN (cap := cap) (q := n) (x := 1900) hTM hn (Nat.le_refl n) (by omega) HWT.out (by omega))
 have HAM := Lib.hid (And.intro hTM h4)
 clear hAM hTM CC h4 hc1 hc2
 go_wp2_with fail
 refine CE.out.mono ?_
 rintro e w5 ⟨k, p, s, Y, c, W, f, u, d, gs, cs, y5, a5, n5, c5, e5, d5, f5, rfl, hfd, hRE, hT5, hch⟩
 have h35 := elm_add HAM.out.1 HAM.out.2 hch
 have hA := add_new w5 (.cells #[.bool y5, .slice a5 n5 c5, .slice e5 d5 f5] 37)
 have hB := box_new w5 y5 a5 n5 c5 e5 d5 f5
 have HT6 := Lib.hid (Add.trans HT3.out (Add.trans h35 hA))
 obtain ⟨W6, hW6⟩ : ∃ W, W = w5.alloc (.cells #[.bool y5, .slice a5 n5 c5, .slice e5 d5 f5] 37) := ⟨_, rfl⟩
 obtain ⟨g8, hg8⟩ : ∃ g, g = w5.heap.size := ⟨_, rfl⟩
 rw [← hW6, ← hg8] at hB
 rw [← hW6] at hA HT6
 have HW6 := Lib.hid (And.intro hW6 hg8)
 have HR6 := Lib.hid (HR3.out.mono (Add.trans h35 hA))
 have hfd6 := hfd.mono hA
 have p0 := hB.c0
 have p1 := hB.c1
 have p2 := hB.c2
 have hkn := hRE.el.kn
 clear hfd hT5 hch h35 hA hB hW6 hg8 HAM CE
 go_upto_region 7 with fail
 rw [← HW6.out.1, ← HW6.out.2]
 clear HW6
 by_cases hk : k < n
 · have hz : LinM.det n (qm X) = 0 := hRE.el.less hk
   have dk : decide ((k : Int) < (n : Int)) = true := by simp; omega
   have HZ := Lib.hid hz
   clear hRE hfd6 hz p0 p1 p2
   go_wp2_with fail
   refine (I0.out _).mono ?_
   rintro e w7 ⟨y7, a7, n7, c7, e7, d7, f7, rfl, x7, h7⟩
   have hB9 := HR6.out.mono h7
   have hF := resF_put (w := w) (p := (can 0, 0)) hB9 x7 (Add.trans HT6.out h7) (by rw [HW0.out.2]; exact Nat.le_refl _)
   have s0 := hB9.c0
   have s1 := hB9.c1
   have s2 := hB9.c2
   have s3 := hB9.fr 0
   have s4 := hB9.fr 1
   have s5 := hB9.fr 2
   have s6 := hB9.lt
   unfold put3 at hF
   have HF := Lib.hid hF
   clear hF hB9
   clear x7 h7
   go_wp2_with fail
   exact bodyPost_ret (v := .tuple #[.agg #[.bool y7, .slice a7 n7 c7, .slice e7 d7 f7], .int .i64 0]) (by simp [results, Tryz.results21, go_sem, s0, s1, s2]) rfl (by rw [HZ.out]; exact HF.out)
 · have hke : k = n := by omega
   subst hke
   have hd : d = LinM.det k (qm X) := hRE.full
   rw [hd] at hfd6
   have hB9 := HR6.out
   have hF := resF_put (w := w) (p := (can (LinM.det k (qm X)), 0)) hB9 hfd6 HT6.out (by rw [HW0.out.2]; exact Nat.le_refl _)
   have s0 := hB9.c0
   have s1 := hB9.c1
   have s2 := hB9.c2
   have s3 := hB9.fr 0
   have s4 := hB9.fr 1
   have s5 := hB9.fr 2
   have s6 := hB9.lt
   unfold put3 at hF
   have HF := Lib.hid hF
   clear hF hB9
   clear hRE hfd6 hd
   go_wp2_with fail
   exact bodyPost_ret (v := .tuple #[.agg #[.bool y5, .slice a5 n5 c5, .slice e5 d5 f5], .int .i64 0]) (by simp [results, Tryz.results21, go_sem, s0, s1, s2]) rfl HF.out
set_option maxRecDepth 100000 in
set_option maxHeartbeats 2000000 in
theorem refDet_size {w : World} {v : Value} {n q : Nat} {m : Nat → Nat} {X : Nat → Nat → Tri} (h : MatP false w v n m X) (hb : shapeOk X m n = true) (hq : m 0 = q) (hnq : n = q) (hw : ¬ wtM (fun i j => can (qm X i j)) (fun _ => q) n ≤ 1900) :
 Calls Tryz.prog 21 #[v] w (ResF w ((false, 0, 0), 2)) := by
 obtain ⟨hn, hq1, hm, hok⟩ := shape_n1 hb hq
 have CS := Lib.hid (fun w' (ha : Add w w') => refShapeN (n, q, true) (h.add ha) (Lib.hid (by unfold shN; rw [if_pos hb, hq])))
 have CW := Lib.hid (fun w' (ha : Add w w') => refWeightsN (h.add ha) (fun i j hi hj => hok i j hi (by rw [← hm i hi]; exact hj)) (by omega) (fun i hi => by rw [hm i hi]; omega))
 rw [wtM_shape hm] at CW
 have u1 : wtM (fun i j => can (qm X i j)) (fun _ => q) n ≤ 8192000000 := wtM_le (n := n) (fun i j hi hj => (fit_red (hok i j hi hj)).sm) (fun i _ => by omega) (by omega) (Nat.le_refl n)
 obtain ⟨N1, hN1⟩ : ∃ z, wtM (fun i j => can (qm X i j)) (fun _ => q) n = z := ⟨_, rfl⟩
 rw [hN1] at CW hw u1
 have dnw : decide ((1900 : Int) < (N1 : Int)) = true := by simp; omega
 have fnw : ((1900 : Int) < (N1 : Int)) := by omega
 obtain ⟨T0, hR⟩ := laid_var w false none 0 0 none 0 0
 obtain ⟨W0, hW0⟩ : ∃ W, W = w.alloc (.cells #[.bool false, .slice none 0 0, .slice none 0 0] 37) := ⟨_, rfl⟩
 obtain ⟨g2, hg2⟩ : ∃ g, g = w.heap.size := ⟨_, rfl⟩
 rw [← hW0] at T0 hR
 rw [← hg2] at hR
 have HW0 := Lib.hid (And.intro hW0 hg2)
 have HR := Lib.hid (And.intro hR T0)
 obtain ⟨ao, ca, rfl, -⟩ := h.isSlice
 clear h hb hok hm hN1 hq hW0 hg2 hR T0 hw
 subst hnq
 go_enter Tryz.func21, Tryz.ntmps21
 go_upto_region 1 with fail
 rw [← HW0.out.1, ← HW0.out.2]
 go_wp2_with fail
 refine (CS.out W0 HR.out.2).mono ?_
 rintro e w1 ⟨rfl, h1⟩
 go_wp2_with fail
 refine (CW.out w1 (Add.trans HR.out.2 h1)).mono ?_
 rintro e w3 ⟨rfl, h3⟩
 have HT3 := Lib.hid (Add.trans HR.out.2 (Add.trans h1 h3))
 have HR3 := Lib.hid (HR.out.1.mono (Add.trans h1 h3))
 clear h1 h3 CS CW
 have hB9 := HR3.out
 have hF := resF_put (w := w) (p := ((false, 0, 0), 2)) hB9 (fracT_zero _) HT3.out (by rw [HW0.out.2]; exact Nat.le_refl _)
 have s0 := hB9.c0
 have s1 := hB9.c1
 have s2 := hB9.c2
 have s3 := hB9.fr 0
 have s4 := hB9.fr 1
 have s5 := hB9.fr 2
 have s6 := hB9.lt
 unfold put3 at hF
 have HF := Lib.hid hF
 clear hF hB9
 go_wp2_with fail
 exact bodyPost_ret (v := .tuple #[.agg #[.bool false, .slice none 0 0, .slice none 0 0], .int .i64 2]) (by simp [results, Tryz.results21, go_sem, s0, s1, s2]) rfl HF.out
set_option maxRecDepth 100000 in
set_option maxHeartbeats 2000000 in
theorem refDet_arg {w : World} {v : Value} {n : Nat} {m : Nat → Nat} {X : Nat → Nat → Tri} (h : MatP false w v n m X) (hb : sqOkL X m n = false) :
 Calls Tryz.prog 21 #[v] w (ResF w ((false, 0, 0), 1)) := by
 obtain ⟨p, q, b, hp⟩ : ∃ p q b, shN X m n = (p, q, b) := ⟨_, _, _, rfl⟩
 have CS := Lib.hid (fun w' (ha : Add w w') => refShapeN (p, q, b) (h.add ha) (Lib.hid hp))
 have key : b = false ∨ p ≠ q := by
  unfold shN at hp
  unfold sqOkL at hb
  by_cases hs : shapeOk X m n = true
  · rw [if_pos hs] at hp
    obtain ⟨rfl, rfl, rfl⟩ : n = p ∧ m 0 = q ∧ true = b := by simpa using hp
    rw [hs] at hb
    exact .inr (by simpa using hb)
  · rw [if_neg hs] at hp
    obtain ⟨-, -, rfl⟩ : 0 = p ∧ 0 = q ∧ false = b := by simpa using hp
    exact .inl rfl
 obtain ⟨T0, hR⟩ := laid_var w false none 0 0 none 0 0
 obtain ⟨W0, hW0⟩ : ∃ W, W = w.alloc (.cells #[.bool false, .slice none 0 0, .slice none 0 0] 37) := ⟨_, rfl⟩
 obtain ⟨g2, hg2⟩ : ∃ g, g = w.heap.size := ⟨_, rfl⟩
 rw [← hW0] at T0 hR
 rw [← hg2] at hR
 have HW0 := Lib.hid (And.intro hW0 hg2)
 have HR := Lib.hid (And.intro hR T0)
 obtain ⟨ao, ca, rfl, -⟩ := h.isSlice
 clear h hb hp hW0 hg2 hR T0
 cases b with
 | false =>
  clear key
  go_enter Tryz.func21, Tryz.ntmps21
  go_upto_region 1 with fail
  rw [← HW0.out.1, ← HW0.out.2]
  go_wp2_with fail
  refine (CS.out W0 HR.out.2).mono ?_
  rintro e w1 ⟨rfl, h1⟩
  have hB9 := HR.out.1.mono h1
  have hF := resF_put (w := w) (p := ((false, 0, 0), 1)) hB9 (fracT_zero _) (Add.trans HR.out.2 h1) (by rw [HW0.out.2]; exact Nat.le_refl _)
  have s0 := hB9.c0
  have s1 := hB9.c1
  have s2 := hB9.c2
  have s3 := hB9.fr 0
  have s4 := hB9.fr 1
  have s5 := hB9.fr 2
  have s6 := hB9.lt
  unfold put3 at hF
  have HF := Lib.hid hF
  clear hF hB9
  go_wp2_with fail
  exact bodyPost_ret (v := .tuple #[.agg #[.bool false, .slice none 0 0, .slice none 0 0], .int .i64 1]) (by simp [results, Tryz.results21, go_sem, s0, s1, s2]) rfl HF.out
 | true =>
  have hne : p ≠ q := by simpa using key
  have d : ((p : Int) != (q : Int)) = true := by simp; omega
  clear key hne
  go_enter Tryz.func21, Tryz.ntmps21
  go_upto_region 1 with fail
  rw [← HW0.out.1, ← HW0.out.2]
  go_wp2_with fail
  refine (CS.out W0 HR.out.2).mono ?_
  rintro e w1 ⟨rfl, h1⟩
  have hB9 := HR.out.1.mono h1
  have hF := resF_put (w := w) (p := ((false, 0, 0), 1)) hB9 (fracT_zero _) (Add.trans HR.out.2 h1) (by rw [HW0.out.2]; exact Nat.le_refl _)
  have s0 := hB9.c0
  have s1 := hB9.c1
  have s2 := hB9.c2
  have s3 := hB9.fr 0
  have s4 := hB9.fr 1
  have s5 := hB9.fr 2
  have s6 := hB9.lt
  unfold put3 at hF
  have HF := Lib.hid hF
  clear hF hB9
  go_wp2_with fail
  exact bodyPost_ret (v := .tuple #[.agg #[.bool false, .slice none 0 0, .slice none 0 0], .int .i64 1]) (by simp [results, Tryz.results21, go_sem, s0, s1, s2]) rfl HF.out
theorem refDetN {w : World} {v : Value} {n : Nat} {m : Nat → Nat} {X : Nat → Nat → Tri} (h : MatP false w v n m X) : Calls Tryz.prog 21 #[v] w (ResF w (detF X m n)) := by
 unfold detF
 by_cases hb : sqOkL X m n = true
 · have hb2 := hb
   unfold sqOkL at hb2
   rw [Bool.and_eq_true, decide_eq_true_eq] at hb2
   rw [if_pos hb]
   by_cases hw : wtM (fun i j => can (qm X i j)) (fun _ => n) n ≤ 1900
   · rw [if_pos hw]; exact refDet_ok (q := n) h hb2.1 hb2.2.symm rfl hw
   · rw [if_neg hw]; exact refDet_size (q := n) h hb2.1 hb2.2.symm rfl hw
 · rw [if_neg hb]; exact refDet_arg h (by simpa using hb)
end Go.Proofs.YtbeoeackahmpbaaGreatDoor
namespace Go.Proofs.YtbeoeackahmpbaaGreatDoor
open Go.RowKit NatM Go.Proofs.YtbeoeackahmpbaaGreatDoor.Api LinM
def RslP (w : World) (n : Nat) (A : Mat) (b : Nat → Rat) (e : Ending) (w' : World) : Prop :=
 (LinM.det n A = 0 ∧ RefP w 9 e w') ∨ (LinM.det n A ≠ 0 ∧ VRes w n (fun i => can (solB n A (fun i _ => b i) i 0)) 0 e w')
def besT (n i : Nat) (A : Mat) (b : Nat → Rat) : Nat → Nat → Tri := fun a l => if a < i ∧ l = n then can (b a) else can (A a l)
set_option maxRecDepth 100000 in
set_option maxHeartbeats 8000000 in
theorem refSolve_ok {w : World} {va vb : Value} {n q : Nat} {m : Nat → Nat} {X : Nat → Nat → Tri} {y : Nat → Tri} (h : MatP false w va n m X) (hv : RowP false w vb q y) (hb : shapeOk X m n = true) (hq : m 0 = n) (hy : vecOk y q n = true)
 (hw : wtM (fun i j => can (qm X i j)) (fun _ => n) n + wtR (fun j => can (qr y j)) n ≤ 1900) :
 Calls Tryz.prog 16 #[va, vb] w (RslP w n (qm X) (qr y)) := by
 have hqe : q = n := (vecOk_iff.1 hy).1
 obtain ⟨hn, -, hm, hok⟩ := shape_n1 hb hq
 obtain ⟨-, hyo⟩ := vecOk_iff.1 hy
 subst hqe
 have CS := Lib.hid (fun w' (ha : Add w w') => refShapeN (q, q, true) (h.add ha) (Lib.hid (by unfold shN; rw [if_pos hb, hq])))
 have CV := Lib.hid (fun w' (ha : Add w w') => refVectorN true (hv.add ha) (show q ≤ 9223372036854775807 by omega) (Lib.hid hy))
 have CW := Lib.hid (fun w' (ha : Add w w') => refWeightsN (h.add ha) (fun i j hi hj => hok i j hi (by rw [← hm i hi]; exact hj)) (by omega) (fun i hi => by rw [hm i hi]; omega))
 rw [wtM_shape hm] at CW
 have CW2 := Lib.hid (fun w' (ha : Add w w') => refWeightN (hv.add ha) hyo (by omega))
 have CC := Lib.hid (fun w' (ha : Add w w') => refCopiedN (h.add ha) hok hm hn (by omega))
 have HWT : Hid (wtM (fun i j => can (besideQ q (qm X) (fun i _ => qr y i) i j)) (fun _ => q + 1) q ≤ 1900) := Lib.hid (by rw [wtM_beside, wtM_col]; exact hw)
 obtain ⟨N1, hN1⟩ : ∃ z, wtM (fun i j => can (qm X i j)) (fun _ => q) q = z := ⟨_, rfl⟩
 obtain ⟨N2, hN2⟩ : ∃ z, wtR (fun j => can (qr y j)) q = z := ⟨_, rfl⟩
 rw [hN1] at CW hw
 rw [hN2] at CW2 hw
 have hnw : ¬ ((1900 : Int) < (N1 : Int) + (N2 : Int)) := by omega
 have dnw : decide ((1900 : Int) < (N1 : Int) + (N2 : Int)) = false := by simp; omega
 have HV := Lib.hid (And.intro hv hyo)
 obtain ⟨ao, ca, rfl, -⟩ := h.isSlice
 obtain ⟨bo, cb, rfl, -, -, -⟩ := id hv
 clear h hv hb hok hm hN1 hN2 hq hy hyo
 go_enter Tryz.func16, Tryz.ntmps16
 go_wp2_with fail
 refine (CS.out w (Below.refl _ _)).mono ?_
 rintro e w1 ⟨rfl, h1⟩
 go_wp2_with fail
 refine (CV.out w1 h1).mono ?_
 rintro e w2 ⟨rfl, h2⟩
 have h12 := Add.trans h1 h2
 clear h1 h2 CS CV
 go_wp2_with fail
 refine (CW.out w2 h12).mono ?_
 rintro e w3 ⟨rfl, h3⟩
 have h13 := Add.trans h12 h3
 clear h12 h3 CW
 go_wp2_with fail
 refine (CW2.out w3 h13).mono ?_
 rintro e w4 ⟨rfl, h4⟩
 have HT4 := Lib.hid (Add.trans h13 h4)
 clear h13 h4 CW2
 go_wp2_with fail
 refine (CC.out w4 HT4.out).mono ?_
 rintro e w5 ⟨G, cap, hv0, rfl, hc1, hc2, hAM0, h5⟩
 have HAM0 : Hid (AM w5 w4.heap.size G q hv0 (fun a => if a < 0 then q + 1 else q) (besT q 0 (qm X) (qr y))) := Lib.hid (hAM0.congr (fun i _ => by rw [if_neg (by omega)]) fun i j _ _ => by unfold besT; rw [if_neg (by omega)])
 have H5 := Lib.hid h5
 clear hAM0 h5 CC hc1 hc2
 go_wp2_with fail
 go_loopw [10] (fun jj wr => ∃ (j : Nat) (hv : Nat → Value), j ≤ q ∧ jj = .int .i64 (j : Nat) ∧ AM wr w4.heap.size G q hv (fun a => if a < j then q + 1 else q) (besT q j (qm X) (qr y)) ∧ Add w4 wr) (fun jj _ => q - (intOf jj).toNat)
 case atStart => exact ⟨0, hv0, Nat.zero_le _, rfl, HAM0.out, H5.out⟩
 case round =>
  clear HAM0 H5
  obtain ⟨j, hv, hj, rfl, hE, T⟩ := hrel
  rename World => wr
  by_cases hjq : j = q
  · have hE2 : AM wr w4.heap.size G q hv (fun _ => q + 1) (fun i l => can (besideQ q (qm X) (fun i _ => qr y i) i l)) := hE.congr (fun i hi => by rw [if_pos (by omega)]) fun a l ha hl => by
     rw [if_pos (by omega)] at hl
     unfold besT besideQ
     by_cases e : l = q
     · rw [if_pos ⟨by omega, e⟩, if_neg (by omega)]
     · rw [if_neg fun q => e q.2, if_pos (by omega)]
    have hTM := AM.tm hE2 (C := q + 1) (fun i _ => rfl) (by omega)
    have CE := Lib.hid (refElimN (cap := cap) (q := q) (x := 1900) hTM hn (by omega) (by omega) HWT.out (by omega))
    have HAM := Lib.hid (And.intro hTM T)
    clear hE hE2 hTM T
    subst hjq
    go_wp2_with fail
    refine CE.out.mono ?_
    rintro e w6 ⟨k, p, s, Y, c, W, f, u, d, gs, cs, y5, a5, n5, c5, e5, d5, f5, rfl, -, hRE, hT6, hch⟩
    have h46 := elm_add HAM.out.1 HAM.out.2 hch
    have hA := add_new w6 (.cells #[.bool y5, .slice a5 n5 c5, .slice e5 d5 f5] 37)
    obtain ⟨W7, hW7⟩ : ∃ W, W = w6.alloc (.cells #[.bool y5, .slice a5 n5 c5, .slice e5 d5 f5] 37) := ⟨_, rfl⟩
    obtain ⟨g14, hg14⟩ : ∃ g, g = w6.heap.size := ⟨_, rfl⟩
    rw [← hW7] at hA
    have HT7 := Lib.hid (Add.trans HT4.out (Add.trans h46 hA))
    have HTM7 := Lib.hid (hT6.add hA)
    have HW7 := Lib.hid (And.intro hW7 hg14)
    have HRE := Lib.hid hRE
    have hkn := hRE.el.kn
    clear hRE hT6 hch h46 hA hW7 hg14 HAM CE HT4
    go_upto_region 13 with fail
    rw [← HW7.out.1, ← HW7.out.2]
    clear HW7
    by_cases hk : k < j
    · have HF : Hid (RslP w j (qm X) (qr y) (.returned (.tuple #[.slice none 0 0, .int .i64 9])) W7) := Lib.hid (.inl ⟨by rw [← det_beside j (qm X) (fun i _ => qr y i)]; exact HRE.out.el.less hk, rfl, HT7.out⟩)
      have dk : decide ((k : Int) < (j : Int)) = true := by simp; omega
      clear HRE HTM7 HT7
      go_wp2_with fail
      go_ret2
      exact HF.out
    · have hke : k = j := by omega
      subst hke
      obtain ⟨f1, f2, -⟩ := sol_facts (r := 1) HRE.out.el
      have HSOL : Hid (∀ i, i < k → can (refT p Y f i k) = can (solB k (qm X) (fun i _ => qr y i) i 0)) := Lib.hid fun i hi => by
       have h2 := f2 i 0 hi
       rw [Nat.add_zero] at h2
       rw [LinM.RefE.sol HRE.out hi k, h2]
      have HD1 := Lib.hid f1
      clear f1 f2 HRE
      go_wp2_with fail
      go_loopw [15, 16] (fun u i wz => ∃ z : Nat, z ≤ k ∧ i = .int .i64 (z : Nat) ∧ OwnF wz W7.heap.size u z (fun i => can (solB k (qm X) (fun i _ => qr y i) i 0)) ∧ Add W7 wz) (fun _ i _ => k - (intOf i).toNat)
      case atStart => exact ⟨0, Nat.zero_le _, rfl, OwnF.nil _ _ _, Below.refl _ _⟩
      case round =>
       obtain ⟨z, hz, rfl, hO, T⟩ := hrel
       obtain ⟨ua, uc, rfl, -, -⟩ := hO.slice
       rename World => wz
       by_cases hzk : z = k
       · have HF : Hid (RslP w k (qm X) (qr y) (.returned (.tuple #[.slice ua k uc, .int .i64 0])) wz) := Lib.hid (.inr ⟨HD1.out, ua, uc, rfl, by rw [← hzk]; have := hO.row; rw [hzk] at this ⊢; exact this, Add.trans HT7.out T⟩)
         clear hO T HSOL HTM7 HD1
         subst hzk
         go_wp2_with fail
         go_ret2
         exact HF.out
       · have hzl : z < k := by omega
         have hM := HTM7.out.add T
         have h0 := hM.head.cell hzl
         try dsimp only at h0
         obtain ⟨sx, ax, nx, cx, ex, dx, fx, k0, k1, k2, hxx⟩ := (hM.rows z hzl).get (show k < k + 1 by omega)
         obtain ⟨gz, hgz⟩ : ∃ g, g = gs z := ⟨_, rfl⟩
         obtain ⟨cz, hcz⟩ : ∃ g, g = cs z := ⟨_, rfl⟩
         rw [← hgz] at h0 k0 k1 k2
         rw [← hcz] at h0
         rw [HSOL.out z hzl] at hxx
         obtain ⟨a', c', w9, hrun, hO9, T9⟩ := app_box hO hxx T (by omega)
         have HRUN := Lib.hid hrun
         have HN := Lib.hid (And.intro (hO9.congr (t' := fun i => can (solB k (qm X) (fun i _ => qr y i) i 0)) fun i hi => by
          by_cases e : i = z
          · rw [if_pos e, e]
          · rw [if_neg e]) T9)
         clear hO T hM hxx hrun hO9 T9 hgz hcz hzk
         go_wp2_with (at_builtin; refine Lib.wpList_append_run _ rfl _ _ _ _ rfl _ _ rfl rfl _ _ HRUN.out ?_)
         go_roundw
         case rel => exact ⟨z + 1, by omega, by go_num, HN.out.1, HN.out.2⟩
         case measure => simp [intOf]; omega
  · have hjl : j < q := by omega
    obtain ⟨b2, off2, sx, ax, nx, cx, ex, dx, fx, rfl, -, k0, k1, k2, kx⟩ := (HV.out.1.add (Add.trans HT4.out T)).get hjl
    have CR := Lib.hid (refReduceN _ kx (Lib.hid (red_all (HV.out.2 j hjl))))
    have HE := Lib.hid (And.intro hE T)
    clear kx hE T hjq
    go_wp2_with fail
    refine CR.out.mono ?_
    rintro e w6 ⟨v6, rfl, hv6, h6⟩
    obtain ⟨an, qn, cn, ad, dd, cd, rfl, -, -⟩ := id hv6
    obtain ⟨s, hs6⟩ : ∃ y', y' = (can (qv (y j))).1 := ⟨_, rfl⟩
    dsimp only at hv6 ⊢
    rw [← hs6] at hv6 ⊢
    have hO := box_new w6 s an qn cn ad dd cd
    have T3 := add_new w6 (.cells #[.bool s, .slice an qn cn, .slice ad dd cd] 37)
    have hx3 := hv6.mono T3
    have hE := HE.out.1.add h6
    obtain ⟨gx, hgx⟩ : ∃ gx, gx = w6.heap.size := ⟨_, rfl⟩
    obtain ⟨W3, hW3⟩ : ∃ W3, W3 = w6.alloc (.cells #[.bool s, .slice an qn cn, .slice ad dd cd] 37) := ⟨_, rfl⟩
    rw [← hW3] at hx3 T3 hO
    rw [← hgx] at hO
    have TW := Add.trans HE.out.2 (Add.trans h6 T3)
    have hEW := hE.add T3
    have HW3 := Lib.hid (And.intro hW3 hgx)
    obtain ⟨ra, rc, hvj, hcj⟩ := hEW.cell hjl
    rw [if_neg (by omega)] at hvj hcj
    obtain ⟨l, hl⟩ : ∃ l, l = q := ⟨_, rfl⟩
    rw [← hl] at hvj hcj
    have HL := Lib.hid hl
    have HD : Hid (∀ o, Add W3 ((World.drew W3).alloc o)) := Lib.hid fun o => Add.trans (b_drewL (Below.refl _ _)) (add_new _ o)
    have HS : Hid (∀ w', Add W3 w' → w'.cell? ⟨gx, 0, none⟩ = some (.bool s) ∧ w'.cell? ⟨gx, 1, none⟩ = some (.slice an qn cn) ∧ w'.cell? ⟨gx, 2, none⟩ = some (.slice ad dd cd)) := Lib.hid fun w' g => ⟨(hO.mono g).c0, (hO.mono g).c1, (hO.mono g).c2⟩
    have HC1 : Hid (∀ w', Add W3 w' → w'.cell? ⟨G, j, none⟩ = some (.slice ra l rc)) := Lib.hid fun w' g => cell_addL hcj g
    obtain ⟨Wb, hWb⟩ : ∃ Wb, Wb = (World.drew W3).alloc (.cells #[.bool s, .slice an qn cn, .slice ad dd cd] 37) := ⟨_, rfl⟩
    have hAb : Add W3 Wb := by rw [hWb]; exact HD.out _
    have hbk : Wb.heap[W3.heap.size]? = some (.cells #[.bool s, .slice an qn cn, .slice ad dd cd] 37 (0, 0)) := by rw [hWb]; exact heap_alloc_new (World.drew W3) _
    have hrw := hEW.rows j hjl
    rw [if_neg (by omega), ← hl] at hrw
    obtain ⟨a', c', w8, hrun, hO6, hc6, hat⟩ := (hrw.add hAb).append hbk (hx3.mono hAb) (by omega) (Nat.le_trans TW.size hAb.size) 1
    have hE7 := hEW.push hjl hAb hO6 hc6 hat
    have T7 := hEW.below hjl TW hAb hc6 (.slice a' (l + 1) c')
    have hh6 := (hEW.head.add hAb).chg hc6 (hrw.ne hEW.head)
    have C6 : w8.cell? ⟨G, j, none⟩ = some (.slice ra l rc) := by rw [hh6.cell hjl, hvj]
    have f6 := hh6.free j
    have l6 := hh6.lt
    have hgx1 : ¬ (hv j).ownBlock = some gx := fun e => by
     have h7 := (hE.rows j hjl).lt gx e
     have h8 := HW3.out.2
     omega
    have hgx2 : gx ≠ G := fun e => by have := hE.head.lt; have := HW3.out.2; omega
    have hO7 := (hO.mono hAb).chg hc6 hgx1
    have HS6 : Hid (w8.cell? ⟨gx, 0, none⟩ = some (.bool s) ∧ w8.cell? ⟨gx, 1, none⟩ = some (.slice an qn cn) ∧ w8.cell? ⟨gx, 2, none⟩ = some (.slice ad dd cd)) := Lib.hid ⟨hO7.c0, hO7.c1, hO7.c2⟩
    have HS7 : Hid ((w8.setCell ⟨G, j, none⟩ (.slice a' (l + 1) c')).cell? ⟨gx, 0, none⟩ = some (.bool s) ∧ (w8.setCell ⟨G, j, none⟩ (.slice a' (l + 1) c')).cell? ⟨gx, 1, none⟩ = some (.slice an qn cn) ∧ (w8.setCell ⟨G, j, none⟩ (.slice a' (l + 1) c')).cell? ⟨gx, 2, none⟩ = some (.slice ad dd cd)) := Lib.hid (by
     rw [cell_set_other rfl (fun e => hgx2 (congrArg Addr.block e)), cell_set_other rfl (fun e => hgx2 (congrArg Addr.block e)), cell_set_other rfl (fun e => hgx2 (congrArg Addr.block e))]
     exact HS6.out)
    rw [hWb, hvj] at hrun
    have HRUN := Lib.hid hrun
    have HN : Hid (AM (w8.setCell ⟨G, j, none⟩ (.slice a' (l + 1) c')) w4.heap.size G q (fun c => if c = j then .slice a' (l + 1) c' else hv c) (fun a => if a < j + 1 then q + 1 else q) (besT q (j + 1) (qm X) (qr y)) ∧ Add w4 (w8.setCell ⟨G, j, none⟩ (.slice a' (l + 1) c'))) := Lib.hid ⟨hE7.congr (fun i hi => by
     by_cases e : i = j
     · rw [if_pos e, if_pos (by omega), HL.out]
     · rw [if_neg e]
       by_cases e2 : i < j
       · rw [if_pos e2, if_pos (by omega)]
       · rw [if_neg e2, if_neg (by omega)]) (fun i r hi hr => by
     unfold besT
     by_cases e : i = j
     · rw [if_pos e] at hr ⊢
       by_cases e2 : r = l
       · rw [if_pos e2, if_pos ⟨by omega, by rw [e2, HL.out]⟩, e]; rfl
       · rw [if_neg e2, if_neg (by omega), if_neg (fun h => e2 (by rw [h.2, HL.out])), e]
     · rw [if_neg e]
       by_cases e2 : i < j ∧ r = q
       · rw [if_pos e2, if_pos ⟨by omega, e2.2⟩]
       · rw [if_neg e2, if_neg fun h => e2 ⟨by omega, h.2⟩]), T7⟩
    have HSD := Lib.hid (HS.out _ (b_drewL (Below.refl _ W3)))
    have HCD := Lib.hid (HC1.out _ (b_drewL (Below.refl _ W3)))
    obtain ⟨p0, p1, p2⟩ := HS.out W3 (Below.refl _ _)
    have hGl := (hEW.head).lt
    clear hv6 hs6 hx3 T3 hO TW hEW hW3 hE hgx hvj hrw hrun hbk hAb hWb hO6 hc6 hat hE7 T7 hh6 hgx1 hgx2 hO7 hl k0 k1 k2 h6 CR HE
    go_upto_region 11 with fail
    rw [← HW3.out.1, ← HW3.out.2]
    clear HW3
    refine wp_region_T (fun w' => w'.cell? ⟨gx, 0, none⟩ = some (.bool s) ∧ w'.cell? ⟨gx, 1, none⟩ = some (.slice an qn cn) ∧ w'.cell? ⟨gx, 2, none⟩ = some (.slice ad dd cd)) (fun w' => w'.cell? ⟨G, j, none⟩ = some (.slice ra l rc)) 10 (by kernel_rfl) ?_
    show wpAnyT _ _ _ _ _ _ _ 11 #[false, false, false, false, false, false, false, false, false, false, false] _ _
    refine tk (v := ?_) 0 HSD.out HCD.out (Or.inl ⟨?_, ?_⟩) ?_
    rotate_left; rfl
    · (intro w' hSw; try dsimp only at hSw); go_simp; try with_reducible rfl
    try simp only [Act.put, List.setIfInBounds_toArray, List.set_cons_zero, List.set_cons_succ]
    refine tk (v := ?_) 1 HSD.out HCD.out (Or.inl ⟨?_, ?_⟩) ?_
    rotate_left; rfl
    · (intro w' hSw; try dsimp only at hSw); go_simp; try with_reducible rfl
    try simp only [Act.put, List.setIfInBounds_toArray, List.set_cons_zero, List.set_cons_succ]
    refine tk (v := ?_) 2 HSD.out HCD.out (Or.inl ⟨?_, ?_⟩) ?_
    rotate_left; rfl
    · (intro w' hSw; try dsimp only at hSw); go_simp; try with_reducible rfl
    try simp only [Act.put, List.setIfInBounds_toArray, List.set_cons_zero, List.set_cons_succ]
    refine tk (v := ?_) 3 HSD.out HCD.out (Or.inl ⟨?_, ?_⟩) ?_
    rotate_left; rfl
    · (intro w' hSw; try dsimp only at hSw); go_simp; try with_reducible rfl
    try simp only [Act.put, List.setIfInBounds_toArray, List.set_cons_zero, List.set_cons_succ]
    refine tk (v := ?_) 4 HSD.out HCD.out (Or.inl ⟨?_, ?_⟩) ?_
    rotate_left; rfl
    · (intro w' hSw; try dsimp only at hSw); go_simp; try with_reducible rfl
    try simp only [Act.put, List.setIfInBounds_toArray, List.set_cons_zero, List.set_cons_succ]
    refine tk (v := ?_) 5 HSD.out HCD.out (Or.inl ⟨?_, ?_⟩) ?_
    rotate_left; rfl
    · (intro w' hSw; try dsimp only at hSw); go_simp; try with_reducible rfl
    try simp only [Act.put, List.setIfInBounds_toArray, List.set_cons_zero, List.set_cons_succ]
    refine tk (v := ?_) 6 HSD.out HCD.out (Or.inl ⟨?_, ?_⟩) ?_
    rotate_left; rfl
    · (intro w' hSw; try dsimp only at hSw); go_simp; try with_reducible rfl
    try simp only [Act.put, List.setIfInBounds_toArray, List.set_cons_zero, List.set_cons_succ]
    refine wpAnyT_one (i := 7) (by kernel_rfl) (wpOp_do (by simp only [List.getElem?_toArray, List.getElem?_cons_zero, List.getElem?_cons_succ]; rfl) fun K hK => ?_)
    go_simp
    refine hK _ _ ⟨⟨HS.out _ (HD.out _), fun _ => HC1.out _ (HD.out _)⟩, ?_⟩
    clear hK K
    try simp only [List.setIfInBounds_toArray, List.set_cons_zero, List.set_cons_succ]
    refine wpAnyT_one (i := 8) (by kernel_rfl) (wpOp_do (by simp only [List.getElem?_toArray, List.getElem?_cons_zero, List.getElem?_cons_succ]; rfl) fun K hK => ?_)
    refine step_append_run rfl _ _ 23 rfl rfl rfl HRUN.out ?_
    refine hK _ _ ⟨⟨HS6.out, fun _ => C6⟩, ?_⟩
    clear hK K
    try simp only [Act.put, List.setIfInBounds_toArray, List.set_cons_zero, List.set_cons_succ]
    refine wpAnyT_one (i := 9) (by kernel_rfl) (wpOp_do (by simp only [List.getElem?_toArray, List.getElem?_cons_zero, List.getElem?_cons_succ]; rfl) fun K hK => ?_)
    go_simp
    refine hK _ _ ⟨⟨HS6.out, fun _ => C6⟩, ?_⟩
    clear hK K
    try simp only [List.setIfInBounds_toArray, List.set_cons_zero, List.set_cons_succ]
    refine wpAnyT_one (i := 10) (by kernel_rfl) (wpOp_do (by simp only [List.getElem?_toArray, List.getElem?_cons_zero, List.getElem?_cons_succ]; rfl) fun K hK => ?_)
    go_simp
    refine hK _ _ ⟨⟨HS7.out, fun h => absurd (show true = false from h) (by decide)⟩, ?_⟩
    clear hK K
    try simp only [List.setIfInBounds_toArray, List.set_cons_zero, List.set_cons_succ]
    refine wpAnyT_done (by kernel_rfl) ?_ _
    go_wp2_with fail
    go_roundw
    case rel => exact ⟨j + 1, _, by omega, by go_num, HN.out.1, HN.out.2⟩
    case measure => simp [intOf]; omega
set_option maxRecDepth 100000 in
set_option maxHeartbeats 2000000 in
theorem refSolve_size {w : World} {va vb : Value} {n q : Nat} {m : Nat → Nat} {X : Nat → Nat → Tri} {y : Nat → Tri} (h : MatP false w va n m X) (hv : RowP false w vb q y) (hb : shapeOk X m n = true) (hq : m 0 = n) (hy : vecOk y q n = true)
 (hw : wtM (fun i j => can (qm X i j)) (fun _ => n) n + wtR (fun j => can (qr y j)) n > 1900) :
 Calls Tryz.prog 16 #[va, vb] w (RefP w 2) := by
 have hqe : q = n := (vecOk_iff.1 hy).1
 obtain ⟨hn, -, hm, hok⟩ := shape_n1 hb hq
 obtain ⟨-, hyo⟩ := vecOk_iff.1 hy
 subst hqe
 have CS := Lib.hid (fun w' (ha : Add w w') => refShapeN (q, q, true) (h.add ha) (Lib.hid (by unfold shN; rw [if_pos hb, hq])))
 have CV := Lib.hid (fun w' (ha : Add w w') => refVectorN true (hv.add ha) (show q ≤ 9223372036854775807 by omega) (Lib.hid hy))
 have CW := Lib.hid (fun w' (ha : Add w w') => refWeightsN (h.add ha) (fun i j hi hj => hok i j hi (by rw [← hm i hi]; exact hj)) (by omega) (fun i hi => by rw [hm i hi]; omega))
 rw [wtM_shape hm] at CW
 have CW2 := Lib.hid (fun w' (ha : Add w w') => refWeightN (hv.add ha) hyo (by omega))
 have u1 : wtM (fun i j => can (qm X i j)) (fun _ => q) q ≤ 8192000000 := wtM_le (n := q) (fun i j hi hj => (fit_red (hok i j hi hj)).sm) (fun i _ => by omega) (by omega) (Nat.le_refl q)
 have u2 : wtR (fun j => can (qr y j)) q ≤ 8192000 := wtR_le (m := q) (fun j hj => (fit_red (hyo j hj)).sm) (by omega) (Nat.le_refl q)
 obtain ⟨N1, hN1⟩ : ∃ z, wtM (fun i j => can (qm X i j)) (fun _ => q) q = z := ⟨_, rfl⟩
 obtain ⟨N2, hN2⟩ : ∃ z, wtR (fun j => can (qr y j)) q = z := ⟨_, rfl⟩
 rw [hN1] at CW hw u1
 rw [hN2] at CW2 hw u2
 have hnw : ((1900 : Int) < (N1 : Int) + (N2 : Int)) := by omega
 have dnw : decide ((1900 : Int) < (N1 : Int) + (N2 : Int)) = true := by simp; omega
 obtain ⟨ao, ca, rfl, -⟩ := h.isSlice
 obtain ⟨bo, cb, rfl, -, -, -⟩ := id hv
 clear h hv hb hok hm hN1 hN2 hq hy hyo hw
 go_enter Tryz.func16, Tryz.ntmps16
 go_wp2_with fail
 refine (CS.out w (Below.refl _ _)).mono ?_
 rintro e w1 ⟨rfl, h1⟩
 go_wp2_with fail
 refine (CV.out w1 h1).mono ?_
 rintro e w2 ⟨rfl, h2⟩
 have h12 := Add.trans h1 h2
 clear h1 h2 CS CV
 go_wp2_with fail
 refine (CW.out w2 h12).mono ?_
 rintro e w3 ⟨rfl, h3⟩
 have h13 := Add.trans h12 h3
 clear h12 h3 CW
 go_wp2_with fail
 refine (CW2.out w3 h13).mono ?_
 rintro e w4 ⟨rfl, h4⟩
 have HT4 := Lib.hid (Add.trans h13 h4)
 clear h13 h4 CW2
 go_wp2_with fail
 go_ret2
 exact refP2 HT4.out
set_option maxRecDepth 100000 in
set_option maxHeartbeats 2000000 in
theorem refSolve_arg {w : World} {va vb : Value} {n q : Nat} {m : Nat → Nat} {X : Nat → Nat → Tri} {y : Nat → Tri} (h : MatP false w va n m X) (hv : RowP false w vb q y) (hb : sqOkL X m n = false ∨ vecOk y q n = false) :
 Calls Tryz.prog 16 #[va, vb] w (RefP w 1) := by
 by_cases hs : shapeOk X m n = true
 · obtain ⟨h1n, -, -⟩ := shapeOk_iff.1 hs
   by_cases hne : n = m 0
   · have hsq : sqOkL X m n = true := by unfold sqOkL; rw [hs, decide_eq_true hne]; rfl
     have hy : vecOk y q n = false := by
      rcases hb with e | e
      · rw [hsq] at e; cases e
      · exact e
     have CS := Lib.hid (refShapeN (n, n, true) h (Lib.hid (by unfold shN; rw [if_pos hs, ← hne])))
     have CV := Lib.hid (fun w' (ha : Add w w') => refVectorN false (hv.add ha) (show n ≤ 9223372036854775807 by omega) (Lib.hid hy))
     obtain ⟨ao, ca, rfl, -⟩ := h.isSlice
     obtain ⟨bo, cb, rfl, -, -, -⟩ := hv
     clear h hb hs hne hsq hy
     go_enter Tryz.func16, Tryz.ntmps16
     go_wp2_with fail
     refine CS.out.mono ?_
     rintro e w1 ⟨rfl, h1⟩
     go_wp2_with fail
     refine (CV.out w1 h1).mono ?_
     rintro e w2 ⟨rfl, h2⟩
     have H2 := Lib.hid (Add.trans h1 h2)
     clear h1 h2 CS CV
     go_wp2_with fail
     go_ret2
     exact refP1 H2.out
   · obtain ⟨q2, hq2⟩ : ∃ q2, m 0 = q2 := ⟨_, rfl⟩
     rw [hq2] at hne
     have CS := Lib.hid (refShapeN (n, q2, true) h (Lib.hid (by unfold shN; rw [if_pos hs, hq2])))
     have d : ((n : Int) != (q2 : Int)) = true := by simp; omega
     have fd : ¬ ((n : Int) = (q2 : Int)) := by omega
     obtain ⟨ao, ca, rfl, -⟩ := h.isSlice
     obtain ⟨bo, cb, rfl, -, -, -⟩ := hv
     clear h hb hs hne hq2
     go_enter Tryz.func16, Tryz.ntmps16
     go_wp2_with fail
     refine CS.out.mono ?_
     rintro e w1 ⟨rfl, h1⟩
     have H1 := Lib.hid h1
     clear h1 CS
     go_wp2_with fail
     go_ret2
     exact refP1 H1.out
 · have CS := Lib.hid (refShapeN (0, 0, false) h (Lib.hid (by unfold shN; rw [if_neg hs])))
   obtain ⟨ao, ca, rfl, -⟩ := h.isSlice
   obtain ⟨bo, cb, rfl, -, -, -⟩ := hv
   clear h hb hs
   go_enter Tryz.func16, Tryz.ntmps16
   go_wp2_with fail
   refine CS.out.mono ?_
   rintro e w1 ⟨rfl, h1⟩
   have H1 := Lib.hid h1
   clear h1 CS
   go_wp2_with fail
   go_ret2
   exact refP1 H1.out
def VRes2 (w : World) (n : Nat) (t : Nat → Tri) (k : Nat) (e : Ending) (w' : World) : Prop := ∃ a c, e = .returned (.tuple #[.slice a n c, .int .i64 (k : Nat)]) ∧ (n = 0 ∨ RowP true w' (.slice a n c) n t) ∧ Add w w'
theorem RefP.vec2 {w : World} {k : Nat} {e : Ending} {w' : World} (t : Nat → Tri) (h : RefP w k e w') : VRes2 w 0 t k e w' := ⟨none, 0, h.1, .inl rfl, h.2⟩
set_option maxRecDepth 100000 in
theorem fracs_nil {w : World} {a a' : Option Addr} {c c' : Nat} : Calls Tryz.prog 17 #[.slice a 0 c, .slice a' 0 c'] w (BoolIs w true) := by
 go_enter Tryz.func17, Tryz.ntmps17
 go_wp2_with fail
 go_loopw [5] (fun i wr => i = .int .i64 0 ∧ Add w wr) (fun i _ => 0)
 case atStart => exact ⟨rfl, Below.refl _ _⟩
 case round =>
  obtain ⟨rfl, T⟩ := hrel
  have TT := Lib.hid T
  clear T
  go_wp2_with fail
  go_ret
  exact ⟨rfl, TT.out⟩
theorem fracs_yes2 {w : World} {a a' : Option Addr} {c c' n : Nat} {t : Nat → Tri} (h : n = 0 ∨ RowP true w (.slice a n c) n t) (h' : n = 0 ∨ RowP true w (.slice a' n c') n t) (hn : n ≤ 100000) : Calls Tryz.prog 17 #[.slice a n c, .slice a' n c'] w (BoolIs w true) := by
 rcases h with rfl | h
 · exact fracs_nil
 · rcases h' with rfl | h'
   · exact fracs_nil
   · exact fracs_yes h h' hn
theorem solve_both {w : World} {va vb : Value} {n q : Nat} {m : Nat → Nat} {X : Nat → Nat → Tri} {y : Nat → Tri} (h : MatP false w va n m X) (hv : RowP false w vb q y) (hT : Tab w) (hn63 : n ≤ 9223372036854775807) :
 ∃ (N : Nat) (t : Nat → Tri) (k : Nat), N ≤ 24 ∧ ∀ w', Add w w' → Calls Tryz.prog 15 #[va, vb] w' (VRes2 w' N t k) ∧ Calls Tryz.prog 16 #[va, vb] w' (VRes2 w' N t k) := by
 by_cases hs : sqOkL X m n = true
 · by_cases hy : vecOk y q n = true
   · have hs2 := hs
     unfold sqOkL at hs2
     rw [Bool.and_eq_true, decide_eq_true_eq] at hs2
     obtain ⟨hn, -, -⟩ := shapeOk_iff.1 hs2.1
     by_cases hw : wtM (fun i j => can (qm X i j)) (fun _ => n) n + wtR (fun j => can (qr y j)) n ≤ 1900
     · by_cases hd : LinM.det n (qm X) = 0
       · refine ⟨0, fun _ => can 0, 9, by omega, fun w' ha => ⟨(solveN_ok (h.add ha) (hv.add ha) (hT.mono ha) hs hy hw).mono ?_, (refSolve_ok (h.add ha) (hv.add ha) hs2.1 hs2.2.symm hy hw).mono ?_⟩⟩
         · rintro e w2 (⟨-, a, c, rfl, h2⟩ | ⟨hz, -⟩)
           · exact ⟨a, c, rfl, .inl rfl, h2⟩
           · exact absurd hd hz
         · rintro e w2 (⟨-, h2⟩ | ⟨hz, -⟩)
           · exact h2.vec2 _
           · exact absurd hd hz
       · refine ⟨n, fun i => can (solB n (qm X) (fun i _ => qr y i) i 0), 0, by omega, fun w' ha => ⟨(solveN_ok (h.add ha) (hv.add ha) (hT.mono ha) hs hy hw).mono ?_, (refSolve_ok (h.add ha) (hv.add ha) hs2.1 hs2.2.symm hy hw).mono ?_⟩⟩
         · rintro e w2 (⟨hz, -⟩ | ⟨-, -, -, a, c, rfl, hO, h2⟩)
           · exact absurd hz hd
           · exact ⟨a, c, rfl, .inr hO.row, h2⟩
         · rintro e w2 (⟨hz, -⟩ | ⟨-, a, c, rfl, hR, h2⟩)
           · exact absurd hz hd
           · exact ⟨a, c, rfl, .inr hR, h2⟩
     · exact ⟨0, fun _ => can 0, 2, by omega, fun w' ha => ⟨(solveN_size (h.add ha) (hv.add ha) (hT.mono ha) hs hy (by omega)).mono fun _ _ g => g.vec2 _, (refSolve_size (h.add ha) (hv.add ha) hs2.1 hs2.2.symm hy (by omega)).mono fun _ _ g => g.vec2 _⟩⟩
   · exact ⟨0, fun _ => can 0, 1, by omega, fun w' ha => ⟨(solveN_arg (h.add ha) (hv.add ha) hn63 (.inr (by simpa using hy))).mono fun _ _ g => g.vec2 _, (refSolve_arg (h.add ha) (hv.add ha) (.inr (by simpa using hy))).mono fun _ _ g => g.vec2 _⟩⟩
 · exact ⟨0, fun _ => can 0, 1, by omega, fun w' ha => ⟨(solveN_arg (h.add ha) (hv.add ha) hn63 (.inl (by simpa using hs))).mono fun _ _ g => g.vec2 _, (refSolve_arg (h.add ha) (hv.add ha) (.inl (by simpa using hs))).mono fun _ _ g => g.vec2 _⟩⟩
end Go.Proofs.YtbeoeackahmpbaaGreatDoor
