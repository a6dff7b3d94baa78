/- The law's helper awake. | The law LinearSolves. -/
import Derived.Test.YtclifkaafocbdaaGreatDoorJV9
import Derived.Deep.Cut

namespace Go.Proofs.YtclifkaafocbdaaGreatDoor
open Go.RowKit NatM Go.Proofs.YtclifkaafocbdaaGreatDoor.Api LinM

/-- A fraction in lowest terms is returned. -/
def RetQ (w : World) (q : Rat) (e : Ending) (w' : World) : Prop := ∃ (y : Bool) (a : Option Addr) (n c : Nat) (e' : Option Addr) (d f : Nat), e = .returned (.agg #[.bool y, .slice a n c, .slice e' d f]) ∧ FracT w' (.agg #[.bool y, .slice a n c, .slice e' d f]) (can q) ∧ Add w w'
theorem intQ {z : Int} {q : Rat} (w : World) (hz : -1000 ≤ z ∧ z ≤ 1000) (hq : makeF z 1 = (can q, 0)) : Calls Tryz.prog 38 #[.int .i64 z] w (RetQ w q) := by
  refine (refIntQ w (Lib.hid hz) (Lib.hid hq)).mono ?_
  rintro e w' ⟨v, rfl, hv, h⟩
  obtain ⟨a, n, c, e', d, f, rfl, g1, g2⟩ := id hv
  exact ⟨_, a, n, c, e', d, f, rfl, hv, h⟩
/-- A row of two. -/
theorem row_two {w : World} {g : Nat} {y0 y1 : Bool} {a0 a1 : Option Addr} {n0 c0 n1 c1 : Nat} {e0 e1 : Option Addr} {d0 f0 d1 f1 : Nat} {t : Nat → Tri} (h : w.heap[g]? = some (.cells #[.bool y0, .slice a0 n0 c0, .slice e0 d0 f0, .bool y1, .slice a1 n1 c1, .slice e1 d1 f1] 37 (0, 0)))
    (h0 : FracT w (.agg #[.bool y0, .slice a0 n0 c0, .slice e0 d0 f0]) (t 0)) (h1 : FracT w (.agg #[.bool y1, .slice a1 n1 c1, .slice e1 d1 f1]) (t 1)) : RowP true w (.slice (some ⟨g, 0, none⟩) 2 2) 2 t := by
  refine ⟨_, 2, rfl, Nat.le_refl _, by unfold maxLen; omega, fun _ => ⟨g, 0, rfl, fun i hi => ?_⟩⟩
  rcases (show i = 0 ∨ i = 1 by omega) with rfl | rfl
  · refine ⟨y0, a0, n0, c0, e0, d0, f0, ?_, ?_, ?_, h0⟩ <;> (rw [cell_of_row w g _ _ _ (0, 0) h]; rfl)
  · refine ⟨y1, a1, n1, c1, e1, d1, f1, ?_, ?_, ?_, h1⟩ <;> (rw [cell_of_row w g _ _ _ (0, 0) h]; rfl)
def awA : Mat := fun i j => if i = 0 ∧ j = 0 then 2 else 1
def awB : Nat → Rat := fun i => if i = 0 then 3 else 2
def awX : Nat → Nat → Tri := fun i j => can (awA i j)
def awY : Nat → Tri := fun i => can (awB i)
theorem aw_sq : sqOkL awX (fun _ => 2) 2 = true := by decide +kernel
theorem aw_vec : vecOk awY 2 2 = true := by decide +kernel
theorem aw_wt : wtM (fun i j => can (qm awX i j)) (fun _ => 2) 2 + wtR (fun j => can (qr awY j)) 2 ≤ 1900 := by decide +kernel
theorem aw_det : detF awX (fun _ => 2) 2 = (can 1, 0) := by decide +kernel
theorem aw_det1 : LinM.det 2 (qm awX) = 1 := by decide +kernel
theorem aw_s0 : solB 2 (qm awX) (fun i _ => qr awY i) 0 0 = 1 := by decide +kernel
theorem aw_s1 : solB 2 (qm awX) (fun i _ => qr awY i) 1 0 = 1 := by decide +kernel
theorem sm_can {q : Rat} (h1 : q.num.natAbs < 1000) (h2 : q.den < 1000) : Sm (can q) := ⟨small128 (show q.num.natAbs < 18446744073709551616 by omega), small128 (show q.den < 18446744073709551616 by omega)⟩
theorem aw_sm (i j : Nat) : Sm (awX i j) := by
  unfold awX awA
  split
  · exact sm_can (by decide) (by decide)
  · exact sm_can (by decide) (by decide)
theorem aw_smY (i : Nat) : Sm (awY i) := by
  unfold awY awB
  split
  · exact sm_can (by decide) (by decide)
  · exact sm_can (by decide) (by decide)
theorem MatP.arg {w : World} {v : Value} {n : Nat} {m : Nat → Nat} {X : Nat → Nat → Tri} (h : MatP true w v n m X) (hs : ∀ i j, i < n → j < m i → Sm (X i j)) : MatP false w v n m X := h.weak fun i j _ hi hj g => (hs i j hi hj).arg g
set_option maxRecDepth 100000 in
set_option maxHeartbeats 4000000 in
theorem awakeN (w : World) (hT : Tab w) : Calls Tryz.prog 12 #[] w (BoolIs w true) := by
  have I1 : Hid (∀ w', Calls Tryz.prog 38 #[.int .i64 1] w' (RetQ w' 1)) := Lib.hid fun w' => intQ w' (by decide) (by decide +kernel)
  have I2 : Hid (∀ w', Calls Tryz.prog 38 #[.int .i64 2] w' (RetQ w' 2)) := Lib.hid fun w' => intQ w' (by decide) (by decide +kernel)
  have I3 : Hid (∀ w', Calls Tryz.prog 38 #[.int .i64 3] w' (RetQ w' 3)) := Lib.hid fun w' => intQ w' (by decide) (by decide +kernel)
  have HT := Lib.hid hT
  clear hT
  go_enter Tryz.func12, Tryz.ntmps12
  go_wp2_with fail
  refine (I2.out _).mono ?_
  rintro e w1 ⟨y1, a1, n1, c1, e1, d1, f1, rfl, x1, h1⟩
  go_wp2_with fail
  refine (I1.out _).mono ?_
  rintro e w2 ⟨y2, a2, n2, c2, e2, d2, f2, rfl, x2, h2⟩
  have hg1 : (w2.alloc (.cells #[.bool y1, .slice a1 n1 c1, .slice e1 d1 f1, .bool y2, .slice a2 n2 c2, .slice e2 d2 f2] 37)).heap[w2.heap.size]? = some (.cells #[.bool y1, .slice a1 n1 c1, .slice e1 d1 f1, .bool y2, .slice a2 n2 c2, .slice e2 d2 f2] 37 (0, 0)) := heap_alloc_new w2 _
  have A3 := add_new w2 (.cells #[.bool y1, .slice a1 n1 c1, .slice e1 d1 f1, .bool y2, .slice a2 n2 c2, .slice e2 d2 f2] 37)
  have R1 : RowP true _ (.slice (some ⟨w2.heap.size, 0, none⟩) 2 2) 2 (awX 0) := row_two hg1 ((x1.mono h2).mono A3) (x2.mono A3)
  have T3 := Add.trans (Add.trans h1 h2) A3
  obtain ⟨g1, hgg1⟩ : ∃ g, g = w2.heap.size := ⟨_, rfl⟩
  obtain ⟨W3, hW3⟩ : ∃ W, W = w2.alloc (.cells #[.bool y1, .slice a1 n1 c1, .slice e1 d1 f1, .bool y2, .slice a2 n2 c2, .slice e2 d2 f2] 37) := ⟨_, rfl⟩
  rw [← hW3, ← hgg1] at R1
  rw [← hW3] at T3
  have HG1 := Lib.hid (And.intro hW3 hgg1)
  clear hg1 A3 x1 x2 h1 h2 hW3 hgg1
  go_wp2_with fail
  rw [← HG1.out.1, ← HG1.out.2]
  refine (I1.out _).mono ?_
  rintro e w4 ⟨y4, a4, n4, c4, e4, d4, f4, rfl, x4, h4⟩
  go_wp2_with fail
  refine (I1.out _).mono ?_
  rintro e w5 ⟨y5, a5, n5, c5, e5, d5, f5, rfl, x5, h5⟩
  have hg2 : (w5.alloc (.cells #[.bool y4, .slice a4 n4 c4, .slice e4 d4 f4, .bool y5, .slice a5 n5 c5, .slice e5 d5 f5] 37)).heap[w5.heap.size]? = some (.cells #[.bool y4, .slice a4 n4 c4, .slice e4 d4 f4, .bool y5, .slice a5 n5 c5, .slice e5 d5 f5] 37 (0, 0)) := heap_alloc_new w5 _
  have A6 := add_new w5 (.cells #[.bool y4, .slice a4 n4 c4, .slice e4 d4 f4, .bool y5, .slice a5 n5 c5, .slice e5 d5 f5] 37)
  have R2 : RowP true _ (.slice (some ⟨w5.heap.size, 0, none⟩) 2 2) 2 (awX 1) := row_two hg2 ((x4.mono h5).mono A6) (x5.mono A6)
  have T6 := Add.trans (Add.trans h4 h5) A6
  have R1' := R1.add T6
  replace T6 := Add.trans T3 T6
  obtain ⟨g2, hgg2⟩ : ∃ g, g = w5.heap.size := ⟨_, rfl⟩
  obtain ⟨W6, hW6⟩ : ∃ W, W = w5.alloc (.cells #[.bool y4, .slice a4 n4 c4, .slice e4 d4 f4, .bool y5, .slice a5 n5 c5, .slice e5 d5 f5] 37) := ⟨_, rfl⟩
  rw [← hW6, ← hgg2] at R2
  rw [← hW6] at T6 R1'
  have hhd : (W6.alloc (.cells #[.slice (some ⟨g1, 0, none⟩) 2 2, .slice (some ⟨g2, 0, none⟩) 2 2] 23)).heap[W6.heap.size]? = some (.cells #[.slice (some ⟨g1, 0, none⟩) 2 2, .slice (some ⟨g2, 0, none⟩) 2 2] 23 (0, 0)) := heap_alloc_new W6 _
  have A7 := add_new W6 (.cells #[.slice (some ⟨g1, 0, none⟩) 2 2, .slice (some ⟨g2, 0, none⟩) 2 2] 23)
  have hM := (two_rows hhd (R1'.add A7) (R2.add A7)).same (m' := fun _ => 2) (X' := awX) (fun i _ => by split <;> rfl) (fun i j hi _ => by
    rcases (show i = 0 ∨ i = 1 by omega) with rfl | rfl
    · rfl
    · rfl)
  replace T6 := Add.trans T6 A7
  have hs6 : W6.heap.size = g2 + 1 := by rw [hW6, hgg2]; simp
  obtain ⟨gh, hgh⟩ : ∃ g, g = g2 + 1 := ⟨_, rfl⟩
  obtain ⟨W7, hW7⟩ : ∃ W, W = W6.alloc (.cells #[.slice (some ⟨g1, 0, none⟩) 2 2, .slice (some ⟨g2, 0, none⟩) 2 2] 23) := ⟨_, rfl⟩
  rw [← hW7, hs6, ← hgh] at hM
  rw [← hW7] at T6
  have HG2 := Lib.hid (And.intro hW6 (And.intro hgg2 (And.intro hW7 hgh)))
  have HM := Lib.hid (hM.arg fun i j _ _ => aw_sm i j)
  have HT6 := Lib.hid T6
  clear hg2 A6 x4 x5 h4 h5 R1 R1' R2 T3 T6 hhd A7 hM hW6 hgg2 hW7 hgh hs6 HG1
  go_wp2_with fail
  rw [← HG2.out.1, ← HG2.out.2.1, ← HG2.out.2.2.1, ← HG2.out.2.2.2]
  clear HG2
  refine (I3.out _).mono ?_
  rintro e w7 ⟨y7, a7, n7, c7, e7, d7, f7, rfl, x7, h7⟩
  go_wp2_with fail
  refine (I2.out _).mono ?_
  rintro e w8 ⟨y8, a8, n8, c8, e8, d8, f8, rfl, x8, h8⟩
  have hg3 : (w8.alloc (.cells #[.bool y7, .slice a7 n7 c7, .slice e7 d7 f7, .bool y8, .slice a8 n8 c8, .slice e8 d8 f8] 37)).heap[w8.heap.size]? = some (.cells #[.bool y7, .slice a7 n7 c7, .slice e7 d7 f7, .bool y8, .slice a8 n8 c8, .slice e8 d8 f8] 37 (0, 0)) := heap_alloc_new w8 _
  have A9 := add_new w8 (.cells #[.bool y7, .slice a7 n7 c7, .slice e7 d7 f7, .bool y8, .slice a8 n8 c8, .slice e8 d8 f8] 37)
  have R3 : RowP true _ (.slice (some ⟨w8.heap.size, 0, none⟩) 2 2) 2 awY := row_two hg3 ((x7.mono h8).mono A9) (x8.mono A9)
  have T9 := Add.trans (Add.trans h7 h8) A9
  have CS := Lib.hid (solveN_ok (HM.out.add T9) (R3.arg fun i _ => aw_smY i) (HT.out.mono (Add.trans HT6.out T9)) aw_sq aw_vec aw_wt)
  have HT9 := Lib.hid (Add.trans HT6.out T9)
  have HM9 := Lib.hid (HM.out.add T9)
  clear hg3 A9 x7 x8 h7 h8 R3 T9 HM HT6
  go_wp2_with fail
  refine CS.out.mono ?_
  rintro e w10 (⟨hz, -⟩ | ⟨-, -, -, ax, cx, rfl, hO, h10⟩)
  · rw [aw_det1] at hz
    exact absurd hz (by decide)
  · have T10 := Add.trans HT9.out h10
    have CD := Lib.hid (detN (HM9.out.add h10) (HT.out.mono T10) _ (Lib.hid aw_det))
    have HX := Lib.hid ((hO.row).congr (t' := fun _ => can 1) fun i hi => by
      rcases (show i = 0 ∨ i = 1 by omega) with rfl | rfl
      · rw [aw_s0]
      · rw [aw_s1])
    have HT10 := Lib.hid T10
    clear hO h10 T10 CS HT9 HM9
    go_wp2_with fail
    refine CD.out.mono ?_
    rintro e w11 ⟨v11, rfl, hv11, h11⟩
    obtain ⟨a11, n11, c11, e11, d11, f11, rfl, -, -⟩ := id hv11
    obtain ⟨y11, hy11⟩ : ∃ y, y = (can (1 : Rat)).1 := ⟨_, rfl⟩
    dsimp only at hv11 ⊢
    rw [← hy11] at hv11 ⊢
    have hB := box_new w11 y11 a11 n11 c11 e11 d11 f11
    have A12 := add_new w11 (.cells #[.bool y11, .slice a11 n11 c11, .slice e11 d11 f11] 37)
    obtain ⟨W12, hW12⟩ : ∃ W, W = w11.alloc (.cells #[.bool y11, .slice a11 n11 c11, .slice e11 d11 f11] 37) := ⟨_, rfl⟩
    obtain ⟨gd, hgd⟩ : ∃ g, g = w11.heap.size := ⟨_, rfl⟩
    rw [← hW12, ← hgd] at hB
    rw [← hW12] at A12
    have hv12 := hv11.mono A12
    have HXX := Lib.hid (HX.out.add (Add.trans h11 A12))
    have HT12 := Lib.hid (Add.trans HT10.out (Add.trans h11 A12))
    have HW12 := Lib.hid (And.intro hW12 hgd)
    have D12 : Add W12 (World.drew W12) := b_drewL (Below.refl _ _)
    have HS : Hid (∀ w', Add W12 w' → w'.cell? ⟨gd, 0, none⟩ = some (.bool y11) ∧ w'.cell? ⟨gd, 1, none⟩ = some (.slice a11 n11 c11) ∧ w'.cell? ⟨gd, 2, none⟩ = some (.slice e11 d11 f11)) := Lib.hid fun w' g => ⟨(hB.mono g).c0, (hB.mono g).c1, (hB.mono g).c2⟩
    obtain ⟨p0, p1, p2⟩ := HS.out W12 (Below.refl _ _)
    clear hv11 h11 hB A12 hW12 hgd hy11 CD HX HT10 I2 I3
    go_upto_region 4 with fail
    rw [← HW12.out.1, ← HW12.out.2]
    clear HW12
    go_region_held3 (fun w' => w'.cell? ⟨gd, 0, none⟩ = some (.bool y11) ∧ w'.cell? ⟨gd, 1, none⟩ = some (.slice a11 n11 c11) ∧ w'.cell? ⟨gd, 2, none⟩ = some (.slice e11 d11 f11))
      (first | exact HS.out _ t17 | exact HS.out _ t16 | exact HS.out _ t15 | exact HS.out _ (Add.trans t14 (add_new _ _)) | exact HS.out _ t14 | exact HS.out _ t13 | exact HS.out _ D12)
      (first | (go_at_call 25; ((with_reducible refine F17.out.mono ?_); rintro e w17 ⟨rfl, h17⟩; have t17 := Add.trans t16 h17))
             | (go_at_call 38; (have tt := t15; (with_reducible refine (I1.out _).mono ?_); rintro e w16 ⟨y16, a16, n16, c16, e16, d16, f16, rfl, x16, h16⟩; have t16 := Add.trans t15 h16; have F17 := Lib.hid (sameF_yes (hv12.mono t16) x16); clear tt))
             | (go_at_call 17; ((with_reducible refine F15.out.mono ?_); rintro e w15 ⟨rfl, h15⟩; have t15 := Add.trans (Add.trans t14 (add_new w14 (.cells #[.bool y13, .slice a13 n13 c13, .slice e13 d13 f13, .bool y14, .slice a14 n14 c14, .slice e14 d14 f14] 37))) h15))
             | (go_at_call 38; (have tt := t13; (with_reducible refine (I1.out _).mono ?_); rintro e w14 ⟨y14, a14, n14, c14, e14, d14, f14, rfl, x14, h14⟩; have t14 := Add.trans t13 h14; have F15 := Lib.hid (fracs_yes (HXX.out.add (Add.trans t14 (add_new w14 (.cells #[.bool y13, .slice a13 n13 c13, .slice e13 d13 f13, .bool y14, .slice a14 n14 c14, .slice e14 d14 f14] 37)))) (row_two (t := fun _ => can 1) (heap_alloc_new w14 (.cells #[.bool y13, .slice a13 n13 c13, .slice e13 d13 f13, .bool y14, .slice a14 n14 c14, .slice e14 d14 f14] 37)) ((x13.mono h14).mono (add_new _ _)) (x14.mono (add_new _ _))) (by omega)); clear tt))
             | (go_at_call 38; ((with_reducible refine (I1.out _).mono ?_); rintro e w13 ⟨y13, a13, n13, c13, e13, d13, f13, rfl, x13, h13⟩; have t13 := Add.trans D12 h13)))
    all_goals
      go_wp2_with fail
      go_ret
      exact ⟨rfl, Add.trans HT12.out t17⟩
end Go.Proofs.YtclifkaafocbdaaGreatDoor

namespace Go.Proofs.YtclifkaafocbdaaGreatDoor
open Go.RowKit NatM Go.Proofs.YtclifkaafocbdaaGreatDoor.Api LinM

/-- A determinant of a matrix of small weight fits. -/
theorem det_fit {A : Mat} {n x : Nat} (hn : n ≤ 24) (hw : wtM (fun i j => can (A i j)) (fun _ => n) n ≤ x) (hx : x ≤ 1930) : Fit (LinM.det n A) := by
  have h := elim_start A n n x hw
  have hd := h.det fun l => l
  have h0 := h.s0
  obtain ⟨e, k1, k2, k3⟩ := h.size
  have w1 : Whole (LinM.det n (fun i l => ((wf (A i) n : Nat) : Rat) * A i l)) := det_whole n _ fun i k hi hk => (k1 i k hi hk).1
  have one0 : (0 : Rat) ≤ 1 := by decide
  have w2 := det_bound n (fun i l => ((wf (A i) n : Nat) : Rat) * A i l) e (fun i hi => Rat.le_trans one0 (k2 i hi)) fun i k hi hk => (k1 i k hi hk).2
  have hp : (0 : Rat) ≤ prodQ e n := prodQ_nonneg fun i hi => Rat.le_trans one0 (k2 i hi)
  have w3 : fac n * prodQ e n ≤ ((2 ^ (80 + x) : Nat) : Rat) := by
    have q1 := Rat.mul_le_mul_of_nonneg_right (fac24 n hn) hp
    have q2 : ((2 ^ 80 : Nat) : Rat) * prodQ e n ≤ ((2 ^ 80 : Nat) : Rat) * ((2 ^ x : Nat) : Rat) := Rat.mul_le_mul_of_nonneg_left k3 (by decide)
    rw [← Rat.natCast_mul, ← Nat.pow_add] at q2
    exact Rat.le_trans q1 q2
  have hwb := wb_of w1 (Rat.le_trans w2 w3)
  have hs : WB (2 ^ x) ((scN A n n : Nat) : Rat) := (wb_nat _).up (Nat.le_trans (scN_le A n n) (Nat.pow_le_pow_right (by decide) hw))
  have e1 : LinM.det n A = LinM.det n (fun i l => ((wf (A i) n : Nat) : Rat) * A i l) / ((scN A n n : Nat) : Rat) := by
    rw [show (fun i l => ((wf (A i) n : Nat) : Rat) * A i l) = (fun r l => (fun i l => ((wf (A i) n : Nat) : Rat) * A i l) r ((fun l => l) l)) from rfl, hd]
    show LinM.det n A = ((scN A n n : Nat) : Rat) * LinM.det n A / ((scN A n n : Nat) : Rat)
    generalize ((scN A n n : Nat) : Rat) = s at h0 ⊢
    generalize LinM.det n A = D
    grind
  rw [e1]
  exact wb_div hwb hs h0 (pw_two128 (Nat.le_refl _) (by omega)) (pw_two128 (Nat.le_refl _) (by omega))
/-- The values of the matrix that bytes stand for. -/
def mQ (n : Nat) (L : Nat → Int) (cols : Nat) : Mat := fun i j => if i * cols + j < n then elQ (L (i * cols + j)) else 0
theorem matT_can (n : Nat) (L : Nat → Int) (cols i j : Nat) : matT n L cols i j = can (mQ n L cols i j) := by
  unfold matT mQ elT
  split <;> rfl
theorem qm_mat (n : Nat) (L : Nat → Int) (cols : Nat) : qm (matT n L cols) = mQ n L cols := by
  funext i j
  unfold qm
  rw [matT_can, qv_can]
/-- Small numbers. -/
def Small (q : Rat) : Prop := q.num.natAbs ≤ 15 ∧ q.den ≤ 8
theorem small_mQ {n : Nat} {L : Nat → Int} (hL : ∀ i, i < n → -128 ≤ L i ∧ L i ≤ 127) (cols i j : Nat) : Small (mQ n L cols i j) := by
  unfold mQ
  split
  · next h => obtain ⟨h1, h2⟩ := hL _ h; exact (elQ_ok h1 h2).2
  · exact ⟨by decide, by decide⟩
theorem Small.fit {q : Rat} (h : Small q) : Fit q := ⟨small128 (by have := h.1; omega), small128 (by have := h.2; omega)⟩
theorem Small.wt {q : Rat} (h : Small q) : wtF (can q) ≤ 8 := by
  rw [wtF_can]
  have h1 : nb q.num.natAbs ≤ 4 := nb_le_of_lt (by have := h.1; omega)
  have h2 : dbits q ≤ 4 := by
    unfold dbits
    split
    · omega
    · exact nb_le_of_lt (by have := h.2; omega)
  omega
theorem small_wtR {t : Nat → Rat} (h : ∀ j, Small (t j)) (k : Nat) : wtR (fun j => can (t j)) k ≤ k * 8 := sumK_le fun j _ => (h j).wt
theorem small_wtM {A : Mat} (h : ∀ i j, Small (A i j)) (n k : Nat) : wtM (fun i j => can (A i j)) (fun _ => k) n ≤ n * (k * 8) := sumK_le fun i _ => small_wtR (h i) k
theorem small_sq {n : Nat} {L : Nat → Int} (hL : ∀ i, i < n → -128 ≤ L i ∧ L i ≤ 127) {k : Nat} (h1 : 1 ≤ k) (h2 : k ≤ 24) : sqOkL (matT n L k) (fun _ => k) k = true :=
  sqOkL_iff.2 ⟨⟨h1, h2⟩, fun i _ => ⟨rfl, fun j _ => by rw [matT_can]; exact (small_mQ hL k i j).fit.ok⟩⟩
theorem small_vec {n : Nat} {L : Nat → Int} (hL : ∀ i, i < n → -128 ≤ L i ∧ L i ≤ 127) (k : Nat) : vecOk (matT n L k 0) k k = true :=
  vecOk_iff.2 ⟨rfl, fun j _ => by rw [matT_can]; exact (small_mQ hL k 0 j).fit.ok⟩
theorem small_sm {n : Nat} {L : Nat → Int} (hL : ∀ i, i < n → -128 ≤ L i ∧ L i ≤ 127) (k i j : Nat) : Sm (matT n L k i j) := by rw [matT_can]; exact (small_mQ hL k i j).fit.sm
theorem wtF_bound {q : Rat} {k : Nat} (h1 : q.num.natAbs ≤ 2 ^ k) (h2 : q.den ≤ 2 ^ k) : wtF (can q) ≤ 2 * (k + 1) := by
  rw [wtF_can]
  have e : ∀ m, m ≤ 2 ^ k → nb m ≤ k + 1 := fun m hm => nb_le_of_lt (Nat.lt_of_le_of_lt hm (Nat.pow_lt_pow_right (by decide) (by omega)))
  have h3 := e _ h1
  have h4 : dbits q ≤ k + 1 := by
    unfold dbits
    split
    · omega
    · exact e _ h2
  omega
theorem Ri8.lims {w : World} {v : Value} {n : Nat} {L : Nat → Int} (h : Ri8 w v n L) : ∀ i, i < n → -128 ≤ L i ∧ L i ≤ 127 := by
  intro i hi
  obtain ⟨ao, c, e, h0, h1⟩ := h
  obtain ⟨b, off, -, h2⟩ := h1 (by omega)
  exact (h2 i hi).2
theorem sign_zero {q : Rat} : signQ q = 0 ↔ q = 0 := by
  unfold signQ cmpQ
  split
  · next h => exact ⟨fun e => by simp at e, fun e => by rw [e] at h; exact absurd h Rat.lt_irrefl⟩
  · split
    · next h => exact ⟨fun _ => h, fun _ => rfl⟩
    · next h => exact ⟨fun e => by simp at e, fun e => absurd e h⟩
set_option maxRecDepth 100000 in
set_option maxHeartbeats 4000000 in
theorem solves_any {w : World} {m0 n1 n2 : Nat} {v1 v2 : Value} {L Lb : Nat → Int} (h0 : m0 < 256) (h1 : Ri8 w v1 n1 L) (h2 : Ri8 w v2 n2 Lb) (hT : Tab w) :
    Calls Tryz.prog 5 #[.int .u8 (m0 : Nat), v1, v2] w (BoolIs w true) := by
  obtain ⟨k, hk⟩ : ∃ k, ordB m0 = k := ⟨_, rfl⟩
  have hk1 : 1 ≤ k ∧ k ≤ 5 := by rw [← hk]; unfold ordB; omega
  have CO := Lib.hid (orderLN (w := w) h0 (Lib.hid hk))
  have HL := Lib.hid (And.intro h1.lims h2.lims)
  have CM1 := Lib.hid (fun w' (ha : Add w w') => matrixN (rows := k) (cols := k) (h1.add ha) (hT.mono ha) (by omega) (by omega))
  have CM2 := Lib.hid (fun w' (ha : Add w w') => matrixN (rows := 1) (cols := k) (h2.add ha) (hT.mono ha) (by omega) (by omega))
  have HT := Lib.hid hT
  obtain ⟨ao, ca, rfl, -, -⟩ := h1
  obtain ⟨bo, cb, rfl, -, -⟩ := h2
  clear h0 hT hk
  go_enter Tryz.func5, Tryz.ntmps5
  go_wp2_with fail
  refine CO.out.mono ?_
  rintro e w1 ⟨rfl, h1⟩
  go_wp2_with fail
  refine (CM1.out w1 h1).mono ?_
  rintro e w2 ⟨ra, hva, rfl, hGa, h2⟩
  obtain ⟨ra1, rc1, rfl⟩ := own_isSlice hGa.own
  have T2 := Add.trans h1 h2
  have HA := Lib.hid hGa
  clear h1 h2 hGa CO CM1
  go_wp2_with fail
  refine (CM2.out w2 T2).mono ?_
  rintro e w3 ⟨rb, hvb, rfl, hGb, h3⟩
  obtain ⟨rb1, rc2, rfl⟩ := own_isSlice hGb.own
  obtain ⟨b, off, ar, cr, rfl, -, hcell, hrow⟩ := hGb.mat.row (show 0 < 1 by omega)
  rw [Nat.add_zero] at hcell
  have T3 := Add.trans T2 h3
  have hMa := (HA.out.add h3).mat.arg fun i j _ _ => small_sm HL.out.1 k i j
  have hRb := hrow.arg fun j _ => small_sm HL.out.2 k 0 j
  have hwa := small_wtM (small_mQ HL.out.1 k) k k
  have hwb := small_wtR (small_mQ HL.out.2 k 0) k
  have hkk : k * (k * 8) ≤ 5 * (5 * 8) := Nat.mul_le_mul hk1.2 (Nat.mul_le_mul_right 8 hk1.2)
  have hqr : qr (matT n2 Lb k 0) = mQ n2 Lb k 0 := by funext j; unfold qr; rw [matT_can, qv_can]
  have hw0 : wtM (fun i j => can (qm (matT n1 L k) i j)) (fun _ => k) k + wtR (fun j => can (qr (matT n2 Lb k 0) j)) k ≤ 240 := by rw [qm_mat, hqr]; omega
  have CS := Lib.hid (fun w' (ha : Add w3 w') => solveN_ok (hMa.add ha) (hRb.add ha) (HT.out.mono (Add.trans T3 ha)) (small_sq HL.out.1 hk1.1 (by omega)) (small_vec HL.out.2 k) (by omega))
  have hdF : detF (matT n1 L k) (fun _ => k) k = (can (LinM.det k (mQ n1 L k)), 0) := by
    unfold detF
    rw [if_pos (small_sq HL.out.1 hk1.1 (by omega)), if_pos (by rw [qm_mat]; omega), qm_mat]
  have CD := Lib.hid (fun w' (ha : Add w3 w') => detN (hMa.add ha) (HT.out.mono (Add.trans T3 ha)) _ (Lib.hid hdF))
  have HR := Lib.hid (And.intro hMa (And.intro hRb hrow))
  have HT3 := Lib.hid T3
  have HW0 := Lib.hid (And.intro hw0 (And.intro hqr (And.intro hwa hkk)))
  clear hGb hrow T2 T3 hMa hRb hwa hwb hkk hqr hw0 hdF h3 HA CM2
  go_wp2_with fail
  refine (CS.out w3 (Below.refl _ _)).mono ?_
  clear hcell
  have HDF : Hid (Fit (LinM.det k (mQ n1 L k))) := Lib.hid (det_fit (x := 240) (by omega) (by rw [← qm_mat]; have := HW0.out.1; omega) (by omega))
  rintro e w4 (⟨hz, ax, cx, rfl, h4⟩ | ⟨hz, hsol, hbd, ax, cx, rfl, hO, h4⟩)
  · rw [qm_mat] at hz
    have T4 := Add.trans HT3.out h4
    have HSG : Hid (signQ (LinM.det k (mQ n1 L k)) = 0) := Lib.hid (sign_zero.2 hz)
    have H4 := Lib.hid h4
    have HT4 := Lib.hid T4
    clear hz h4 T4 CS
    go_wp2_with fail
    refine (CD.out w4 H4.out).mono ?_
    rintro e w5 ⟨v5, rfl, hv5, h5⟩
    obtain ⟨a5, n5, c5, e5, d5, f5, rfl, -, -⟩ := id hv5
    obtain ⟨y5, hy5⟩ : ∃ y, y = (can (LinM.det k (mQ n1 L k))).1 := ⟨_, rfl⟩
    dsimp only at hv5 ⊢
    rw [← hy5] at hv5 ⊢
    rw [Int.natCast_zero]
    have hB := box_new w5 y5 a5 n5 c5 e5 d5 f5
    have A6 := add_new w5 (.cells #[.bool y5, .slice a5 n5 c5, .slice e5 d5 f5] 37)
    obtain ⟨W6, hW6⟩ : ∃ W, W = w5.alloc (.cells #[.bool y5, .slice a5 n5 c5, .slice e5 d5 f5] 37) := ⟨_, rfl⟩
    obtain ⟨gd, hgd⟩ : ∃ g, g = w5.heap.size := ⟨_, rfl⟩
    rw [← hW6, ← hgd] at hB
    rw [← hW6] at A6
    have hv6 := hv5.mono A6
    have CSg := Lib.hid (refSignN 0 (Sm.arg hv6 HDF.out.sm) (Lib.hid HDF.out.ok) (Lib.hid (by rw [qv_can]; exact HSG.out)))
    have HT6 := Lib.hid (Add.trans HT4.out (Add.trans h5 A6))
    have H6 := Lib.hid (Add.trans h5 A6)
    have HW6 := Lib.hid (And.intro hW6 hgd)
    have p0 := hB.c0
    have p1 := hB.c1
    have p2 := hB.c2
    clear hv5 hv6 hB A6 h5 hW6 hgd hy5 CD
    go_upto_region 6 with fail
    rw [← HW6.out.1, ← HW6.out.2]
    clear HW6
    go_wp2_with fail
    refine CSg.out.mono ?_
    rintro e w7 ⟨rfl, h7⟩
    clear CSg
    have CA := Lib.hid (awakeN w7 (HT.out.mono (Add.trans HT6.out h7)))
    have HT7 := Lib.hid (Add.trans HT6.out h7)
    clear h7
    go_wp2_with fail
    refine CA.out.mono ?_
    rintro e w8 ⟨rfl, h8⟩
    go_wp2_with fail
    go_ret
    exact ⟨rfl, Add.trans HT7.out h8⟩
  · rw [qm_mat] at hz
    have T4 := Add.trans HT3.out h4
    obtain ⟨t, ht⟩ : ∃ t, t = signQ (LinM.det k (mQ n1 L k)) := ⟨_, rfl⟩
    have ht0 : (t == 0) = false := by
      have : t ≠ 0 := fun e => hz (sign_zero.1 (by rw [← ht, e]))
      simpa using this
    have HSG : Hid (signQ (LinM.det k (mQ n1 L k)) = t) := Lib.hid ht.symm
    obtain ⟨so, hso⟩ : ∃ so : Nat → Rat, so = fun i => solB k (qm (matT n1 L k)) (fun i _ => qr (matT n2 Lb k 0) i) i 0 := ⟨_, rfl⟩
    have hx : OwnF w4 w3.heap.size (.slice ax k cx) k (fun i => can (so i)) := by rw [hso]; exact hO
    have hbs : ∀ i, i < k → (so i).num.natAbs ≤ 2 ^ (80 + wtAb k (qm (matT n1 L k)) (qr (matT n2 Lb k 0))) ∧ (so i).den ≤ 2 ^ (80 + wtAb k (qm (matT n1 L k)) (qr (matT n2 Lb k 0))) := by rw [hso]; exact hbd
    have hq : ∀ i, i < k → qr (matT n2 Lb k 0) i = LinM.sumQ (fun q => qm (matT n1 L k) i q * so q) k := by rw [hso]; exact hsol
    have hW240 : wtAb k (qm (matT n1 L k)) (qr (matT n2 Lb k 0)) ≤ 240 := HW0.out.1
    obtain ⟨xw, hxw⟩ : ∃ xw, xw = wtAb k (qm (matT n1 L k)) (qr (matT n2 Lb k 0)) := ⟨_, rfl⟩
    rw [← hxw] at hbs hW240
    have hfs : ∀ i, i < k → Fit (so i) := fun i hi => ⟨pw_two128 (hbs i hi).1 (by omega), pw_two128 (hbs i hi).2 (by omega)⟩
    have hqs : qr (fun i => can (so i)) = so := by funext i; unfold qr; rw [qv_can]
    have hws : wtR (fun j => can (so j)) k ≤ k * (2 * (80 + xw + 1)) := sumK_le fun i hi => wtF_bound (hbs i hi).1 (hbs i hi).2
    have hws2 : k * (2 * (80 + xw + 1)) ≤ 5 * (2 * (80 + 240 + 1)) := Nat.mul_le_mul hk1.2 (by omega)
    have CAp := Lib.hid (fun w' (ha : Add w4 w') => applyN_ok (c := k) ((HR.out.1.add h4).add ha) ((hx.row.arg fun i hi => (hfs i hi).sm).add ha) (HT.out.mono (Add.trans T4 ha)) (by have := small_sq HL.out.1 hk1.1 (show k ≤ 24 by omega); unfold sqOkL at this; exact (Bool.and_eq_true _ _ ▸ this).1) rfl (vecOk_iff.2 ⟨rfl, fun j hj => (hfs j hj).ok⟩) (by rw [hqs, qm_mat]; have := HW0.out.2.2; omega))
    have HMV : Hid (∀ i, i < k → can (mulV (qm (matT n1 L k)) (qr fun i => can (so i)) k i) = matT n2 Lb k 0 i) := Lib.hid fun i hi => by
      rw [hqs, matT_can, ← HW0.out.2.1, hq i hi]; rfl
    have H4 := Lib.hid h4
    have HT4 := Lib.hid T4
    clear hz h4 T4 CS hsol hbd hO ht hx hbs hq hW240 hxw hfs hqs hws hws2 hso
    go_wp2_with fail
    refine (CD.out w4 H4.out).mono ?_
    rintro e w5 ⟨v5, rfl, hv5, h5⟩
    obtain ⟨a5, n5, c5, e5, d5, f5, rfl, -, -⟩ := id hv5
    obtain ⟨y5, hy5⟩ : ∃ y, y = (can (LinM.det k (mQ n1 L k))).1 := ⟨_, rfl⟩
    dsimp only at hv5 ⊢
    rw [← hy5] at hv5 ⊢
    rw [Int.natCast_zero]
    have hB := box_new w5 y5 a5 n5 c5 e5 d5 f5
    have A6 := add_new w5 (.cells #[.bool y5, .slice a5 n5 c5, .slice e5 d5 f5] 37)
    obtain ⟨W6, hW6⟩ : ∃ W, W = w5.alloc (.cells #[.bool y5, .slice a5 n5 c5, .slice e5 d5 f5] 37) := ⟨_, rfl⟩
    obtain ⟨gd, hgd⟩ : ∃ g, g = w5.heap.size := ⟨_, rfl⟩
    rw [← hW6, ← hgd] at hB
    rw [← hW6] at A6
    have hv6 := hv5.mono A6
    have CSg := Lib.hid (refSignN t (Sm.arg hv6 HDF.out.sm) (Lib.hid HDF.out.ok) (Lib.hid (by rw [qv_can]; exact HSG.out)))
    have HT6 := Lib.hid (Add.trans HT4.out (Add.trans h5 A6))
    have H6 := Lib.hid (Add.trans h5 A6)
    have HW6 := Lib.hid (And.intro hW6 hgd)
    have p0 := hB.c0
    have p1 := hB.c1
    have p2 := hB.c2
    clear hv5 hv6 hB A6 h5 hW6 hgd hy5 CD
    go_upto_region 6 with fail
    rw [← HW6.out.1, ← HW6.out.2]
    clear HW6
    go_wp2_with fail
    refine CSg.out.mono ?_
    rintro e w7 ⟨rfl, h7⟩
    clear CSg
    have CAp7 := Lib.hid (CAp.out w7 (Add.trans H6.out h7))
    have HT7 := Lib.hid (Add.trans HT6.out h7)
    have H7 := Lib.hid (Add.trans H4.out (Add.trans H6.out h7))
    clear h7 CAp H6 HT6
    go_wp2_with fail
    refine CAp7.out.mono ?_
    rintro e w8 ⟨g8, rfl, hB8, hg8, h8⟩
    have CF := Lib.hid (fracs_yes ((hB8.row (by unfold maxLen; omega)).congr HMV.out) (HR.out.2.2.add (Add.trans H7.out h8)) (by omega))
    have HT8 := Lib.hid (Add.trans HT7.out h8)
    clear hB8 hg8 h8 CAp7 HT7 H7
    go_wp2_with fail
    refine CF.out.mono ?_
    rintro e w9 ⟨rfl, h9⟩
    have CA := Lib.hid (awakeN w9 (HT.out.mono (Add.trans HT8.out h9)))
    have HT9 := Lib.hid (Add.trans HT8.out h9)
    clear h9 CF
    go_wp2_with fail
    refine CA.out.mono ?_
    rintro e w10 ⟨rfl, h10⟩
    go_wp2_with fail
    go_ret
    exact ⟨rfl, Add.trans HT9.out h10⟩
end Go.Proofs.YtclifkaafocbdaaGreatDoor
