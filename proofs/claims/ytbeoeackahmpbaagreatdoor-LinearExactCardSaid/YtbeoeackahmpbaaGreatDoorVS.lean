/- The law's helper awake. -/
import Derived.Test.YtbeoeackahmpbaaGreatDoorJV9
namespace Go.Proofs.YtbeoeackahmpbaaGreatDoor
open Go.RowKit NatM Go.Proofs.YtbeoeackahmpbaaGreatDoor.Api LinM

/-- A fraction in lowest terms is returned. -/
def RetQ (w : World) (q : Rat) (e : Ending) (w' : World) : Prop := ∃ (y : Bool) (a : Option Addr) (n c : Nat) (e' : Option Addr) (d f : Nat), e = .returned (.agg #[.bool y, .slice a n c, .slice e' d f]) ∧ FracT w' (.agg #[.bool y, .slice a n c, .slice e' d f]) (can q) ∧ Add w w'
theorem intQ {z : Int} {q : Rat} (w : World) (hz : -1000 ≤ z ∧ z ≤ 1000) (hq : makeF z 1 = (can q, 0)) : Calls Tryz.prog 38 #[.int .i64 z] w (RetQ w q) := by
  refine (refIntQ w (Lib.hid hz) (Lib.hid hq)).mono ?_
  rintro e w' ⟨v, rfl, hv, h⟩
  obtain ⟨a, n, c, e', d, f, rfl, g1, g2⟩ := id hv
  exact ⟨_, a, n, c, e', d, f, rfl, hv, h⟩
/-- A row of two. -/
theorem row_two {w : World} {g : Nat} {y0 y1 : Bool} {a0 a1 : Option Addr} {n0 c0 n1 c1 : Nat} {e0 e1 : Option Addr} {d0 f0 d1 f1 : Nat} {t : Nat → Tri} (h : w.heap[g]? = some (.cells #[.bool y0, .slice a0 n0 c0, .slice e0 d0 f0, .bool y1, .slice a1 n1 c1, .slice e1 d1 f1] 37 (0, 0)))
    (h0 : FracT w (.agg #[.bool y0, .slice a0 n0 c0, .slice e0 d0 f0]) (t 0)) (h1 : FracT w (.agg #[.bool y1, .slice a1 n1 c1, .slice e1 d1 f1]) (t 1)) : RowP true w (.slice (some ⟨g, 0, none⟩) 2 2) 2 t := by
  refine ⟨_, 2, rfl, Nat.le_refl _, by unfold maxLen; omega, fun _ => ⟨g, 0, rfl, fun i hi => ?_⟩⟩
  rcases (show i = 0 ∨ i = 1 by omega) with rfl | rfl
  · refine ⟨y0, a0, n0, c0, e0, d0, f0, ?_, ?_, ?_, h0⟩ <;> (rw [cell_of_row w g _ _ _ (0, 0) h]; rfl)
  · refine ⟨y1, a1, n1, c1, e1, d1, f1, ?_, ?_, ?_, h1⟩ <;> (rw [cell_of_row w g _ _ _ (0, 0) h]; rfl)
def awA : Mat := fun i j => if i = 0 ∧ j = 0 then 2 else 1
def awB : Nat → Rat := fun i => if i = 0 then 3 else 2
def awX : Nat → Nat → Tri := fun i j => can (awA i j)
def awY : Nat → Tri := fun i => can (awB i)
theorem aw_sq : sqOkL awX (fun _ => 2) 2 = true := by decide +kernel
theorem aw_vec : vecOk awY 2 2 = true := by decide +kernel
theorem aw_wt : wtM (fun i j => can (qm awX i j)) (fun _ => 2) 2 + wtR (fun j => can (qr awY j)) 2 ≤ 1900 := by decide +kernel
theorem aw_det : detF awX (fun _ => 2) 2 = (can 1, 0) := by decide +kernel
theorem aw_det1 : LinM.det 2 (qm awX) = 1 := by decide +kernel
theorem aw_s0 : solB 2 (qm awX) (fun i _ => qr awY i) 0 0 = 1 := by decide +kernel
theorem aw_s1 : solB 2 (qm awX) (fun i _ => qr awY i) 1 0 = 1 := by decide +kernel
theorem sm_can {q : Rat} (h1 : q.num.natAbs < 1000) (h2 : q.den < 1000) : Sm (can q) := ⟨small128 (show q.num.natAbs < 18446744073709551616 by omega), small128 (show q.den < 18446744073709551616 by omega)⟩
theorem aw_sm (i j : Nat) : Sm (awX i j) := by
  unfold awX awA
  split
  · exact sm_can (by decide) (by decide)
  · exact sm_can (by decide) (by decide)
theorem aw_smY (i : Nat) : Sm (awY i) := by
  unfold awY awB
  split
  · exact sm_can (by decide) (by decide)
  · exact sm_can (by decide) (by decide)
theorem MatP.arg {w : World} {v : Value} {n : Nat} {m : Nat → Nat} {X : Nat → Nat → Tri} (h : MatP true w v n m X) (hs : ∀ i j, i < n → j < m i → Sm (X i j)) : MatP false w v n m X := h.weak fun i j _ hi hj g => (hs i j hi hj).arg g
set_option maxRecDepth 100000 in
set_option maxHeartbeats 4000000 in
theorem awakeN (w : World) (hT : Tab w) : Calls Tryz.prog 12 #[] w (BoolIs w true) := by
  have I1 : Hid (∀ w', Calls Tryz.prog 38 #[.int .i64 1] w' (RetQ w' 1)) := Lib.hid fun w' => intQ w' (by decide) (by decide +kernel)
  have I2 : Hid (∀ w', Calls Tryz.prog 38 #[.int .i64 2] w' (RetQ w' 2)) := Lib.hid fun w' => intQ w' (by decide) (by decide +kernel)
  have I3 : Hid (∀ w', Calls Tryz.prog 38 #[.int .i64 3] w' (RetQ w' 3)) := Lib.hid fun w' => intQ w' (by decide) (by decide +kernel)
  have HT := Lib.hid hT
  clear hT
  go_enter Tryz.func12, Tryz.ntmps12
  go_wp2_with fail
  refine (I2.out _).mono ?_
  rintro e w1 ⟨y1, a1, n1, c1, e1, d1, f1, rfl, x1, h1⟩
  go_wp2_with fail
  refine (I1.out _).mono ?_
  rintro e w2 ⟨y2, a2, n2, c2, e2, d2, f2, rfl, x2, h2⟩
  have hg1 : (w2.alloc (.cells #[.bool y1, .slice a1 n1 c1, .slice e1 d1 f1, .bool y2, .slice a2 n2 c2, .slice e2 d2 f2] 37)).heap[w2.heap.size]? = some (.cells #[.bool y1, .slice a1 n1 c1, .slice e1 d1 f1, .bool y2, .slice a2 n2 c2, .slice e2 d2 f2] 37 (0, 0)) := heap_alloc_new w2 _
  have A3 := add_new w2 (.cells #[.bool y1, .slice a1 n1 c1, .slice e1 d1 f1, .bool y2, .slice a2 n2 c2, .slice e2 d2 f2] 37)
  have R1 : RowP true _ (.slice (some ⟨w2.heap.size, 0, none⟩) 2 2) 2 (awX 0) := row_two hg1 ((x1.mono h2).mono A3) (x2.mono A3)
  have T3 := Add.trans (Add.trans h1 h2) A3
  obtain ⟨g1, hgg1⟩ : ∃ g, g = w2.heap.size := ⟨_, rfl⟩
  obtain ⟨W3, hW3⟩ : ∃ W, W = w2.alloc (.cells #[.bool y1, .slice a1 n1 c1, .slice e1 d1 f1, .bool y2, .slice a2 n2 c2, .slice e2 d2 f2] 37) := ⟨_, rfl⟩
  rw [← hW3, ← hgg1] at R1
  rw [← hW3] at T3
  have HG1 := Lib.hid (And.intro hW3 hgg1)
  clear hg1 A3 x1 x2 h1 h2 hW3 hgg1
  go_wp2_with fail
  rw [← HG1.out.1, ← HG1.out.2]
  refine (I1.out _).mono ?_
  rintro e w4 ⟨y4, a4, n4, c4, e4, d4, f4, rfl, x4, h4⟩
  go_wp2_with fail
  refine (I1.out _).mono ?_
  rintro e w5 ⟨y5, a5, n5, c5, e5, d5, f5, rfl, x5, h5⟩
  have hg2 : (w5.alloc (.cells #[.bool y4, .slice a4 n4 c4, .slice e4 d4 f4, .bool y5, .slice a5 n5 c5, .slice e5 d5 f5] 37)).heap[w5.heap.size]? = some (.cells #[.bool y4, .slice a4 n4 c4, .slice e4 d4 f4, .bool y5, .slice a5 n5 c5, .slice e5 d5 f5] 37 (0, 0)) := heap_alloc_new w5 _
  have A6 := add_new w5 (.cells #[.bool y4, .slice a4 n4 c4, .slice e4 d4 f4, .bool y5, .slice a5 n5 c5, .slice e5 d5 f5] 37)
  have R2 : RowP true _ (.slice (some ⟨w5.heap.size, 0, none⟩) 2 2) 2 (awX 1) := row_two hg2 ((x4.mono h5).mono A6) (x5.mono A6)
  have T6 := Add.trans (Add.trans h4 h5) A6
  have R1' := R1.add T6
  replace T6 := Add.trans T3 T6
  obtain ⟨g2, hgg2⟩ : ∃ g, g = w5.heap.size := ⟨_, rfl⟩
  obtain ⟨W6, hW6⟩ : ∃ W, W = w5.alloc (.cells #[.bool y4, .slice a4 n4 c4, .slice e4 d4 f4, .bool y5, .slice a5 n5 c5, .slice e5 d5 f5] 37) := ⟨_, rfl⟩
  rw [← hW6, ← hgg2] at R2
  rw [← hW6] at T6 R1'
  have hhd : (W6.alloc (.cells #[.slice (some ⟨g1, 0, none⟩) 2 2, .slice (some ⟨g2, 0, none⟩) 2 2] 23)).heap[W6.heap.size]? = some (.cells #[.slice (some ⟨g1, 0, none⟩) 2 2, .slice (some ⟨g2, 0, none⟩) 2 2] 23 (0, 0)) := heap_alloc_new W6 _
  have A7 := add_new W6 (.cells #[.slice (some ⟨g1, 0, none⟩) 2 2, .slice (some ⟨g2, 0, none⟩) 2 2] 23)
  have hM := (two_rows hhd (R1'.add A7) (R2.add A7)).same (m' := fun _ => 2) (X' := awX) (fun i _ => by split <;> rfl) (fun i j hi _ => by
    rcases (show i = 0 ∨ i = 1 by omega) with rfl | rfl
    · rfl
    · rfl)
  replace T6 := Add.trans T6 A7
  have hs6 : W6.heap.size = g2 + 1 := by rw [hW6, hgg2]; simp
  obtain ⟨gh, hgh⟩ : ∃ g, g = g2 + 1 := ⟨_, rfl⟩
  obtain ⟨W7, hW7⟩ : ∃ W, W = W6.alloc (.cells #[.slice (some ⟨g1, 0, none⟩) 2 2, .slice (some ⟨g2, 0, none⟩) 2 2] 23) := ⟨_, rfl⟩
  rw [← hW7, hs6, ← hgh] at hM
  rw [← hW7] at T6
  have HG2 := Lib.hid (And.intro hW6 (And.intro hgg2 (And.intro hW7 hgh)))
  have HM := Lib.hid (hM.arg fun i j _ _ => aw_sm i j)
  have HT6 := Lib.hid T6
  clear hg2 A6 x4 x5 h4 h5 R1 R1' R2 T3 T6 hhd A7 hM hW6 hgg2 hW7 hgh hs6 HG1
  go_wp2_with fail
  rw [← HG2.out.1, ← HG2.out.2.1, ← HG2.out.2.2.1, ← HG2.out.2.2.2]
  clear HG2
  refine (I3.out _).mono ?_
  rintro e w7 ⟨y7, a7, n7, c7, e7, d7, f7, rfl, x7, h7⟩
  go_wp2_with fail
  refine (I2.out _).mono ?_
  rintro e w8 ⟨y8, a8, n8, c8, e8, d8, f8, rfl, x8, h8⟩
  have hg3 : (w8.alloc (.cells #[.bool y7, .slice a7 n7 c7, .slice e7 d7 f7, .bool y8, .slice a8 n8 c8, .slice e8 d8 f8] 37)).heap[w8.heap.size]? = some (.cells #[.bool y7, .slice a7 n7 c7, .slice e7 d7 f7, .bool y8, .slice a8 n8 c8, .slice e8 d8 f8] 37 (0, 0)) := heap_alloc_new w8 _
  have A9 := add_new w8 (.cells #[.bool y7, .slice a7 n7 c7, .slice e7 d7 f7, .bool y8, .slice a8 n8 c8, .slice e8 d8 f8] 37)
  have R3 : RowP true _ (.slice (some ⟨w8.heap.size, 0, none⟩) 2 2) 2 awY := row_two hg3 ((x7.mono h8).mono A9) (x8.mono A9)
  have T9 := Add.trans (Add.trans h7 h8) A9
  have CS := Lib.hid (solveN_ok (HM.out.add T9) (R3.arg fun i _ => aw_smY i) (HT.out.mono (Add.trans HT6.out T9)) aw_sq aw_vec aw_wt)
  have HT9 := Lib.hid (Add.trans HT6.out T9)
  have HM9 := Lib.hid (HM.out.add T9)
  clear hg3 A9 x7 x8 h7 h8 R3 T9 HM HT6
  go_wp2_with fail
  refine CS.out.mono ?_
  rintro e w10 (⟨hz, -⟩ | ⟨-, -, -, ax, cx, rfl, hO, h10⟩)
  · rw [aw_det1] at hz
    exact absurd hz (by decide)
  · have T10 := Add.trans HT9.out h10
    have CD := Lib.hid (detN (HM9.out.add h10) (HT.out.mono T10) _ (Lib.hid aw_det))
    have HX := Lib.hid ((hO.row).congr (t' := fun _ => can 1) fun i hi => by
      rcases (show i = 0 ∨ i = 1 by omega) with rfl | rfl
      · rw [aw_s0]
      · rw [aw_s1])
    have HT10 := Lib.hid T10
    clear hO h10 T10 CS HT9 HM9
    go_wp2_with fail
    refine CD.out.mono ?_
    rintro e w11 ⟨v11, rfl, hv11, h11⟩
    obtain ⟨a11, n11, c11, e11, d11, f11, rfl, -, -⟩ := id hv11
    obtain ⟨y11, hy11⟩ : ∃ y, y = (can (1 : Rat)).1 := ⟨_, rfl⟩
    dsimp only at hv11 ⊢
    rw [← hy11] at hv11 ⊢
    have hB := box_new w11 y11 a11 n11 c11 e11 d11 f11
    have A12 := add_new w11 (.cells #[.bool y11, .slice a11 n11 c11, .slice e11 d11 f11] 37)
    obtain ⟨W12, hW12⟩ : ∃ W, W = w11.alloc (.cells #[.bool y11, .slice a11 n11 c11, .slice e11 d11 f11] 37) := ⟨_, rfl⟩
    obtain ⟨gd, hgd⟩ : ∃ g, g = w11.heap.size := ⟨_, rfl⟩
    rw [← hW12, ← hgd] at hB
    rw [← hW12] at A12
    have hv12 := hv11.mono A12
    have HXX := Lib.hid (HX.out.add (Add.trans h11 A12))
    have HT12 := Lib.hid (Add.trans HT10.out (Add.trans h11 A12))
    have HW12 := Lib.hid (And.intro hW12 hgd)
    have D12 : Add W12 (World.drew W12) := b_drewL (Below.refl _ _)
    have HS : Hid (∀ w', Add W12 w' → w'.cell? ⟨gd, 0, none⟩ = some (.bool y11) ∧ w'.cell? ⟨gd, 1, none⟩ = some (.slice a11 n11 c11) ∧ w'.cell? ⟨gd, 2, none⟩ = some (.slice e11 d11 f11)) := Lib.hid fun w' g => ⟨(hB.mono g).c0, (hB.mono g).c1, (hB.mono g).c2⟩
    obtain ⟨p0, p1, p2⟩ := HS.out W12 (Below.refl _ _)
    clear hv11 h11 hB A12 hW12 hgd hy11 CD HX HT10 I2 I3
    go_upto_region 4 with fail
    rw [← HW12.out.1, ← HW12.out.2]
    clear HW12
    go_region_held3 (fun w' => w'.cell? ⟨gd, 0, none⟩ = some (.bool y11) ∧ w'.cell? ⟨gd, 1, none⟩ = some (.slice a11 n11 c11) ∧ w'.cell? ⟨gd, 2, none⟩ = some (.slice e11 d11 f11))
      (first | exact HS.out _ t17 | exact HS.out _ t16 | exact HS.out _ t15 | exact HS.out _ (Add.trans t14 (add_new _ _)) | exact HS.out _ t14 | exact HS.out _ t13 | exact HS.out _ D12)
      (first | (go_at_call 25; ((with_reducible refine F17.out.mono ?_); rintro e w17 ⟨rfl, h17⟩; have t17 := Add.trans t16 h17))
             | (go_at_call 38; (have tt := t15; (with_reducible refine (I1.out _).mono ?_); rintro e w16 ⟨y16, a16, n16, c16, e16, d16, f16, rfl, x16, h16⟩; have t16 := Add.trans t15 h16; have F17 := Lib.hid (sameF_yes (hv12.mono t16) x16); clear tt))
             | (go_at_call 17; ((with_reducible refine F15.out.mono ?_); rintro e w15 ⟨rfl, h15⟩; have t15 := Add.trans (Add.trans t14 (add_new w14 (.cells #[.bool y13, .slice a13 n13 c13, .slice e13 d13 f13, .bool y14, .slice a14 n14 c14, .slice e14 d14 f14] 37))) h15))
             | (go_at_call 38; (have tt := t13; (with_reducible refine (I1.out _).mono ?_); rintro e w14 ⟨y14, a14, n14, c14, e14, d14, f14, rfl, x14, h14⟩; have t14 := Add.trans t13 h14; have F15 := Lib.hid (fracs_yes (HXX.out.add (Add.trans t14 (add_new w14 (.cells #[.bool y13, .slice a13 n13 c13, .slice e13 d13 f13, .bool y14, .slice a14 n14 c14, .slice e14 d14 f14] 37)))) (row_two (t := fun _ => can 1) (heap_alloc_new w14 (.cells #[.bool y13, .slice a13 n13 c13, .slice e13 d13 f13, .bool y14, .slice a14 n14 c14, .slice e14 d14 f14] 37)) ((x13.mono h14).mono (add_new _ _)) (x14.mono (add_new _ _))) (by omega)); clear tt))
             | (go_at_call 38; ((with_reducible refine (I1.out _).mono ?_); rintro e w13 ⟨y13, a13, n13, c13, e13, d13, f13, rfl, x13, h13⟩; have t13 := Add.trans D12 h13)))
    all_goals
      go_wp2_with fail
      go_ret
      exact ⟨rfl, Add.trans HT12.out t17⟩
end Go.Proofs.YtbeoeackahmpbaaGreatDoor
