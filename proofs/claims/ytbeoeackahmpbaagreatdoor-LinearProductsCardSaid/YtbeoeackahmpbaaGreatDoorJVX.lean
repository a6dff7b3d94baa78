/- Package linear: what Solve, Apply, Mul and Identity refuse. Made by gen/lrefuse.py. | Package linear: weights that Apply refuses. Made by gen/lsolve.py. | Package linear: weights that Mul refuses. -/
import Derived.Test.YtbeoeackahmpbaaGreatDoorJV8
import Derived.Test.YtbeoeackahmpbaaGreatDoorVx
import Derived.Test.YtbeoeackahmpbaaGreatDoorJU
import Derived.Deep.Cut

namespace Go.Proofs.YtbeoeackahmpbaaGreatDoor
open Go.RowKit NatM Go.Proofs.YtbeoeackahmpbaaGreatDoor.Api LinM

set_option maxRecDepth 100000 in
set_option maxHeartbeats 1000000 in
theorem applyN_arg {w : World} {va vb : Value} {n q : Nat} {m : Nat → Nat} {X : Nat → Nat → Tri} {y : Nat → Tri} (h : MatP false w va n m X) (hv : RowP false w vb q y) (hb : shapeOk X m n = false ∨ (shapeOk X m n = true ∧ vecOk y q (m 0) = false)) :
    Calls Tryz.prog 28 #[va, vb] w (RefP w 1) := by
  rcases hb with hs | ⟨hs, hy⟩
  · have CS := Lib.hid (shapeN (0, 0, false) h (Lib.hid (by unfold shN; rw [if_neg (by rw [hs]; decide)])))
    obtain ⟨ao, ca, rfl, -⟩ := h.isSlice
    obtain ⟨bo, cb, rfl, -, -, -⟩ := hv
    clear h hs
    go_enter Tryz.func28, Tryz.ntmps28
    go_wp2_with fail
    refine CS.out.mono ?_
    rintro e w1 ⟨rfl, h1⟩
    have H2 := Lib.hid h1
    clear h1 CS
    go_wp2_with fail
    go_ret2
    exact refP1 H2.out
  · obtain ⟨-, hc1, -⟩ := shapeOk_iff.1 hs
    obtain ⟨c, hc⟩ : ∃ c, m 0 = c := ⟨_, rfl⟩
    rw [hc] at hy hc1
    have CS := Lib.hid (shapeN (n, c, true) h (Lib.hid (by unfold shN; rw [if_pos hs, hc])))
    have CV := Lib.hid (fun w' (ha : Add w w') => isVectorN false (hv.add ha) (show c ≤ 9223372036854775807 by omega) (Lib.hid hy))
    obtain ⟨ao, ca, rfl, -⟩ := h.isSlice
    obtain ⟨bo, cb, rfl, -, -, -⟩ := hv
    clear h hs hy hc
    go_enter Tryz.func28, Tryz.ntmps28
    go_wp2_with fail
    refine CS.out.mono ?_
    rintro e w1 ⟨rfl, h1⟩
    go_wp2_with fail
    refine (CV.out w1 h1).mono ?_
    rintro e w2 ⟨rfl, h2⟩
    have H2 := Lib.hid (Add.trans h1 h2)
    clear h1 h2 CS CV
    go_wp2_with fail
    go_ret2
    exact refP1 H2.out
/-- What Mul asks of two matrices. -/
def mulOk (X Y : Nat → Nat → Tri) (ma mb : Nat → Nat) (n c : Nat) : Bool := shapeOk X ma n && shapeOk Y mb c && decide (ma 0 = c)
set_option maxRecDepth 100000 in
set_option maxHeartbeats 2000000 in
theorem mulN_arg {w : World} {va vb : Value} {n c : Nat} {ma mb : Nat → Nat} {X Y : Nat → Nat → Tri} (h : MatP false w va n ma X) (hv : MatP false w vb c mb Y) (hb : mulOk X Y ma mb n c = false) :
    Calls Tryz.prog 26 #[va, vb] w (RefP w 1) := by
  obtain ⟨p1, q1, b1, e1⟩ : ∃ p q b, shN X ma n = (p, q, b) := ⟨_, _, _, rfl⟩
  obtain ⟨p2, q2, b2, e2⟩ : ∃ p q b, shN Y mb c = (p, q, b) := ⟨_, _, _, rfl⟩
  have CS := Lib.hid (shapeN (p1, q1, b1) h (Lib.hid e1))
  have CS2 := Lib.hid (fun w' (ha : Add w w') => shapeN (p2, q2, b2) (hv.add ha) (Lib.hid e2))
  obtain ⟨ao, ca, rfl, -⟩ := h.isSlice
  obtain ⟨bo, cb, rfl, -⟩ := hv.isSlice
  have key : b1 = false ∨ (b1 = true ∧ b2 = false) ∨ (b1 = true ∧ b2 = true ∧ q1 ≠ p2) := by
    unfold shN at e1 e2
    unfold mulOk at hb
    by_cases s1 : shapeOk X ma n = true
    · rw [if_pos s1] at e1
      by_cases s2 : shapeOk Y mb c = true
      · rw [if_pos s2] at e2
        simp only [Prod.mk.injEq] at e1 e2
        rw [s1, s2] at hb
        refine .inr (.inr ⟨e1.2.2.symm, e2.2.2.symm, ?_⟩)
        rw [← e1.2.1, ← e2.1]
        simpa using hb
      · rw [if_neg s2] at e2
        simp only [Prod.mk.injEq] at e1 e2
        exact .inr (.inl ⟨e1.2.2.symm, e2.2.2.symm⟩)
    · rw [if_neg s1] at e1
      simp only [Prod.mk.injEq] at e1
      exact .inl e1.2.2.symm
  clear h hv hb e1 e2
  rcases key with rfl | ⟨rfl, rfl⟩ | ⟨rfl, rfl, hne⟩
  · cases b2
    all_goals
      go_enter Tryz.func26, Tryz.ntmps26
      go_wp2_with fail
      refine CS.out.mono ?_
      rintro e w1 ⟨rfl, h1⟩
      go_wp2_with fail
      refine (CS2.out w1 h1).mono ?_
      rintro e w2 ⟨rfl, h2⟩
      have H2 := Lib.hid (Add.trans h1 h2)
      clear h1 h2 CS CS2
      go_wp2_with fail
      go_ret2
      exact refP1 H2.out
  · skip
    go_enter Tryz.func26, Tryz.ntmps26
    go_wp2_with fail
    refine CS.out.mono ?_
    rintro e w1 ⟨rfl, h1⟩
    go_wp2_with fail
    refine (CS2.out w1 h1).mono ?_
    rintro e w2 ⟨rfl, h2⟩
    have H2 := Lib.hid (Add.trans h1 h2)
    clear h1 h2 CS CS2
    go_wp2_with fail
    go_ret2
    exact refP1 H2.out
  · have d : ((q1 : Int) != (p2 : Int)) = true := by simp; omega
    go_enter Tryz.func26, Tryz.ntmps26
    go_wp2_with fail
    refine CS.out.mono ?_
    rintro e w1 ⟨rfl, h1⟩
    go_wp2_with fail
    refine (CS2.out w1 h1).mono ?_
    rintro e w2 ⟨rfl, h2⟩
    have H2 := Lib.hid (Add.trans h1 h2)
    clear h1 h2 CS CS2
    go_wp2_with fail
    go_ret2
    exact refP1 H2.out
end Go.Proofs.YtbeoeackahmpbaaGreatDoor

namespace Go.Proofs.YtbeoeackahmpbaaGreatDoor
open Go.RowKit NatM Go.Proofs.YtbeoeackahmpbaaGreatDoor.Api LinM

set_option maxRecDepth 100000 in
set_option maxHeartbeats 4000000 in
theorem applyN_size {w : World} {va vb : Value} {n c q : Nat} {m : Nat → Nat} {X : Nat → Nat → Tri} {y : Nat → Tri} (h : MatP false w va n m X) (hv : RowP false w vb q y) (hT : Tab w) (hb : shapeOk X m n = true) (hc : m 0 = c) (hy : vecOk y q c = true)
    (hw : wtM (fun i j => can (qm X i j)) (fun _ => c) n + wtR (fun j => can (qr y j)) c > 3800) :
    Calls Tryz.prog 28 #[va, vb] w (RefP w 2) := by
  obtain ⟨hn, hc1, hX⟩ := shapeOk_iff.1 hb
  rw [hc] at hX hc1
  obtain ⟨rfl, hyo⟩ := vecOk_iff.1 hy
  have CS := Lib.hid (shapeN (n, q, true) h (Lib.hid (by unfold shN; rw [if_pos hb, hc])))
  have CV := Lib.hid (fun w' (ha : Add w w') => isVectorN true (hv.add ha) (show q ≤ 9223372036854775807 by omega) (Lib.hid hy))
  have HX := Lib.hid hX
  have HY := Lib.hid hyo
  have HT := Lib.hid hT
  have HW := Lib.hid hw
  have HA := Lib.hid (And.intro h hv)
  obtain ⟨ao, ca, rfl, -⟩ := h.isSlice
  obtain ⟨bo, cb, rfl, -, -, -⟩ := hv
  clear h hT hb hy hX hw hyo hc
  go_enter Tryz.func28, Tryz.ntmps28
  go_wp2_with fail
  refine CS.out.mono ?_
  rintro e w1 ⟨rfl, h1⟩
  go_wp2_with fail
  refine (CV.out w1 h1).mono ?_
  rintro e wr ⟨rfl, h2⟩
  have HT1 := Lib.hid (Add.trans h1 h2)
  have C1 : Hid (∀ w', Add wr w' → Calls Tryz.prog 45 #[.slice ao n ca] w' (RetM w' n m (redX X))) := Lib.hid fun w' ha => reducedN (HA.out.1.add (Add.trans HT1.out ha)) (HT.out.mono (Add.trans HT1.out ha)) (by omega) (fun i hi => by rw [(HX.out i hi).1]; omega)
  have C2 : Hid (∀ w' g, w'.heap[g]? = some (.cells #[.slice bo q cb] 23 (0, 0)) → Add wr w' → Calls Tryz.prog 45 #[.slice (some ⟨g, 0, none⟩) 1 1] w' (RetM w' 1 (fun _ => q) (redX fun _ => y))) := Lib.hid fun w' g hg ha => reducedN (one_row hg (HA.out.2.add (Add.trans HT1.out ha))) (HT.out.mono (Add.trans HT1.out ha)) (by omega) (fun i hi => by omega)
  clear CS CV h1 h2
  go_upto_region 4 with fail
  refine wp_region_held_drew (S := fun _ => True) (by kernel_rfl) trivial (fun hHeld => ?_)
  refine wpAnyH_take (i := 0) (v := ?_) (by simp only [List.getElem?_toArray, List.getElem?_cons_zero]; rfl) (by kernel_rfl) (by kernel_rfl) (by kernel_rfl) (by intro _ _ _ h; exact h) (Or.inl ⟨by rfl, ?_⟩) (by assumption) ?_
  rotate_left
  · intro w0 hSw
    try dsimp only at hSw
    go_simp
    try with_reducible rfl
  try simp only [Act.put, List.setIfInBounds_toArray, List.set_cons_zero, List.set_cons_succ]
  refine wpAnyH_take (i := 2) (v := ?_) (by simp only [List.getElem?_toArray, List.getElem?_cons_zero, List.getElem?_cons_succ]; rfl) (by kernel_rfl) (by kernel_rfl) (by kernel_rfl) (by intro _ _ _ h; exact h) (Or.inl ⟨by rfl, ?_⟩) (by assumption) ?_
  rotate_left
  · intro w0 hSw
    try dsimp only at hSw
    go_simp
    try with_reducible rfl
  try simp only [Act.put, List.setIfInBounds_toArray, List.set_cons_zero, List.set_cons_succ]
  refine wpAnyH_ready (rs := [1, 3]) (by kernel_rfl) (by simp) ?_
  refine AllReadyH.cons (o := _) (by simp only [List.getElem?_toArray, List.getElem?_cons_zero, List.getElem?_cons_succ]; rfl) (fun K hK => ?_) ?_
  · skip
    go_simp
    refine (C1.out _ (Below.drew (Below.refl _ _))).mono ?_
    rintro e z1 ⟨G1, gs1, rfl, hE1, hq1⟩
    have t2 := Add.trans (Below.drew (Below.refl _ _) : Add wr (World.drew wr)) hq1
    have HE1 := Lib.hid hE1
    clear hE1 hq1
    refine hK.out _ _ trivial (fun hHeld => ?_)
    clear hK K
    try simp only [Act.put, List.setIfInBounds_toArray, List.set_cons_zero, List.set_cons_succ]
    refine wpAnyH_ready (rs := [3]) (by kernel_rfl) (by simp) ?_
    refine AllReadyH.cons (o := _) (by simp only [List.getElem?_toArray, List.getElem?_cons_zero, List.getElem?_cons_succ]; rfl) (fun K hK => ?_) ?_
    · skip
      go_simp
      refine hK.out _ _ trivial (fun hHeld => ?_)
      clear hK K
      try simp only [Act.put, List.setIfInBounds_toArray, List.set_cons_zero, List.set_cons_succ]
      refine wpAnyH_ready (rs := [4]) (by kernel_rfl) (by simp) ?_
      refine AllReadyH.cons (o := _) (by simp only [List.getElem?_toArray, List.getElem?_cons_zero, List.getElem?_cons_succ]; rfl) (fun K hK => ?_) ?_
      · skip
        go_simp
        refine (C2.out _ _ (heap_alloc_new _ _) (Add.trans t2 (add_new _ _))).mono ?_
        rintro e z2 ⟨G2, gs2, rfl, hE2, hq2⟩
        have t3 := Add.trans (Add.trans t2 (add_new _ _)) hq2
        have HE3 := Lib.hid (HE1.out.add (Add.trans (add_new _ _) hq2))
        have c9 : z2.cell? ⟨G2, 0, none⟩ = some (.slice (some ⟨gs2 0, 0, none⟩) q q) := (by have := hE2.head.cell (show 0 < 1 by omega); exact this)
        have HE2 := Lib.hid hE2
        clear hE2 hq2 HE1
        refine hK.out _ _ trivial (fun hHeld => ?_)
        clear hK K
        try simp only [Act.put, List.setIfInBounds_toArray, List.set_cons_zero, List.set_cons_succ]
        refine wpAnyH_more (S' := fun W : World => W.cell? ⟨G2, 0, none⟩ = some (.slice (some ⟨gs2 0, 0, none⟩) q q)) (fun _ _ => trivial) c9 (fun hHeld => ?_)
        refine wpAnyH_take (i := 5) (v := ?_) (by simp only [List.getElem?_toArray, List.getElem?_cons_zero, List.getElem?_cons_succ]; rfl) (by kernel_rfl) (by kernel_rfl) (by kernel_rfl) (by intro _ _ _ h; exact h) (Or.inl ⟨by rfl, ?_⟩) (by assumption) ?_
        rotate_left
        · intro w0 hSw
          try dsimp only at hSw
          go_simp
          try with_reducible rfl
        try simp only [Act.put, List.setIfInBounds_toArray, List.set_cons_zero, List.set_cons_succ]
        refine wpAnyH_take (i := 6) (v := ?_) (by simp only [List.getElem?_toArray, List.getElem?_cons_zero, List.getElem?_cons_succ]; rfl) (by kernel_rfl) (by kernel_rfl) (by kernel_rfl) (by intro _ _ _ h; exact h) (Or.inl ⟨by rfl, ?_⟩) (by assumption) ?_
        rotate_left
        · intro w0 hSw
          try dsimp only at hSw
          go_simp
          try with_reducible rfl
        try simp only [Act.put, List.setIfInBounds_toArray, List.set_cons_zero, List.set_cons_succ]
        refine wpAnyH_take (i := 7) (v := ?_) (by simp only [List.getElem?_toArray, List.getElem?_cons_zero, List.getElem?_cons_succ]; rfl) (by kernel_rfl) (by kernel_rfl) (by kernel_rfl) (by intro _ _ _ h; exact h) (Or.inl ⟨by rfl, ?_⟩) (by assumption) ?_
        rotate_left
        · intro w0 hSw
          try dsimp only at hSw
          go_simp
          try with_reducible rfl
        try simp only [Act.put, List.setIfInBounds_toArray, List.set_cons_zero]
        refine wpAnyH_take (i := 8) (v := ?_) (by simp only [List.getElem?_toArray, List.getElem?_cons_zero, List.getElem?_cons_succ]; rfl) (by kernel_rfl) (by kernel_rfl) (by kernel_rfl) (by intro _ _ _ h; exact h) (Or.inl ⟨by rfl, ?_⟩) (by assumption) ?_
        rotate_left
        · intro w0 hSw
          try dsimp only at hSw
          go_simp
          try with_reducible rfl
        try simp only [Act.put, List.setIfInBounds_toArray, List.set_cons_zero, List.set_cons_succ]
        refine wpAnyH_done (by kernel_rfl) ?_ _
        clear c9 C1 C2 hHeld
        have hM := red_mat HE3.out (by omega) (by omega) (fun i hi => (HX.out i hi).1) (fun i j hi hj => (HX.out i hi).2 j hj)
        have hR := red_row HE2.out (by omega) HY.out
        have hF : ∀ i j, i < n → j < q → Fit (qm X i j) := fun i j hi hj => fit_red ((HX.out i hi).2 j (by rw [(HX.out i hi).1]; exact hj))
        have hFy : ∀ j, j < q → Fit (qr y j) := fun j hj => fit_red (HY.out j hj)
        have hbA : wtM (fun i j => can (qm X i j)) (fun _ => q) n ≤ n * (q * 8192) := sumK_le fun i hi => sumK_le fun j hj => wtF_le (hF i j hi hj).sm
        have hbA2 : n * (q * 8192) ≤ 24 * (24 * 8192) := Nat.mul_le_mul hn.2 (Nat.mul_le_mul_right _ hc1.2)
        have hbB : wtR (fun j => can (qr y j)) q ≤ q * 8192 := sumK_le fun j hj => wtF_le (hFy j hj).sm
        have hbC : q * 8192 ≤ 24 * 8192 := Nat.mul_le_mul_right _ hc1.2
        have hb3 : wtM (fun i j => can (qm X i j)) (fun _ => q) n ≤ 4718592 := by omega
        have hb4 : wtR (fun j => can (qr y j)) q ≤ 196608 := by omega
        clear hbA hbA2 hbB hbC
        obtain ⟨gb, hgb⟩ : ∃ g, g = gs2 0 := ⟨_, rfl⟩
        rw [← hgb] at hR ⊢
        have T3 := Add.trans HT1.out t3
        have CW1 := Lib.hid (weightN hM (fun i j hi hj => (hF i j hi hj).sm) (by omega) (fun i hi => by omega))
        have CW2 := Lib.hid (fun (w' : World) (g : Nat) (hg : w'.heap[g]? = some (.cells #[.slice (some ⟨gb, 0, none⟩) q q] 23 (0, 0))) (ha : Add z2 w') => weightN (one_row hg (hR.add ha)) (fun i j hi hj => (hFy j hj).sm) (by omega) (fun i hi => by omega))
        have HT3 := Lib.hid T3
        clear hM hR hF hFy hgb T3 t2 t3 HE2 HE3
        go_wp2_with fail
        refine CW1.out.mono ?_
        rintro e w3 ⟨rfl, h3⟩
        go_wp2_with fail
        refine (CW2.out _ _ (heap_alloc_new w3 _) (Add.trans h3 (add_new _ _))).mono ?_
        rintro e w4 ⟨rfl, h4⟩
        rw [wtM_one]
        have T4 := Add.trans HT3.out (Add.trans (Add.trans h3 (add_new w3 (.cells #[.slice (some ⟨gb, 0, none⟩) q q] 23))) h4)
        have hw2 := HW.out
        have d : ((3800 : Int)) < ((wtM (fun i j => can (qm X i j)) (fun _ => q) n : Nat) : Int) + ((wtR (fun j => can (qr y j)) q : Nat) : Int) := by omega
        have H4 := Lib.hid T4
        clear h3 h4 T4 CW1 CW2
        go_wp2_with fail
        go_ret2
        exact refP2 H4.out
      exact AllReadyH.nil
    exact AllReadyH.nil
  refine AllReadyH.cons (o := _) (by simp only [List.getElem?_toArray, List.getElem?_cons_zero, List.getElem?_cons_succ]; rfl) (fun K hK => ?_) ?_
  · skip
    go_simp
    refine hK.out _ _ trivial (fun hHeld => ?_)
    clear hK K
    try simp only [Act.put, List.setIfInBounds_toArray, List.set_cons_zero, List.set_cons_succ]
    refine wpAnyH_ready (rs := [1]) (by kernel_rfl) (by simp) ?_
    refine AllReadyH.cons (o := _) (by simp only [List.getElem?_toArray, List.getElem?_cons_zero, List.getElem?_cons_succ]; rfl) (fun K hK => ?_) ?_
    · skip
      go_simp
      refine (C1.out _ (Add.trans (Below.drew (Below.refl _ _)) (add_new _ _))).mono ?_
      rintro e z1 ⟨G1, gs1, rfl, hE1, hq1⟩
      have t2 := Add.trans (Add.trans (Below.drew (Below.refl _ _) : Add wr (World.drew wr)) (add_new _ (.cells #[.slice bo q cb] 23))) hq1
      have hblk : z1.heap[wr.heap.size]? = some (.cells #[.slice bo q cb] 23 (0, 0)) := (by have := heap_alloc_new (World.drew wr) (.cells #[.slice bo q cb] 23); exact (hq1.block _ (by simp)).trans this)
      have HE1 := Lib.hid hE1
      clear hE1 hq1
      refine hK.out _ _ trivial (fun hHeld => ?_)
      clear hK K
      try simp only [Act.put, List.setIfInBounds_toArray, List.set_cons_zero, List.set_cons_succ]
      refine wpAnyH_ready (rs := [4]) (by kernel_rfl) (by simp) ?_
      refine AllReadyH.cons (o := _) (by simp only [List.getElem?_toArray, List.getElem?_cons_zero, List.getElem?_cons_succ]; rfl) (fun K hK => ?_) ?_
      · skip
        go_simp
        refine (C2.out _ _ hblk (t2)).mono ?_
        rintro e z2 ⟨G2, gs2, rfl, hE2, hq2⟩
        have t3 := Add.trans (t2) hq2
        have HE3 := Lib.hid (HE1.out.add (hq2))
        have c9 : z2.cell? ⟨G2, 0, none⟩ = some (.slice (some ⟨gs2 0, 0, none⟩) q q) := (by have := hE2.head.cell (show 0 < 1 by omega); exact this)
        have HE2 := Lib.hid hE2
        clear hE2 hq2 HE1
        refine hK.out _ _ trivial (fun hHeld => ?_)
        clear hK K
        try simp only [Act.put, List.setIfInBounds_toArray, List.set_cons_zero, List.set_cons_succ]
        refine wpAnyH_more (S' := fun W : World => W.cell? ⟨G2, 0, none⟩ = some (.slice (some ⟨gs2 0, 0, none⟩) q q)) (fun _ _ => trivial) c9 (fun hHeld => ?_)
        refine wpAnyH_take (i := 5) (v := ?_) (by simp only [List.getElem?_toArray, List.getElem?_cons_zero, List.getElem?_cons_succ]; rfl) (by kernel_rfl) (by kernel_rfl) (by kernel_rfl) (by intro _ _ _ h; exact h) (Or.inl ⟨by rfl, ?_⟩) (by assumption) ?_
        rotate_left
        · intro w0 hSw
          try dsimp only at hSw
          go_simp
          try with_reducible rfl
        try simp only [Act.put, List.setIfInBounds_toArray, List.set_cons_zero, List.set_cons_succ]
        refine wpAnyH_take (i := 6) (v := ?_) (by simp only [List.getElem?_toArray, List.getElem?_cons_zero, List.getElem?_cons_succ]; rfl) (by kernel_rfl) (by kernel_rfl) (by kernel_rfl) (by intro _ _ _ h; exact h) (Or.inl ⟨by rfl, ?_⟩) (by assumption) ?_
        rotate_left
        · intro w0 hSw
          try dsimp only at hSw
          go_simp
          try with_reducible rfl
        try simp only [Act.put, List.setIfInBounds_toArray, List.set_cons_zero, List.set_cons_succ]
        refine wpAnyH_take (i := 7) (v := ?_) (by simp only [List.getElem?_toArray, List.getElem?_cons_zero, List.getElem?_cons_succ]; rfl) (by kernel_rfl) (by kernel_rfl) (by kernel_rfl) (by intro _ _ _ h; exact h) (Or.inl ⟨by rfl, ?_⟩) (by assumption) ?_
        rotate_left
        · intro w0 hSw
          try dsimp only at hSw
          go_simp
          try with_reducible rfl
        try simp only [Act.put, List.setIfInBounds_toArray, List.set_cons_zero]
        refine wpAnyH_take (i := 8) (v := ?_) (by simp only [List.getElem?_toArray, List.getElem?_cons_zero, List.getElem?_cons_succ]; rfl) (by kernel_rfl) (by kernel_rfl) (by kernel_rfl) (by intro _ _ _ h; exact h) (Or.inl ⟨by rfl, ?_⟩) (by assumption) ?_
        rotate_left
        · intro w0 hSw
          try dsimp only at hSw
          go_simp
          try with_reducible rfl
        try simp only [Act.put, List.setIfInBounds_toArray, List.set_cons_zero, List.set_cons_succ]
        refine wpAnyH_done (by kernel_rfl) ?_ _
        clear c9 C1 C2 hHeld
        have hM := red_mat HE3.out (by omega) (by omega) (fun i hi => (HX.out i hi).1) (fun i j hi hj => (HX.out i hi).2 j hj)
        have hR := red_row HE2.out (by omega) HY.out
        have hF : ∀ i j, i < n → j < q → Fit (qm X i j) := fun i j hi hj => fit_red ((HX.out i hi).2 j (by rw [(HX.out i hi).1]; exact hj))
        have hFy : ∀ j, j < q → Fit (qr y j) := fun j hj => fit_red (HY.out j hj)
        have hbA : wtM (fun i j => can (qm X i j)) (fun _ => q) n ≤ n * (q * 8192) := sumK_le fun i hi => sumK_le fun j hj => wtF_le (hF i j hi hj).sm
        have hbA2 : n * (q * 8192) ≤ 24 * (24 * 8192) := Nat.mul_le_mul hn.2 (Nat.mul_le_mul_right _ hc1.2)
        have hbB : wtR (fun j => can (qr y j)) q ≤ q * 8192 := sumK_le fun j hj => wtF_le (hFy j hj).sm
        have hbC : q * 8192 ≤ 24 * 8192 := Nat.mul_le_mul_right _ hc1.2
        have hb3 : wtM (fun i j => can (qm X i j)) (fun _ => q) n ≤ 4718592 := by omega
        have hb4 : wtR (fun j => can (qr y j)) q ≤ 196608 := by omega
        clear hbA hbA2 hbB hbC
        obtain ⟨gb, hgb⟩ : ∃ g, g = gs2 0 := ⟨_, rfl⟩
        rw [← hgb] at hR ⊢
        have T3 := Add.trans HT1.out t3
        have CW1 := Lib.hid (weightN hM (fun i j hi hj => (hF i j hi hj).sm) (by omega) (fun i hi => by omega))
        have CW2 := Lib.hid (fun (w' : World) (g : Nat) (hg : w'.heap[g]? = some (.cells #[.slice (some ⟨gb, 0, none⟩) q q] 23 (0, 0))) (ha : Add z2 w') => weightN (one_row hg (hR.add ha)) (fun i j hi hj => (hFy j hj).sm) (by omega) (fun i hi => by omega))
        have HT3 := Lib.hid T3
        clear hM hR hF hFy hgb T3 t2 t3 HE2 HE3
        go_wp2_with fail
        refine CW1.out.mono ?_
        rintro e w3 ⟨rfl, h3⟩
        go_wp2_with fail
        refine (CW2.out _ _ (heap_alloc_new w3 _) (Add.trans h3 (add_new _ _))).mono ?_
        rintro e w4 ⟨rfl, h4⟩
        rw [wtM_one]
        have T4 := Add.trans HT3.out (Add.trans (Add.trans h3 (add_new w3 (.cells #[.slice (some ⟨gb, 0, none⟩) q q] 23))) h4)
        have hw2 := HW.out
        have d : ((3800 : Int)) < ((wtM (fun i j => can (qm X i j)) (fun _ => q) n : Nat) : Int) + ((wtR (fun j => can (qr y j)) q : Nat) : Int) := by omega
        have H4 := Lib.hid T4
        clear h3 h4 T4 CW1 CW2
        go_wp2_with fail
        go_ret2
        exact refP2 H4.out
      exact AllReadyH.nil
    exact AllReadyH.nil
  exact AllReadyH.nil
end Go.Proofs.YtbeoeackahmpbaaGreatDoor

namespace Go.Proofs.YtbeoeackahmpbaaGreatDoor
open Go.RowKit NatM Go.Proofs.YtbeoeackahmpbaaGreatDoor.Api LinM

set_option maxRecDepth 100000 in
set_option maxHeartbeats 4000000 in
theorem mulN_size {w : World} {va vb : Value} {n c p : Nat} {ma mb : Nat → Nat} {X Y : Nat → Nat → Tri} (h : MatP false w va n ma X) (hv : MatP false w vb c mb Y) (hT : Tab w) (hb : shapeOk X ma n = true) (hc : ma 0 = c) (hy : shapeOk Y mb c = true) (hp : mb 0 = p)
    (hw : wtM (fun i j => can (qm X i j)) (fun _ => c) n + wtM (fun i j => can (qm Y i j)) (fun _ => p) c > 3800) :
    Calls Tryz.prog 26 #[va, vb] w (RefP w 2) := by
  obtain ⟨hn, hc1, hX⟩ := shapeOk_iff.1 hb
  rw [hc] at hX hc1
  obtain ⟨-, hp1, hY⟩ := shapeOk_iff.1 hy
  rw [hp] at hY hp1
  have CS := Lib.hid (shapeN (n, c, true) h (Lib.hid (by unfold shN; rw [if_pos hb, hc])))
  have CS2 := Lib.hid (fun w' (ha : Add w w') => shapeN (c, p, true) (hv.add ha) (Lib.hid (by unfold shN; rw [if_pos hy, hp])))
  have C1 := Lib.hid (fun w' (ha : Add w w') => reducedN (h.add ha) (hT.mono ha) (by omega) (fun i hi => by rw [(hX i hi).1]; omega))
  have C2 := Lib.hid (fun w' (ha : Add w w') => reducedN (hv.add ha) (hT.mono ha) (by omega) (fun i hi => by rw [(hY i hi).1]; omega))
  have HX := Lib.hid hX
  have HY := Lib.hid hY
  have HT := Lib.hid hT
  have HW := Lib.hid hw
  obtain ⟨ao, ca, rfl, -⟩ := h.isSlice
  obtain ⟨bo, cb, rfl, -⟩ := hv.isSlice
  clear h hv hT hb hy hX hY hw hc hp
  go_enter Tryz.func26, Tryz.ntmps26
  go_wp2_with fail
  refine CS.out.mono ?_
  rintro e w1 ⟨rfl, h1⟩
  go_wp2_with fail
  refine (CS2.out w1 h1).mono ?_
  rintro e w2 ⟨rfl, h2⟩
  replace h2 := Add.trans h1 h2
  clear h1 CS CS2
  go_wp2_with fail
  refine (C1.out w2 h2).mono ?_
  rintro e w3 ⟨Ga, ga, rfl, hEa, h3⟩
  replace h3 := Add.trans h2 h3
  have hMa := red_mat hEa (by omega) (by omega) (fun i hi => (HX.out i hi).1) (fun i j hi hj => (HX.out i hi).2 j hj)
  have HMa := Lib.hid hMa
  clear hEa h2 hMa C1
  go_wp2_with fail
  refine (C2.out w3 h3).mono ?_
  rintro e w4 ⟨Gb, gb, rfl, hEb, h4⟩
  have hMa := HMa.out.add h4
  have hMb := red_mat hEb (by omega) (by omega) (fun i hi => (HY.out i hi).1) (fun i j hi hj => (HY.out i hi).2 j hj)
  replace h4 := Add.trans h3 h4
  have hF : ∀ i j, i < n → j < c → Fit (qm X i j) := fun i j hi hj => fit_red ((HX.out i hi).2 j (by rw [(HX.out i hi).1]; exact hj))
  have hFb : ∀ i j, i < c → j < p → Fit (qm Y i j) := fun i j hi hj => fit_red ((HY.out i hi).2 j (by rw [(HY.out i hi).1]; exact hj))
  have CW1 := Lib.hid (weightN hMa (fun i j hi hj => (hF i j hi hj).sm) (by omega) (fun i hi => by omega))
  have CW2 := Lib.hid (fun w' (ha : Add w4 w') => weightN (hMb.add ha) (fun i j hi hj => (hFb i j hi hj).sm) (by omega) (fun i hi => by omega))
  have hbA : wtM (fun i j => can (qm X i j)) (fun _ => c) n ≤ n * (c * 8192) := sumK_le fun i hi => sumK_le fun j hj => wtF_le (hF i j hi hj).sm
  have hbA2 : n * (c * 8192) ≤ 24 * (24 * 8192) := Nat.mul_le_mul hn.2 (Nat.mul_le_mul_right _ hc1.2)
  have hbB : wtM (fun i j => can (qm Y i j)) (fun _ => p) c ≤ c * (p * 8192) := sumK_le fun i hi => sumK_le fun j hj => wtF_le (hFb i j hi hj).sm
  have hbC : c * (p * 8192) ≤ 24 * (24 * 8192) := Nat.mul_le_mul hc1.2 (Nat.mul_le_mul_right _ hp1.2)
  have hb3 : wtM (fun i j => can (qm X i j)) (fun _ => c) n ≤ 4718592 := by omega
  have hb4 : wtM (fun i j => can (qm Y i j)) (fun _ => p) c ≤ 4718592 := by omega
  clear hbA hbA2 hbB hbC
  have H4 := Lib.hid h4
  clear hMa hMb hF hFb hEb h3 h4 HMa C2
  go_wp2_with fail
  refine CW1.out.mono ?_
  rintro e w5 ⟨rfl, h5⟩
  go_wp2_with fail
  refine (CW2.out w5 h5).mono ?_
  rintro e wo ⟨rfl, h6⟩
  have hw2 := HW.out
  have d : (3800 : Int) < ((wtM (fun i j => can (qm X i j)) (fun _ => c) n : Nat) : Int) + ((wtM (fun i j => can (qm Y i j)) (fun _ => p) c : Nat) : Int) := by omega
  have HT6 := Lib.hid (Add.trans H4.out (Add.trans h5 h6))
  clear h5 h6 CW1 CW2 H4
  go_wp2_with fail
  go_ret2
  exact refP2 HT6.out
end Go.Proofs.YtbeoeackahmpbaaGreatDoor
