/- The reference of layer 5: Dot. Made by gen/lref3.py. | The reference of layer 5: Apply, all answers. -/
import Derived.Test.YtbeoeackahmpbaaGreatDoorJW1
import Derived.Test.YtbeoeackahmpbaaGreatDoorVS
import Derived.Test.YtbeoeackahmpbaaGreatDoorJU
import Derived.Test.YtbeoeackahmpbaaGreatDoorTm
import Derived.Test.YtbeoeackahmpbaaGreatDoorJV9
import Derived.Test.YtbeoeackahmpbaaGreatDoorJVX
import Derived.Lib.AppendZeros

namespace Go.Proofs.YtbeoeackahmpbaaGreatDoor
open Go.RowKit NatM Go.Proofs.YtbeoeackahmpbaaGreatDoor.Api LinM

theorem mul_all {x y : Tri} (hx : okF x = true) (hy : okF y = true) (h : Fit (qv x * qv y)) : mulF x y = (can (qv x * qv y), 0) := by
  unfold mulF; rw [if_pos ⟨hx, hy⟩, h.fit]
set_option maxRecDepth 100000 in
set_option maxHeartbeats 4000000 in
theorem refDotN {w : World} {v v' : Value} {m : Nat} {x y : Nat → Tri} (h : RowP false w v m x) (h' : RowP false w v' m y) (hok : ∀ j, j < m → okF (x j) = true ∧ okF (y j) = true)
    (hP : ∀ j, j < m → Fit (qr x j * qr y j)) (hF : ∀ k, k ≤ m → Fit (LinM.sumQ (fun j => qr x j * qr y j) k)) (hm : m ≤ 1000) :
    Calls Tryz.prog 62 #[v, v'] w (RetF w (can (LinM.sumQ (fun j => qr x j * qr y j) m))) := by
  obtain ⟨ao, c, rfl, -, -, -⟩ := id h
  obtain ⟨bo, c', rfl, -, -, -⟩ := id h'
  obtain ⟨T, hR⟩ := laid_var w false none 0 0 none 0 0
  have HXY := Lib.hid (And.intro (h.add T) (h'.add T))
  have HOK := Lib.hid hok
  have HP := Lib.hid hP
  have HF := Lib.hid hF
  have I0 : Hid (∀ w', Calls Tryz.prog 38 #[.int .i64 0] w' (RetQ w' 0)) := Lib.hid fun w' => intQ w' (by decide) (by decide +kernel)
  obtain ⟨W0, hW0⟩ : ∃ W, W = w.alloc (.cells #[.bool false, .slice none 0 0, .slice none 0 0] 37) := ⟨_, rfl⟩
  obtain ⟨g4, hg4⟩ : ∃ g, g = w.heap.size := ⟨_, rfl⟩
  rw [← hW0] at T HXY hR
  rw [← hg4] at hR
  have HW0 := Lib.hid (And.intro hW0 hg4)
  clear h h' hok hP hF hW0 hg4
  go_enter Tryz.func62, Tryz.ntmps62
  go_upto_region 1 with fail
  rw [← HW0.out.1, ← HW0.out.2]
  go_wp2_with fail
  refine (I0.out _).mono ?_
  rintro e w6 ⟨y6, a6, n6, c6, e6, d6, f6, rfl, x6, h6⟩
  have hB := box_new w6 y6 a6 n6 c6 e6 d6 f6
  have hA := add_new w6 (.cells #[.bool y6, .slice a6 n6 c6, .slice e6 d6 f6] 37)
  have hx6 := x6.mono hA
  have hR6 := (hR.mono h6).mono hA
  have T6 := Add.trans T (Add.trans h6 hA)
  obtain ⟨W6, hW6⟩ : ∃ W, W = w6.alloc (.cells #[.bool y6, .slice a6 n6 c6, .slice e6 d6 f6] 37) := ⟨_, rfl⟩
  obtain ⟨gx, hgx⟩ : ∃ g, g = w6.heap.size := ⟨_, rfl⟩
  have hgw : W0.heap.size ≤ gx := by rw [hgx]; exact h6.size
  have hgw0 : w.heap.size ≤ gx := Nat.le_trans T.size hgw
  have h06 : Add W0 W6 := by rw [hW6]; exact Add.trans h6 hA
  rw [← hW6] at hB hx6 hR6 T6
  rw [← hgx] at hB
  have hg4x : g4 ≠ gx := by have := hR.lt; omega
  have HGX := Lib.hid (And.intro hW6 (And.intro hgx (And.intro hgw (And.intro hgw0 hg4x))))
  have e0 : can (0 : Rat) = can (LinM.sumQ (fun j => qr x j * qr y j) 0) := rfl
  rw [e0] at hx6
  clear x6 h6 hA T hR hW6 hgx hgw hgw0 hg4x e0 I0
  go_upto_region 2 with fail
  rw [← HGX.out.1, ← HGX.out.2.1]
  go_wp2_with fail
  go_loopw [6] (fun i wr => ∃ (k : Nat) (ys : Bool) (az : Option Addr) (ns cs : Nat) (es : Option Addr) (ds fs : Nat), k ≤ m ∧ i = .int .i64 (k : Nat) ∧ Box wr gx ys az ns cs es ds fs ∧ FracT wr (.agg #[.bool ys, .slice az ns cs, .slice es ds fs]) (can (LinM.sumQ (fun j => qr x j * qr y j) k)) ∧ Box wr g4 false none 0 0 none 0 0 ∧ Add W0 wr ∧ Add w wr) (fun i _ => m - (intOf i).toNat)
  case atStart => exact ⟨0, _, _, _, _, _, _, _, Nat.zero_le _, rfl, hB, hx6, hR6, h06, T6⟩
  case round =>
    clear hB hx6 hR6 h06 T6
    obtain ⟨k, ys, az, ns, cs, es, ds, fs, hk, rfl, hB, hx, hR, T0, T⟩ := hrel
    by_cases h0 : k = m
    · rw [h0] at hx
      have p0 := hB.c0
      have p1 := hB.c1
      have p2 := hB.c2
      have q0 := hR.c0
      have q1 := hR.c1
      have q2 := hR.c2
      have q3 := hR.fr 0
      have q4 := hR.fr 1
      have q5 := hR.fr 2
      obtain ⟨z, hz⟩ : ∃ z, z = LinM.sumQ (fun j => qr x j * qr y j) m := ⟨_, rfl⟩
      rw [← hz] at hx
      have HZ := Lib.hid hz
      have hFF := retF_put (w := w) (x := can z) hR hx T (by have := HW0.out.2; omega)
      clear hB hx hR T T0 hz
      unfold put3 at hFF
      have HFF := Lib.hid hFF
      clear hFF
      subst h0
      go_wp2_with fail
      exact bodyPost_ret (v := .agg #[.bool ys, .slice az ns cs, .slice es ds fs]) (by simp [results, Tryz.results62, go_sem, q0, q1, q2]) rfl (by rw [← HZ.out]; exact HFF.out)
    · have hlt : k < m := by omega
      obtain ⟨b1, o1, sx, ax, qx, cx, ex, dx, fx, rfl, -, c0, c1, c2, kx⟩ := HXY.out.1.get hlt
      obtain ⟨b2, o2, sy, ay, qy, cy, ey, dy, fy, rfl, -, k0, k1, k2, ky⟩ := HXY.out.2.get hlt
      obtain ⟨q, hq⟩ : ∃ q, q = LinM.sumQ (fun j => qr x j * qr y j) k := ⟨_, rfl⟩
      obtain ⟨q', hq'⟩ : ∃ q', q' = LinM.sumQ (fun j => qr x j * qr y j) (k + 1) := ⟨_, rfl⟩
      obtain ⟨pr, hpr⟩ : ∃ pr, pr = qr x k * qr y k := ⟨_, rfl⟩
      have esum : q' = q + pr := by rw [hq, hq', hpr]; rfl
      have f1 : Fit q := by rw [hq]; exact HF.out k hk
      have f2 : Fit pr := by rw [hpr]; exact HP.out k hlt
      have f3 : Fit q' := by rw [hq']; exact HF.out (k + 1) hlt
      obtain ⟨o3, o4⟩ := HOK.out k hlt
      rw [← hq] at hx
      rename World => wr
      have CMU : Hid (∀ W, Add wr W → Calls Tryz.prog 61 #[.agg #[.bool sx, .slice ax qx cx, .slice ex dx fx], .agg #[.bool sy, .slice ay qy cy, .slice ey dy fy]] W (RetF W (can pr))) := Lib.hid fun W ha => by
        have := refMulL (can (qv (x k) * qv (y k)), 0) (FracA.mono kx (Add.trans T0 ha)) (FracA.mono ky (Add.trans T0 ha)) (Lib.hid (mul_all o3 o4 (HP.out k hlt)))
        rw [hpr]; exact this
      have CAD : Hid (∀ W v, Add wr W → FracT W v (can pr) → Calls Tryz.prog 60 #[.agg #[.bool ys, .slice az ns cs, .slice es ds fs], v] W (RetF W (can q'))) := Lib.hid fun W v ha hv => by
        have := refAddL (can (q + pr), 0) (Sm.arg (hx.mono ha) f1.sm) (Sm.arg hv f2.sm) (Lib.hid (add_can f1 f2 (by rw [← esum]; exact f3)))
        rw [esum]; exact this
      have HS : Hid (∀ W : World, Add wr W → W.cell? ⟨b1, o1 + k * 3, none⟩ = some (.bool sx) ∧ W.cell? ⟨b1, o1 + k * 3 + 1, none⟩ = some (.slice ax qx cx) ∧ W.cell? ⟨b1, o1 + k * 3 + 2, none⟩ = some (.slice ex dx fx) ∧ W.cell? ⟨b2, o2 + k * 3, none⟩ = some (.bool sy) ∧ W.cell? ⟨b2, o2 + k * 3 + 1, none⟩ = some (.slice ay qy cy) ∧ W.cell? ⟨b2, o2 + k * 3 + 2, none⟩ = some (.slice ey dy fy)) := Lib.hid fun W g => ⟨cell_addL (cell_addL c0 T0) g, cell_addL (cell_addL c1 T0) g, cell_addL (cell_addL c2 T0) g, cell_addL (cell_addL k0 T0) g, cell_addL (cell_addL k1 T0) g, cell_addL (cell_addL k2 T0) g⟩
      have l1 : b1 < gx := by have h9 : b1 < W0.heap.size := World.block_lt_of_cell? W0 _ c0; have := HGX.out.2.2.1; omega
      have l2 : b2 < gx := by have h9 : b2 < W0.heap.size := World.block_lt_of_cell? W0 _ k0; have := HGX.out.2.2.1; omega
      have HS2 : Hid (∀ (W : World) (u0 u1 u2 : Value), Add wr W → (((W.setCell ⟨gx, 0, none⟩ u0).setCell ⟨gx, 1, none⟩ u1).setCell ⟨gx, 2, none⟩ u2).cell? ⟨b1, o1 + k * 3, none⟩ = some (.bool sx) ∧ (((W.setCell ⟨gx, 0, none⟩ u0).setCell ⟨gx, 1, none⟩ u1).setCell ⟨gx, 2, none⟩ u2).cell? ⟨b1, o1 + k * 3 + 1, none⟩ = some (.slice ax qx cx) ∧ (((W.setCell ⟨gx, 0, none⟩ u0).setCell ⟨gx, 1, none⟩ u1).setCell ⟨gx, 2, none⟩ u2).cell? ⟨b1, o1 + k * 3 + 2, none⟩ = some (.slice ex dx fx) ∧ (((W.setCell ⟨gx, 0, none⟩ u0).setCell ⟨gx, 1, none⟩ u1).setCell ⟨gx, 2, none⟩ u2).cell? ⟨b2, o2 + k * 3, none⟩ = some (.bool sy) ∧ (((W.setCell ⟨gx, 0, none⟩ u0).setCell ⟨gx, 1, none⟩ u1).setCell ⟨gx, 2, none⟩ u2).cell? ⟨b2, o2 + k * 3 + 1, none⟩ = some (.slice ay qy cy) ∧ (((W.setCell ⟨gx, 0, none⟩ u0).setCell ⟨gx, 1, none⟩ u1).setCell ⟨gx, 2, none⟩ u2).cell? ⟨b2, o2 + k * 3 + 2, none⟩ = some (.slice ey dy fy)) := Lib.hid fun W u0 u1 u2 ha => by
        obtain ⟨q1, q2, q3, q4, q5, q6⟩ := HS.out W ha
        exact ⟨(put3_cell u0 u1 u2 (show b1 ≠ gx by omega)).trans q1, (put3_cell u0 u1 u2 (show b1 ≠ gx by omega)).trans q2, (put3_cell u0 u1 u2 (show b1 ≠ gx by omega)).trans q3, (put3_cell u0 u1 u2 (show b2 ≠ gx by omega)).trans q4, (put3_cell u0 u1 u2 (show b2 ≠ gx by omega)).trans q5, (put3_cell u0 u1 u2 (show b2 ≠ gx by omega)).trans q6⟩
      have HC : Hid (∀ W : World, Add wr W → W.cell? ⟨gx, 0, none⟩ = some (.bool ys) ∧ W.cell? ⟨gx, 1, none⟩ = some (.slice az ns cs) ∧ W.cell? ⟨gx, 2, none⟩ = some (.slice es ds fs)) := Lib.hid fun W g => ⟨(hB.mono g).c0, (hB.mono g).c1, (hB.mono g).c2⟩
      have HSD := Lib.hid (HS.out _ (Below.drew (Below.refl _ _) : Add wr (World.drew wr)))
      have HCD := Lib.hid (HC.out _ (Below.drew (Below.refl _ _) : Add wr (World.drew wr)))
      have HBX := Lib.hid hB
      have HE := Lib.hid (And.intro hR (And.intro T0 (And.intro T hq')))
      clear kx ky o3 o4 hq hq' hpr esum f1 f2 f3 hB hx hR T T0 h0 l1 l2 c0 c1 c2 k0 k1 k2
      go_upto_region 5 with fail
      refine wp_region_T (fun w' => w'.cell? ⟨b1, o1 + k * 3, none⟩ = some (.bool sx) ∧ w'.cell? ⟨b1, o1 + k * 3 + 1, none⟩ = some (.slice ax qx cx) ∧ w'.cell? ⟨b1, o1 + k * 3 + 2, none⟩ = some (.slice ex dx fx) ∧ w'.cell? ⟨b2, o2 + k * 3, none⟩ = some (.bool sy) ∧ w'.cell? ⟨b2, o2 + k * 3 + 1, none⟩ = some (.slice ay qy cy) ∧ w'.cell? ⟨b2, o2 + k * 3 + 2, none⟩ = some (.slice ey dy fy)) (fun w' => w'.cell? ⟨gx, 0, none⟩ = some (.bool ys) ∧ w'.cell? ⟨gx, 1, none⟩ = some (.slice az ns cs) ∧ w'.cell? ⟨gx, 2, none⟩ = some (.slice es ds fs)) 11 (by kernel_rfl) ?_
      show wpAnyT _ _ _ _ _ _ _ 12 #[false, false, false, false, false, false, false, false, false, false, false, false] _ _
      refine wpAnyT_take (i := 0) (v := ?_) (by simp only [List.getElem?_toArray, List.getElem?_cons_zero]; rfl) (by kernel_rfl) (by kernel_rfl) (by kernel_rfl) (by kernel_rfl) (by intro _ _ _ h; exact h) (Or.inl ⟨by rfl, ?_⟩) HSD.out HCD.out ?_
      rotate_left
      · intro w' hSw
        try dsimp only at hSw
        go_simp
        try with_reducible rfl
      try simp only [Act.put, List.setIfInBounds_toArray, List.set_cons_zero, List.set_cons_succ]
      refine wpAnyT_take (i := 1) (v := ?_) (by simp only [List.getElem?_toArray, List.getElem?_cons_zero, List.getElem?_cons_succ]; rfl) (by kernel_rfl) (by kernel_rfl) (by kernel_rfl) (by kernel_rfl) (by intro _ _ _ h; exact h) (Or.inl ⟨by rfl, ?_⟩) HSD.out HCD.out ?_
      rotate_left
      · intro w' hSw
        try dsimp only at hSw
        go_simp
        try with_reducible rfl
      try simp only [Act.put, List.setIfInBounds_toArray, List.set_cons_zero, List.set_cons_succ]
      refine wpAnyT_take (i := 2) (v := ?_) (by simp only [List.getElem?_toArray, List.getElem?_cons_zero, List.getElem?_cons_succ]; rfl) (by kernel_rfl) (by kernel_rfl) (by kernel_rfl) (by kernel_rfl) (by intro _ _ _ h; exact h) (Or.inl ⟨by rfl, ?_⟩) HSD.out HCD.out ?_
      rotate_left
      · intro w' hSw
        try dsimp only at hSw
        go_simp
        try with_reducible rfl
      try simp only [Act.put, List.setIfInBounds_toArray, List.set_cons_zero, List.set_cons_succ]
      refine wpAnyT_take (i := 3) (v := ?_) (by simp only [List.getElem?_toArray, List.getElem?_cons_zero, List.getElem?_cons_succ]; rfl) (by kernel_rfl) (by kernel_rfl) (by kernel_rfl) (by kernel_rfl) (by intro _ _ _ h; exact h) (Or.inl ⟨by rfl, ?_⟩) HSD.out HCD.out ?_
      rotate_left
      · intro w' hSw
        try dsimp only at hSw
        go_simp
        try with_reducible rfl
      try simp only [Act.put, List.setIfInBounds_toArray, List.set_cons_zero, List.set_cons_succ]
      refine wpAnyT_take (i := 4) (v := ?_) (by simp only [List.getElem?_toArray, List.getElem?_cons_zero, List.getElem?_cons_succ]; rfl) (by kernel_rfl) (by kernel_rfl) (by kernel_rfl) (by kernel_rfl) (by intro _ _ _ h; exact h) (Or.inl ⟨by rfl, ?_⟩) HSD.out HCD.out ?_
      rotate_left
      · intro w' hSw
        try dsimp only at hSw
        go_simp
        try with_reducible rfl
      try simp only [Act.put, List.setIfInBounds_toArray, List.set_cons_zero, List.set_cons_succ]
      refine wpAnyT_take (i := 5) (v := ?_) (by simp only [List.getElem?_toArray, List.getElem?_cons_zero, List.getElem?_cons_succ]; rfl) (by kernel_rfl) (by kernel_rfl) (by kernel_rfl) (by kernel_rfl) (by intro _ _ _ h; exact h) (Or.inl ⟨by rfl, ?_⟩) HSD.out HCD.out ?_
      rotate_left
      · intro w' hSw
        try dsimp only at hSw
        go_simp
        try with_reducible rfl
      try simp only [Act.put, List.setIfInBounds_toArray, List.set_cons_zero, List.set_cons_succ]
      refine wpAnyT_take (i := 6) (v := ?_) (by simp only [List.getElem?_toArray, List.getElem?_cons_zero, List.getElem?_cons_succ]; rfl) (by kernel_rfl) (by kernel_rfl) (by kernel_rfl) (by kernel_rfl) (by intro _ _ _ h; exact h) (Or.inl ⟨by rfl, ?_⟩) HSD.out HCD.out ?_
      rotate_left
      · intro w' hSw
        try dsimp only at hSw
        go_simp
        try with_reducible rfl
      try simp only [Act.put, List.setIfInBounds_toArray, List.set_cons_zero, List.set_cons_succ]
      refine wpAnyT_take (i := 7) (v := ?_) (by simp only [List.getElem?_toArray, List.getElem?_cons_zero, List.getElem?_cons_succ]; rfl) (by kernel_rfl) (by kernel_rfl) (by kernel_rfl) (by kernel_rfl) (by intro _ _ _ h; exact h) (Or.inl ⟨by rfl, ?_⟩) HSD.out HCD.out ?_
      rotate_left
      · intro w' hSw
        try dsimp only at hSw
        go_simp
        try with_reducible rfl
      try simp only [Act.put, List.setIfInBounds_toArray, List.set_cons_zero, List.set_cons_succ]
      refine wpAnyT_take (i := 8) (v := ?_) (by simp only [List.getElem?_toArray, List.getElem?_cons_zero, List.getElem?_cons_succ]; rfl) (by kernel_rfl) (by kernel_rfl) (by kernel_rfl) (by kernel_rfl) (by intro _ _ _ h; exact h) (Or.inl ⟨by rfl, ?_⟩) HSD.out HCD.out ?_
      rotate_left
      · intro w' hSw
        try dsimp only at hSw
        go_simp
        try with_reducible rfl
      try simp only [Act.put, List.setIfInBounds_toArray, List.set_cons_zero, List.set_cons_succ]
      refine wpAnyT_one (i := 9) (by kernel_rfl) (wpOp_do (by simp only [List.getElem?_toArray, List.getElem?_cons_zero, List.getElem?_cons_succ]; rfl) fun K hK => ?_)
      go_simp
      refine (CMU.out _ (Below.drew (Below.refl _ _))).mono ?_
      rintro e z1 ⟨v1, rfl, hv1, h1⟩
      obtain ⟨a1, n1, c1, e1, d1, f1, rfl, -, -⟩ := id hv1
      have A1 := Add.trans (Below.drew (Below.refl _ _) : Add wr (World.drew wr)) h1
      refine hK _ _ ⟨⟨HS.out _ A1, fun _ => HC.out _ A1⟩, ?_⟩
      clear hK K
      try simp only [List.setIfInBounds_toArray, List.set_cons_zero, List.set_cons_succ]
      refine wpAnyT_one (i := 10) (by kernel_rfl) (wpOp_do (by simp only [List.getElem?_toArray, List.getElem?_cons_zero, List.getElem?_cons_succ]; rfl) fun K hK => ?_)
      go_simp
      refine (CAD.out _ _ A1 hv1).mono ?_
      rintro e z2 ⟨v2, rfl, hv2, h2⟩
      obtain ⟨a2, n2, c2, e2, d2, f2, rfl, -, -⟩ := id hv2
      have A2 := Add.trans A1 h2
      obtain ⟨bx0, bx1, bx2⟩ := HC.out _ A2
      have bB := HBX.out.mono A2
      have bf0 := bB.fr 0
      have bf1 := bB.fr 1
      have bf2 := bB.fr 2
      have bl := bB.lt
      refine hK _ _ ⟨⟨HS.out _ A2, fun _ => HC.out _ A2⟩, ?_⟩
      clear hK K
      try simp only [List.setIfInBounds_toArray, List.set_cons_zero, List.set_cons_succ]
      refine wpAnyT_one (i := 11) (by kernel_rfl) (wpOp_do (by simp only [List.getElem?_toArray, List.getElem?_cons_zero, List.getElem?_cons_succ]; rfl) fun K hK => ?_)
      go_simp
      refine hK _ _ ⟨⟨HS2.out _ _ _ _ A2, fun h => absurd (show true = false from h) (by decide)⟩, ?_⟩
      clear hK K
      try simp only [List.setIfInBounds_toArray, List.set_cons_zero, List.set_cons_succ]
      refine wpAnyT_done (by kernel_rfl) ?_ _
      have hbz := HBX.out.mono A2
      have bE := hbz.put (can q').1 a2 n2 c2 e2 d2 f2
      have xE := hv2.put hbz (.bool (can q').1) (.slice a2 n2 c2) (.slice e2 d2 f2)
      have rE : Box (put3 z2 gx (.bool (can q').1) (.slice a2 n2 c2) (.slice e2 d2 f2)) g4 false none 0 0 none 0 0 := (put3_other _ _ _ HGX.out.2.2.2.2).trans (HE.out.1.mono A2)
      have tE0 := put3_below (.bool (can q').1) (.slice a2 n2 c2) (.slice e2 d2 f2) (Add.trans HE.out.2.1 A2) HGX.out.2.2.1
      have tE := put3_below (.bool (can q').1) (.slice a2 n2 c2) (.slice e2 d2 f2) (Add.trans HE.out.2.2.1 A2) HGX.out.2.2.2.1
      have xF : FracT (put3 z2 gx (.bool (can q').1) (.slice a2 n2 c2) (.slice e2 d2 f2)) (.agg #[.bool (can q').1, .slice a2 n2 c2, .slice e2 d2 f2]) (can (LinM.sumQ (fun j => qr x j * qr y j) (k + 1))) := by
        rw [← HE.out.2.2.2]; exact xE
      have HN := Lib.hid (And.intro bE (And.intro xF (And.intro rE (And.intro tE0 tE))))
      unfold put3 at HN
      clear hbz bE xE rE tE0 tE xF hv1 hv2 h1 h2 A1 A2 CMU CAD HS HS2 HC HSD HCD HBX HE bx0 bx1 bx2 bB bf0 bf1 bf2 bl
      go_wp2_with fail
      go_roundw
      case rel => exact ⟨k + 1, _, _, _, _, _, _, _, by omega, by go_num, HN.out.1, HN.out.2.1, HN.out.2.2.1, HN.out.2.2.2.1, HN.out.2.2.2.2⟩
      case measure => simp [intOf]; omega
end Go.Proofs.YtbeoeackahmpbaaGreatDoor

namespace Go.Proofs.YtbeoeackahmpbaaGreatDoor
open Go.RowKit NatM Go.Proofs.YtbeoeackahmpbaaGreatDoor.Api LinM

set_option maxRecDepth 100000 in
set_option maxHeartbeats 4000000 in
theorem refApply_ok {w : World} {va vb : Value} {n c q : Nat} {m : Nat → Nat} {X : Nat → Nat → Tri} {y : Nat → Tri} (h : MatP false w va n m X) (hv : RowP false w vb q y) (hb : shapeOk X m n = true) (hc : m 0 = c) (hy : vecOk y q c = true)
    (hw : wtM (fun i j => can (qm X i j)) (fun _ => c) n + wtR (fun j => can (qr y j)) c ≤ 3800) :
    Calls Tryz.prog 29 #[va, vb] w (VRes w n (fun i => can (mulV (qm X) (qr y) c i)) 0) := by
  obtain ⟨hn, hc1, hX⟩ := shapeOk_iff.1 hb
  rw [hc] at hX hc1
  obtain ⟨rfl, hyo⟩ := vecOk_iff.1 hy
  have CS := Lib.hid (refShapeN (n, q, true) h (Lib.hid (by unfold shN; rw [if_pos hb, hc])))
  have CV := Lib.hid (fun w' (ha : Add w w') => refVectorN true (hv.add ha) (show q ≤ 9223372036854775807 by omega) (Lib.hid hy))
  have CW := Lib.hid (fun w' (ha : Add w w') => refWeightsN (h.add ha) (fun i j hi hj => (hX i hi).2 j hj) (by omega) (fun i hi => by rw [(hX i hi).1]; omega))
  rw [wtM_shape fun i hi => (hX i hi).1] at CW
  have CW2 := Lib.hid (fun w' (ha : Add w w') => refWeightN (hv.add ha) hyo (by omega))
  obtain ⟨N1, hN1⟩ : ∃ z, wtM (fun i j => can (qm X i j)) (fun _ => q) n = z := ⟨_, rfl⟩
  obtain ⟨N2, hN2⟩ : ∃ z, wtR (fun j => can (qr y j)) q = z := ⟨_, rfl⟩
  have HDOT : Hid (∀ (w' : World) (i : Nat) (u : Value), i < n → RowP false w' u q (X i) → RowP false w' vb q y → Calls Tryz.prog 62 #[u, vb] w' (RetF w' (can (mulV (qm X) (qr y) q i)))) := Lib.hid fun w' i u hi hu hv' => by
    have hwi : wtR (fun j => can (qr (X i) j)) q + wtR (fun j => can (qr y j)) q ≤ 3800 := by
      have : wtR (fun j => can (qr (X i) j)) q ≤ _ := wtM_row (fun i j => can (qm X i j)) (fun _ => q) hi
      omega
    exact refDotN hu hv' (fun j hj => ⟨(hX i hi).2 j (by rw [(hX i hi).1]; exact hj), hyo j hj⟩) (fun j hj => fit_prod hwi (Nat.le_refl _) hj) (fun k hk => fit_sum hwi (Nat.le_refl _) (by omega) hk) (by omega)
  have HM : Hid (∀ i, i < n → m i = q) := Lib.hid fun i hi => (hX i hi).1
  rw [hN1] at CW hw
  rw [hN2] at CW2 hw
  have HAB := Lib.hid (And.intro h hv)
  obtain ⟨ao, ca, rfl, -⟩ := h.isSlice
  obtain ⟨bo, cb, rfl, -, -, -⟩ := id hv
  have hnw : ¬ ((3800 : Int) < (N1 : Int) + (N2 : Int)) := by omega
  have dnw : decide ((3800 : Int) < (N1 : Int) + (N2 : Int)) = false := by simp; omega
  clear h hv hb hX hyo hy hN1 hN2 hc
  go_enter Tryz.func29, Tryz.ntmps29
  go_wp2_with fail
  refine CS.out.mono ?_
  rintro e w1 ⟨rfl, h1⟩
  go_wp2_with fail
  refine (CV.out w1 h1).mono ?_
  rintro e w2 ⟨rfl, h2⟩
  have h12 := Add.trans h1 h2
  clear h1 h2 CS CV
  go_wp2_with fail
  refine (CW.out w2 h12).mono ?_
  rintro e w3 ⟨rfl, h3⟩
  have h13 := Add.trans h12 h3
  clear h12 h3 CW
  go_wp2_with fail
  refine (CW2.out w3 h13).mono ?_
  rintro e w4 ⟨rfl, h4⟩
  have h14 := Add.trans h13 h4
  have HT4 := Lib.hid h14
  clear h13 h4 h14 CW2
  go_wp2_with fail
  go_loopw [9, 10] (fun u i wr => ∃ k : Nat, k ≤ n ∧ i = .int .i64 (k : Nat) ∧ OwnF wr w4.heap.size u k (fun i => can (mulV (qm X) (qr y) q i)) ∧ Add w4 wr) (fun _ i _ => n - (intOf i).toNat)
  case atStart => exact ⟨0, Nat.zero_le _, rfl, OwnF.nil _ _ _, Below.refl _ _⟩
  case round =>
    obtain ⟨k, hk, rfl, hO, T⟩ := hrel
    obtain ⟨ua, uc, rfl, -, -⟩ := hO.slice
    by_cases h0 : k = n
    · rename World => wr
      have hF : VRes w n (fun i => can (mulV (qm X) (qr y) q i)) 0 (.returned (.tuple #[.slice ua n uc, .int .i64 0])) wr := ⟨ua, uc, rfl, by rw [← h0]; exact hO.row, Add.trans HT4.out T⟩
      have HF := Lib.hid hF
      clear hO T hF HDOT HAB HM
      subst h0
      go_wp2_with fail
      go_ret2
      exact HF.out
    · have hlt : k < n := by omega
      rename World => wr
      have Tw := Add.trans HT4.out T
      obtain ⟨b, off, a, l, rfl, -, c0, r0⟩ := (HAB.out.1.add Tw).row hlt
      rw [HM.out k hlt] at c0 r0
      have CD := Lib.hid (HDOT.out wr k _ hlt r0 (HAB.out.2.add Tw))
      have HO := Lib.hid (And.intro hO T)
      clear r0 Tw hO T h0
      go_wp2_with fail
      refine CD.out.mono ?_
      rintro e w6 ⟨v6, rfl, hv6, h6⟩
      obtain ⟨a6, n6, c6, e6, d6, f6, rfl, -, -⟩ := id hv6
      have T6 := Add.trans HO.out.2 h6
      obtain ⟨a', c', w9, hrun, hO9, T9⟩ := app_box (HO.out.1.add h6) hv6 T6 (by omega)
      have HRUN := Lib.hid hrun
      have HN := Lib.hid (And.intro (hO9.congr (t' := fun i => can (mulV (qm X) (qr y) q i)) fun i hi => by
        by_cases e : i = k
        · rw [if_pos e, e]
        · rw [if_neg e]) T9)
      clear hv6 h6 T6 hrun hO9 T9 HO CD
      go_wp2_with (at_builtin; refine Lib.wpList_append_run _ rfl _ _ _ _ rfl _ _ rfl rfl _ _ HRUN.out ?_)
      go_roundw
      case rel => exact ⟨k + 1, by omega, by go_num, HN.out.1, HN.out.2⟩
      case measure => simp [intOf]; omega
set_option maxRecDepth 100000 in
set_option maxHeartbeats 1000000 in
theorem refApply_size {w : World} {va vb : Value} {n c q : Nat} {m : Nat → Nat} {X : Nat → Nat → Tri} {y : Nat → Tri} (h : MatP false w va n m X) (hv : RowP false w vb q y) (hb : shapeOk X m n = true) (hc : m 0 = c) (hy : vecOk y q c = true)
    (hw : wtM (fun i j => can (qm X i j)) (fun _ => c) n + wtR (fun j => can (qr y j)) c > 3800) :
    Calls Tryz.prog 29 #[va, vb] w (RefP w 2) := by
  obtain ⟨hn, hc1, hX⟩ := shapeOk_iff.1 hb
  rw [hc] at hX hc1
  obtain ⟨rfl, hyo⟩ := vecOk_iff.1 hy
  have CS := Lib.hid (refShapeN (n, q, true) h (Lib.hid (by unfold shN; rw [if_pos hb, hc])))
  have CV := Lib.hid (fun w' (ha : Add w w') => refVectorN true (hv.add ha) (show q ≤ 9223372036854775807 by omega) (Lib.hid hy))
  have CW := Lib.hid (fun w' (ha : Add w w') => refWeightsN (h.add ha) (fun i j hi hj => (hX i hi).2 j hj) (by omega) (fun i hi => by rw [(hX i hi).1]; omega))
  rw [wtM_shape fun i hi => (hX i hi).1] at CW
  have CW2 := Lib.hid (fun w' (ha : Add w w') => refWeightN (hv.add ha) hyo (by omega))
  have u1 : wtM (fun i j => can (qm X i j)) (fun _ => q) n ≤ 8192000000 := wtM_le (n := n) (fun i j hi hj => (fit_red ((hX i hi).2 j (by rw [(hX i hi).1]; exact hj))).sm) (fun i _ => by omega) (by omega) (Nat.le_refl n)
  have u2 : wtR (fun j => can (qr y j)) q ≤ 8192000 := wtR_le (m := q) (fun j hj => (fit_red (hyo j hj)).sm) (by omega) (Nat.le_refl q)
  obtain ⟨N1, hN1⟩ : ∃ z, wtM (fun i j => can (qm X i j)) (fun _ => q) n = z := ⟨_, rfl⟩
  obtain ⟨N2, hN2⟩ : ∃ z, wtR (fun j => can (qr y j)) q = z := ⟨_, rfl⟩
  rw [hN1] at CW hw u1
  rw [hN2] at CW2 hw u2
  obtain ⟨ao, ca, rfl, -⟩ := h.isSlice
  obtain ⟨bo, cb, rfl, -, -, -⟩ := id hv
  have hnw : ((3800 : Int) < (N1 : Int) + (N2 : Int)) := by omega
  have dnw : decide ((3800 : Int) < (N1 : Int) + (N2 : Int)) = true := by simp; omega
  clear h hv hb hX hyo hy hN1 hN2 hc
  go_enter Tryz.func29, Tryz.ntmps29
  go_wp2_with fail
  refine CS.out.mono ?_
  rintro e w1 ⟨rfl, h1⟩
  go_wp2_with fail
  refine (CV.out w1 h1).mono ?_
  rintro e w2 ⟨rfl, h2⟩
  have h12 := Add.trans h1 h2
  clear h1 h2 CS CV
  go_wp2_with fail
  refine (CW.out w2 h12).mono ?_
  rintro e w3 ⟨rfl, h3⟩
  have h13 := Add.trans h12 h3
  clear h12 h3 CW
  go_wp2_with fail
  refine (CW2.out w3 h13).mono ?_
  rintro e w4 ⟨rfl, h4⟩
  have HT4 := Lib.hid (Add.trans h13 h4)
  clear h13 h4 CW2
  go_wp2_with fail
  go_ret2
  exact refP2 HT4.out
set_option maxRecDepth 100000 in
set_option maxHeartbeats 1000000 in
theorem refApply_arg {w : World} {va vb : Value} {n q : Nat} {m : Nat → Nat} {X : Nat → Nat → Tri} {y : Nat → Tri} (h : MatP false w va n m X) (hv : RowP false w vb q y) (hb : shapeOk X m n = false ∨ (shapeOk X m n = true ∧ vecOk y q (m 0) = false)) :
    Calls Tryz.prog 29 #[va, vb] w (RefP w 1) := by
  rcases hb with hs | ⟨hs, hy⟩
  · have CS := Lib.hid (refShapeN (0, 0, false) h (Lib.hid (by unfold shN; rw [if_neg (by rw [hs]; decide)])))
    obtain ⟨ao, ca, rfl, -⟩ := h.isSlice
    obtain ⟨bo, cb, rfl, -, -, -⟩ := hv
    clear h hs
    go_enter Tryz.func29, Tryz.ntmps29
    go_wp2_with fail
    refine CS.out.mono ?_
    rintro e w1 ⟨rfl, h1⟩
    have H2 := Lib.hid h1
    clear h1 CS
    go_wp2_with fail
    go_ret2
    exact refP1 H2.out
  · obtain ⟨-, hc1, -⟩ := shapeOk_iff.1 hs
    obtain ⟨c, hc⟩ : ∃ c, m 0 = c := ⟨_, rfl⟩
    rw [hc] at hy hc1
    have CS := Lib.hid (refShapeN (n, c, true) h (Lib.hid (by unfold shN; rw [if_pos hs, hc])))
    have CV := Lib.hid (fun w' (ha : Add w w') => refVectorN false (hv.add ha) (show c ≤ 9223372036854775807 by omega) (Lib.hid hy))
    obtain ⟨ao, ca, rfl, -⟩ := h.isSlice
    obtain ⟨bo, cb, rfl, -, -, -⟩ := hv
    clear h hs hy hc
    go_enter Tryz.func29, Tryz.ntmps29
    go_wp2_with fail
    refine CS.out.mono ?_
    rintro e w1 ⟨rfl, h1⟩
    go_wp2_with fail
    refine (CV.out w1 h1).mono ?_
    rintro e w2 ⟨rfl, h2⟩
    have H2 := Lib.hid (Add.trans h1 h2)
    clear h1 h2 CS CV
    go_wp2_with fail
    go_ret2
    exact refP1 H2.out
/-- The program and the reference give the same. -/
theorem apply_both {w : World} {va vb : Value} {n q : Nat} {m : Nat → Nat} {X : Nat → Nat → Tri} {y : Nat → Tri} (h : MatP false w va n m X) (hv : RowP false w vb q y) (hT : Tab w) :
    ∃ (N : Nat) (t : Nat → Tri) (k : Nat), N ≤ 24 ∧ ∀ w', Add w w' → Calls Tryz.prog 28 #[va, vb] w' (VRes w' N t k) ∧ Calls Tryz.prog 29 #[va, vb] w' (VRes w' N t k) := by
  by_cases hs : shapeOk X m n = true
  · by_cases hy : vecOk y q (m 0) = true
    · by_cases hw : wtM (fun i j => can (qm X i j)) (fun _ => m 0) n + wtR (fun j => can (qr y j)) (m 0) ≤ 3800
      · obtain ⟨hn, -, -⟩ := shapeOk_iff.1 hs
        refine ⟨n, fun i => can (mulV (qm X) (qr y) (m 0) i), 0, by omega, fun w' ha => ⟨(applyN_ok (h.add ha) (hv.add ha) (hT.mono ha) hs rfl hy hw).mono ?_, refApply_ok (h.add ha) (hv.add ha) hs rfl hy hw⟩⟩
        rintro e w2 ⟨g, rfl, hB, -, h2⟩
        exact ⟨_, _, rfl, hB.row (by unfold maxLen; omega), h2⟩
      · exact ⟨0, fun _ => can 0, 2, by omega, fun w' ha => ⟨(applyN_size (h.add ha) (hv.add ha) (hT.mono ha) hs rfl hy (by omega)).mono fun _ _ g => g.vec _, (refApply_size (h.add ha) (hv.add ha) hs rfl hy (by omega)).mono fun _ _ g => g.vec _⟩⟩
    · exact ⟨0, fun _ => can 0, 1, by omega, fun w' ha => ⟨(applyN_arg (h.add ha) (hv.add ha) (.inr ⟨hs, by simpa using hy⟩)).mono fun _ _ g => g.vec _, (refApply_arg (h.add ha) (hv.add ha) (.inr ⟨hs, by simpa using hy⟩)).mono fun _ _ g => g.vec _⟩⟩
  · exact ⟨0, fun _ => can 0, 1, by omega, fun w' ha => ⟨(applyN_arg (h.add ha) (hv.add ha) (.inl (by simpa using hs))).mono fun _ _ g => g.vec _, (refApply_arg (h.add ha) (hv.add ha) (.inl (by simpa using hs))).mono fun _ _ g => g.vec _⟩⟩
end Go.Proofs.YtbeoeackahmpbaaGreatDoor
