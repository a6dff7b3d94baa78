/- The law FractionField returns true for all arguments, and leaves them as they were: the row and its card.
(With the texts that are joined here: The law FractionField: its walk, for all arguments. | What the cards of layer 2 share: how arguments open, a world for the witness, Go's table.) -/
import Derived.Test.YtfoffjnffkgnaaaGreatDoorZF
import Derived.Test.YtfoffjnffkgnaaaGreatDoorCards
import Derived.Test.YtfoffjnffkgnaaaGreatDoorTie
import Derived.Lib.SmallJoins
import Derived.WalkKit
import Derived.ProofKit
import Derived.OpenShut
import Derived.Deep.DeepHandedRow
import Derived.Lib.LaidTab

namespace Go.Proofs.YtfoffjnffkgnaaaGreatDoor.FieldL
open Go.Proofs.YtfoffjnffkgnaaaGreatDoor Go.RowKit NatM Go.Proofs.YtfoffjnffkgnaaaGreatDoor.Api

theorem Nv.put {w : World} {v : Value} {N g : Nat} {b an n cn ad d cd} (h : Nv w v N) (hB : Box w g b an n cn ad d cd) (u0 u1 u2 : Value) : Nv (put3 w g u0 u1 u2) v N := by
  obtain ⟨zs, h1, h2⟩ := h; exact ⟨zs, h1.put hB u0 u1 u2, h2⟩
theorem FracA.put {w : World} {v : Value} {x : Tri} {g : Nat} {b an n cn ad d cd} (h : FracA w v x) (hB : Box w g b an n cn ad d cd) (u0 u1 u2 : Value) : FracA (put3 w g u0 u1 u2) v x := by
  obtain ⟨an, n, cn, ad, d, cd, h1, h2, h3⟩ := h; exact ⟨an, n, cn, ad, d, cd, h1, Nv.put h2 hB u0 u1 u2, Nv.put h3 hB u0 u1 u2⟩
theorem put3_size (w : World) (g : Nat) (u0 u1 u2 : Value) : (put3 w g u0 u1 u2).heap.size = w.heap.size := by
  unfold put3; simp [World.setCell]
theorem Tab.put {w : World} {g : Nat} {b an n cn ad d cd} (h : Tab w) (hB : Box w g b an n cn ad d cd) (u0 u1 u2 : Value) : Tab (put3 w g u0 u1 u2) := by
  refine ⟨by rw [put3_size]; exact h.1, fun j hj => ?_⟩
  have hk : 2 ≠ g := by
    rintro rfl
    exact hB.not_int _ _ _ (h.2 j hj)
  rw [cell_other (fun k hk => put3_other u0 u1 u2 hk) _ hk]
  exact h.2 j hj
theorem Box.other {w : World} {g k : Nat} {b an n cn ad d cd} (h : Box w k b an n cn ad d cd) (hk : k ≠ g) (u0 u1 u2 : Value) : Box (put3 w g u0 u1 u2) k b an n cn ad d cd := (put3_other u0 u1 u2 hk).trans h
theorem addC {P Q : Rat} {i j : Nat} (h1 : Sz i (can P)) (h2 : Sz j (can Q)) (h : i + j + 1 ≤ 128) : addF (can P) (can Q) = (can (P + Q), 0) ∧ Sz (i + j + 1) (can (P + Q)) := by
  have := add_sz h1 h2 h
  rwa [qv_can, qv_can] at this
theorem mulC {P Q : Rat} {i j : Nat} (h1 : Sz i (can P)) (h2 : Sz j (can Q)) (h : i + j ≤ 128) : mulF (can P) (can Q) = (can (P * Q), 0) ∧ Sz (i + j) (can (P * Q)) := by
  have := mul_sz h1 h2 h
  rwa [qv_can, qv_can] at this
theorem quoC {P Q : Rat} {i j : Nat} (h1 : Sz i (can P)) (h2 : Sz j (can Q)) (h0 : Q ≠ 0) (h : i + j ≤ 128) : quoF (can P) (can Q) = (can (P / Q), 0) ∧ Sz (i + j) (can (P / Q)) := by
  have := quo_sz h1 h2 (fun e => h0 (can_zero_iff.1 e)) h
  rwa [qv_can, qv_can] at this
theorem subC {P Q : Rat} {i j : Nat} (h1 : Sz i (can P)) (h2 : Sz j (can Q)) (h : i + j + 1 ≤ 128) : subF (can P) (can Q) = (can (P - Q), 0) ∧ Sz (i + j + 1) (can (P - Q)) := by
  have hn : Sz j (negF (can Q)) := h2
  have e : qv (negF (can Q)) = -Q := by
    have h3 : qv (negF (can Q)) = -qv (can Q) := frac_not _ _ _
    rw [h3, qv_can]
  have := add_sz h1 hn h
  rw [e, qv_can, ← Rat.sub_eq_add_neg] at this
  exact this
theorem fracA_mk2 {w : World} {b : Bool} {N D k : Nat} {an n cn ad d cd} (h1 : Num w (.slice an n cn) N) (h2 : Num w (.slice ad d cd) D) (s : Sz k (b, N, D)) (hk : k ≤ 128) : FracA w (.agg #[.bool b, .slice an n cn, .slice ad d cd]) (b, N, D) :=
  ⟨an, n, cn, ad, d, cd, rfl, num_nv h1 (lt_up s.2.1 (by omega)), num_nv h2 (lt_up s.2.2 (by omega))⟩
theorem fracT_mk {w : World} {b : Bool} {N D : Nat} {an n cn ad d cd} (h1 : Num w (.slice an n cn) N) (h2 : Num w (.slice ad d cd) D) : FracT w (.agg #[.bool b, .slice an n cn, .slice ad d cd]) (b, N, D) := ⟨an, n, cn, ad, d, cd, rfl, h1, h2⟩
set_option maxRecDepth 100000 in
set_option maxHeartbeats 20000000 in
theorem field_long {v v' v2 : Value} {b b' b2 : Bool} {xs ys xs' ys' xs2 ys2 : List Nat} (w : World) (hx : FracI w v b xs ys) (hy : FracI w v' b' xs' ys') (hz : FracI w v2 b2 xs2 ys2) (hT : Tab w) (hl : (longB xs ys || longB xs' ys' || longB xs2 ys2) = true) : Calls Tryz.prog 4 #[v, v', v2] w (LawP w) := by
  obtain ⟨an, n, cn, ad, d, cd, rfl, i0, j0⟩ := hx
  obtain ⟨an', n', cn', ad', d', cd', rfl, i1, j1⟩ := hy
  obtain ⟨an2, n2, cn2, ad2, d2, cd2, rfl, i2, j2⟩ := hz
  obtain ⟨T, hX, hY, hZ⟩ := start3 w b an n cn ad d cd b' an' n' cn' ad' d' cd' b2 an2 n2 cn2 ad2 d2 cd2
  obtain ⟨W0, hW0⟩ : ∃ W0, W0 = (((w.alloc (.cells #[.bool b, .slice an n cn, .slice ad d cd] 25)).alloc (.cells #[.bool b', .slice an' n' cn', .slice ad' d' cd'] 25)).alloc (.cells #[.bool b2, .slice an2 n2 cn2, .slice ad2 d2 cd2] 25)) := ⟨_, rfl⟩
  rw [← hW0] at T hX hY hZ
  have hX0 := hX
  have hY0 := hY
  have hZ0 := hZ
  have CL := Lib.hid (longF3 true (b := b) (b' := b') (b2 := b2) (w := W0) (w.heap.size + 1 + 1 + 1) (i0.mono T) (j0.mono T) (i1.mono T) (j1.mono T) (i2.mono T) (j2.mono T) (by rw [hW0]; simp) (Lib.hid hl))
  have TL : Add W0 (W0.alloc (.cells #[.bool b, .slice an n cn, .slice ad d cd, .bool b', .slice an' n' cn', .slice ad' d' cd', .bool b2, .slice an2 n2 cn2, .slice ad2 d2 cd2] 25)) := add_new _ _
  replace hX := hX.mono TL
  replace hY := hY.mono TL
  replace hZ := hZ.mono TL
  replace hT := (hT.mono T).mono TL
  replace T := Add.trans T TL
  have ha0 := hX0.c0
  have ha1 := hX0.c1
  have ha2 := hX0.c2
  have hb0 := hY0.c0
  have hb1 := hY0.c1
  have hb2 := hY0.c2
  have hc0 := hZ0.c0
  have hc1 := hZ0.c1
  have hc2 := hZ0.c2
  rw [hW0] at ha0 ha1 ha2 hb0 hb1 hb2 hc0 hc1 hc2
  go_enter Tryz.func4, Tryz.ntmps4
  go_wp2_with fail
  rw [← hW0]
  refine CL.out.mono ?_
  rintro e w9 ⟨rfl, rfl⟩
  clear CL TL hW0 hl hX0 hY0 hZ0 ha0 ha1 ha2 hb0 hb1 hb2 hc0 hc1 hc2 hX hY hZ i0 j0 i1 j1 i2 j2
  go_wp2_with fail
  refine (awake2_any _ hT).mono ?_
  rintro e w9 ⟨rfl, h9⟩
  replace T := Add.trans T h9
  clear h9 hT
  go_wp2_with fail
  go_ret
  exact ⟨rfl, T⟩

set_option maxRecDepth 100000 in
set_option maxHeartbeats 20000000 in
theorem field_bad {v v' v2 : Value} {b b' b2 : Bool} {xs ys xs' ys' xs2 ys2 : List Nat} (w : World) (hx : FracI w v b xs ys) (hy : FracI w v' b' xs' ys') (hz : FracI w v2 b2 xs2 ys2) (hT : Tab w) (hl : (longB xs ys || longB xs' ys' || longB xs2 ys2) = false) (hv : ¬ ((okF (b, val xs, val ys) = true ∧ okF (b', val xs', val ys') = true) ∧ okF (b2, val xs2, val ys2) = true)) : Calls Tryz.prog 4 #[v, v', v2] w (LawP w) := by
  have hl0 := hl
  obtain ⟨an, n, cn, ad, d, cd, rfl, i0, j0⟩ := hx
  obtain ⟨an', n', cn', ad', d', cd', rfl, i1, j1⟩ := hy
  obtain ⟨an2, n2, cn2, ad2, d2, cd2, rfl, i2, j2⟩ := hz
  obtain ⟨T, hX, hY, hZ⟩ := start3 w b an n cn ad d cd b' an' n' cn' ad' d' cd' b2 an2 n2 cn2 ad2 d2 cd2
  obtain ⟨W0, hW0⟩ : ∃ W0, W0 = (((w.alloc (.cells #[.bool b, .slice an n cn, .slice ad d cd] 25)).alloc (.cells #[.bool b', .slice an' n' cn', .slice ad' d' cd'] 25)).alloc (.cells #[.bool b2, .slice an2 n2 cn2, .slice ad2 d2 cd2] 25)) := ⟨_, rfl⟩
  rw [← hW0] at T hX hY hZ
  have hX0 := hX
  have hY0 := hY
  have hZ0 := hZ
  have CL := Lib.hid (longF3 false (b := b) (b' := b') (b2 := b2) (w := W0) (w.heap.size + 1 + 1 + 1) (i0.mono T) (j0.mono T) (i1.mono T) (j1.mono T) (i2.mono T) (j2.mono T) (by rw [hW0]; simp) (Lib.hid hl))
  have TL : Add W0 (W0.alloc (.cells #[.bool b, .slice an n cn, .slice ad d cd, .bool b', .slice an' n' cn', .slice ad' d' cd', .bool b2, .slice an2 n2 cn2, .slice ad2 d2 cd2] 25)) := add_new _ _
  replace hX := hX.mono TL
  replace hY := hY.mono TL
  replace hZ := hZ.mono TL
  replace hT := (hT.mono T).mono TL
  replace T := Add.trans T TL
  have ha0 := hX0.c0
  have ha1 := hX0.c1
  have ha2 := hX0.c2
  have hb0 := hY0.c0
  have hb1 := hY0.c1
  have hb2 := hY0.c2
  have hc0 := hZ0.c0
  have hc1 := hZ0.c1
  have hc2 := hZ0.c2
  rw [hW0] at ha0 ha1 ha2 hb0 hb1 hb2 hc0 hc1 hc2
  simp only [Bool.or_eq_false_iff] at hl0
  have qx : FracA _ (.agg #[.bool b, .slice an n cn, .slice ad d cd]) (b, val xs, val ys) := (FracI.arg (w := w) ⟨an, n, cn, ad, d, cd, rfl, i0, j0⟩ hl0.1.1).mono T
  have qy : FracA _ (.agg #[.bool b', .slice an' n' cn', .slice ad' d' cd']) (b', val xs', val ys') := (FracI.arg (w := w) ⟨an', n', cn', ad', d', cd', rfl, i1, j1⟩ hl0.1.2).mono T
  have qz : FracA _ (.agg #[.bool b2, .slice an2 n2 cn2, .slice ad2 d2 cd2]) (b2, val xs2, val ys2) := (FracI.arg (w := w) ⟨an2, n2, cn2, ad2, d2, cd2, rfl, i2, j2⟩ hl0.2).mono T
  obtain ⟨l1, l2⟩ := FracI.small i0.limbs j0.limbs hl0.1.1
  obtain ⟨l3, l4⟩ := FracI.small i1.limbs j1.limbs hl0.1.2
  obtain ⟨l5, l6⟩ := FracI.small i2.limbs j2.limbs hl0.2
  obtain ⟨x, ex⟩ : ∃ x : Tri, (b, val xs, val ys) = x := ⟨_, rfl⟩
  obtain ⟨y, ey⟩ : ∃ y : Tri, (b', val xs', val ys') = y := ⟨_, rfl⟩
  obtain ⟨z, ez⟩ : ∃ z : Tri, (b2, val xs2, val ys2) = z := ⟨_, rfl⟩
  have SX : Hid (x.2.1 < pw 24 ∧ x.2.2 < pw 24) := Lib.hid (by rw [← ex]; exact ⟨l1, l2⟩)
  have SY : Hid (y.2.1 < pw 24 ∧ y.2.2 < pw 24) := Lib.hid (by rw [← ey]; exact ⟨l3, l4⟩)
  have SZ : Hid (z.2.1 < pw 24 ∧ z.2.2 < pw 24) := Lib.hid (by rw [← ez]; exact ⟨l5, l6⟩)
  rw [ex] at qx hv
  rw [ey] at qy hv
  rw [ez] at qz hv
  clear ex ey ez l1 l2 l3 l4 l5 l6 hl0 i0 j0 i1 j1 i2 j2
  clear hX0 hY0 hZ0
  go_enter Tryz.func4, Tryz.ntmps4
  go_wp2_with fail
  rw [← hW0]
  refine CL.out.mono ?_
  rintro e w9 ⟨rfl, rfl⟩
  clear CL TL hW0 hl ha0 ha1 ha2 hb0 hb1 hb2 hc0 hc1 hc2
  have HV := Lib.hid hv
  clear hv SX SY SZ
  by_cases c1 : okF x = true
  · have F1 := Lib.hid c1
    by_cases c2 : okF y = true
    · have F2 := Lib.hid c2
      have c3 : okF z = false := by
        have := HV.out
        cases h : okF z
        · rfl
        · exact absurd ⟨⟨c1, c2⟩, h⟩ this
      have F3 := Lib.hid c3
      clear c1 c2 c3 HV
      have ha0 := hX.c0
      have ha1 := hX.c1
      have ha2 := hX.c2
      go_wp2_with fail
      refine (refValidN true qx F1).mono ?_
      rintro e w1 ⟨rfl, h1⟩
      replace hT := hT.mono h1
      replace hY := hY.mono h1
      replace hZ := hZ.mono h1
      replace qy := qy.mono h1
      replace qz := qz.mono h1
      replace T := Add.trans T h1
      clear h1 ha0 ha1 ha2 hX qx F1
      have hb0 := hY.c0
      have hb1 := hY.c1
      have hb2 := hY.c2
      go_wp2_with fail
      refine (refValidN true qy F2).mono ?_
      rintro e w2 ⟨rfl, h2⟩
      replace hT := hT.mono h2
      replace hZ := hZ.mono h2
      replace qz := qz.mono h2
      replace T := Add.trans T h2
      clear h2 hb0 hb1 hb2 hY qy F2
      have hc0 := hZ.c0
      have hc1 := hZ.c1
      have hc2 := hZ.c2
      go_wp2_with fail
      refine (refValidN false qz F3).mono ?_
      rintro e w3 ⟨rfl, h3⟩
      replace hT := hT.mono h3
      replace T := Add.trans T h3
      clear h3 hc0 hc1 hc2 hZ qz F3
      go_wp2_with fail
      refine (awake2_any _ hT).mono ?_
      rintro e w9 ⟨rfl, h9⟩
      replace T := Add.trans T h9
      clear h9 hT
      go_wp2_with fail
      go_ret
      exact ⟨rfl, T⟩
    · have F2 : Hid (okF y = false) := Lib.hid (by simpa using c2)
      clear c1 c2 HV
      have ha0 := hX.c0
      have ha1 := hX.c1
      have ha2 := hX.c2
      go_wp2_with fail
      refine (refValidN true qx F1).mono ?_
      rintro e w1 ⟨rfl, h1⟩
      replace hT := hT.mono h1
      replace hY := hY.mono h1
      replace qy := qy.mono h1
      replace T := Add.trans T h1
      clear h1 ha0 ha1 ha2 hX qx F1 hZ qz
      have hb0 := hY.c0
      have hb1 := hY.c1
      have hb2 := hY.c2
      go_wp2_with fail
      refine (refValidN false qy F2).mono ?_
      rintro e w2 ⟨rfl, h2⟩
      replace hT := hT.mono h2
      replace T := Add.trans T h2
      clear h2 hb0 hb1 hb2 hY qy F2
      go_wp2_with fail
      refine (awake2_any _ hT).mono ?_
      rintro e w9 ⟨rfl, h9⟩
      replace T := Add.trans T h9
      clear h9 hT
      go_wp2_with fail
      go_ret
      exact ⟨rfl, T⟩
  · have F1 : Hid (okF x = false) := Lib.hid (by simpa using c1)
    clear c1 HV
    have ha0 := hX.c0
    have ha1 := hX.c1
    have ha2 := hX.c2
    go_wp2_with fail
    refine (refValidN false qx F1).mono ?_
    rintro e w1 ⟨rfl, h1⟩
    replace hT := hT.mono h1
    replace T := Add.trans T h1
    clear h1 ha0 ha1 ha2 hX qx F1 hY hZ qy qz
    go_wp2_with fail
    refine (awake2_any _ hT).mono ?_
    rintro e w9 ⟨rfl, h9⟩
    replace T := Add.trans T h9
    clear h9 hT
    go_wp2_with fail
    go_ret
    exact ⟨rfl, T⟩

set_option maxRecDepth 100000 in
set_option maxHeartbeats 20000000 in
theorem field_ok {v v' v2 : Value} {b b' b2 : Bool} {xs ys xs' ys' xs2 ys2 : List Nat} (w : World) (hx : FracI w v b xs ys) (hy : FracI w v' b' xs' ys') (hz : FracI w v2 b2 xs2 ys2) (hT : Tab w) (hl : (longB xs ys || longB xs' ys' || longB xs2 ys2) = false) (hv : (okF (b, val xs, val ys) = true ∧ okF (b', val xs', val ys') = true) ∧ okF (b2, val xs2, val ys2) = true) : Calls Tryz.prog 4 #[v, v', v2] w (LawP w) := by
  have hl0 := hl
  obtain ⟨an, n, cn, ad, d, cd, rfl, i0, j0⟩ := hx
  obtain ⟨an', n', cn', ad', d', cd', rfl, i1, j1⟩ := hy
  obtain ⟨an2, n2, cn2, ad2, d2, cd2, rfl, i2, j2⟩ := hz
  obtain ⟨T, hX, hY, hZ⟩ := start3 w b an n cn ad d cd b' an' n' cn' ad' d' cd' b2 an2 n2 cn2 ad2 d2 cd2
  obtain ⟨W0, hW0⟩ : ∃ W0, W0 = (((w.alloc (.cells #[.bool b, .slice an n cn, .slice ad d cd] 25)).alloc (.cells #[.bool b', .slice an' n' cn', .slice ad' d' cd'] 25)).alloc (.cells #[.bool b2, .slice an2 n2 cn2, .slice ad2 d2 cd2] 25)) := ⟨_, rfl⟩
  rw [← hW0] at T hX hY hZ
  have hX0 := hX
  have hY0 := hY
  have hZ0 := hZ
  have CL := Lib.hid (longF3 false (b := b) (b' := b') (b2 := b2) (w := W0) (w.heap.size + 1 + 1 + 1) (i0.mono T) (j0.mono T) (i1.mono T) (j1.mono T) (i2.mono T) (j2.mono T) (by rw [hW0]; simp) (Lib.hid hl))
  have TL : Add W0 (W0.alloc (.cells #[.bool b, .slice an n cn, .slice ad d cd, .bool b', .slice an' n' cn', .slice ad' d' cd', .bool b2, .slice an2 n2 cn2, .slice ad2 d2 cd2] 25)) := add_new _ _
  replace hX := hX.mono TL
  replace hY := hY.mono TL
  replace hZ := hZ.mono TL
  replace hT := (hT.mono T).mono TL
  replace T := Add.trans T TL
  have ha0 := hX0.c0
  have ha1 := hX0.c1
  have ha2 := hX0.c2
  have hb0 := hY0.c0
  have hb1 := hY0.c1
  have hb2 := hY0.c2
  have hc0 := hZ0.c0
  have hc1 := hZ0.c1
  have hc2 := hZ0.c2
  rw [hW0] at ha0 ha1 ha2 hb0 hb1 hb2 hc0 hc1 hc2
  simp only [Bool.or_eq_false_iff] at hl0
  have qx : FracA _ (.agg #[.bool b, .slice an n cn, .slice ad d cd]) (b, val xs, val ys) := (FracI.arg (w := w) ⟨an, n, cn, ad, d, cd, rfl, i0, j0⟩ hl0.1.1).mono T
  have qy : FracA _ (.agg #[.bool b', .slice an' n' cn', .slice ad' d' cd']) (b', val xs', val ys') := (FracI.arg (w := w) ⟨an', n', cn', ad', d', cd', rfl, i1, j1⟩ hl0.1.2).mono T
  have qz : FracA _ (.agg #[.bool b2, .slice an2 n2 cn2, .slice ad2 d2 cd2]) (b2, val xs2, val ys2) := (FracI.arg (w := w) ⟨an2, n2, cn2, ad2, d2, cd2, rfl, i2, j2⟩ hl0.2).mono T
  obtain ⟨l1, l2⟩ := FracI.small i0.limbs j0.limbs hl0.1.1
  obtain ⟨l3, l4⟩ := FracI.small i1.limbs j1.limbs hl0.1.2
  obtain ⟨l5, l6⟩ := FracI.small i2.limbs j2.limbs hl0.2
  obtain ⟨x, ex⟩ : ∃ x : Tri, (b, val xs, val ys) = x := ⟨_, rfl⟩
  obtain ⟨y, ey⟩ : ∃ y : Tri, (b', val xs', val ys') = y := ⟨_, rfl⟩
  obtain ⟨z, ez⟩ : ∃ z : Tri, (b2, val xs2, val ys2) = z := ⟨_, rfl⟩
  have SX : Hid (x.2.1 < pw 24 ∧ x.2.2 < pw 24) := Lib.hid (by rw [← ex]; exact ⟨l1, l2⟩)
  have SY : Hid (y.2.1 < pw 24 ∧ y.2.2 < pw 24) := Lib.hid (by rw [← ey]; exact ⟨l3, l4⟩)
  have SZ : Hid (z.2.1 < pw 24 ∧ z.2.2 < pw 24) := Lib.hid (by rw [← ez]; exact ⟨l5, l6⟩)
  rw [ex] at qx hv
  rw [ey] at qy hv
  rw [ez] at qz hv
  clear ex ey ez l1 l2 l3 l4 l5 l6 hl0 i0 j0 i1 j1 i2 j2
  clear hX0 hY0 hZ0
  go_enter Tryz.func4, Tryz.ntmps4
  go_wp2_with fail
  rw [← hW0]
  refine CL.out.mono ?_
  rintro e w9 ⟨rfl, rfl⟩
  clear CL TL hW0 hl ha0 ha1 ha2 hb0 hb1 hb2 hc0 hc1 hc2
  have F1 := Lib.hid hv.1.1
  have F2 := Lib.hid hv.1.2
  have F3 := Lib.hid hv.2
  have sx : Sz 24 x := ⟨(okF_iff.1 F1.out).1, SX.out⟩
  have sy : Sz 24 y := ⟨(okF_iff.1 F2.out).1, SY.out⟩
  have sz : Sz 24 z := ⟨(okF_iff.1 F3.out).1, SZ.out⟩
  obtain ⟨P, hP⟩ : ∃ P, P = qv x := ⟨_, rfl⟩
  obtain ⟨Q, hQ⟩ : ∃ Q, Q = qv y := ⟨_, rfl⟩
  obtain ⟨R, hR⟩ : ∃ R, R = qv z := ⟨_, rfl⟩
  obtain ⟨rX, zX⟩ := red_sz sx (by decide)
  obtain ⟨rY, zY⟩ := red_sz sy (by decide)
  obtain ⟨rZ, zZ⟩ := red_sz sz (by decide)
  rw [← hP] at rX zX
  rw [← hQ] at rY zY
  rw [← hR] at rZ zZ
  obtain ⟨rA, zA⟩ := addC zX zY (by decide)
  obtain ⟨rB, zB⟩ := addC zY zX (by decide)
  rw [show _ = P + Q from Rat.add_comm Q P] at rB zB
  obtain ⟨rC, zC⟩ := addC zA zZ (by decide)
  obtain ⟨rD, zD⟩ := addC zY zZ (by decide)
  obtain ⟨rE, zE⟩ := addC zX zD (by decide)
  rw [show _ = P + Q + R from (Rat.add_assoc P Q R).symm] at rE zE
  obtain ⟨rK, zK⟩ := subC zA zY (by decide)
  rw [show _ = P from Rat.add_sub_cancel] at rK zK
  obtain ⟨rM, zM⟩ := mulC zX zY (by decide)
  obtain ⟨rN, zN⟩ := mulC zY zX (by decide)
  rw [show _ = P * Q from Rat.mul_comm Q P] at rN zN
  obtain ⟨rO, zO⟩ := mulC zM zZ (by decide)
  obtain ⟨rU, zU⟩ := mulC zY zZ (by decide)
  obtain ⟨rV, zV⟩ := mulC zX zU (by decide)
  rw [show _ = P * Q * R from (Rat.mul_assoc P Q R).symm] at rV zV
  obtain ⟨rL, zL⟩ := mulC zX zD (by decide)
  obtain ⟨rXZ, zXZ⟩ := mulC zX zZ (by decide)
  obtain ⟨rRR, zRR⟩ := addC zM zXZ (by decide)
  rw [show _ = P * (Q + R) from (Rat.mul_add P Q R).symm] at rRR zRR
  have hq0 : Q ≠ 0 → quoF (can (P * Q)) (can Q) = (can P, 0) := fun h0 => by
    have := (quoC zM zY h0 (by decide)).1
    rwa [Rat.mul_div_cancel h0] at this
  have hsg : signQ (qv (can Q)) = signQ Q := by rw [qv_can]
  have hsz : signQ Q = 0 ↔ Q = 0 := by
    unfold signQ cmpQ
    grind
  have oY := zY.ok (by decide)
  obtain ⟨⟨gs0, N0, D0⟩, e0⟩ : ∃ t, can (P) = t := ⟨_, rfl⟩
  obtain ⟨⟨gs1, N1, D1⟩, e1⟩ : ∃ t, can (Q) = t := ⟨_, rfl⟩
  obtain ⟨⟨gs2, N2, D2⟩, e2⟩ : ∃ t, can (R) = t := ⟨_, rfl⟩
  obtain ⟨⟨gs3, N3, D3⟩, e3⟩ : ∃ t, can (P + Q) = t := ⟨_, rfl⟩
  obtain ⟨⟨gs4, N4, D4⟩, e4⟩ : ∃ t, can (P + Q + R) = t := ⟨_, rfl⟩
  obtain ⟨⟨gs5, N5, D5⟩, e5⟩ : ∃ t, can (Q + R) = t := ⟨_, rfl⟩
  obtain ⟨⟨gs6, N6, D6⟩, e6⟩ : ∃ t, can (P * Q) = t := ⟨_, rfl⟩
  obtain ⟨⟨gs7, N7, D7⟩, e7⟩ : ∃ t, can (P * Q * R) = t := ⟨_, rfl⟩
  obtain ⟨⟨gs8, N8, D8⟩, e8⟩ : ∃ t, can (Q * R) = t := ⟨_, rfl⟩
  obtain ⟨⟨gs9, N9, D9⟩, e9⟩ : ∃ t, can (P * (Q + R)) = t := ⟨_, rfl⟩
  obtain ⟨⟨gs10, N10, D10⟩, e10⟩ : ∃ t, can (P * R) = t := ⟨_, rfl⟩
  simp only [e0, e1, e2, e3, e4, e5, e6, e7, e8, e9, e10] at rX rY rZ rA rB rC rD rE rK rM rN rO rU rV rL rXZ rRR zX zY zZ zA zB zC zD zE zK zM zN zO zU zV zL zXZ zRR hq0 hsg oY
  have RX := Lib.hid rX
  have RY := Lib.hid rY
  have RZ := Lib.hid rZ
  have RA := Lib.hid rA
  have RB := Lib.hid rB
  have RC := Lib.hid rC
  have RD := Lib.hid rD
  have RE := Lib.hid rE
  have RK := Lib.hid rK
  have RM := Lib.hid rM
  have RN := Lib.hid rN
  have RO := Lib.hid rO
  have RU := Lib.hid rU
  have RV := Lib.hid rV
  have RL := Lib.hid rL
  have RXZ := Lib.hid rXZ
  have RRR := Lib.hid rRR
  have ZX := Lib.hid zX
  have ZY := Lib.hid zY
  have ZZ := Lib.hid zZ
  have ZA := Lib.hid zA
  have ZB := Lib.hid zB
  have ZC := Lib.hid zC
  have ZD := Lib.hid zD
  have ZE := Lib.hid zE
  have ZK := Lib.hid zK
  have ZM := Lib.hid zM
  have ZN := Lib.hid zN
  have ZO := Lib.hid zO
  have ZU := Lib.hid zU
  have ZV := Lib.hid zV
  have ZL := Lib.hid zL
  have ZXZ := Lib.hid zXZ
  have ZRR := Lib.hid zRR
  have HQ := Lib.hid hq0
  have OY := Lib.hid oY
  obtain ⟨sg, hs⟩ : ∃ sg, signQ Q = sg := ⟨_, rfl⟩
  rw [hs] at hsg hsz
  have SG := Lib.hid hsg
  have SZQ := Lib.hid hsz
  clear hP hQ hR hq0 hsg hsz hs oY e0 e1 e2 e3 e4 e5 e6 e7 e8 e9 e10 rX rY rZ rA rB rC rD rE rK rM rN rO rU rV rL rXZ rRR zX zY zZ zA zB zC zD zE zK zM zN zO zU zV zL zXZ zRR
  clear hv SX SY SZ sx sy sz
  have ha0 := hX.c0
  have ha1 := hX.c1
  have ha2 := hX.c2
  go_wp2_with fail
  refine (refValidN true qx F1).mono ?_
  rintro e w1 ⟨rfl, h1⟩
  replace hT := hT.mono h1
  replace hX := hX.mono h1
  replace hY := hY.mono h1
  replace hZ := hZ.mono h1
  replace qx := qx.mono h1
  replace qy := qy.mono h1
  replace qz := qz.mono h1
  replace T := Add.trans T h1
  clear h1 ha0 ha1 ha2
  have hb0 := hY.c0
  have hb1 := hY.c1
  have hb2 := hY.c2
  go_wp2_with fail
  refine (refValidN true qy F2).mono ?_
  rintro e w2 ⟨rfl, h2⟩
  replace hT := hT.mono h2
  replace hX := hX.mono h2
  replace hY := hY.mono h2
  replace hZ := hZ.mono h2
  replace qx := qx.mono h2
  replace qy := qy.mono h2
  replace qz := qz.mono h2
  replace T := Add.trans T h2
  clear h2 hb0 hb1 hb2
  have hc0 := hZ.c0
  have hc1 := hZ.c1
  have hc2 := hZ.c2
  go_wp2_with fail
  refine (refValidN true qz F3).mono ?_
  rintro e w3 ⟨rfl, h3⟩
  replace hT := hT.mono h3
  replace hX := hX.mono h3
  replace hY := hY.mono h3
  replace hZ := hZ.mono h3
  replace qx := qx.mono h3
  replace qy := qy.mono h3
  replace qz := qz.mono h3
  replace T := Add.trans T h3
  clear h3 hc0 hc1 hc2
  have ha0 := hX.c0
  have ha1 := hX.c1
  have ha2 := hX.c2
  go_wp2_with fail
  refine ((refReduceN _ qx RX).mono fun _ _ g => g.ok).mono ?_
  rintro e w4 ⟨aX, nX, cX, eX, mX, kX, rfl, uX, vX, h4⟩
  replace hT := hT.mono h4
  replace hX := hX.mono h4
  replace hY := hY.mono h4
  replace hZ := hZ.mono h4
  replace qy := qy.mono h4
  replace qz := qz.mono h4
  replace T := Add.trans T h4
  clear h4 ha0 ha1 ha2 qx RX 
  have hold := hX
  have s0 := hX.c0
  have s1 := hX.c1
  have s2 := hX.c2
  have s3 := hX.fr 0
  have s4 := hX.fr 1
  have s5 := hX.fr 2
  replace hT := Tab.put hT hold (.bool gs0) (.slice aX nX cX) (.slice eX mX kX)
  replace hX := hold.put gs0 aX nX cX eX mX kX
  replace hY := Box.other (g := w.heap.size) hY (by omega) (.bool gs0) (.slice aX nX cX) (.slice eX mX kX)
  replace hZ := Box.other (g := w.heap.size) hZ (by omega) (.bool gs0) (.slice aX nX cX) (.slice eX mX kX)
  replace qy := FracA.put qy hold (.bool gs0) (.slice aX nX cX) (.slice eX mX kX)
  replace qz := FracA.put qz hold (.bool gs0) (.slice aX nX cX) (.slice eX mX kX)
  replace uX := uX.put hold (.bool gs0) (.slice aX nX cX) (.slice eX mX kX)
  replace vX := vX.put hold (.bool gs0) (.slice aX nX cX) (.slice eX mX kX)
  replace T := put3_below (.bool gs0) (.slice aX nX cX) (.slice eX mX kX) T (show w.heap.size ≤ w.heap.size by omega)
  clear hold
  unfold put3 at T hT hX hY hZ qy qz uX vX
  have ha0 := hY.c0
  have ha1 := hY.c1
  have ha2 := hY.c2
  go_wp2_with fail
  refine ((refReduceN _ qy RY).mono fun _ _ g => g.ok).mono ?_
  rintro e w5 ⟨aY, nY, cY, eY, mY, kY, rfl, uY, vY, h5⟩
  replace hT := hT.mono h5
  replace hX := hX.mono h5
  replace hY := hY.mono h5
  replace hZ := hZ.mono h5
  replace qz := qz.mono h5
  replace uX := uX.mono h5
  replace vX := vX.mono h5
  replace T := Add.trans T h5
  clear h5 ha0 ha1 ha2 qy RY s0 s1 s2 s3 s4 s5
  have hold := hY
  have s0 := hY.c0
  have s1 := hY.c1
  have s2 := hY.c2
  have s3 := hY.fr 0
  have s4 := hY.fr 1
  have s5 := hY.fr 2
  replace hT := Tab.put hT hold (.bool gs1) (.slice aY nY cY) (.slice eY mY kY)
  replace hX := Box.other (g := w.heap.size + 1) hX (by omega) (.bool gs1) (.slice aY nY cY) (.slice eY mY kY)
  replace hY := hold.put gs1 aY nY cY eY mY kY
  replace hZ := Box.other (g := w.heap.size + 1) hZ (by omega) (.bool gs1) (.slice aY nY cY) (.slice eY mY kY)
  replace qz := FracA.put qz hold (.bool gs1) (.slice aY nY cY) (.slice eY mY kY)
  replace uX := uX.put hold (.bool gs1) (.slice aY nY cY) (.slice eY mY kY)
  replace vX := vX.put hold (.bool gs1) (.slice aY nY cY) (.slice eY mY kY)
  replace uY := uY.put hold (.bool gs1) (.slice aY nY cY) (.slice eY mY kY)
  replace vY := vY.put hold (.bool gs1) (.slice aY nY cY) (.slice eY mY kY)
  replace T := put3_below (.bool gs1) (.slice aY nY cY) (.slice eY mY kY) T (show w.heap.size ≤ w.heap.size + 1 by omega)
  clear hold
  unfold put3 at T hT hX hY hZ qz uX vX uY vY
  have ha0 := hZ.c0
  have ha1 := hZ.c1
  have ha2 := hZ.c2
  go_wp2_with fail
  refine ((refReduceN _ qz RZ).mono fun _ _ g => g.ok).mono ?_
  rintro e w6 ⟨aZ, nZ, cZ, eZ, mZ, kZ, rfl, uZ, vZ, h6⟩
  replace hT := hT.mono h6
  replace hX := hX.mono h6
  replace hY := hY.mono h6
  replace hZ := hZ.mono h6
  replace uX := uX.mono h6
  replace vX := vX.mono h6
  replace uY := uY.mono h6
  replace vY := vY.mono h6
  replace T := Add.trans T h6
  clear h6 ha0 ha1 ha2 qz RZ s0 s1 s2 s3 s4 s5
  have hold := hZ
  have s0 := hZ.c0
  have s1 := hZ.c1
  have s2 := hZ.c2
  have s3 := hZ.fr 0
  have s4 := hZ.fr 1
  have s5 := hZ.fr 2
  replace hT := Tab.put hT hold (.bool gs2) (.slice aZ nZ cZ) (.slice eZ mZ kZ)
  replace hX := Box.other (g := w.heap.size + 2) hX (by omega) (.bool gs2) (.slice aZ nZ cZ) (.slice eZ mZ kZ)
  replace hY := Box.other (g := w.heap.size + 2) hY (by omega) (.bool gs2) (.slice aZ nZ cZ) (.slice eZ mZ kZ)
  replace hZ := hold.put gs2 aZ nZ cZ eZ mZ kZ
  replace uX := uX.put hold (.bool gs2) (.slice aZ nZ cZ) (.slice eZ mZ kZ)
  replace vX := vX.put hold (.bool gs2) (.slice aZ nZ cZ) (.slice eZ mZ kZ)
  replace uY := uY.put hold (.bool gs2) (.slice aZ nZ cZ) (.slice eZ mZ kZ)
  replace vY := vY.put hold (.bool gs2) (.slice aZ nZ cZ) (.slice eZ mZ kZ)
  replace uZ := uZ.put hold (.bool gs2) (.slice aZ nZ cZ) (.slice eZ mZ kZ)
  replace vZ := vZ.put hold (.bool gs2) (.slice aZ nZ cZ) (.slice eZ mZ kZ)
  replace T := put3_below (.bool gs2) (.slice aZ nZ cZ) (.slice eZ mZ kZ) T (show w.heap.size ≤ w.heap.size + 2 by omega)
  clear hold
  unfold put3 at T hT hX hY hZ uX vX uY vY uZ vZ
  have ha0 := hX.c0
  have ha1 := hX.c1
  have ha2 := hX.c2
  have hb0 := hY.c0
  have hb1 := hY.c1
  have hb2 := hY.c2
  go_wp2_with fail
  refine ((addN' _ (fracA_mk2 (b := gs0) uX vX ZX.out (by decide)) (fracA_mk2 (b := gs1) uY vY ZY.out (by decide)) hT RA).mono fun _ _ g => g.ok).mono ?_
  rintro e w7 ⟨aA, nA, cA, eA, mA, kA, rfl, uA, vA, h7⟩
  replace hT := hT.mono h7
  replace hX := hX.mono h7
  replace hY := hY.mono h7
  replace hZ := hZ.mono h7
  replace uX := uX.mono h7
  replace vX := vX.mono h7
  replace uY := uY.mono h7
  replace vY := vY.mono h7
  replace uZ := uZ.mono h7
  replace vZ := vZ.mono h7
  replace T := Add.trans T h7
  clear h7 ha0 ha1 ha2 hb0 hb1 hb2 RA s0 s1 s2 s3 s4 s5
  obtain ⟨tt, hA⟩ := laid_var w7 gs3 aA nA cA eA mA kA
  replace hT := hT.mono tt
  replace hX := hX.mono tt
  replace hY := hY.mono tt
  replace hZ := hZ.mono tt
  replace uX := uX.mono tt
  replace vX := vX.mono tt
  replace uY := uY.mono tt
  replace vY := vY.mono tt
  replace uZ := uZ.mono tt
  replace vZ := vZ.mono tt
  replace uA := uA.mono tt
  replace vA := vA.mono tt
  replace T := Add.trans T tt
  clear tt
  have ha0 := hY.c0
  have ha1 := hY.c1
  have ha2 := hY.c2
  have hb0 := hX.c0
  have hb1 := hX.c1
  have hb2 := hX.c2
  go_wp2_with fail
  refine ((addN' _ (fracA_mk2 (b := gs1) uY vY ZY.out (by decide)) (fracA_mk2 (b := gs0) uX vX ZX.out (by decide)) hT RB).mono fun _ _ g => g.ok).mono ?_
  rintro e w8 ⟨aB, nB, cB, eB, mB, kB, rfl, uB, vB, h8⟩
  replace hT := hT.mono h8
  replace hX := hX.mono h8
  replace hY := hY.mono h8
  replace hZ := hZ.mono h8
  replace uX := uX.mono h8
  replace vX := vX.mono h8
  replace uY := uY.mono h8
  replace vY := vY.mono h8
  replace uZ := uZ.mono h8
  replace vZ := vZ.mono h8
  replace uA := uA.mono h8
  replace vA := vA.mono h8
  replace hA := hA.mono h8
  replace T := Add.trans T h8
  clear h8 ha0 ha1 ha2 hb0 hb1 hb2 RB
  obtain ⟨tt, hB⟩ := laid_var w8 gs3 aB nB cB eB mB kB
  replace hT := hT.mono tt
  replace hX := hX.mono tt
  replace hY := hY.mono tt
  replace hZ := hZ.mono tt
  replace uX := uX.mono tt
  replace vX := vX.mono tt
  replace uY := uY.mono tt
  replace vY := vY.mono tt
  replace uZ := uZ.mono tt
  replace vZ := vZ.mono tt
  replace uA := uA.mono tt
  replace vA := vA.mono tt
  replace hA := hA.mono tt
  replace uB := uB.mono tt
  replace vB := vB.mono tt
  replace T := Add.trans T tt
  clear tt
  have ha0 := hA.c0
  have ha1 := hA.c1
  have ha2 := hA.c2
  have hb0 := hZ.c0
  have hb1 := hZ.c1
  have hb2 := hZ.c2
  go_wp2_with fail
  refine ((addN' _ (fracA_mk2 (b := gs3) uA vA ZA.out (by decide)) (fracA_mk2 (b := gs2) uZ vZ ZZ.out (by decide)) hT RC).mono fun _ _ g => g.ok).mono ?_
  rintro e w9 ⟨aC, nC, cC, eC, mC, kC, rfl, uC, vC, h9⟩
  replace hT := hT.mono h9
  replace hX := hX.mono h9
  replace hY := hY.mono h9
  replace hZ := hZ.mono h9
  replace uX := uX.mono h9
  replace vX := vX.mono h9
  replace uY := uY.mono h9
  replace vY := vY.mono h9
  replace uZ := uZ.mono h9
  replace vZ := vZ.mono h9
  replace uA := uA.mono h9
  replace vA := vA.mono h9
  replace hA := hA.mono h9
  replace uB := uB.mono h9
  replace vB := vB.mono h9
  replace hB := hB.mono h9
  replace T := Add.trans T h9
  clear h9 ha0 ha1 ha2 hb0 hb1 hb2 RC
  obtain ⟨tt, hC⟩ := laid_var w9 gs4 aC nC cC eC mC kC
  replace hT := hT.mono tt
  replace hX := hX.mono tt
  replace hY := hY.mono tt
  replace hZ := hZ.mono tt
  replace uX := uX.mono tt
  replace vX := vX.mono tt
  replace uY := uY.mono tt
  replace vY := vY.mono tt
  replace uZ := uZ.mono tt
  replace vZ := vZ.mono tt
  replace uA := uA.mono tt
  replace vA := vA.mono tt
  replace hA := hA.mono tt
  replace uB := uB.mono tt
  replace vB := vB.mono tt
  replace hB := hB.mono tt
  replace uC := uC.mono tt
  replace vC := vC.mono tt
  replace T := Add.trans T tt
  clear tt
  have ha0 := hY.c0
  have ha1 := hY.c1
  have ha2 := hY.c2
  have hb0 := hZ.c0
  have hb1 := hZ.c1
  have hb2 := hZ.c2
  go_wp2_with fail
  refine ((addN' _ (fracA_mk2 (b := gs1) uY vY ZY.out (by decide)) (fracA_mk2 (b := gs2) uZ vZ ZZ.out (by decide)) hT RD).mono fun _ _ g => g.ok).mono ?_
  rintro e w10 ⟨aD, nD, cD, eD, mD, kD, rfl, uD, vD, h10⟩
  replace hT := hT.mono h10
  replace hX := hX.mono h10
  replace hY := hY.mono h10
  replace hZ := hZ.mono h10
  replace uX := uX.mono h10
  replace vX := vX.mono h10
  replace uY := uY.mono h10
  replace vY := vY.mono h10
  replace uZ := uZ.mono h10
  replace vZ := vZ.mono h10
  replace uA := uA.mono h10
  replace vA := vA.mono h10
  replace hA := hA.mono h10
  replace uB := uB.mono h10
  replace vB := vB.mono h10
  replace hB := hB.mono h10
  replace uC := uC.mono h10
  replace vC := vC.mono h10
  replace hC := hC.mono h10
  replace T := Add.trans T h10
  clear h10 ha0 ha1 ha2 hb0 hb1 hb2 RD
  obtain ⟨tt, hD⟩ := laid_var w10 gs5 aD nD cD eD mD kD
  replace hT := hT.mono tt
  replace hX := hX.mono tt
  replace hY := hY.mono tt
  replace hZ := hZ.mono tt
  replace uX := uX.mono tt
  replace vX := vX.mono tt
  replace uY := uY.mono tt
  replace vY := vY.mono tt
  replace uZ := uZ.mono tt
  replace vZ := vZ.mono tt
  replace uA := uA.mono tt
  replace vA := vA.mono tt
  replace hA := hA.mono tt
  replace uB := uB.mono tt
  replace vB := vB.mono tt
  replace hB := hB.mono tt
  replace uC := uC.mono tt
  replace vC := vC.mono tt
  replace hC := hC.mono tt
  replace uD := uD.mono tt
  replace vD := vD.mono tt
  replace T := Add.trans T tt
  clear tt
  have ha0 := hX.c0
  have ha1 := hX.c1
  have ha2 := hX.c2
  have hb0 := hD.c0
  have hb1 := hD.c1
  have hb2 := hD.c2
  go_wp2_with fail
  refine ((addN' _ (fracA_mk2 (b := gs0) uX vX ZX.out (by decide)) (fracA_mk2 (b := gs5) uD vD ZD.out (by decide)) hT RE).mono fun _ _ g => g.ok).mono ?_
  rintro e w11 ⟨aE, nE, cE, eE, mE, kE, rfl, uE, vE, h11⟩
  replace hT := hT.mono h11
  replace hX := hX.mono h11
  replace hY := hY.mono h11
  replace hZ := hZ.mono h11
  replace uX := uX.mono h11
  replace vX := vX.mono h11
  replace uY := uY.mono h11
  replace vY := vY.mono h11
  replace uZ := uZ.mono h11
  replace vZ := vZ.mono h11
  replace uA := uA.mono h11
  replace vA := vA.mono h11
  replace hA := hA.mono h11
  replace uB := uB.mono h11
  replace vB := vB.mono h11
  replace hB := hB.mono h11
  replace uC := uC.mono h11
  replace vC := vC.mono h11
  replace hC := hC.mono h11
  replace uD := uD.mono h11
  replace vD := vD.mono h11
  replace hD := hD.mono h11
  replace T := Add.trans T h11
  clear h11 ha0 ha1 ha2 hb0 hb1 hb2 RE
  obtain ⟨tt, hE⟩ := laid_var w11 gs4 aE nE cE eE mE kE
  replace hT := hT.mono tt
  replace hX := hX.mono tt
  replace hY := hY.mono tt
  replace hZ := hZ.mono tt
  replace uX := uX.mono tt
  replace vX := vX.mono tt
  replace uY := uY.mono tt
  replace vY := vY.mono tt
  replace uZ := uZ.mono tt
  replace vZ := vZ.mono tt
  replace uA := uA.mono tt
  replace vA := vA.mono tt
  replace hA := hA.mono tt
  replace uB := uB.mono tt
  replace vB := vB.mono tt
  replace hB := hB.mono tt
  replace uC := uC.mono tt
  replace vC := vC.mono tt
  replace hC := hC.mono tt
  replace uD := uD.mono tt
  replace vD := vD.mono tt
  replace hD := hD.mono tt
  replace uE := uE.mono tt
  replace vE := vE.mono tt
  replace T := Add.trans T tt
  clear tt
  have ha0 := hA.c0
  have ha1 := hA.c1
  have ha2 := hA.c2
  have hb0 := hY.c0
  have hb1 := hY.c1
  have hb2 := hY.c2
  go_wp2_with fail
  refine ((subN' _ (fracA_mk2 (b := gs3) uA vA ZA.out (by decide)) (fracA_mk2 (b := gs1) uY vY ZY.out (by decide)) hT RK).mono fun _ _ g => g.ok).mono ?_
  rintro e w12 ⟨aK, nK, cK, eK, mK, kK, rfl, uK, vK, h12⟩
  replace hT := hT.mono h12
  replace hX := hX.mono h12
  replace hY := hY.mono h12
  replace hZ := hZ.mono h12
  replace uX := uX.mono h12
  replace vX := vX.mono h12
  replace uY := uY.mono h12
  replace vY := vY.mono h12
  replace uZ := uZ.mono h12
  replace vZ := vZ.mono h12
  replace uA := uA.mono h12
  replace vA := vA.mono h12
  replace hA := hA.mono h12
  replace uB := uB.mono h12
  replace vB := vB.mono h12
  replace hB := hB.mono h12
  replace uC := uC.mono h12
  replace vC := vC.mono h12
  replace hC := hC.mono h12
  replace uD := uD.mono h12
  replace vD := vD.mono h12
  replace hD := hD.mono h12
  replace uE := uE.mono h12
  replace vE := vE.mono h12
  replace hE := hE.mono h12
  replace T := Add.trans T h12
  clear h12 ha0 ha1 ha2 hb0 hb1 hb2 RK
  obtain ⟨tt, hK⟩ := laid_var w12 gs0 aK nK cK eK mK kK
  replace hT := hT.mono tt
  replace hX := hX.mono tt
  replace hY := hY.mono tt
  replace hZ := hZ.mono tt
  replace uX := uX.mono tt
  replace vX := vX.mono tt
  replace uY := uY.mono tt
  replace vY := vY.mono tt
  replace uZ := uZ.mono tt
  replace vZ := vZ.mono tt
  replace uA := uA.mono tt
  replace vA := vA.mono tt
  replace hA := hA.mono tt
  replace uB := uB.mono tt
  replace vB := vB.mono tt
  replace hB := hB.mono tt
  replace uC := uC.mono tt
  replace vC := vC.mono tt
  replace hC := hC.mono tt
  replace uD := uD.mono tt
  replace vD := vD.mono tt
  replace hD := hD.mono tt
  replace uE := uE.mono tt
  replace vE := vE.mono tt
  replace hE := hE.mono tt
  replace uK := uK.mono tt
  replace vK := vK.mono tt
  replace T := Add.trans T tt
  clear tt
  have ha0 := hA.c0
  have ha1 := hA.c1
  have ha2 := hA.c2
  have hb0 := hB.c0
  have hb1 := hB.c1
  have hb2 := hB.c2
  go_wp2_with fail
  refine (sameF true (fracT_mk (b := gs3) uA vA) (fracT_mk (b := gs3) uB vB) (Lib.hid (decide_eq_true rfl))).mono ?_
  rintro e w13 ⟨rfl, h13⟩
  replace hT := hT.mono h13
  replace hX := hX.mono h13
  replace hY := hY.mono h13
  replace hZ := hZ.mono h13
  replace uX := uX.mono h13
  replace vX := vX.mono h13
  replace uY := uY.mono h13
  replace vY := vY.mono h13
  replace uZ := uZ.mono h13
  replace vZ := vZ.mono h13
  replace uA := uA.mono h13
  replace vA := vA.mono h13
  replace hA := hA.mono h13
  replace uB := uB.mono h13
  replace vB := vB.mono h13
  replace hB := hB.mono h13
  replace uC := uC.mono h13
  replace vC := vC.mono h13
  replace hC := hC.mono h13
  replace uD := uD.mono h13
  replace vD := vD.mono h13
  replace hD := hD.mono h13
  replace uE := uE.mono h13
  replace vE := vE.mono h13
  replace hE := hE.mono h13
  replace uK := uK.mono h13
  replace vK := vK.mono h13
  replace hK := hK.mono h13
  replace T := Add.trans T h13
  clear h13 ha0 ha1 ha2 hb0 hb1 hb2
  clear hA uA vA
  clear hB uB vB
  have ha0 := hC.c0
  have ha1 := hC.c1
  have ha2 := hC.c2
  have hb0 := hE.c0
  have hb1 := hE.c1
  have hb2 := hE.c2
  go_wp2_with fail
  refine (sameF true (fracT_mk (b := gs4) uC vC) (fracT_mk (b := gs4) uE vE) (Lib.hid (decide_eq_true rfl))).mono ?_
  rintro e w14 ⟨rfl, h14⟩
  replace hT := hT.mono h14
  replace hX := hX.mono h14
  replace hY := hY.mono h14
  replace hZ := hZ.mono h14
  replace uX := uX.mono h14
  replace vX := vX.mono h14
  replace uY := uY.mono h14
  replace vY := vY.mono h14
  replace uZ := uZ.mono h14
  replace vZ := vZ.mono h14
  replace uC := uC.mono h14
  replace vC := vC.mono h14
  replace hC := hC.mono h14
  replace uD := uD.mono h14
  replace vD := vD.mono h14
  replace hD := hD.mono h14
  replace uE := uE.mono h14
  replace vE := vE.mono h14
  replace hE := hE.mono h14
  replace uK := uK.mono h14
  replace vK := vK.mono h14
  replace hK := hK.mono h14
  replace T := Add.trans T h14
  clear h14 ha0 ha1 ha2 hb0 hb1 hb2
  clear hC uC vC
  clear hE uE vE
  have ha0 := hK.c0
  have ha1 := hK.c1
  have ha2 := hK.c2
  have hb0 := hX.c0
  have hb1 := hX.c1
  have hb2 := hX.c2
  go_wp2_with fail
  refine (sameF true (fracT_mk (b := gs0) uK vK) (fracT_mk (b := gs0) uX vX) (Lib.hid (decide_eq_true rfl))).mono ?_
  rintro e w15 ⟨rfl, h15⟩
  replace hT := hT.mono h15
  replace hX := hX.mono h15
  replace hY := hY.mono h15
  replace hZ := hZ.mono h15
  replace uX := uX.mono h15
  replace vX := vX.mono h15
  replace uY := uY.mono h15
  replace vY := vY.mono h15
  replace uZ := uZ.mono h15
  replace vZ := vZ.mono h15
  replace uD := uD.mono h15
  replace vD := vD.mono h15
  replace hD := hD.mono h15
  replace uK := uK.mono h15
  replace vK := vK.mono h15
  replace hK := hK.mono h15
  replace T := Add.trans T h15
  clear h15 ha0 ha1 ha2 hb0 hb1 hb2
  clear hK uK vK
  have ha0 := hX.c0
  have ha1 := hX.c1
  have ha2 := hX.c2
  have hb0 := hY.c0
  have hb1 := hY.c1
  have hb2 := hY.c2
  go_wp2_with fail
  refine ((mulN' _ (fracA_mk2 (b := gs0) uX vX ZX.out (by decide)) (fracA_mk2 (b := gs1) uY vY ZY.out (by decide)) hT RM).mono fun _ _ g => g.ok).mono ?_
  rintro e w16 ⟨aM, nM, cM, eM, mM, kM, rfl, uM, vM, h16⟩
  replace hT := hT.mono h16
  replace hX := hX.mono h16
  replace hY := hY.mono h16
  replace hZ := hZ.mono h16
  replace uX := uX.mono h16
  replace vX := vX.mono h16
  replace uY := uY.mono h16
  replace vY := vY.mono h16
  replace uZ := uZ.mono h16
  replace vZ := vZ.mono h16
  replace uD := uD.mono h16
  replace vD := vD.mono h16
  replace hD := hD.mono h16
  replace T := Add.trans T h16
  clear h16 ha0 ha1 ha2 hb0 hb1 hb2 RM
  obtain ⟨tt, hM⟩ := laid_var w16 gs6 aM nM cM eM mM kM
  replace hT := hT.mono tt
  replace hX := hX.mono tt
  replace hY := hY.mono tt
  replace hZ := hZ.mono tt
  replace uX := uX.mono tt
  replace vX := vX.mono tt
  replace uY := uY.mono tt
  replace vY := vY.mono tt
  replace uZ := uZ.mono tt
  replace vZ := vZ.mono tt
  replace uD := uD.mono tt
  replace vD := vD.mono tt
  replace hD := hD.mono tt
  replace uM := uM.mono tt
  replace vM := vM.mono tt
  replace T := Add.trans T tt
  clear tt
  have ha0 := hY.c0
  have ha1 := hY.c1
  have ha2 := hY.c2
  have hb0 := hX.c0
  have hb1 := hX.c1
  have hb2 := hX.c2
  go_wp2_with fail
  refine ((mulN' _ (fracA_mk2 (b := gs1) uY vY ZY.out (by decide)) (fracA_mk2 (b := gs0) uX vX ZX.out (by decide)) hT RN).mono fun _ _ g => g.ok).mono ?_
  rintro e w17 ⟨aN, nN, cN, eN, mN, kN, rfl, uN, vN, h17⟩
  replace hT := hT.mono h17
  replace hX := hX.mono h17
  replace hY := hY.mono h17
  replace hZ := hZ.mono h17
  replace uX := uX.mono h17
  replace vX := vX.mono h17
  replace uY := uY.mono h17
  replace vY := vY.mono h17
  replace uZ := uZ.mono h17
  replace vZ := vZ.mono h17
  replace uD := uD.mono h17
  replace vD := vD.mono h17
  replace hD := hD.mono h17
  replace uM := uM.mono h17
  replace vM := vM.mono h17
  replace hM := hM.mono h17
  replace T := Add.trans T h17
  clear h17 ha0 ha1 ha2 hb0 hb1 hb2 RN
  obtain ⟨tt, hN⟩ := laid_var w17 gs6 aN nN cN eN mN kN
  replace hT := hT.mono tt
  replace hX := hX.mono tt
  replace hY := hY.mono tt
  replace hZ := hZ.mono tt
  replace uX := uX.mono tt
  replace vX := vX.mono tt
  replace uY := uY.mono tt
  replace vY := vY.mono tt
  replace uZ := uZ.mono tt
  replace vZ := vZ.mono tt
  replace uD := uD.mono tt
  replace vD := vD.mono tt
  replace hD := hD.mono tt
  replace uM := uM.mono tt
  replace vM := vM.mono tt
  replace hM := hM.mono tt
  replace uN := uN.mono tt
  replace vN := vN.mono tt
  replace T := Add.trans T tt
  clear tt
  have ha0 := hM.c0
  have ha1 := hM.c1
  have ha2 := hM.c2
  have hb0 := hZ.c0
  have hb1 := hZ.c1
  have hb2 := hZ.c2
  go_wp2_with fail
  refine ((mulN' _ (fracA_mk2 (b := gs6) uM vM ZM.out (by decide)) (fracA_mk2 (b := gs2) uZ vZ ZZ.out (by decide)) hT RO).mono fun _ _ g => g.ok).mono ?_
  rintro e w18 ⟨aO, nO, cO, eO, mO, kO, rfl, uO, vO, h18⟩
  replace hT := hT.mono h18
  replace hX := hX.mono h18
  replace hY := hY.mono h18
  replace hZ := hZ.mono h18
  replace uX := uX.mono h18
  replace vX := vX.mono h18
  replace uY := uY.mono h18
  replace vY := vY.mono h18
  replace uZ := uZ.mono h18
  replace vZ := vZ.mono h18
  replace uD := uD.mono h18
  replace vD := vD.mono h18
  replace hD := hD.mono h18
  replace uM := uM.mono h18
  replace vM := vM.mono h18
  replace hM := hM.mono h18
  replace uN := uN.mono h18
  replace vN := vN.mono h18
  replace hN := hN.mono h18
  replace T := Add.trans T h18
  clear h18 ha0 ha1 ha2 hb0 hb1 hb2 RO
  obtain ⟨tt, hO⟩ := laid_var w18 gs7 aO nO cO eO mO kO
  replace hT := hT.mono tt
  replace hX := hX.mono tt
  replace hY := hY.mono tt
  replace hZ := hZ.mono tt
  replace uX := uX.mono tt
  replace vX := vX.mono tt
  replace uY := uY.mono tt
  replace vY := vY.mono tt
  replace uZ := uZ.mono tt
  replace vZ := vZ.mono tt
  replace uD := uD.mono tt
  replace vD := vD.mono tt
  replace hD := hD.mono tt
  replace uM := uM.mono tt
  replace vM := vM.mono tt
  replace hM := hM.mono tt
  replace uN := uN.mono tt
  replace vN := vN.mono tt
  replace hN := hN.mono tt
  replace uO := uO.mono tt
  replace vO := vO.mono tt
  replace T := Add.trans T tt
  clear tt
  have ha0 := hY.c0
  have ha1 := hY.c1
  have ha2 := hY.c2
  have hb0 := hZ.c0
  have hb1 := hZ.c1
  have hb2 := hZ.c2
  go_wp2_with fail
  refine ((mulN' _ (fracA_mk2 (b := gs1) uY vY ZY.out (by decide)) (fracA_mk2 (b := gs2) uZ vZ ZZ.out (by decide)) hT RU).mono fun _ _ g => g.ok).mono ?_
  rintro e w19 ⟨aU, nU, cU, eU, mU, kU, rfl, uU, vU, h19⟩
  replace hT := hT.mono h19
  replace hX := hX.mono h19
  replace hY := hY.mono h19
  replace hZ := hZ.mono h19
  replace uX := uX.mono h19
  replace vX := vX.mono h19
  replace uY := uY.mono h19
  replace vY := vY.mono h19
  replace uZ := uZ.mono h19
  replace vZ := vZ.mono h19
  replace uD := uD.mono h19
  replace vD := vD.mono h19
  replace hD := hD.mono h19
  replace uM := uM.mono h19
  replace vM := vM.mono h19
  replace hM := hM.mono h19
  replace uN := uN.mono h19
  replace vN := vN.mono h19
  replace hN := hN.mono h19
  replace uO := uO.mono h19
  replace vO := vO.mono h19
  replace hO := hO.mono h19
  replace T := Add.trans T h19
  clear h19 ha0 ha1 ha2 hb0 hb1 hb2 RU
  obtain ⟨tt, hU⟩ := laid_var w19 gs8 aU nU cU eU mU kU
  replace hT := hT.mono tt
  replace hX := hX.mono tt
  replace hY := hY.mono tt
  replace hZ := hZ.mono tt
  replace uX := uX.mono tt
  replace vX := vX.mono tt
  replace uY := uY.mono tt
  replace vY := vY.mono tt
  replace uZ := uZ.mono tt
  replace vZ := vZ.mono tt
  replace uD := uD.mono tt
  replace vD := vD.mono tt
  replace hD := hD.mono tt
  replace uM := uM.mono tt
  replace vM := vM.mono tt
  replace hM := hM.mono tt
  replace uN := uN.mono tt
  replace vN := vN.mono tt
  replace hN := hN.mono tt
  replace uO := uO.mono tt
  replace vO := vO.mono tt
  replace hO := hO.mono tt
  replace uU := uU.mono tt
  replace vU := vU.mono tt
  replace T := Add.trans T tt
  clear tt
  have ha0 := hX.c0
  have ha1 := hX.c1
  have ha2 := hX.c2
  have hb0 := hU.c0
  have hb1 := hU.c1
  have hb2 := hU.c2
  go_wp2_with fail
  refine ((mulN' _ (fracA_mk2 (b := gs0) uX vX ZX.out (by decide)) (fracA_mk2 (b := gs8) uU vU ZU.out (by decide)) hT RV).mono fun _ _ g => g.ok).mono ?_
  rintro e w20 ⟨aV, nV, cV, eV, mV, kV, rfl, uV, vV, h20⟩
  replace hT := hT.mono h20
  replace hX := hX.mono h20
  replace hY := hY.mono h20
  replace hZ := hZ.mono h20
  replace uX := uX.mono h20
  replace vX := vX.mono h20
  replace uY := uY.mono h20
  replace vY := vY.mono h20
  replace uZ := uZ.mono h20
  replace vZ := vZ.mono h20
  replace uD := uD.mono h20
  replace vD := vD.mono h20
  replace hD := hD.mono h20
  replace uM := uM.mono h20
  replace vM := vM.mono h20
  replace hM := hM.mono h20
  replace uN := uN.mono h20
  replace vN := vN.mono h20
  replace hN := hN.mono h20
  replace uO := uO.mono h20
  replace vO := vO.mono h20
  replace hO := hO.mono h20
  replace uU := uU.mono h20
  replace vU := vU.mono h20
  replace hU := hU.mono h20
  replace T := Add.trans T h20
  clear h20 ha0 ha1 ha2 hb0 hb1 hb2 RV
  obtain ⟨tt, hV⟩ := laid_var w20 gs7 aV nV cV eV mV kV
  replace hT := hT.mono tt
  replace hX := hX.mono tt
  replace hY := hY.mono tt
  replace hZ := hZ.mono tt
  replace uX := uX.mono tt
  replace vX := vX.mono tt
  replace uY := uY.mono tt
  replace vY := vY.mono tt
  replace uZ := uZ.mono tt
  replace vZ := vZ.mono tt
  replace uD := uD.mono tt
  replace vD := vD.mono tt
  replace hD := hD.mono tt
  replace uM := uM.mono tt
  replace vM := vM.mono tt
  replace hM := hM.mono tt
  replace uN := uN.mono tt
  replace vN := vN.mono tt
  replace hN := hN.mono tt
  replace uO := uO.mono tt
  replace vO := vO.mono tt
  replace hO := hO.mono tt
  replace uU := uU.mono tt
  replace vU := vU.mono tt
  replace hU := hU.mono tt
  replace uV := uV.mono tt
  replace vV := vV.mono tt
  replace T := Add.trans T tt
  clear tt
  clear hU uU vU
  have ha0 := hX.c0
  have ha1 := hX.c1
  have ha2 := hX.c2
  have hb0 := hD.c0
  have hb1 := hD.c1
  have hb2 := hD.c2
  go_wp2_with fail
  refine ((mulN' _ (fracA_mk2 (b := gs0) uX vX ZX.out (by decide)) (fracA_mk2 (b := gs5) uD vD ZD.out (by decide)) hT RL).mono fun _ _ g => g.ok).mono ?_
  rintro e w21 ⟨aL, nL, cL, eL, mL, kL, rfl, uL, vL, h21⟩
  replace hT := hT.mono h21
  replace hX := hX.mono h21
  replace hY := hY.mono h21
  replace hZ := hZ.mono h21
  replace uX := uX.mono h21
  replace vX := vX.mono h21
  replace uY := uY.mono h21
  replace vY := vY.mono h21
  replace uZ := uZ.mono h21
  replace vZ := vZ.mono h21
  replace uD := uD.mono h21
  replace vD := vD.mono h21
  replace hD := hD.mono h21
  replace uM := uM.mono h21
  replace vM := vM.mono h21
  replace hM := hM.mono h21
  replace uN := uN.mono h21
  replace vN := vN.mono h21
  replace hN := hN.mono h21
  replace uO := uO.mono h21
  replace vO := vO.mono h21
  replace hO := hO.mono h21
  replace uV := uV.mono h21
  replace vV := vV.mono h21
  replace hV := hV.mono h21
  replace T := Add.trans T h21
  clear h21 ha0 ha1 ha2 hb0 hb1 hb2 RL
  obtain ⟨tt, hL⟩ := laid_var w21 gs9 aL nL cL eL mL kL
  replace hT := hT.mono tt
  replace hX := hX.mono tt
  replace hY := hY.mono tt
  replace hZ := hZ.mono tt
  replace uX := uX.mono tt
  replace vX := vX.mono tt
  replace uY := uY.mono tt
  replace vY := vY.mono tt
  replace uZ := uZ.mono tt
  replace vZ := vZ.mono tt
  replace uD := uD.mono tt
  replace vD := vD.mono tt
  replace hD := hD.mono tt
  replace uM := uM.mono tt
  replace vM := vM.mono tt
  replace hM := hM.mono tt
  replace uN := uN.mono tt
  replace vN := vN.mono tt
  replace hN := hN.mono tt
  replace uO := uO.mono tt
  replace vO := vO.mono tt
  replace hO := hO.mono tt
  replace uV := uV.mono tt
  replace vV := vV.mono tt
  replace hV := hV.mono tt
  replace uL := uL.mono tt
  replace vL := vL.mono tt
  replace T := Add.trans T tt
  clear tt
  clear hD uD vD
  have ha0 := hX.c0
  have ha1 := hX.c1
  have ha2 := hX.c2
  have hb0 := hZ.c0
  have hb1 := hZ.c1
  have hb2 := hZ.c2
  go_wp2_with fail
  refine ((mulN' _ (fracA_mk2 (b := gs0) uX vX ZX.out (by decide)) (fracA_mk2 (b := gs2) uZ vZ ZZ.out (by decide)) hT RXZ).mono fun _ _ g => g.ok).mono ?_
  rintro e w22 ⟨aXZ, nXZ, cXZ, eXZ, mXZ, kXZ, rfl, uXZ, vXZ, h22⟩
  replace hT := hT.mono h22
  replace hX := hX.mono h22
  replace hY := hY.mono h22
  replace hZ := hZ.mono h22
  replace uX := uX.mono h22
  replace vX := vX.mono h22
  replace uY := uY.mono h22
  replace vY := vY.mono h22
  replace uZ := uZ.mono h22
  replace vZ := vZ.mono h22
  replace uM := uM.mono h22
  replace vM := vM.mono h22
  replace hM := hM.mono h22
  replace uN := uN.mono h22
  replace vN := vN.mono h22
  replace hN := hN.mono h22
  replace uO := uO.mono h22
  replace vO := vO.mono h22
  replace hO := hO.mono h22
  replace uV := uV.mono h22
  replace vV := vV.mono h22
  replace hV := hV.mono h22
  replace uL := uL.mono h22
  replace vL := vL.mono h22
  replace hL := hL.mono h22
  replace T := Add.trans T h22
  clear h22 ha0 ha1 ha2 hb0 hb1 hb2 RXZ
  obtain ⟨tt, hXZ⟩ := laid_var w22 gs10 aXZ nXZ cXZ eXZ mXZ kXZ
  replace hT := hT.mono tt
  replace hX := hX.mono tt
  replace hY := hY.mono tt
  replace hZ := hZ.mono tt
  replace uX := uX.mono tt
  replace vX := vX.mono tt
  replace uY := uY.mono tt
  replace vY := vY.mono tt
  replace uZ := uZ.mono tt
  replace vZ := vZ.mono tt
  replace uM := uM.mono tt
  replace vM := vM.mono tt
  replace hM := hM.mono tt
  replace uN := uN.mono tt
  replace vN := vN.mono tt
  replace hN := hN.mono tt
  replace uO := uO.mono tt
  replace vO := vO.mono tt
  replace hO := hO.mono tt
  replace uV := uV.mono tt
  replace vV := vV.mono tt
  replace hV := hV.mono tt
  replace uL := uL.mono tt
  replace vL := vL.mono tt
  replace hL := hL.mono tt
  replace uXZ := uXZ.mono tt
  replace vXZ := vXZ.mono tt
  replace T := Add.trans T tt
  clear tt
  clear hZ uZ vZ
  have ha0 := hM.c0
  have ha1 := hM.c1
  have ha2 := hM.c2
  have hb0 := hXZ.c0
  have hb1 := hXZ.c1
  have hb2 := hXZ.c2
  go_wp2_with fail
  refine ((addN' _ (fracA_mk2 (b := gs6) uM vM ZM.out (by decide)) (fracA_mk2 (b := gs10) uXZ vXZ ZXZ.out (by decide)) hT RRR).mono fun _ _ g => g.ok).mono ?_
  rintro e w23 ⟨aRR, nRR, cRR, eRR, mRR, kRR, rfl, uRR, vRR, h23⟩
  replace hT := hT.mono h23
  replace hX := hX.mono h23
  replace hY := hY.mono h23
  replace uX := uX.mono h23
  replace vX := vX.mono h23
  replace uY := uY.mono h23
  replace vY := vY.mono h23
  replace uM := uM.mono h23
  replace vM := vM.mono h23
  replace hM := hM.mono h23
  replace uN := uN.mono h23
  replace vN := vN.mono h23
  replace hN := hN.mono h23
  replace uO := uO.mono h23
  replace vO := vO.mono h23
  replace hO := hO.mono h23
  replace uV := uV.mono h23
  replace vV := vV.mono h23
  replace hV := hV.mono h23
  replace uL := uL.mono h23
  replace vL := vL.mono h23
  replace hL := hL.mono h23
  replace uXZ := uXZ.mono h23
  replace vXZ := vXZ.mono h23
  replace hXZ := hXZ.mono h23
  replace T := Add.trans T h23
  clear h23 ha0 ha1 ha2 hb0 hb1 hb2 RRR
  obtain ⟨tt, hRR⟩ := laid_var w23 gs9 aRR nRR cRR eRR mRR kRR
  replace hT := hT.mono tt
  replace hX := hX.mono tt
  replace hY := hY.mono tt
  replace uX := uX.mono tt
  replace vX := vX.mono tt
  replace uY := uY.mono tt
  replace vY := vY.mono tt
  replace uM := uM.mono tt
  replace vM := vM.mono tt
  replace hM := hM.mono tt
  replace uN := uN.mono tt
  replace vN := vN.mono tt
  replace hN := hN.mono tt
  replace uO := uO.mono tt
  replace vO := vO.mono tt
  replace hO := hO.mono tt
  replace uV := uV.mono tt
  replace vV := vV.mono tt
  replace hV := hV.mono tt
  replace uL := uL.mono tt
  replace vL := vL.mono tt
  replace hL := hL.mono tt
  replace uXZ := uXZ.mono tt
  replace vXZ := vXZ.mono tt
  replace hXZ := hXZ.mono tt
  replace uRR := uRR.mono tt
  replace vRR := vRR.mono tt
  replace T := Add.trans T tt
  clear tt
  clear hXZ uXZ vXZ
  have ha0 := hM.c0
  have ha1 := hM.c1
  have ha2 := hM.c2
  have hb0 := hN.c0
  have hb1 := hN.c1
  have hb2 := hN.c2
  go_wp2_with fail
  refine (sameF true (fracT_mk (b := gs6) uM vM) (fracT_mk (b := gs6) uN vN) (Lib.hid (decide_eq_true rfl))).mono ?_
  rintro e w24 ⟨rfl, h24⟩
  replace hT := hT.mono h24
  replace hX := hX.mono h24
  replace hY := hY.mono h24
  replace uX := uX.mono h24
  replace vX := vX.mono h24
  replace uY := uY.mono h24
  replace vY := vY.mono h24
  replace uM := uM.mono h24
  replace vM := vM.mono h24
  replace hM := hM.mono h24
  replace uN := uN.mono h24
  replace vN := vN.mono h24
  replace hN := hN.mono h24
  replace uO := uO.mono h24
  replace vO := vO.mono h24
  replace hO := hO.mono h24
  replace uV := uV.mono h24
  replace vV := vV.mono h24
  replace hV := hV.mono h24
  replace uL := uL.mono h24
  replace vL := vL.mono h24
  replace hL := hL.mono h24
  replace uRR := uRR.mono h24
  replace vRR := vRR.mono h24
  replace hRR := hRR.mono h24
  replace T := Add.trans T h24
  clear h24 ha0 ha1 ha2 hb0 hb1 hb2
  clear hN uN vN
  have ha0 := hO.c0
  have ha1 := hO.c1
  have ha2 := hO.c2
  have hb0 := hV.c0
  have hb1 := hV.c1
  have hb2 := hV.c2
  go_wp2_with fail
  refine (sameF true (fracT_mk (b := gs7) uO vO) (fracT_mk (b := gs7) uV vV) (Lib.hid (decide_eq_true rfl))).mono ?_
  rintro e w25 ⟨rfl, h25⟩
  replace hT := hT.mono h25
  replace hX := hX.mono h25
  replace hY := hY.mono h25
  replace uX := uX.mono h25
  replace vX := vX.mono h25
  replace uY := uY.mono h25
  replace vY := vY.mono h25
  replace uM := uM.mono h25
  replace vM := vM.mono h25
  replace hM := hM.mono h25
  replace uO := uO.mono h25
  replace vO := vO.mono h25
  replace hO := hO.mono h25
  replace uV := uV.mono h25
  replace vV := vV.mono h25
  replace hV := hV.mono h25
  replace uL := uL.mono h25
  replace vL := vL.mono h25
  replace hL := hL.mono h25
  replace uRR := uRR.mono h25
  replace vRR := vRR.mono h25
  replace hRR := hRR.mono h25
  replace T := Add.trans T h25
  clear h25 ha0 ha1 ha2 hb0 hb1 hb2
  clear hO uO vO
  clear hV uV vV
  have ha0 := hL.c0
  have ha1 := hL.c1
  have ha2 := hL.c2
  have hb0 := hRR.c0
  have hb1 := hRR.c1
  have hb2 := hRR.c2
  go_wp2_with fail
  refine (sameF true (fracT_mk (b := gs9) uL vL) (fracT_mk (b := gs9) uRR vRR) (Lib.hid (decide_eq_true rfl))).mono ?_
  rintro e w26 ⟨rfl, h26⟩
  replace hT := hT.mono h26
  replace hX := hX.mono h26
  replace hY := hY.mono h26
  replace uX := uX.mono h26
  replace vX := vX.mono h26
  replace uY := uY.mono h26
  replace vY := vY.mono h26
  replace uM := uM.mono h26
  replace vM := vM.mono h26
  replace hM := hM.mono h26
  replace uL := uL.mono h26
  replace vL := vL.mono h26
  replace hL := hL.mono h26
  replace uRR := uRR.mono h26
  replace vRR := vRR.mono h26
  replace hRR := hRR.mono h26
  replace T := Add.trans T h26
  clear h26 ha0 ha1 ha2 hb0 hb1 hb2
  clear hL uL vL
  clear hRR uRR vRR
  have ha0 := hY.c0
  have ha1 := hY.c1
  have ha2 := hY.c2
  have OYh : Hid (okF (gs1, N1, D1) = true) := OY
  go_wp2_with fail
  refine (refSignN sg (fracA_mk2 (b := gs1) uY vY ZY.out (by decide)) OYh SG).mono ?_
  rintro e w27 ⟨rfl, h27⟩
  replace hT := hT.mono h27
  replace hX := hX.mono h27
  replace hY := hY.mono h27
  replace uX := uX.mono h27
  replace vX := vX.mono h27
  replace uY := uY.mono h27
  replace vY := vY.mono h27
  replace uM := uM.mono h27
  replace vM := vM.mono h27
  replace hM := hM.mono h27
  replace T := Add.trans T h27
  clear h27 ha0 ha1 ha2
  by_cases c : Q = 0
  · have dz : (sg == 0) = true := by rw [SZQ.out.2 c]; rfl
    clear c hX hY uX vX uY vY uM vM hM
    go_wp2_with fail
    refine (awake2_any _ hT).mono ?_
    rintro e w28 ⟨rfl, h28⟩
    replace hT := hT.mono h28
    replace T := Add.trans T h28
    clear h28 
    go_wp2_with fail
    go_ret
    exact ⟨rfl, T⟩
  · have dz : (sg == 0) = false := by rw [beq_eq_false_iff_ne]; exact fun e => c (SZQ.out.1 e)
    have RQ := Lib.hid (HQ.out c)
    clear c HQ
    have ha0 := hM.c0
    have ha1 := hM.c1
    have ha2 := hM.c2
    have hb0 := hY.c0
    have hb1 := hY.c1
    have hb2 := hY.c2
    go_wp2_with fail
    refine ((quoN' _ (fracA_mk2 (b := gs6) uM vM ZM.out (by decide)) (fracA_mk2 (b := gs1) uY vY ZY.out (by decide)) hT RQ).mono fun _ _ g => g.ok).mono ?_
    rintro e w28 ⟨aW, nW, cW, eW, mW, kW, rfl, uW, vW, h28⟩
    replace hT := hT.mono h28
    replace hX := hX.mono h28
    replace hY := hY.mono h28
    replace uX := uX.mono h28
    replace vX := vX.mono h28
    replace uY := uY.mono h28
    replace vY := vY.mono h28
    replace uM := uM.mono h28
    replace vM := vM.mono h28
    replace hM := hM.mono h28
    replace T := Add.trans T h28
    clear h28 ha0 ha1 ha2 hb0 hb1 hb2 RQ dz
    obtain ⟨tt, hW⟩ := laid_var w28 gs0 aW nW cW eW mW kW
    replace hT := hT.mono tt
    replace hX := hX.mono tt
    replace hY := hY.mono tt
    replace uX := uX.mono tt
    replace vX := vX.mono tt
    replace uY := uY.mono tt
    replace vY := vY.mono tt
    replace uM := uM.mono tt
    replace vM := vM.mono tt
    replace hM := hM.mono tt
    replace uW := uW.mono tt
    replace vW := vW.mono tt
    replace T := Add.trans T tt
    clear tt
    have ha0 := hW.c0
    have ha1 := hW.c1
    have ha2 := hW.c2
    have hb0 := hX.c0
    have hb1 := hX.c1
    have hb2 := hX.c2
    go_wp2_with fail
    refine (sameF true (fracT_mk (b := gs0) uW vW) (fracT_mk (b := gs0) uX vX) (Lib.hid (decide_eq_true rfl))).mono ?_
    rintro e w29 ⟨rfl, h29⟩
    replace hT := hT.mono h29
    replace hX := hX.mono h29
    replace hY := hY.mono h29
    replace uX := uX.mono h29
    replace vX := vX.mono h29
    replace uY := uY.mono h29
    replace vY := vY.mono h29
    replace uM := uM.mono h29
    replace vM := vM.mono h29
    replace hM := hM.mono h29
    replace uW := uW.mono h29
    replace vW := vW.mono h29
    replace hW := hW.mono h29
    replace T := Add.trans T h29
    clear h29 ha0 ha1 ha2 hb0 hb1 hb2
    clear hX hY uX vX uY vY uM vM hM uW vW hW
    go_wp2_with fail
    refine (awake2_any _ hT).mono ?_
    rintro e w30 ⟨rfl, h30⟩
    replace hT := hT.mono h30
    replace T := Add.trans T h30
    clear h30 
    go_wp2_with fail
    go_ret
    exact ⟨rfl, T⟩

theorem field_any {v v' v2 : Value} {b b' b2 : Bool} {xs ys xs' ys' xs2 ys2 : List Nat} (w : World) (hx : FracI w v b xs ys) (hy : FracI w v' b' xs' ys') (hz : FracI w v2 b2 xs2 ys2) (hT : Tab w) : Calls Tryz.prog 4 #[v, v', v2] w (LawP w) := by
  rcases hl : (longB xs ys || longB xs' ys' || longB xs2 ys2) with _ | _
  · by_cases hv : (okF (b, val xs, val ys) = true ∧ okF (b', val xs', val ys') = true) ∧ okF (b2, val xs2, val ys2) = true
    · exact field_ok w hx hy hz hT hl hv
    · exact field_bad w hx hy hz hT hl hv
  · exact field_long w hx hy hz hT hl
end Go.Proofs.YtfoffjnffkgnaaaGreatDoor.FieldL

namespace Go.Proofs.YtfoffjnffkgnaaaGreatDoor
open Go.ChangeShapes Go.WideShapes Go.ChangeAt Go.RowKit NatM

theorem own : ownKnob Tryz.prog.godebug = none := by kernel_rfl
theorem laidOut : laidOutB Tryz.prog = true := by kernel_rfl

theorem wf_nat {z : Int} (h : (Lit.int .u32 z).wf = true) : 0 ≤ z ∧ z < 4294967296 := by
  have h1 : IntKind.u32.min = 0 := rfl
  have h2 : IntKind.u32.max = 4294967295 := rfl
  simp only [Lit.wf, Bool.and_eq_true, decide_eq_true_eq] at h
  omega
theorem cells44 : Tryz.prog.cellsOf 50 = 1 := by kernel_rfl
set_option maxRecDepth 100000 in
/-- A field of type api.Nat reads as a list of limbs. -/
theorem open_nat_field {H : Type} {enc : TypeId × Value → H} {W : World} {v : Value} {n : Nat} {y : DataW H × List MemPlace} (hf : DataW.trod enc Tryz.prog W 0 (fun _ => true) true n 23 [v] = some y) :
    ∃ a l c xs, v = .slice a l c ∧ Reads W (.slice a l c) xs := by
  rcases open_ints Tryz.underlying23 Tryz.underlying50 cells44 hf with ⟨hcs, _⟩ | ⟨a, len, cap, zs, hcs, _, hl, hm, hz, _, hcell, hwz⟩
  · simp only [List.cons.injEq, and_true] at hcs
    subst hcs
    exact ⟨none, 0, 0, [], rfl, Reads.nil W⟩
  · simp only [List.cons.injEq, and_true] at hcs
    subst hcs
    simp only [if_true] at hz
    refine ⟨some a, len, cap, (zs.take len).map Int.toNat, rfl, some a, len, cap, rfl, by simp; omega, hl, hm, ?_, ?_⟩
    · intro x hx
      obtain ⟨z, hz', rfl⟩ := List.mem_map.1 hx
      have := wf_nat (hwz z (List.mem_of_mem_take hz'))
      omega
    · intro hn
      obtain ⟨b, off, rfl, hc⟩ := ints_at hcell (by omega)
      refine ⟨b, off, rfl, fun i hi => ?_⟩
      rw [hc i (by omega)]
      have hi' : i < zs.length := by omega
      have hw := wf_nat (hwz (zs.getD i 0) (by simp [List.getD, hi']))
      have : ((zs.take len).map Int.toNat).getD i 0 = (zs.getD i 0).toNat := by
        simp [List.getD, hi, hi']
      rw [this, Int.toNat_of_nonneg hw.1]
set_option maxRecDepth 100000 in
/-- An argument of type api.Frac. -/
theorem open_frac {H : Type} {enc : TypeId × Value → H} {W : World} {base : Nat} {v : Value} {d : DataW H} {ps : List MemPlace} (hok : Value.okWide Tryz.prog W .any base 25 v) (h : DataW.Trod enc Tryz.prog W 0 (fun _ => true) true 25 v d ps) :
    ∃ b xs ys, FracI W v b xs ys := by
  obtain ⟨v0, v1, v2, y0, y1, y2, n, rfl, -, -, h0, h1, h2⟩ := Go.Joins.open_agg3 Tryz.underlying25 (by kernel_rfl) (show Tryz.prog.cellsOf 25 = 3 by kernel_rfl) hok h
  obtain ⟨b, e0, -⟩ := DataW.trod_bool Tryz.underlying4 h0
  simp only [List.cons.injEq, and_true] at e0
  subst e0
  obtain ⟨a1, l1, c1, xs, rfl, r1⟩ := open_nat_field h1
  obtain ⟨a2, l2, c2, ys, rfl, r2⟩ := open_nat_field h2
  exact ⟨b, xs, ys, a1, l1, c1, a2, l2, c2, rfl, r1, r2⟩
/-- An argument reads behind the call as it read before. -/
theorem kept_arg {H : Type} {enc : TypeId × Value → H} {W W' : World} {t : TypeId} {v : Value} {d : DataW H} {ps : List MemPlace} (hr : Tryz.prog.readableRec t = true) (ht : t < Tryz.prog.types.size)
    (h : DataW.Trod enc Tryz.prog W 0 (fun _ => true) true t v d ps) (hb : Add W W') (hlt : ∀ x ∈ ps, x.block < W.heap.size) : DataW.Trod enc Tryz.prog W' 0 (fun b => decide (b < W.heap.size)) true t v d ps :=
  Below.trod laidOut hr ht h hb hlt
theorem readFrac : Tryz.prog.readableRec 25 = true := by kernel_rfl
theorem ltFrac : 25 < Tryz.prog.types.size := of_decide_eq_true (by kernel_rfl)

/-- A world for the witness: the settled one, with Go's tables in their blocks. -/
def layRow (l : List Nat) : Obj → Obj
  | .cells _ t frozen => .cells (l.map fun n => Value.int .u8 (n : Nat)).toArray t frozen
  | o => o
noncomputable def laidWorld (os : Os) : World :=
  { World.holding Tryz.prog os ⟨#[], #[], []⟩ with heap := (((World.holding Tryz.prog os ⟨#[], #[], []⟩).heap.modify 3 (layRow Pinned.utf8FirstZ)).modify 4 (layRow ([128, 191, 160, 191, 128, 159, 144, 191, 128, 143] ++ List.replicate 22 0))).modify 2 (layRow Lib.deBruijn32tab) }
theorem laid_met (os : Os) (args : Array Value) : laidMet Tryz.prog [("math/bits.deBruijn32tab", Rows.laid_math_bits_deBruijn32tab), ("unicode/utf8.acceptRanges", Rows.laid_unicode_utf8_acceptRanges), ("unicode/utf8.first", Rows.laid_unicode_utf8_first)] ((laidWorld os).forCall (fun _ _ => 0) ⟨#[], args, []⟩).memory :=
  laidMet_of_run' 8 (by kernel_rfl) (by kernel_rfl)

theorem tab_global : Tryz.prog.globalNamed "math/bits.deBruijn32tab" = some 2 := by kernel_rfl
/-- The row's condition lays Go's table. -/
theorem tab_of_laid {W : World} (h : laidMet Tryz.prog [("math/bits.deBruijn32tab", Rows.laid_math_bits_deBruijn32tab), ("unicode/utf8.acceptRanges", Rows.laid_unicode_utf8_acceptRanges), ("unicode/utf8.first", Rows.laid_unicode_utf8_first)] W) : Tab W := by
  have ht := Lib.tabIs_of_head (zs := Lib.deBruijn32tab.map fun n : Nat => (n : Int)) (k := .u8) tab_global (show (Tryz.prog.globals[2]?).map (·.type) = some 148 by kernel_rfl) Tryz.underlying148 Tryz.underlying5 (by kernel_rfl) (by kernel_rfl) h
  have hc : ∀ j, j < 32 → W.cell? ⟨2, j, none⟩ = some (.int .u8 (Lib.deBruijn32tab.getD j 0 : Nat)) := by
    intro j hj
    have hl : Lib.deBruijn32tab.length = 32 := rfl
    rw [ht.cell tab_global j (by simpa [hl] using hj)]
    have hj' : j < Lib.deBruijn32tab.length := by omega
    simp [List.getD, hj']
  exact ⟨World.block_lt_of_cell? W _ (hc 0 (by decide)), hc⟩
theorem int_bounds {z : Int} (h : (Lit.int .i64 z).wf = true) : -9223372036854775808 ≤ z ∧ z ≤ 9223372036854775807 := by
  have h1 : IntKind.i64.min = -9223372036854775808 := rfl
  have h2 : IntKind.i64.max = 9223372036854775807 := rfl
  simp only [Lit.wf, Bool.and_eq_true, decide_eq_true_eq] at h
  omega
end Go.Proofs.YtfoffjnffkgnaaaGreatDoor

namespace Go.Proofs.YtfoffjnffkgnaaaGreatDoor.fnFractionField
open Go.Proofs.YtfoffjnffkgnaaaGreatDoor Go.Proofs.YtfoffjnffkgnaaaGreatDoor.Api Go.ChangeShapes Go.WideShapes Go.ChangeAt Go.RowKit NatM
set_option maxRecDepth 100000 in
/-- What the walk gives, for every argument. -/
theorem contract (H : Type) (enc : TypeId × Value → H) (W : World) (base : Nat) (args : Array Value) (ds gs : List (DataW H)) (before : List MemPlace)
    (hval : ∀ (j : Nat) t v, Tryz.f4.params[j]? = some t → args[j]? = some v → Value.okWide Tryz.prog W .any base t v)
    (hW : DataW.Whole enc Tryz.prog Tryz.f4.params.toList Rows.fractionFieldSpec.vars false W args.toList ds gs before) (hT : Tab W) :
    Calls Tryz.prog 4 args W fun e W' => ∃ v, e = .returned v ∧ Rows.fractionFieldSpec.post enc Tryz.prog Tryz.f4 false true false false W args v W' := by
  have hW' := hW
  obtain ⟨p, q, hA0, hV, rfl, -, -⟩ := hW
  have hA : DataW.TrodAll enc Tryz.prog W 0 (fun _ => true) true Tryz.f4.params.toList args.toList ds p := hA0
  rw [Tryz.params4] at hA hval
  obtain ⟨v0, vs0, d0, ds0, p0, q0, hargs0, rfl, rfl, h0, t0⟩ := trodAll_cons hA
  obtain ⟨v1, vs1, d1, ds1, p1, q1, hargs1, rfl, rfl, h1, t1⟩ := trodAll_cons t0
  obtain ⟨v2, vs2, d2, ds2, p2, q2, hargs2, rfl, rfl, h2, t2⟩ := trodAll_cons t1
  obtain ⟨rfl, rfl, rfl⟩ := trodAll_nil t2
  obtain rfl : args = #[v0, v1, v2] := by cases args; simp_all
  obtain ⟨rfl, rfl⟩ := trodVars_none hV
  obtain ⟨b0, xs0, ys0, r0⟩ := open_frac (hval 0 25 v0 rfl rfl) h0
  obtain ⟨b1, xs1, ys1, r1⟩ := open_frac (hval 1 25 v1 rfl rfl) h1
  obtain ⟨b2, xs2, ys2, r2⟩ := open_frac (hval 2 25 v2 rfl rfl) h2
  clear hA0
  simp only [List.append_nil] at hW'
  have hlt : ∀ x, x ∈ p0 ++ p1 ++ p2 → x.block < W.heap.size := fun x hx => by simpa using hW'.lt x (by simpa using hx)
  have walk : Calls Tryz.prog 4 #[v0, v1, v2] W (LawP W) := by
    exact FieldL.field_any W r0 r1 r2 hT
  refine walk.mono fun e W' ⟨he, hb⟩ => ?_
  subst he
  have hargs := trodAll_cons_mk (kept_arg readFrac ltFrac h0 hb fun x hx => hlt x (by simp [hx])) (trodAll_cons_mk (kept_arg readFrac ltFrac h1 hb fun x hx => hlt x (by simp [hx])) (trodAll_cons_mk (kept_arg readFrac ltFrac h2 hb fun x hx => hlt x (by simp [hx])) (trodAll_mk0)))
  exact ⟨_, rfl, _, _, _, [], _, [], hW', trodAll_cons_mk (shut_bool Tryz.underlying4 _) trodAll_mk0, hargs, rfl, Below.frame hb _, fun h => by cases h⟩

def wArgs : Array Value := #[.agg #[.bool false, .slice none 0 0, .slice none 0 0], .agg #[.bool false, .slice none 0 0, .slice none 0 0], .agg #[.bool false, .slice none 0 0, .slice none 0 0]]
theorem reads (os : Os) {H : Type} (enc : TypeId × Value → H) : ∃ places, DataW.whole enc Tryz.prog ((laidWorld os).forCall (fun _ _ => 0) ⟨#[], wArgs, []⟩).memory Tryz.f4.params.toList Rows.fractionFieldSpec.vars false wArgs.toList 8 = some ([.agg [.lit (.bool false), .nil, .nil], .agg [.lit (.bool false), .nil, .nil], .agg [.lit (.bool false), .nil, .nil]], [], places) :=
  ⟨[], by kernel_rfl⟩

set_option maxRecDepth 100000 in
theorem lifted (os : Os) (started : os.Started) (H : Type) (enc : TypeId × Value → H) (F : Stop.Interp) :
    ReturnsInHanded {} Tryz.checked os 4 .any ((OpenSpec.ofChange Rows.fractionFieldSpec).preRow enc Tryz.prog Tryz.f4 Rows.fractionFieldRow.domain false Rows.fractionFieldRow.laid) (((OpenSpec.ofChange Rows.fractionFieldSpec).at F).post enc Tryz.prog Tryz.f4 false true false false) := by
  obtain ⟨places, hx⟩ := reads os enc
  refine returnsInHanded_of_row (C := Tryz.checked) (s := OpenSpec.ofChange Rows.fractionFieldSpec) own started (by kernel_rfl) Tryz.func4
    (witness_row_at (enc := enc) (C := Tryz.checked) false (laidWorld os) wArgs rfl (by kernel_rfl) (by kernel_rfl) (by kernel_rfl)
      (OpenSpec.preRow_of_cond 8 hx (by kernel_rfl) (fun k hk => by cases hk) (by kernel_rfl) (laid_met os _))) ?_
  intro W base args ds gs before hval hW _ _ _ hL _ _
  exact contract H enc W base args ds gs before hval hW (tab_of_laid hL)

theorem said : Rows.FractionFieldSaid :=
  OpenClaim.holds_of_cond 4 Tryz.f4 rfl rfl rfl rfl rfl rfl rfl ⟨rfl, rfl, rfl, rfl, rfl⟩ rfl rfl rfl rfl rfl (by kernel_rfl) Tryz.func4 (by kernel_rfl)
    (of_decide_eq_true (by kernel_rfl)) (by unfold Func.isWrapper; first | (rw [if_pos (by decide +kernel)]; kernel_rfl) | (rw [if_neg (by decide +kernel)]; exact ⟨rfl, rfl⟩))
    (fun os started H enc _ F => by rw [OpenClaim.pre_eq_preRow]; exact lifted os started H enc F)

theorem plain (f : FuncId) (fn : Func) (hf : Tryz.pinned.checked.prog.funcNamed "drydock/drydocklaw02.FractionField" = some f) (hfn : Tryz.pinned.checked.prog.funcs[f]? = some fn) :
    false = Tryz.pinned.checked.prog.looks [] ∧ ∀ (j : Nat) t, fn.params[j]? = some t → Tryz.pinned.checked.prog.wantsStandIn t = false := by
  obtain rfl : f = 4 := Option.some.inj ((show Tryz.prog.funcNamed "drydock/drydocklaw02.FractionField" = some 4 by kernel_rfl).symm.trans hf) |>.symm
  obtain rfl : fn = Tryz.f4 := (Option.some.inj (Tryz.func4.symm.trans hfn)).symm
  refine ⟨by kernel_rfl, fun j t ht => ?_⟩
  rw [Tryz.params4] at ht
  have hm : t ∈ [25, 25, 25] := by
    have := Array.mem_of_getElem? ht
    simpa using this
  have hall : ([25, 25, 25].all fun u => !Tryz.prog.wantsStandIn u) = true := by kernel_rfl
  exact (show Tryz.prog.wantsStandIn t = false by simpa using List.all_eq_true.1 hall t hm)

/-- The card. -/
theorem card : Rows.FractionFieldCardSaid :=
  Claim7.holds_tied_plain_at .later [] _ _ _ _ said (fun _ h => by cases h) (by kernel_rfl) (fun _ h => by cases h) fractionField_row_tie rfl ⟨rfl, rfl⟩ (by kernel_rfl) rfl plain (by kernel_rfl)
end Go.Proofs.YtfoffjnffkgnaaaGreatDoor.fnFractionField
namespace Go.Proofs.YtfoffjnffkgnaaaGreatDoor
theorem fractionField_card : Rows.FractionFieldCardSaid := fnFractionField.card
end Go.Proofs.YtfoffjnffkgnaaaGreatDoor
