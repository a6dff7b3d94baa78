/- The law FractionOrder returns true for all arguments, and leaves them as they were: the row and its card.
(With the texts that are joined here: The law FractionOrder: its walk, for all arguments. | What the cards of layer 2 share: how arguments open, a world for the witness, Go's table.) -/
import Derived.Test.YtfoffjnffkgnaaaGreatDoorZF
import Derived.Test.YtfoffjnffkgnaaaGreatDoorCards
import Derived.Test.YtfoffjnffkgnaaaGreatDoorTie
import Derived.Lib.SmallJoins
import Derived.WalkKit
import Derived.ProofKit
import Derived.OpenShut
import Derived.Deep.DeepHandedRow
import Derived.Lib.LaidTab

namespace Go.Proofs.YtfoffjnffkgnaaaGreatDoor.OrderL
open Go.Proofs.YtfoffjnffkgnaaaGreatDoor Go.RowKit NatM Go.Proofs.YtfoffjnffkgnaaaGreatDoor.Api

/-- Cmp of two valid fractions. -/
def CmpC (w : World) (t : Int) (e : Ending) (w' : World) : Prop := e = .returned (.tuple #[.int .i64 t, .int .i64 0]) ∧ Add w w'
theorem cmpC (t : Int) {v v' : Value} {x y : Tri} {w : World} (hx : FracA w v x) (hy : FracA w v' y) (h : Hid (okF x = true ∧ okF y = true)) (ht : Hid (cmpQ (qv x) (qv y) = t)) : Calls Tryz.prog 27 #[v, v'] w (CmpC w t) :=
  (cmp_works t hx hy h ht).mono fun _ _ g => ⟨g.1, g.2⟩
theorem fracA_mk2 {w : World} {b : Bool} {N D k : Nat} {an n cn ad d cd} (h1 : Num w (.slice an n cn) N) (h2 : Num w (.slice ad d cd) D) (s : Sz k (b, N, D)) (hk : k ≤ 128) : FracA w (.agg #[.bool b, .slice an n cn, .slice ad d cd]) (b, N, D) :=
  ⟨an, n, cn, ad, d, cd, rfl, num_nv h1 (lt_up s.2.1 (by omega)), num_nv h2 (lt_up s.2.2 (by omega))⟩
set_option maxRecDepth 100000 in
set_option maxHeartbeats 8000000 in
theorem order_long {v v' v2 : Value} {b b' b2 : Bool} {xs ys xs' ys' xs2 ys2 : List Nat} (w : World) (hx : FracI w v b xs ys) (hy : FracI w v' b' xs' ys') (hz : FracI w v2 b2 xs2 ys2) (hT : Tab w) (hl : (longB xs ys || longB xs' ys' || longB xs2 ys2) = true) : Calls Tryz.prog 5 #[v, v', v2] w (LawP w) := by
  obtain ⟨an, n, cn, ad, d, cd, rfl, i0, j0⟩ := hx
  obtain ⟨an', n', cn', ad', d', cd', rfl, i1, j1⟩ := hy
  obtain ⟨an2, n2, cn2, ad2, d2, cd2, rfl, i2, j2⟩ := hz
  obtain ⟨T, hX, hY, hZ⟩ := start3 w b an n cn ad d cd b' an' n' cn' ad' d' cd' b2 an2 n2 cn2 ad2 d2 cd2
  obtain ⟨W0, hW0⟩ : ∃ W0, W0 = (((w.alloc (.cells #[.bool b, .slice an n cn, .slice ad d cd] 25)).alloc (.cells #[.bool b', .slice an' n' cn', .slice ad' d' cd'] 25)).alloc (.cells #[.bool b2, .slice an2 n2 cn2, .slice ad2 d2 cd2] 25)) := ⟨_, rfl⟩
  rw [← hW0] at T hX hY hZ
  have hX0 := hX
  have hY0 := hY
  have hZ0 := hZ
  have CL := Lib.hid (longF3 true (b := b) (b' := b') (b2 := b2) (w := W0) (w.heap.size + 1 + 1 + 1) (i0.mono T) (j0.mono T) (i1.mono T) (j1.mono T) (i2.mono T) (j2.mono T) (by rw [hW0]; simp) (Lib.hid hl))
  have TL : Add W0 (W0.alloc (.cells #[.bool b, .slice an n cn, .slice ad d cd, .bool b', .slice an' n' cn', .slice ad' d' cd', .bool b2, .slice an2 n2 cn2, .slice ad2 d2 cd2] 25)) := add_new _ _
  replace hX := hX.mono TL
  replace hY := hY.mono TL
  replace hZ := hZ.mono TL
  replace hT := (hT.mono T).mono TL
  replace T := Add.trans T TL
  have ha0 := hX0.c0
  have ha1 := hX0.c1
  have ha2 := hX0.c2
  have hb0 := hY0.c0
  have hb1 := hY0.c1
  have hb2 := hY0.c2
  have hc0 := hZ0.c0
  have hc1 := hZ0.c1
  have hc2 := hZ0.c2
  rw [hW0] at ha0 ha1 ha2 hb0 hb1 hb2 hc0 hc1 hc2
  go_enter Tryz.func5, Tryz.ntmps5
  go_wp2_with fail
  rw [← hW0]
  refine CL.out.mono ?_
  rintro e w9 ⟨rfl, rfl⟩
  clear CL TL hW0 hl hX0 hY0 hZ0 ha0 ha1 ha2 hb0 hb1 hb2 hc0 hc1 hc2 hX hY hZ i0 j0 i1 j1 i2 j2
  go_wp2_with fail
  refine (awake2_any _ hT).mono ?_
  rintro e w9 ⟨rfl, h9⟩
  replace T := Add.trans T h9
  clear h9 hT
  go_wp2_with fail
  go_ret
  exact ⟨rfl, T⟩

set_option maxRecDepth 100000 in
set_option maxHeartbeats 8000000 in
theorem order_bad {v v' v2 : Value} {b b' b2 : Bool} {xs ys xs' ys' xs2 ys2 : List Nat} (w : World) (hx : FracI w v b xs ys) (hy : FracI w v' b' xs' ys') (hz : FracI w v2 b2 xs2 ys2) (hT : Tab w) (hl : (longB xs ys || longB xs' ys' || longB xs2 ys2) = false) (hv : ¬ ((okF (b, val xs, val ys) = true ∧ okF (b', val xs', val ys') = true) ∧ okF (b2, val xs2, val ys2) = true)) : Calls Tryz.prog 5 #[v, v', v2] w (LawP w) := by
  have hl0 := hl
  obtain ⟨an, n, cn, ad, d, cd, rfl, i0, j0⟩ := hx
  obtain ⟨an', n', cn', ad', d', cd', rfl, i1, j1⟩ := hy
  obtain ⟨an2, n2, cn2, ad2, d2, cd2, rfl, i2, j2⟩ := hz
  obtain ⟨T, hX, hY, hZ⟩ := start3 w b an n cn ad d cd b' an' n' cn' ad' d' cd' b2 an2 n2 cn2 ad2 d2 cd2
  obtain ⟨W0, hW0⟩ : ∃ W0, W0 = (((w.alloc (.cells #[.bool b, .slice an n cn, .slice ad d cd] 25)).alloc (.cells #[.bool b', .slice an' n' cn', .slice ad' d' cd'] 25)).alloc (.cells #[.bool b2, .slice an2 n2 cn2, .slice ad2 d2 cd2] 25)) := ⟨_, rfl⟩
  rw [← hW0] at T hX hY hZ
  have hX0 := hX
  have hY0 := hY
  have hZ0 := hZ
  have CL := Lib.hid (longF3 false (b := b) (b' := b') (b2 := b2) (w := W0) (w.heap.size + 1 + 1 + 1) (i0.mono T) (j0.mono T) (i1.mono T) (j1.mono T) (i2.mono T) (j2.mono T) (by rw [hW0]; simp) (Lib.hid hl))
  have TL : Add W0 (W0.alloc (.cells #[.bool b, .slice an n cn, .slice ad d cd, .bool b', .slice an' n' cn', .slice ad' d' cd', .bool b2, .slice an2 n2 cn2, .slice ad2 d2 cd2] 25)) := add_new _ _
  replace hX := hX.mono TL
  replace hY := hY.mono TL
  replace hZ := hZ.mono TL
  replace hT := (hT.mono T).mono TL
  replace T := Add.trans T TL
  have ha0 := hX0.c0
  have ha1 := hX0.c1
  have ha2 := hX0.c2
  have hb0 := hY0.c0
  have hb1 := hY0.c1
  have hb2 := hY0.c2
  have hc0 := hZ0.c0
  have hc1 := hZ0.c1
  have hc2 := hZ0.c2
  rw [hW0] at ha0 ha1 ha2 hb0 hb1 hb2 hc0 hc1 hc2
  simp only [Bool.or_eq_false_iff] at hl0
  have qx : FracA _ (.agg #[.bool b, .slice an n cn, .slice ad d cd]) (b, val xs, val ys) := (FracI.arg (w := w) ⟨an, n, cn, ad, d, cd, rfl, i0, j0⟩ hl0.1.1).mono T
  have qy : FracA _ (.agg #[.bool b', .slice an' n' cn', .slice ad' d' cd']) (b', val xs', val ys') := (FracI.arg (w := w) ⟨an', n', cn', ad', d', cd', rfl, i1, j1⟩ hl0.1.2).mono T
  have qz : FracA _ (.agg #[.bool b2, .slice an2 n2 cn2, .slice ad2 d2 cd2]) (b2, val xs2, val ys2) := (FracI.arg (w := w) ⟨an2, n2, cn2, ad2, d2, cd2, rfl, i2, j2⟩ hl0.2).mono T
  obtain ⟨l1, l2⟩ := FracI.small i0.limbs j0.limbs hl0.1.1
  obtain ⟨l3, l4⟩ := FracI.small i1.limbs j1.limbs hl0.1.2
  obtain ⟨l5, l6⟩ := FracI.small i2.limbs j2.limbs hl0.2
  obtain ⟨x, ex⟩ : ∃ x : Tri, (b, val xs, val ys) = x := ⟨_, rfl⟩
  obtain ⟨y, ey⟩ : ∃ y : Tri, (b', val xs', val ys') = y := ⟨_, rfl⟩
  obtain ⟨z, ez⟩ : ∃ z : Tri, (b2, val xs2, val ys2) = z := ⟨_, rfl⟩
  have SX : Hid (x.2.1 < pw 24 ∧ x.2.2 < pw 24) := Lib.hid (by rw [← ex]; exact ⟨l1, l2⟩)
  have SY : Hid (y.2.1 < pw 24 ∧ y.2.2 < pw 24) := Lib.hid (by rw [← ey]; exact ⟨l3, l4⟩)
  have SZ : Hid (z.2.1 < pw 24 ∧ z.2.2 < pw 24) := Lib.hid (by rw [← ez]; exact ⟨l5, l6⟩)
  rw [ex] at qx hv
  rw [ey] at qy hv
  rw [ez] at qz hv
  clear ex ey ez l1 l2 l3 l4 l5 l6 hl0 i0 j0 i1 j1 i2 j2
  clear hX0 hY0 hZ0
  go_enter Tryz.func5, Tryz.ntmps5
  go_wp2_with fail
  rw [← hW0]
  refine CL.out.mono ?_
  rintro e w9 ⟨rfl, rfl⟩
  clear CL TL hW0 hl ha0 ha1 ha2 hb0 hb1 hb2 hc0 hc1 hc2
  have HV := Lib.hid hv
  clear hv SX SY SZ
  by_cases c1 : okF x = true
  · have F1 := Lib.hid c1
    by_cases c2 : okF y = true
    · have F2 := Lib.hid c2
      have c3 : okF z = false := by
        have := HV.out
        cases h : okF z
        · rfl
        · exact absurd ⟨⟨c1, c2⟩, h⟩ this
      have F3 := Lib.hid c3
      clear c1 c2 c3 HV
      have ha0 := hX.c0
      have ha1 := hX.c1
      have ha2 := hX.c2
      go_wp2_with fail
      refine (refValidN true qx F1).mono ?_
      rintro e w1 ⟨rfl, h1⟩
      replace hT := hT.mono h1
      replace hY := hY.mono h1
      replace hZ := hZ.mono h1
      replace qy := qy.mono h1
      replace qz := qz.mono h1
      replace T := Add.trans T h1
      clear h1 ha0 ha1 ha2 hX qx F1
      have hb0 := hY.c0
      have hb1 := hY.c1
      have hb2 := hY.c2
      go_wp2_with fail
      refine (refValidN true qy F2).mono ?_
      rintro e w2 ⟨rfl, h2⟩
      replace hT := hT.mono h2
      replace hZ := hZ.mono h2
      replace qz := qz.mono h2
      replace T := Add.trans T h2
      clear h2 hb0 hb1 hb2 hY qy F2
      have hc0 := hZ.c0
      have hc1 := hZ.c1
      have hc2 := hZ.c2
      go_wp2_with fail
      refine (refValidN false qz F3).mono ?_
      rintro e w3 ⟨rfl, h3⟩
      replace hT := hT.mono h3
      replace T := Add.trans T h3
      clear h3 hc0 hc1 hc2 hZ qz F3
      go_wp2_with fail
      refine (awake2_any _ hT).mono ?_
      rintro e w9 ⟨rfl, h9⟩
      replace T := Add.trans T h9
      clear h9 hT
      go_wp2_with fail
      go_ret
      exact ⟨rfl, T⟩
    · have F2 : Hid (okF y = false) := Lib.hid (by simpa using c2)
      clear c1 c2 HV
      have ha0 := hX.c0
      have ha1 := hX.c1
      have ha2 := hX.c2
      go_wp2_with fail
      refine (refValidN true qx F1).mono ?_
      rintro e w1 ⟨rfl, h1⟩
      replace hT := hT.mono h1
      replace hY := hY.mono h1
      replace qy := qy.mono h1
      replace T := Add.trans T h1
      clear h1 ha0 ha1 ha2 hX qx F1 hZ qz
      have hb0 := hY.c0
      have hb1 := hY.c1
      have hb2 := hY.c2
      go_wp2_with fail
      refine (refValidN false qy F2).mono ?_
      rintro e w2 ⟨rfl, h2⟩
      replace hT := hT.mono h2
      replace T := Add.trans T h2
      clear h2 hb0 hb1 hb2 hY qy F2
      go_wp2_with fail
      refine (awake2_any _ hT).mono ?_
      rintro e w9 ⟨rfl, h9⟩
      replace T := Add.trans T h9
      clear h9 hT
      go_wp2_with fail
      go_ret
      exact ⟨rfl, T⟩
  · have F1 : Hid (okF x = false) := Lib.hid (by simpa using c1)
    clear c1 HV
    have ha0 := hX.c0
    have ha1 := hX.c1
    have ha2 := hX.c2
    go_wp2_with fail
    refine (refValidN false qx F1).mono ?_
    rintro e w1 ⟨rfl, h1⟩
    replace hT := hT.mono h1
    replace T := Add.trans T h1
    clear h1 ha0 ha1 ha2 hX qx F1 hY hZ qy qz
    go_wp2_with fail
    refine (awake2_any _ hT).mono ?_
    rintro e w9 ⟨rfl, h9⟩
    replace T := Add.trans T h9
    clear h9 hT
    go_wp2_with fail
    go_ret
    exact ⟨rfl, T⟩

set_option maxRecDepth 100000 in
set_option maxHeartbeats 8000000 in
theorem order_ok {v v' v2 : Value} {b b' b2 : Bool} {xs ys xs' ys' xs2 ys2 : List Nat} (w : World) (hx : FracI w v b xs ys) (hy : FracI w v' b' xs' ys') (hz : FracI w v2 b2 xs2 ys2) (hT : Tab w) (hl : (longB xs ys || longB xs' ys' || longB xs2 ys2) = false) (hv : (okF (b, val xs, val ys) = true ∧ okF (b', val xs', val ys') = true) ∧ okF (b2, val xs2, val ys2) = true) : Calls Tryz.prog 5 #[v, v', v2] w (LawP w) := by
  have hl0 := hl
  obtain ⟨an, n, cn, ad, d, cd, rfl, i0, j0⟩ := hx
  obtain ⟨an', n', cn', ad', d', cd', rfl, i1, j1⟩ := hy
  obtain ⟨an2, n2, cn2, ad2, d2, cd2, rfl, i2, j2⟩ := hz
  obtain ⟨T, hX, hY, hZ⟩ := start3 w b an n cn ad d cd b' an' n' cn' ad' d' cd' b2 an2 n2 cn2 ad2 d2 cd2
  obtain ⟨W0, hW0⟩ : ∃ W0, W0 = (((w.alloc (.cells #[.bool b, .slice an n cn, .slice ad d cd] 25)).alloc (.cells #[.bool b', .slice an' n' cn', .slice ad' d' cd'] 25)).alloc (.cells #[.bool b2, .slice an2 n2 cn2, .slice ad2 d2 cd2] 25)) := ⟨_, rfl⟩
  rw [← hW0] at T hX hY hZ
  have hX0 := hX
  have hY0 := hY
  have hZ0 := hZ
  have CL := Lib.hid (longF3 false (b := b) (b' := b') (b2 := b2) (w := W0) (w.heap.size + 1 + 1 + 1) (i0.mono T) (j0.mono T) (i1.mono T) (j1.mono T) (i2.mono T) (j2.mono T) (by rw [hW0]; simp) (Lib.hid hl))
  have TL : Add W0 (W0.alloc (.cells #[.bool b, .slice an n cn, .slice ad d cd, .bool b', .slice an' n' cn', .slice ad' d' cd', .bool b2, .slice an2 n2 cn2, .slice ad2 d2 cd2] 25)) := add_new _ _
  replace hX := hX.mono TL
  replace hY := hY.mono TL
  replace hZ := hZ.mono TL
  replace hT := (hT.mono T).mono TL
  replace T := Add.trans T TL
  have ha0 := hX0.c0
  have ha1 := hX0.c1
  have ha2 := hX0.c2
  have hb0 := hY0.c0
  have hb1 := hY0.c1
  have hb2 := hY0.c2
  have hc0 := hZ0.c0
  have hc1 := hZ0.c1
  have hc2 := hZ0.c2
  rw [hW0] at ha0 ha1 ha2 hb0 hb1 hb2 hc0 hc1 hc2
  simp only [Bool.or_eq_false_iff] at hl0
  have qx : FracA _ (.agg #[.bool b, .slice an n cn, .slice ad d cd]) (b, val xs, val ys) := (FracI.arg (w := w) ⟨an, n, cn, ad, d, cd, rfl, i0, j0⟩ hl0.1.1).mono T
  have qy : FracA _ (.agg #[.bool b', .slice an' n' cn', .slice ad' d' cd']) (b', val xs', val ys') := (FracI.arg (w := w) ⟨an', n', cn', ad', d', cd', rfl, i1, j1⟩ hl0.1.2).mono T
  have qz : FracA _ (.agg #[.bool b2, .slice an2 n2 cn2, .slice ad2 d2 cd2]) (b2, val xs2, val ys2) := (FracI.arg (w := w) ⟨an2, n2, cn2, ad2, d2, cd2, rfl, i2, j2⟩ hl0.2).mono T
  obtain ⟨l1, l2⟩ := FracI.small i0.limbs j0.limbs hl0.1.1
  obtain ⟨l3, l4⟩ := FracI.small i1.limbs j1.limbs hl0.1.2
  obtain ⟨l5, l6⟩ := FracI.small i2.limbs j2.limbs hl0.2
  obtain ⟨x, ex⟩ : ∃ x : Tri, (b, val xs, val ys) = x := ⟨_, rfl⟩
  obtain ⟨y, ey⟩ : ∃ y : Tri, (b', val xs', val ys') = y := ⟨_, rfl⟩
  obtain ⟨z, ez⟩ : ∃ z : Tri, (b2, val xs2, val ys2) = z := ⟨_, rfl⟩
  have SX : Hid (x.2.1 < pw 24 ∧ x.2.2 < pw 24) := Lib.hid (by rw [← ex]; exact ⟨l1, l2⟩)
  have SY : Hid (y.2.1 < pw 24 ∧ y.2.2 < pw 24) := Lib.hid (by rw [← ey]; exact ⟨l3, l4⟩)
  have SZ : Hid (z.2.1 < pw 24 ∧ z.2.2 < pw 24) := Lib.hid (by rw [← ez]; exact ⟨l5, l6⟩)
  rw [ex] at qx hv
  rw [ey] at qy hv
  rw [ez] at qz hv
  clear ex ey ez l1 l2 l3 l4 l5 l6 hl0 i0 j0 i1 j1 i2 j2
  clear hX0 hY0 hZ0
  go_enter Tryz.func5, Tryz.ntmps5
  go_wp2_with fail
  rw [← hW0]
  refine CL.out.mono ?_
  rintro e w9 ⟨rfl, rfl⟩
  clear CL TL hW0 hl ha0 ha1 ha2 hb0 hb1 hb2 hc0 hc1 hc2
  have F1 := Lib.hid hv.1.1
  have F2 := Lib.hid hv.1.2
  have F3 := Lib.hid hv.2
  have sx : Sz 24 x := ⟨(okF_iff.1 F1.out).1, SX.out⟩
  have sy : Sz 24 y := ⟨(okF_iff.1 F2.out).1, SY.out⟩
  have sz : Sz 24 z := ⟨(okF_iff.1 F3.out).1, SZ.out⟩
  obtain ⟨a, ha⟩ : ∃ a, cmpQ (qv x) (qv y) = a := ⟨_, rfl⟩
  obtain ⟨bb, hb⟩ : ∃ a, cmpQ (qv y) (qv z) = a := ⟨_, rfl⟩
  obtain ⟨c, hc⟩ : ∃ a, cmpQ (qv x) (qv z) = a := ⟨_, rfl⟩
  obtain ⟨s, hs⟩ : ∃ a, signQ (qv z) = a := ⟨_, rfl⟩
  obtain ⟨dd, hd⟩ : ∃ dd, dd = -a := ⟨_, rfl⟩
  obtain ⟨gg, hg⟩ : ∃ gg, gg = a * s := ⟨_, rfl⟩
  have Ga := Lib.hid ha
  have Gb := Lib.hid hb
  have Gc := Lib.hid hc
  have Gs := Lib.hid hs
  have Gd : Hid (cmpQ (qv y) (qv x) = dd) := Lib.hid (by rw [cmpQ_flip, ha, hd])
  obtain ⟨A1, B1⟩ := add_sz sx sz (by decide)
  obtain ⟨A2, B2⟩ := add_sz sy sz (by decide)
  obtain ⟨A3, B3⟩ := mul_sz sx sz (by decide)
  obtain ⟨A4, B4⟩ := mul_sz sy sz (by decide)
  have Gf : Hid (cmpQ (qv (can (qv x + qv z))) (qv (can (qv y + qv z))) = a) := Lib.hid (by rw [qv_can, qv_can, cmpQ_add, ha])
  have Gg : Hid (cmpQ (qv (can (qv x * qv z))) (qv (can (qv y * qv z))) = gg) := Lib.hid (by rw [qv_can, qv_can, cmpQ_mul, ha, hs, hg])
  obtain ⟨⟨p1, P1, R1⟩, e1⟩ : ∃ t, can (qv x + qv z) = t := ⟨_, rfl⟩
  obtain ⟨⟨p2, P2, R2⟩, e2⟩ : ∃ t, can (qv y + qv z) = t := ⟨_, rfl⟩
  obtain ⟨⟨p3, P3, R3⟩, e3⟩ : ∃ t, can (qv x * qv z) = t := ⟨_, rfl⟩
  obtain ⟨⟨p4, P4, R4⟩, e4⟩ : ∃ t, can (qv y * qv z) = t := ⟨_, rfl⟩
  rw [e1] at A1 B1 Gf
  rw [e2] at A2 B2 Gf
  rw [e3] at A3 B3 Gg
  rw [e4] at A4 B4 Gg
  have Q1 := Lib.hid A1
  have Q2 := Lib.hid A2
  have Q3 := Lib.hid A3
  have Q4 := Lib.hid A4
  have Z12 : Hid (Sz 49 (p1, P1, R1) ∧ Sz 49 (p2, P2, R2)) := Lib.hid ⟨B1, B2⟩
  have Z34 : Hid (Sz 48 (p3, P3, R3) ∧ Sz 48 (p4, P4, R4)) := Lib.hid ⟨B3, B4⟩
  have Fxy : Hid (okF x = true ∧ okF y = true) := Lib.hid ⟨F1.out, F2.out⟩
  have Fyx : Hid (okF y = true ∧ okF x = true) := Lib.hid ⟨F2.out, F1.out⟩
  have Fyz : Hid (okF y = true ∧ okF z = true) := Lib.hid ⟨F2.out, F3.out⟩
  have Fxz : Hid (okF x = true ∧ okF z = true) := Lib.hid ⟨F1.out, F3.out⟩
  have O12 : Hid (okF (p1, P1, R1) = true ∧ okF (p2, P2, R2) = true) := Lib.hid ⟨B1.ok (by decide), B2.ok (by decide)⟩
  have O34 : Hid (okF (p3, P3, R3) = true ∧ okF (p4, P4, R4) = true) := Lib.hid ⟨B3.ok (by decide), B4.ok (by decide)⟩
  have ab := cmpQ_bound (qv x) (qv y)
  rw [ha] at ab
  have sb := cmpQ_bound (qv z) 0
  have hs' : cmpQ (qv z) 0 = s := hs
  rw [hs'] at sb
  have W1 : Hid (wrap64 (-a) = dd) := Lib.hid (by rw [hd]; unfold wrap64; omega)
  have W2 : Hid (wrap64 (a * s) = gg) := Lib.hid (by
    have h1 : a = -1 ∨ a = 0 ∨ a = 1 := by omega
    have h2 : s = -1 ∨ s = 0 ∨ s = 1 := by omega
    rw [hg]
    rcases h1 with h1 | h1 | h1 <;> rcases h2 with h2 | h2 | h2 <;> rw [h1, h2] <;> unfold wrap64 <;> omega)
  have TR1 : Hid (a ≤ 0 → bb ≤ 0 → c ≤ 0) := Lib.hid (by rw [← ha, ← hb, ← hc, cmpQ_le, cmpQ_le, cmpQ_le]; exact fun h1 h2 => Rat.le_trans h1 h2)
  have TR2 : Hid (0 ≤ a → 0 ≤ bb → 0 ≤ c) := Lib.hid (by rw [← ha, ← hb, ← hc, cmpQ_ge, cmpQ_ge, cmpQ_ge]; exact fun h1 h2 => Rat.le_trans h2 h1)
  clear ha hb hc hs hs' hd hg ab sb A1 A2 A3 A4 B1 B2 B3 B4 e1 e2 e3 e4
  clear hv SX SY SZ sx sy sz
  have ha0 := hX.c0
  have ha1 := hX.c1
  have ha2 := hX.c2
  go_wp2_with fail
  refine (refValidN true qx F1).mono ?_
  rintro e w1 ⟨rfl, h1⟩
  replace hT := hT.mono h1
  replace hX := hX.mono h1
  replace hY := hY.mono h1
  replace hZ := hZ.mono h1
  replace qx := qx.mono h1
  replace qy := qy.mono h1
  replace qz := qz.mono h1
  replace T := Add.trans T h1
  clear h1 ha0 ha1 ha2
  have hb0 := hY.c0
  have hb1 := hY.c1
  have hb2 := hY.c2
  go_wp2_with fail
  refine (refValidN true qy F2).mono ?_
  rintro e w2 ⟨rfl, h2⟩
  replace hT := hT.mono h2
  replace hX := hX.mono h2
  replace hY := hY.mono h2
  replace hZ := hZ.mono h2
  replace qx := qx.mono h2
  replace qy := qy.mono h2
  replace qz := qz.mono h2
  replace T := Add.trans T h2
  clear h2 hb0 hb1 hb2
  have hc0 := hZ.c0
  have hc1 := hZ.c1
  have hc2 := hZ.c2
  go_wp2_with fail
  refine (refValidN true qz F3).mono ?_
  rintro e w3 ⟨rfl, h3⟩
  replace hT := hT.mono h3
  replace hX := hX.mono h3
  replace hY := hY.mono h3
  replace hZ := hZ.mono h3
  replace qx := qx.mono h3
  replace qy := qy.mono h3
  replace qz := qz.mono h3
  replace T := Add.trans T h3
  clear h3 hc0 hc1 hc2
  have ha0 := hX.c0
  have ha1 := hX.c1
  have ha2 := hX.c2
  have hb0 := hY.c0
  have hb1 := hY.c1
  have hb2 := hY.c2
  go_wp2_with fail
  refine (cmpC a qx qy Fxy Ga).mono ?_
  rintro e w4 ⟨rfl, h4⟩
  replace hT := hT.mono h4
  replace hX := hX.mono h4
  replace hY := hY.mono h4
  replace hZ := hZ.mono h4
  replace qx := qx.mono h4
  replace qy := qy.mono h4
  replace qz := qz.mono h4
  replace T := Add.trans T h4
  clear h4 ha0 ha1 ha2 hb0 hb1 hb2 Fxy Ga
  have hb0 := hY.c0
  have hb1 := hY.c1
  have hb2 := hY.c2
  have hc0 := hZ.c0
  have hc1 := hZ.c1
  have hc2 := hZ.c2
  go_wp2_with fail
  refine (cmpC bb qy qz Fyz Gb).mono ?_
  rintro e w5 ⟨rfl, h5⟩
  replace hT := hT.mono h5
  replace hX := hX.mono h5
  replace hY := hY.mono h5
  replace hZ := hZ.mono h5
  replace qx := qx.mono h5
  replace qy := qy.mono h5
  replace qz := qz.mono h5
  replace T := Add.trans T h5
  clear h5 hb0 hb1 hb2 hc0 hc1 hc2 Fyz Gb
  have ha0 := hX.c0
  have ha1 := hX.c1
  have ha2 := hX.c2
  have hc0 := hZ.c0
  have hc1 := hZ.c1
  have hc2 := hZ.c2
  go_wp2_with fail
  refine (cmpC c qx qz Fxz Gc).mono ?_
  rintro e w6 ⟨rfl, h6⟩
  replace hT := hT.mono h6
  replace hX := hX.mono h6
  replace hY := hY.mono h6
  replace hZ := hZ.mono h6
  replace qx := qx.mono h6
  replace qy := qy.mono h6
  replace qz := qz.mono h6
  replace T := Add.trans T h6
  clear h6 ha0 ha1 ha2 hc0 hc1 hc2 Fxz Gc
  have hb0 := hY.c0
  have hb1 := hY.c1
  have hb2 := hY.c2
  have ha0 := hX.c0
  have ha1 := hX.c1
  have ha2 := hX.c2
  go_wp2_with fail
  refine (cmpC dd qy qx Fyx Gd).mono ?_
  rintro e w7 ⟨rfl, h7⟩
  replace hT := hT.mono h7
  replace hX := hX.mono h7
  replace hY := hY.mono h7
  replace hZ := hZ.mono h7
  replace qx := qx.mono h7
  replace qy := qy.mono h7
  replace qz := qz.mono h7
  replace T := Add.trans T h7
  clear h7 hb0 hb1 hb2 ha0 ha1 ha2 Fyx Gd
  have hw1 := W1.out
  clear W1
  have cases1 : (decide (a ≤ 0) = true ∧ decide (bb ≤ 0) = true ∧ decide (0 < c) = false) ∨ (decide (a ≤ 0) = true ∧ decide (bb ≤ 0) = false) ∨ decide (a ≤ 0) = false := by
    by_cases h1 : a ≤ 0
    · by_cases h2 : bb ≤ 0
      · exact .inl ⟨decide_eq_true h1, decide_eq_true h2, decide_eq_false (by have := TR1.out h1 h2; omega)⟩
      · exact .inr (.inl ⟨decide_eq_true h1, decide_eq_false h2⟩)
    · exact .inr (.inr (decide_eq_false h1))
  have cases2 : (decide (0 ≤ a) = true ∧ decide (0 ≤ bb) = true ∧ decide (c < 0) = false) ∨ (decide (0 ≤ a) = true ∧ decide (0 ≤ bb) = false) ∨ decide (0 ≤ a) = false := by
    by_cases h1 : 0 ≤ a
    · by_cases h2 : 0 ≤ bb
      · exact .inl ⟨decide_eq_true h1, decide_eq_true h2, decide_eq_false (by have := TR2.out h1 h2; omega)⟩
      · exact .inr (.inl ⟨decide_eq_true h1, decide_eq_false h2⟩)
    · exact .inr (.inr (decide_eq_false h1))
  have V1 := Lib.hid cases1
  have V2 := Lib.hid cases2
  clear cases1 cases2 TR1 TR2
  rcases V1.out with ⟨u1, u2, u3⟩ | ⟨u1, u2⟩ | u1
  · rcases V2.out with ⟨t1, t2, t3⟩ | ⟨t1, t2⟩ | t1
    · have ha0 := hX.c0
      have ha1 := hX.c1
      have ha2 := hX.c2
      have hc0 := hZ.c0
      have hc1 := hZ.c1
      have hc2 := hZ.c2
      go_wp2_with fail
      refine ((addN' _ qx qz hT Q1).mono fun _ _ g => g.ok).mono ?_
      rintro e w10 ⟨a1, n1, c1, e1, m1, k1, rfl, x1, y1, h10⟩
      replace hT := hT.mono h10
      replace hX := hX.mono h10
      replace hY := hY.mono h10
      replace hZ := hZ.mono h10
      replace qx := qx.mono h10
      replace qy := qy.mono h10
      replace qz := qz.mono h10
      replace T := Add.trans T h10
      clear u1 u2 u3 t1 t2 t3 hw1 h10 ha0 ha1 ha2 hc0 hc1 hc2 Q1
      obtain ⟨tt, hS⟩ := laid_var w10 p1 a1 n1 c1 e1 m1 k1
      replace hT := hT.mono tt
      replace hX := hX.mono tt
      replace hY := hY.mono tt
      replace hZ := hZ.mono tt
      replace qx := qx.mono tt
      replace qy := qy.mono tt
      replace qz := qz.mono tt
      replace x1 := x1.mono tt
      replace y1 := y1.mono tt
      replace T := Add.trans T tt
      clear tt
      have hb0 := hY.c0
      have hb1 := hY.c1
      have hb2 := hY.c2
      have hc0 := hZ.c0
      have hc1 := hZ.c1
      have hc2 := hZ.c2
      go_wp2_with fail
      refine ((addN' _ qy qz hT Q2).mono fun _ _ g => g.ok).mono ?_
      rintro e w11 ⟨a3, n3, c3, e3, m3, k3, rfl, x3, y3, h11⟩
      replace hT := hT.mono h11
      replace hX := hX.mono h11
      replace hY := hY.mono h11
      replace hZ := hZ.mono h11
      replace qx := qx.mono h11
      replace qy := qy.mono h11
      replace qz := qz.mono h11
      replace hS := hS.mono h11
      replace x1 := x1.mono h11
      replace y1 := y1.mono h11
      replace T := Add.trans T h11
      clear h11 hb0 hb1 hb2 hc0 hc1 hc2 Q2
      obtain ⟨tt, hU⟩ := laid_var w11 p2 a3 n3 c3 e3 m3 k3
      replace hT := hT.mono tt
      replace hX := hX.mono tt
      replace hY := hY.mono tt
      replace hZ := hZ.mono tt
      replace qx := qx.mono tt
      replace qy := qy.mono tt
      replace qz := qz.mono tt
      replace hS := hS.mono tt
      replace x1 := x1.mono tt
      replace y1 := y1.mono tt
      replace x3 := x3.mono tt
      replace y3 := y3.mono tt
      replace T := Add.trans T tt
      clear tt
      have qs := fracA_mk2 (b := p1) x1 y1 Z12.out.1 (by decide)
      have qt := fracA_mk2 (b := p2) x3 y3 Z12.out.2 (by decide)
      clear x1 y1 x3 y3 Z12
      have ha0 := hS.c0
      have ha1 := hS.c1
      have ha2 := hS.c2
      have hb0 := hU.c0
      have hb1 := hU.c1
      have hb2 := hU.c2
      go_wp2_with fail
      refine (cmpC a qs qt O12 Gf).mono ?_
      rintro e w12 ⟨rfl, h12⟩
      replace hT := hT.mono h12
      replace hX := hX.mono h12
      replace hY := hY.mono h12
      replace hZ := hZ.mono h12
      replace qx := qx.mono h12
      replace qy := qy.mono h12
      replace qz := qz.mono h12
      replace T := Add.trans T h12
      clear h12 ha0 ha1 ha2 hb0 hb1 hb2 hS hU qs qt O12 Gf
      have ha0 := hX.c0
      have ha1 := hX.c1
      have ha2 := hX.c2
      have hc0 := hZ.c0
      have hc1 := hZ.c1
      have hc2 := hZ.c2
      go_wp2_with fail
      refine ((mulN' _ qx qz hT Q3).mono fun _ _ g => g.ok).mono ?_
      rintro e w13 ⟨a4, n4, c4, e4, m4, k4, rfl, x4, y4, h13⟩
      replace hT := hT.mono h13
      replace hY := hY.mono h13
      replace hZ := hZ.mono h13
      replace qy := qy.mono h13
      replace qz := qz.mono h13
      replace T := Add.trans T h13
      clear h13 ha0 ha1 ha2 hc0 hc1 hc2 Q3 hX qx
      obtain ⟨tt, hP⟩ := laid_var w13 p3 a4 n4 c4 e4 m4 k4
      replace hT := hT.mono tt
      replace hY := hY.mono tt
      replace hZ := hZ.mono tt
      replace qy := qy.mono tt
      replace qz := qz.mono tt
      replace x4 := x4.mono tt
      replace y4 := y4.mono tt
      replace T := Add.trans T tt
      clear tt
      have hb0 := hY.c0
      have hb1 := hY.c1
      have hb2 := hY.c2
      have hc0 := hZ.c0
      have hc1 := hZ.c1
      have hc2 := hZ.c2
      go_wp2_with fail
      refine ((mulN' _ qy qz hT Q4).mono fun _ _ g => g.ok).mono ?_
      rintro e w14 ⟨a5, n5, c5, e5, m5, k5, rfl, x5, y5, h14⟩
      replace hT := hT.mono h14
      replace hZ := hZ.mono h14
      replace qz := qz.mono h14
      replace hP := hP.mono h14
      replace x4 := x4.mono h14
      replace y4 := y4.mono h14
      replace T := Add.trans T h14
      clear h14 hb0 hb1 hb2 hc0 hc1 hc2 Q4 hY qy
      obtain ⟨tt, hR⟩ := laid_var w14 p4 a5 n5 c5 e5 m5 k5
      replace hT := hT.mono tt
      replace hZ := hZ.mono tt
      replace qz := qz.mono tt
      replace hP := hP.mono tt
      replace x4 := x4.mono tt
      replace y4 := y4.mono tt
      replace x5 := x5.mono tt
      replace y5 := y5.mono tt
      replace T := Add.trans T tt
      clear tt
      have qp := fracA_mk2 (b := p3) x4 y4 Z34.out.1 (by decide)
      have qr := fracA_mk2 (b := p4) x5 y5 Z34.out.2 (by decide)
      clear x4 y4 x5 y5 Z34
      have ha0 := hP.c0
      have ha1 := hP.c1
      have ha2 := hP.c2
      have hb0 := hR.c0
      have hb1 := hR.c1
      have hb2 := hR.c2
      go_wp2_with fail
      refine (cmpC gg qp qr O34 Gg).mono ?_
      rintro e w15 ⟨rfl, h15⟩
      replace hT := hT.mono h15
      replace hZ := hZ.mono h15
      replace qz := qz.mono h15
      replace T := Add.trans T h15
      clear h15 ha0 ha1 ha2 hb0 hb1 hb2 hP hR qp qr O34 Gg
      have hw2 := W2.out
      have hc0 := hZ.c0
      have hc1 := hZ.c1
      have hc2 := hZ.c2
      go_wp2_with fail
      refine (refSignN s qz F3 Gs).mono ?_
      rintro e w16 ⟨rfl, h16⟩
      replace hT := hT.mono h16
      replace T := Add.trans T h16
      clear h16 hc0 hc1 hc2 hZ qz F3 Gs
      go_wp2_with fail
      refine (awake2_any _ hT).mono ?_
      rintro e w17 ⟨rfl, h17⟩
      replace T := Add.trans T h17
      clear h17 hT hw2
      go_wp2_with fail
      go_ret
      exact ⟨rfl, T⟩
    · have ha0 := hX.c0
      have ha1 := hX.c1
      have ha2 := hX.c2
      have hc0 := hZ.c0
      have hc1 := hZ.c1
      have hc2 := hZ.c2
      go_wp2_with fail
      refine ((addN' _ qx qz hT Q1).mono fun _ _ g => g.ok).mono ?_
      rintro e w10 ⟨a1, n1, c1, e1, m1, k1, rfl, x1, y1, h10⟩
      replace hT := hT.mono h10
      replace hX := hX.mono h10
      replace hY := hY.mono h10
      replace hZ := hZ.mono h10
      replace qx := qx.mono h10
      replace qy := qy.mono h10
      replace qz := qz.mono h10
      replace T := Add.trans T h10
      clear u1 u2 u3 t1 t2 hw1 h10 ha0 ha1 ha2 hc0 hc1 hc2 Q1
      obtain ⟨tt, hS⟩ := laid_var w10 p1 a1 n1 c1 e1 m1 k1
      replace hT := hT.mono tt
      replace hX := hX.mono tt
      replace hY := hY.mono tt
      replace hZ := hZ.mono tt
      replace qx := qx.mono tt
      replace qy := qy.mono tt
      replace qz := qz.mono tt
      replace x1 := x1.mono tt
      replace y1 := y1.mono tt
      replace T := Add.trans T tt
      clear tt
      have hb0 := hY.c0
      have hb1 := hY.c1
      have hb2 := hY.c2
      have hc0 := hZ.c0
      have hc1 := hZ.c1
      have hc2 := hZ.c2
      go_wp2_with fail
      refine ((addN' _ qy qz hT Q2).mono fun _ _ g => g.ok).mono ?_
      rintro e w11 ⟨a3, n3, c3, e3, m3, k3, rfl, x3, y3, h11⟩
      replace hT := hT.mono h11
      replace hX := hX.mono h11
      replace hY := hY.mono h11
      replace hZ := hZ.mono h11
      replace qx := qx.mono h11
      replace qy := qy.mono h11
      replace qz := qz.mono h11
      replace hS := hS.mono h11
      replace x1 := x1.mono h11
      replace y1 := y1.mono h11
      replace T := Add.trans T h11
      clear h11 hb0 hb1 hb2 hc0 hc1 hc2 Q2
      obtain ⟨tt, hU⟩ := laid_var w11 p2 a3 n3 c3 e3 m3 k3
      replace hT := hT.mono tt
      replace hX := hX.mono tt
      replace hY := hY.mono tt
      replace hZ := hZ.mono tt
      replace qx := qx.mono tt
      replace qy := qy.mono tt
      replace qz := qz.mono tt
      replace hS := hS.mono tt
      replace x1 := x1.mono tt
      replace y1 := y1.mono tt
      replace x3 := x3.mono tt
      replace y3 := y3.mono tt
      replace T := Add.trans T tt
      clear tt
      have qs := fracA_mk2 (b := p1) x1 y1 Z12.out.1 (by decide)
      have qt := fracA_mk2 (b := p2) x3 y3 Z12.out.2 (by decide)
      clear x1 y1 x3 y3 Z12
      have ha0 := hS.c0
      have ha1 := hS.c1
      have ha2 := hS.c2
      have hb0 := hU.c0
      have hb1 := hU.c1
      have hb2 := hU.c2
      go_wp2_with fail
      refine (cmpC a qs qt O12 Gf).mono ?_
      rintro e w12 ⟨rfl, h12⟩
      replace hT := hT.mono h12
      replace hX := hX.mono h12
      replace hY := hY.mono h12
      replace hZ := hZ.mono h12
      replace qx := qx.mono h12
      replace qy := qy.mono h12
      replace qz := qz.mono h12
      replace T := Add.trans T h12
      clear h12 ha0 ha1 ha2 hb0 hb1 hb2 hS hU qs qt O12 Gf
      have ha0 := hX.c0
      have ha1 := hX.c1
      have ha2 := hX.c2
      have hc0 := hZ.c0
      have hc1 := hZ.c1
      have hc2 := hZ.c2
      go_wp2_with fail
      refine ((mulN' _ qx qz hT Q3).mono fun _ _ g => g.ok).mono ?_
      rintro e w13 ⟨a4, n4, c4, e4, m4, k4, rfl, x4, y4, h13⟩
      replace hT := hT.mono h13
      replace hY := hY.mono h13
      replace hZ := hZ.mono h13
      replace qy := qy.mono h13
      replace qz := qz.mono h13
      replace T := Add.trans T h13
      clear h13 ha0 ha1 ha2 hc0 hc1 hc2 Q3 hX qx
      obtain ⟨tt, hP⟩ := laid_var w13 p3 a4 n4 c4 e4 m4 k4
      replace hT := hT.mono tt
      replace hY := hY.mono tt
      replace hZ := hZ.mono tt
      replace qy := qy.mono tt
      replace qz := qz.mono tt
      replace x4 := x4.mono tt
      replace y4 := y4.mono tt
      replace T := Add.trans T tt
      clear tt
      have hb0 := hY.c0
      have hb1 := hY.c1
      have hb2 := hY.c2
      have hc0 := hZ.c0
      have hc1 := hZ.c1
      have hc2 := hZ.c2
      go_wp2_with fail
      refine ((mulN' _ qy qz hT Q4).mono fun _ _ g => g.ok).mono ?_
      rintro e w14 ⟨a5, n5, c5, e5, m5, k5, rfl, x5, y5, h14⟩
      replace hT := hT.mono h14
      replace hZ := hZ.mono h14
      replace qz := qz.mono h14
      replace hP := hP.mono h14
      replace x4 := x4.mono h14
      replace y4 := y4.mono h14
      replace T := Add.trans T h14
      clear h14 hb0 hb1 hb2 hc0 hc1 hc2 Q4 hY qy
      obtain ⟨tt, hR⟩ := laid_var w14 p4 a5 n5 c5 e5 m5 k5
      replace hT := hT.mono tt
      replace hZ := hZ.mono tt
      replace qz := qz.mono tt
      replace hP := hP.mono tt
      replace x4 := x4.mono tt
      replace y4 := y4.mono tt
      replace x5 := x5.mono tt
      replace y5 := y5.mono tt
      replace T := Add.trans T tt
      clear tt
      have qp := fracA_mk2 (b := p3) x4 y4 Z34.out.1 (by decide)
      have qr := fracA_mk2 (b := p4) x5 y5 Z34.out.2 (by decide)
      clear x4 y4 x5 y5 Z34
      have ha0 := hP.c0
      have ha1 := hP.c1
      have ha2 := hP.c2
      have hb0 := hR.c0
      have hb1 := hR.c1
      have hb2 := hR.c2
      go_wp2_with fail
      refine (cmpC gg qp qr O34 Gg).mono ?_
      rintro e w15 ⟨rfl, h15⟩
      replace hT := hT.mono h15
      replace hZ := hZ.mono h15
      replace qz := qz.mono h15
      replace T := Add.trans T h15
      clear h15 ha0 ha1 ha2 hb0 hb1 hb2 hP hR qp qr O34 Gg
      have hw2 := W2.out
      have hc0 := hZ.c0
      have hc1 := hZ.c1
      have hc2 := hZ.c2
      go_wp2_with fail
      refine (refSignN s qz F3 Gs).mono ?_
      rintro e w16 ⟨rfl, h16⟩
      replace hT := hT.mono h16
      replace T := Add.trans T h16
      clear h16 hc0 hc1 hc2 hZ qz F3 Gs
      go_wp2_with fail
      refine (awake2_any _ hT).mono ?_
      rintro e w17 ⟨rfl, h17⟩
      replace T := Add.trans T h17
      clear h17 hT hw2
      go_wp2_with fail
      go_ret
      exact ⟨rfl, T⟩
    · have ha0 := hX.c0
      have ha1 := hX.c1
      have ha2 := hX.c2
      have hc0 := hZ.c0
      have hc1 := hZ.c1
      have hc2 := hZ.c2
      go_wp2_with fail
      refine ((addN' _ qx qz hT Q1).mono fun _ _ g => g.ok).mono ?_
      rintro e w10 ⟨a1, n1, c1, e1, m1, k1, rfl, x1, y1, h10⟩
      replace hT := hT.mono h10
      replace hX := hX.mono h10
      replace hY := hY.mono h10
      replace hZ := hZ.mono h10
      replace qx := qx.mono h10
      replace qy := qy.mono h10
      replace qz := qz.mono h10
      replace T := Add.trans T h10
      clear u1 u2 u3 t1 hw1 h10 ha0 ha1 ha2 hc0 hc1 hc2 Q1
      obtain ⟨tt, hS⟩ := laid_var w10 p1 a1 n1 c1 e1 m1 k1
      replace hT := hT.mono tt
      replace hX := hX.mono tt
      replace hY := hY.mono tt
      replace hZ := hZ.mono tt
      replace qx := qx.mono tt
      replace qy := qy.mono tt
      replace qz := qz.mono tt
      replace x1 := x1.mono tt
      replace y1 := y1.mono tt
      replace T := Add.trans T tt
      clear tt
      have hb0 := hY.c0
      have hb1 := hY.c1
      have hb2 := hY.c2
      have hc0 := hZ.c0
      have hc1 := hZ.c1
      have hc2 := hZ.c2
      go_wp2_with fail
      refine ((addN' _ qy qz hT Q2).mono fun _ _ g => g.ok).mono ?_
      rintro e w11 ⟨a3, n3, c3, e3, m3, k3, rfl, x3, y3, h11⟩
      replace hT := hT.mono h11
      replace hX := hX.mono h11
      replace hY := hY.mono h11
      replace hZ := hZ.mono h11
      replace qx := qx.mono h11
      replace qy := qy.mono h11
      replace qz := qz.mono h11
      replace hS := hS.mono h11
      replace x1 := x1.mono h11
      replace y1 := y1.mono h11
      replace T := Add.trans T h11
      clear h11 hb0 hb1 hb2 hc0 hc1 hc2 Q2
      obtain ⟨tt, hU⟩ := laid_var w11 p2 a3 n3 c3 e3 m3 k3
      replace hT := hT.mono tt
      replace hX := hX.mono tt
      replace hY := hY.mono tt
      replace hZ := hZ.mono tt
      replace qx := qx.mono tt
      replace qy := qy.mono tt
      replace qz := qz.mono tt
      replace hS := hS.mono tt
      replace x1 := x1.mono tt
      replace y1 := y1.mono tt
      replace x3 := x3.mono tt
      replace y3 := y3.mono tt
      replace T := Add.trans T tt
      clear tt
      have qs := fracA_mk2 (b := p1) x1 y1 Z12.out.1 (by decide)
      have qt := fracA_mk2 (b := p2) x3 y3 Z12.out.2 (by decide)
      clear x1 y1 x3 y3 Z12
      have ha0 := hS.c0
      have ha1 := hS.c1
      have ha2 := hS.c2
      have hb0 := hU.c0
      have hb1 := hU.c1
      have hb2 := hU.c2
      go_wp2_with fail
      refine (cmpC a qs qt O12 Gf).mono ?_
      rintro e w12 ⟨rfl, h12⟩
      replace hT := hT.mono h12
      replace hX := hX.mono h12
      replace hY := hY.mono h12
      replace hZ := hZ.mono h12
      replace qx := qx.mono h12
      replace qy := qy.mono h12
      replace qz := qz.mono h12
      replace T := Add.trans T h12
      clear h12 ha0 ha1 ha2 hb0 hb1 hb2 hS hU qs qt O12 Gf
      have ha0 := hX.c0
      have ha1 := hX.c1
      have ha2 := hX.c2
      have hc0 := hZ.c0
      have hc1 := hZ.c1
      have hc2 := hZ.c2
      go_wp2_with fail
      refine ((mulN' _ qx qz hT Q3).mono fun _ _ g => g.ok).mono ?_
      rintro e w13 ⟨a4, n4, c4, e4, m4, k4, rfl, x4, y4, h13⟩
      replace hT := hT.mono h13
      replace hY := hY.mono h13
      replace hZ := hZ.mono h13
      replace qy := qy.mono h13
      replace qz := qz.mono h13
      replace T := Add.trans T h13
      clear h13 ha0 ha1 ha2 hc0 hc1 hc2 Q3 hX qx
      obtain ⟨tt, hP⟩ := laid_var w13 p3 a4 n4 c4 e4 m4 k4
      replace hT := hT.mono tt
      replace hY := hY.mono tt
      replace hZ := hZ.mono tt
      replace qy := qy.mono tt
      replace qz := qz.mono tt
      replace x4 := x4.mono tt
      replace y4 := y4.mono tt
      replace T := Add.trans T tt
      clear tt
      have hb0 := hY.c0
      have hb1 := hY.c1
      have hb2 := hY.c2
      have hc0 := hZ.c0
      have hc1 := hZ.c1
      have hc2 := hZ.c2
      go_wp2_with fail
      refine ((mulN' _ qy qz hT Q4).mono fun _ _ g => g.ok).mono ?_
      rintro e w14 ⟨a5, n5, c5, e5, m5, k5, rfl, x5, y5, h14⟩
      replace hT := hT.mono h14
      replace hZ := hZ.mono h14
      replace qz := qz.mono h14
      replace hP := hP.mono h14
      replace x4 := x4.mono h14
      replace y4 := y4.mono h14
      replace T := Add.trans T h14
      clear h14 hb0 hb1 hb2 hc0 hc1 hc2 Q4 hY qy
      obtain ⟨tt, hR⟩ := laid_var w14 p4 a5 n5 c5 e5 m5 k5
      replace hT := hT.mono tt
      replace hZ := hZ.mono tt
      replace qz := qz.mono tt
      replace hP := hP.mono tt
      replace x4 := x4.mono tt
      replace y4 := y4.mono tt
      replace x5 := x5.mono tt
      replace y5 := y5.mono tt
      replace T := Add.trans T tt
      clear tt
      have qp := fracA_mk2 (b := p3) x4 y4 Z34.out.1 (by decide)
      have qr := fracA_mk2 (b := p4) x5 y5 Z34.out.2 (by decide)
      clear x4 y4 x5 y5 Z34
      have ha0 := hP.c0
      have ha1 := hP.c1
      have ha2 := hP.c2
      have hb0 := hR.c0
      have hb1 := hR.c1
      have hb2 := hR.c2
      go_wp2_with fail
      refine (cmpC gg qp qr O34 Gg).mono ?_
      rintro e w15 ⟨rfl, h15⟩
      replace hT := hT.mono h15
      replace hZ := hZ.mono h15
      replace qz := qz.mono h15
      replace T := Add.trans T h15
      clear h15 ha0 ha1 ha2 hb0 hb1 hb2 hP hR qp qr O34 Gg
      have hw2 := W2.out
      have hc0 := hZ.c0
      have hc1 := hZ.c1
      have hc2 := hZ.c2
      go_wp2_with fail
      refine (refSignN s qz F3 Gs).mono ?_
      rintro e w16 ⟨rfl, h16⟩
      replace hT := hT.mono h16
      replace T := Add.trans T h16
      clear h16 hc0 hc1 hc2 hZ qz F3 Gs
      go_wp2_with fail
      refine (awake2_any _ hT).mono ?_
      rintro e w17 ⟨rfl, h17⟩
      replace T := Add.trans T h17
      clear h17 hT hw2
      go_wp2_with fail
      go_ret
      exact ⟨rfl, T⟩
  · rcases V2.out with ⟨t1, t2, t3⟩ | ⟨t1, t2⟩ | t1
    · have ha0 := hX.c0
      have ha1 := hX.c1
      have ha2 := hX.c2
      have hc0 := hZ.c0
      have hc1 := hZ.c1
      have hc2 := hZ.c2
      go_wp2_with fail
      refine ((addN' _ qx qz hT Q1).mono fun _ _ g => g.ok).mono ?_
      rintro e w10 ⟨a1, n1, c1, e1, m1, k1, rfl, x1, y1, h10⟩
      replace hT := hT.mono h10
      replace hX := hX.mono h10
      replace hY := hY.mono h10
      replace hZ := hZ.mono h10
      replace qx := qx.mono h10
      replace qy := qy.mono h10
      replace qz := qz.mono h10
      replace T := Add.trans T h10
      clear u1 u2 t1 t2 t3 hw1 h10 ha0 ha1 ha2 hc0 hc1 hc2 Q1
      obtain ⟨tt, hS⟩ := laid_var w10 p1 a1 n1 c1 e1 m1 k1
      replace hT := hT.mono tt
      replace hX := hX.mono tt
      replace hY := hY.mono tt
      replace hZ := hZ.mono tt
      replace qx := qx.mono tt
      replace qy := qy.mono tt
      replace qz := qz.mono tt
      replace x1 := x1.mono tt
      replace y1 := y1.mono tt
      replace T := Add.trans T tt
      clear tt
      have hb0 := hY.c0
      have hb1 := hY.c1
      have hb2 := hY.c2
      have hc0 := hZ.c0
      have hc1 := hZ.c1
      have hc2 := hZ.c2
      go_wp2_with fail
      refine ((addN' _ qy qz hT Q2).mono fun _ _ g => g.ok).mono ?_
      rintro e w11 ⟨a3, n3, c3, e3, m3, k3, rfl, x3, y3, h11⟩
      replace hT := hT.mono h11
      replace hX := hX.mono h11
      replace hY := hY.mono h11
      replace hZ := hZ.mono h11
      replace qx := qx.mono h11
      replace qy := qy.mono h11
      replace qz := qz.mono h11
      replace hS := hS.mono h11
      replace x1 := x1.mono h11
      replace y1 := y1.mono h11
      replace T := Add.trans T h11
      clear h11 hb0 hb1 hb2 hc0 hc1 hc2 Q2
      obtain ⟨tt, hU⟩ := laid_var w11 p2 a3 n3 c3 e3 m3 k3
      replace hT := hT.mono tt
      replace hX := hX.mono tt
      replace hY := hY.mono tt
      replace hZ := hZ.mono tt
      replace qx := qx.mono tt
      replace qy := qy.mono tt
      replace qz := qz.mono tt
      replace hS := hS.mono tt
      replace x1 := x1.mono tt
      replace y1 := y1.mono tt
      replace x3 := x3.mono tt
      replace y3 := y3.mono tt
      replace T := Add.trans T tt
      clear tt
      have qs := fracA_mk2 (b := p1) x1 y1 Z12.out.1 (by decide)
      have qt := fracA_mk2 (b := p2) x3 y3 Z12.out.2 (by decide)
      clear x1 y1 x3 y3 Z12
      have ha0 := hS.c0
      have ha1 := hS.c1
      have ha2 := hS.c2
      have hb0 := hU.c0
      have hb1 := hU.c1
      have hb2 := hU.c2
      go_wp2_with fail
      refine (cmpC a qs qt O12 Gf).mono ?_
      rintro e w12 ⟨rfl, h12⟩
      replace hT := hT.mono h12
      replace hX := hX.mono h12
      replace hY := hY.mono h12
      replace hZ := hZ.mono h12
      replace qx := qx.mono h12
      replace qy := qy.mono h12
      replace qz := qz.mono h12
      replace T := Add.trans T h12
      clear h12 ha0 ha1 ha2 hb0 hb1 hb2 hS hU qs qt O12 Gf
      have ha0 := hX.c0
      have ha1 := hX.c1
      have ha2 := hX.c2
      have hc0 := hZ.c0
      have hc1 := hZ.c1
      have hc2 := hZ.c2
      go_wp2_with fail
      refine ((mulN' _ qx qz hT Q3).mono fun _ _ g => g.ok).mono ?_
      rintro e w13 ⟨a4, n4, c4, e4, m4, k4, rfl, x4, y4, h13⟩
      replace hT := hT.mono h13
      replace hY := hY.mono h13
      replace hZ := hZ.mono h13
      replace qy := qy.mono h13
      replace qz := qz.mono h13
      replace T := Add.trans T h13
      clear h13 ha0 ha1 ha2 hc0 hc1 hc2 Q3 hX qx
      obtain ⟨tt, hP⟩ := laid_var w13 p3 a4 n4 c4 e4 m4 k4
      replace hT := hT.mono tt
      replace hY := hY.mono tt
      replace hZ := hZ.mono tt
      replace qy := qy.mono tt
      replace qz := qz.mono tt
      replace x4 := x4.mono tt
      replace y4 := y4.mono tt
      replace T := Add.trans T tt
      clear tt
      have hb0 := hY.c0
      have hb1 := hY.c1
      have hb2 := hY.c2
      have hc0 := hZ.c0
      have hc1 := hZ.c1
      have hc2 := hZ.c2
      go_wp2_with fail
      refine ((mulN' _ qy qz hT Q4).mono fun _ _ g => g.ok).mono ?_
      rintro e w14 ⟨a5, n5, c5, e5, m5, k5, rfl, x5, y5, h14⟩
      replace hT := hT.mono h14
      replace hZ := hZ.mono h14
      replace qz := qz.mono h14
      replace hP := hP.mono h14
      replace x4 := x4.mono h14
      replace y4 := y4.mono h14
      replace T := Add.trans T h14
      clear h14 hb0 hb1 hb2 hc0 hc1 hc2 Q4 hY qy
      obtain ⟨tt, hR⟩ := laid_var w14 p4 a5 n5 c5 e5 m5 k5
      replace hT := hT.mono tt
      replace hZ := hZ.mono tt
      replace qz := qz.mono tt
      replace hP := hP.mono tt
      replace x4 := x4.mono tt
      replace y4 := y4.mono tt
      replace x5 := x5.mono tt
      replace y5 := y5.mono tt
      replace T := Add.trans T tt
      clear tt
      have qp := fracA_mk2 (b := p3) x4 y4 Z34.out.1 (by decide)
      have qr := fracA_mk2 (b := p4) x5 y5 Z34.out.2 (by decide)
      clear x4 y4 x5 y5 Z34
      have ha0 := hP.c0
      have ha1 := hP.c1
      have ha2 := hP.c2
      have hb0 := hR.c0
      have hb1 := hR.c1
      have hb2 := hR.c2
      go_wp2_with fail
      refine (cmpC gg qp qr O34 Gg).mono ?_
      rintro e w15 ⟨rfl, h15⟩
      replace hT := hT.mono h15
      replace hZ := hZ.mono h15
      replace qz := qz.mono h15
      replace T := Add.trans T h15
      clear h15 ha0 ha1 ha2 hb0 hb1 hb2 hP hR qp qr O34 Gg
      have hw2 := W2.out
      have hc0 := hZ.c0
      have hc1 := hZ.c1
      have hc2 := hZ.c2
      go_wp2_with fail
      refine (refSignN s qz F3 Gs).mono ?_
      rintro e w16 ⟨rfl, h16⟩
      replace hT := hT.mono h16
      replace T := Add.trans T h16
      clear h16 hc0 hc1 hc2 hZ qz F3 Gs
      go_wp2_with fail
      refine (awake2_any _ hT).mono ?_
      rintro e w17 ⟨rfl, h17⟩
      replace T := Add.trans T h17
      clear h17 hT hw2
      go_wp2_with fail
      go_ret
      exact ⟨rfl, T⟩
    · have ha0 := hX.c0
      have ha1 := hX.c1
      have ha2 := hX.c2
      have hc0 := hZ.c0
      have hc1 := hZ.c1
      have hc2 := hZ.c2
      go_wp2_with fail
      refine ((addN' _ qx qz hT Q1).mono fun _ _ g => g.ok).mono ?_
      rintro e w10 ⟨a1, n1, c1, e1, m1, k1, rfl, x1, y1, h10⟩
      replace hT := hT.mono h10
      replace hX := hX.mono h10
      replace hY := hY.mono h10
      replace hZ := hZ.mono h10
      replace qx := qx.mono h10
      replace qy := qy.mono h10
      replace qz := qz.mono h10
      replace T := Add.trans T h10
      clear u1 u2 t1 t2 hw1 h10 ha0 ha1 ha2 hc0 hc1 hc2 Q1
      obtain ⟨tt, hS⟩ := laid_var w10 p1 a1 n1 c1 e1 m1 k1
      replace hT := hT.mono tt
      replace hX := hX.mono tt
      replace hY := hY.mono tt
      replace hZ := hZ.mono tt
      replace qx := qx.mono tt
      replace qy := qy.mono tt
      replace qz := qz.mono tt
      replace x1 := x1.mono tt
      replace y1 := y1.mono tt
      replace T := Add.trans T tt
      clear tt
      have hb0 := hY.c0
      have hb1 := hY.c1
      have hb2 := hY.c2
      have hc0 := hZ.c0
      have hc1 := hZ.c1
      have hc2 := hZ.c2
      go_wp2_with fail
      refine ((addN' _ qy qz hT Q2).mono fun _ _ g => g.ok).mono ?_
      rintro e w11 ⟨a3, n3, c3, e3, m3, k3, rfl, x3, y3, h11⟩
      replace hT := hT.mono h11
      replace hX := hX.mono h11
      replace hY := hY.mono h11
      replace hZ := hZ.mono h11
      replace qx := qx.mono h11
      replace qy := qy.mono h11
      replace qz := qz.mono h11
      replace hS := hS.mono h11
      replace x1 := x1.mono h11
      replace y1 := y1.mono h11
      replace T := Add.trans T h11
      clear h11 hb0 hb1 hb2 hc0 hc1 hc2 Q2
      obtain ⟨tt, hU⟩ := laid_var w11 p2 a3 n3 c3 e3 m3 k3
      replace hT := hT.mono tt
      replace hX := hX.mono tt
      replace hY := hY.mono tt
      replace hZ := hZ.mono tt
      replace qx := qx.mono tt
      replace qy := qy.mono tt
      replace qz := qz.mono tt
      replace hS := hS.mono tt
      replace x1 := x1.mono tt
      replace y1 := y1.mono tt
      replace x3 := x3.mono tt
      replace y3 := y3.mono tt
      replace T := Add.trans T tt
      clear tt
      have qs := fracA_mk2 (b := p1) x1 y1 Z12.out.1 (by decide)
      have qt := fracA_mk2 (b := p2) x3 y3 Z12.out.2 (by decide)
      clear x1 y1 x3 y3 Z12
      have ha0 := hS.c0
      have ha1 := hS.c1
      have ha2 := hS.c2
      have hb0 := hU.c0
      have hb1 := hU.c1
      have hb2 := hU.c2
      go_wp2_with fail
      refine (cmpC a qs qt O12 Gf).mono ?_
      rintro e w12 ⟨rfl, h12⟩
      replace hT := hT.mono h12
      replace hX := hX.mono h12
      replace hY := hY.mono h12
      replace hZ := hZ.mono h12
      replace qx := qx.mono h12
      replace qy := qy.mono h12
      replace qz := qz.mono h12
      replace T := Add.trans T h12
      clear h12 ha0 ha1 ha2 hb0 hb1 hb2 hS hU qs qt O12 Gf
      have ha0 := hX.c0
      have ha1 := hX.c1
      have ha2 := hX.c2
      have hc0 := hZ.c0
      have hc1 := hZ.c1
      have hc2 := hZ.c2
      go_wp2_with fail
      refine ((mulN' _ qx qz hT Q3).mono fun _ _ g => g.ok).mono ?_
      rintro e w13 ⟨a4, n4, c4, e4, m4, k4, rfl, x4, y4, h13⟩
      replace hT := hT.mono h13
      replace hY := hY.mono h13
      replace hZ := hZ.mono h13
      replace qy := qy.mono h13
      replace qz := qz.mono h13
      replace T := Add.trans T h13
      clear h13 ha0 ha1 ha2 hc0 hc1 hc2 Q3 hX qx
      obtain ⟨tt, hP⟩ := laid_var w13 p3 a4 n4 c4 e4 m4 k4
      replace hT := hT.mono tt
      replace hY := hY.mono tt
      replace hZ := hZ.mono tt
      replace qy := qy.mono tt
      replace qz := qz.mono tt
      replace x4 := x4.mono tt
      replace y4 := y4.mono tt
      replace T := Add.trans T tt
      clear tt
      have hb0 := hY.c0
      have hb1 := hY.c1
      have hb2 := hY.c2
      have hc0 := hZ.c0
      have hc1 := hZ.c1
      have hc2 := hZ.c2
      go_wp2_with fail
      refine ((mulN' _ qy qz hT Q4).mono fun _ _ g => g.ok).mono ?_
      rintro e w14 ⟨a5, n5, c5, e5, m5, k5, rfl, x5, y5, h14⟩
      replace hT := hT.mono h14
      replace hZ := hZ.mono h14
      replace qz := qz.mono h14
      replace hP := hP.mono h14
      replace x4 := x4.mono h14
      replace y4 := y4.mono h14
      replace T := Add.trans T h14
      clear h14 hb0 hb1 hb2 hc0 hc1 hc2 Q4 hY qy
      obtain ⟨tt, hR⟩ := laid_var w14 p4 a5 n5 c5 e5 m5 k5
      replace hT := hT.mono tt
      replace hZ := hZ.mono tt
      replace qz := qz.mono tt
      replace hP := hP.mono tt
      replace x4 := x4.mono tt
      replace y4 := y4.mono tt
      replace x5 := x5.mono tt
      replace y5 := y5.mono tt
      replace T := Add.trans T tt
      clear tt
      have qp := fracA_mk2 (b := p3) x4 y4 Z34.out.1 (by decide)
      have qr := fracA_mk2 (b := p4) x5 y5 Z34.out.2 (by decide)
      clear x4 y4 x5 y5 Z34
      have ha0 := hP.c0
      have ha1 := hP.c1
      have ha2 := hP.c2
      have hb0 := hR.c0
      have hb1 := hR.c1
      have hb2 := hR.c2
      go_wp2_with fail
      refine (cmpC gg qp qr O34 Gg).mono ?_
      rintro e w15 ⟨rfl, h15⟩
      replace hT := hT.mono h15
      replace hZ := hZ.mono h15
      replace qz := qz.mono h15
      replace T := Add.trans T h15
      clear h15 ha0 ha1 ha2 hb0 hb1 hb2 hP hR qp qr O34 Gg
      have hw2 := W2.out
      have hc0 := hZ.c0
      have hc1 := hZ.c1
      have hc2 := hZ.c2
      go_wp2_with fail
      refine (refSignN s qz F3 Gs).mono ?_
      rintro e w16 ⟨rfl, h16⟩
      replace hT := hT.mono h16
      replace T := Add.trans T h16
      clear h16 hc0 hc1 hc2 hZ qz F3 Gs
      go_wp2_with fail
      refine (awake2_any _ hT).mono ?_
      rintro e w17 ⟨rfl, h17⟩
      replace T := Add.trans T h17
      clear h17 hT hw2
      go_wp2_with fail
      go_ret
      exact ⟨rfl, T⟩
    · have ha0 := hX.c0
      have ha1 := hX.c1
      have ha2 := hX.c2
      have hc0 := hZ.c0
      have hc1 := hZ.c1
      have hc2 := hZ.c2
      go_wp2_with fail
      refine ((addN' _ qx qz hT Q1).mono fun _ _ g => g.ok).mono ?_
      rintro e w10 ⟨a1, n1, c1, e1, m1, k1, rfl, x1, y1, h10⟩
      replace hT := hT.mono h10
      replace hX := hX.mono h10
      replace hY := hY.mono h10
      replace hZ := hZ.mono h10
      replace qx := qx.mono h10
      replace qy := qy.mono h10
      replace qz := qz.mono h10
      replace T := Add.trans T h10
      clear u1 u2 t1 hw1 h10 ha0 ha1 ha2 hc0 hc1 hc2 Q1
      obtain ⟨tt, hS⟩ := laid_var w10 p1 a1 n1 c1 e1 m1 k1
      replace hT := hT.mono tt
      replace hX := hX.mono tt
      replace hY := hY.mono tt
      replace hZ := hZ.mono tt
      replace qx := qx.mono tt
      replace qy := qy.mono tt
      replace qz := qz.mono tt
      replace x1 := x1.mono tt
      replace y1 := y1.mono tt
      replace T := Add.trans T tt
      clear tt
      have hb0 := hY.c0
      have hb1 := hY.c1
      have hb2 := hY.c2
      have hc0 := hZ.c0
      have hc1 := hZ.c1
      have hc2 := hZ.c2
      go_wp2_with fail
      refine ((addN' _ qy qz hT Q2).mono fun _ _ g => g.ok).mono ?_
      rintro e w11 ⟨a3, n3, c3, e3, m3, k3, rfl, x3, y3, h11⟩
      replace hT := hT.mono h11
      replace hX := hX.mono h11
      replace hY := hY.mono h11
      replace hZ := hZ.mono h11
      replace qx := qx.mono h11
      replace qy := qy.mono h11
      replace qz := qz.mono h11
      replace hS := hS.mono h11
      replace x1 := x1.mono h11
      replace y1 := y1.mono h11
      replace T := Add.trans T h11
      clear h11 hb0 hb1 hb2 hc0 hc1 hc2 Q2
      obtain ⟨tt, hU⟩ := laid_var w11 p2 a3 n3 c3 e3 m3 k3
      replace hT := hT.mono tt
      replace hX := hX.mono tt
      replace hY := hY.mono tt
      replace hZ := hZ.mono tt
      replace qx := qx.mono tt
      replace qy := qy.mono tt
      replace qz := qz.mono tt
      replace hS := hS.mono tt
      replace x1 := x1.mono tt
      replace y1 := y1.mono tt
      replace x3 := x3.mono tt
      replace y3 := y3.mono tt
      replace T := Add.trans T tt
      clear tt
      have qs := fracA_mk2 (b := p1) x1 y1 Z12.out.1 (by decide)
      have qt := fracA_mk2 (b := p2) x3 y3 Z12.out.2 (by decide)
      clear x1 y1 x3 y3 Z12
      have ha0 := hS.c0
      have ha1 := hS.c1
      have ha2 := hS.c2
      have hb0 := hU.c0
      have hb1 := hU.c1
      have hb2 := hU.c2
      go_wp2_with fail
      refine (cmpC a qs qt O12 Gf).mono ?_
      rintro e w12 ⟨rfl, h12⟩
      replace hT := hT.mono h12
      replace hX := hX.mono h12
      replace hY := hY.mono h12
      replace hZ := hZ.mono h12
      replace qx := qx.mono h12
      replace qy := qy.mono h12
      replace qz := qz.mono h12
      replace T := Add.trans T h12
      clear h12 ha0 ha1 ha2 hb0 hb1 hb2 hS hU qs qt O12 Gf
      have ha0 := hX.c0
      have ha1 := hX.c1
      have ha2 := hX.c2
      have hc0 := hZ.c0
      have hc1 := hZ.c1
      have hc2 := hZ.c2
      go_wp2_with fail
      refine ((mulN' _ qx qz hT Q3).mono fun _ _ g => g.ok).mono ?_
      rintro e w13 ⟨a4, n4, c4, e4, m4, k4, rfl, x4, y4, h13⟩
      replace hT := hT.mono h13
      replace hY := hY.mono h13
      replace hZ := hZ.mono h13
      replace qy := qy.mono h13
      replace qz := qz.mono h13
      replace T := Add.trans T h13
      clear h13 ha0 ha1 ha2 hc0 hc1 hc2 Q3 hX qx
      obtain ⟨tt, hP⟩ := laid_var w13 p3 a4 n4 c4 e4 m4 k4
      replace hT := hT.mono tt
      replace hY := hY.mono tt
      replace hZ := hZ.mono tt
      replace qy := qy.mono tt
      replace qz := qz.mono tt
      replace x4 := x4.mono tt
      replace y4 := y4.mono tt
      replace T := Add.trans T tt
      clear tt
      have hb0 := hY.c0
      have hb1 := hY.c1
      have hb2 := hY.c2
      have hc0 := hZ.c0
      have hc1 := hZ.c1
      have hc2 := hZ.c2
      go_wp2_with fail
      refine ((mulN' _ qy qz hT Q4).mono fun _ _ g => g.ok).mono ?_
      rintro e w14 ⟨a5, n5, c5, e5, m5, k5, rfl, x5, y5, h14⟩
      replace hT := hT.mono h14
      replace hZ := hZ.mono h14
      replace qz := qz.mono h14
      replace hP := hP.mono h14
      replace x4 := x4.mono h14
      replace y4 := y4.mono h14
      replace T := Add.trans T h14
      clear h14 hb0 hb1 hb2 hc0 hc1 hc2 Q4 hY qy
      obtain ⟨tt, hR⟩ := laid_var w14 p4 a5 n5 c5 e5 m5 k5
      replace hT := hT.mono tt
      replace hZ := hZ.mono tt
      replace qz := qz.mono tt
      replace hP := hP.mono tt
      replace x4 := x4.mono tt
      replace y4 := y4.mono tt
      replace x5 := x5.mono tt
      replace y5 := y5.mono tt
      replace T := Add.trans T tt
      clear tt
      have qp := fracA_mk2 (b := p3) x4 y4 Z34.out.1 (by decide)
      have qr := fracA_mk2 (b := p4) x5 y5 Z34.out.2 (by decide)
      clear x4 y4 x5 y5 Z34
      have ha0 := hP.c0
      have ha1 := hP.c1
      have ha2 := hP.c2
      have hb0 := hR.c0
      have hb1 := hR.c1
      have hb2 := hR.c2
      go_wp2_with fail
      refine (cmpC gg qp qr O34 Gg).mono ?_
      rintro e w15 ⟨rfl, h15⟩
      replace hT := hT.mono h15
      replace hZ := hZ.mono h15
      replace qz := qz.mono h15
      replace T := Add.trans T h15
      clear h15 ha0 ha1 ha2 hb0 hb1 hb2 hP hR qp qr O34 Gg
      have hw2 := W2.out
      have hc0 := hZ.c0
      have hc1 := hZ.c1
      have hc2 := hZ.c2
      go_wp2_with fail
      refine (refSignN s qz F3 Gs).mono ?_
      rintro e w16 ⟨rfl, h16⟩
      replace hT := hT.mono h16
      replace T := Add.trans T h16
      clear h16 hc0 hc1 hc2 hZ qz F3 Gs
      go_wp2_with fail
      refine (awake2_any _ hT).mono ?_
      rintro e w17 ⟨rfl, h17⟩
      replace T := Add.trans T h17
      clear h17 hT hw2
      go_wp2_with fail
      go_ret
      exact ⟨rfl, T⟩
  · rcases V2.out with ⟨t1, t2, t3⟩ | ⟨t1, t2⟩ | t1
    · have ha0 := hX.c0
      have ha1 := hX.c1
      have ha2 := hX.c2
      have hc0 := hZ.c0
      have hc1 := hZ.c1
      have hc2 := hZ.c2
      go_wp2_with fail
      refine ((addN' _ qx qz hT Q1).mono fun _ _ g => g.ok).mono ?_
      rintro e w10 ⟨a1, n1, c1, e1, m1, k1, rfl, x1, y1, h10⟩
      replace hT := hT.mono h10
      replace hX := hX.mono h10
      replace hY := hY.mono h10
      replace hZ := hZ.mono h10
      replace qx := qx.mono h10
      replace qy := qy.mono h10
      replace qz := qz.mono h10
      replace T := Add.trans T h10
      clear u1 t1 t2 t3 hw1 h10 ha0 ha1 ha2 hc0 hc1 hc2 Q1
      obtain ⟨tt, hS⟩ := laid_var w10 p1 a1 n1 c1 e1 m1 k1
      replace hT := hT.mono tt
      replace hX := hX.mono tt
      replace hY := hY.mono tt
      replace hZ := hZ.mono tt
      replace qx := qx.mono tt
      replace qy := qy.mono tt
      replace qz := qz.mono tt
      replace x1 := x1.mono tt
      replace y1 := y1.mono tt
      replace T := Add.trans T tt
      clear tt
      have hb0 := hY.c0
      have hb1 := hY.c1
      have hb2 := hY.c2
      have hc0 := hZ.c0
      have hc1 := hZ.c1
      have hc2 := hZ.c2
      go_wp2_with fail
      refine ((addN' _ qy qz hT Q2).mono fun _ _ g => g.ok).mono ?_
      rintro e w11 ⟨a3, n3, c3, e3, m3, k3, rfl, x3, y3, h11⟩
      replace hT := hT.mono h11
      replace hX := hX.mono h11
      replace hY := hY.mono h11
      replace hZ := hZ.mono h11
      replace qx := qx.mono h11
      replace qy := qy.mono h11
      replace qz := qz.mono h11
      replace hS := hS.mono h11
      replace x1 := x1.mono h11
      replace y1 := y1.mono h11
      replace T := Add.trans T h11
      clear h11 hb0 hb1 hb2 hc0 hc1 hc2 Q2
      obtain ⟨tt, hU⟩ := laid_var w11 p2 a3 n3 c3 e3 m3 k3
      replace hT := hT.mono tt
      replace hX := hX.mono tt
      replace hY := hY.mono tt
      replace hZ := hZ.mono tt
      replace qx := qx.mono tt
      replace qy := qy.mono tt
      replace qz := qz.mono tt
      replace hS := hS.mono tt
      replace x1 := x1.mono tt
      replace y1 := y1.mono tt
      replace x3 := x3.mono tt
      replace y3 := y3.mono tt
      replace T := Add.trans T tt
      clear tt
      have qs := fracA_mk2 (b := p1) x1 y1 Z12.out.1 (by decide)
      have qt := fracA_mk2 (b := p2) x3 y3 Z12.out.2 (by decide)
      clear x1 y1 x3 y3 Z12
      have ha0 := hS.c0
      have ha1 := hS.c1
      have ha2 := hS.c2
      have hb0 := hU.c0
      have hb1 := hU.c1
      have hb2 := hU.c2
      go_wp2_with fail
      refine (cmpC a qs qt O12 Gf).mono ?_
      rintro e w12 ⟨rfl, h12⟩
      replace hT := hT.mono h12
      replace hX := hX.mono h12
      replace hY := hY.mono h12
      replace hZ := hZ.mono h12
      replace qx := qx.mono h12
      replace qy := qy.mono h12
      replace qz := qz.mono h12
      replace T := Add.trans T h12
      clear h12 ha0 ha1 ha2 hb0 hb1 hb2 hS hU qs qt O12 Gf
      have ha0 := hX.c0
      have ha1 := hX.c1
      have ha2 := hX.c2
      have hc0 := hZ.c0
      have hc1 := hZ.c1
      have hc2 := hZ.c2
      go_wp2_with fail
      refine ((mulN' _ qx qz hT Q3).mono fun _ _ g => g.ok).mono ?_
      rintro e w13 ⟨a4, n4, c4, e4, m4, k4, rfl, x4, y4, h13⟩
      replace hT := hT.mono h13
      replace hY := hY.mono h13
      replace hZ := hZ.mono h13
      replace qy := qy.mono h13
      replace qz := qz.mono h13
      replace T := Add.trans T h13
      clear h13 ha0 ha1 ha2 hc0 hc1 hc2 Q3 hX qx
      obtain ⟨tt, hP⟩ := laid_var w13 p3 a4 n4 c4 e4 m4 k4
      replace hT := hT.mono tt
      replace hY := hY.mono tt
      replace hZ := hZ.mono tt
      replace qy := qy.mono tt
      replace qz := qz.mono tt
      replace x4 := x4.mono tt
      replace y4 := y4.mono tt
      replace T := Add.trans T tt
      clear tt
      have hb0 := hY.c0
      have hb1 := hY.c1
      have hb2 := hY.c2
      have hc0 := hZ.c0
      have hc1 := hZ.c1
      have hc2 := hZ.c2
      go_wp2_with fail
      refine ((mulN' _ qy qz hT Q4).mono fun _ _ g => g.ok).mono ?_
      rintro e w14 ⟨a5, n5, c5, e5, m5, k5, rfl, x5, y5, h14⟩
      replace hT := hT.mono h14
      replace hZ := hZ.mono h14
      replace qz := qz.mono h14
      replace hP := hP.mono h14
      replace x4 := x4.mono h14
      replace y4 := y4.mono h14
      replace T := Add.trans T h14
      clear h14 hb0 hb1 hb2 hc0 hc1 hc2 Q4 hY qy
      obtain ⟨tt, hR⟩ := laid_var w14 p4 a5 n5 c5 e5 m5 k5
      replace hT := hT.mono tt
      replace hZ := hZ.mono tt
      replace qz := qz.mono tt
      replace hP := hP.mono tt
      replace x4 := x4.mono tt
      replace y4 := y4.mono tt
      replace x5 := x5.mono tt
      replace y5 := y5.mono tt
      replace T := Add.trans T tt
      clear tt
      have qp := fracA_mk2 (b := p3) x4 y4 Z34.out.1 (by decide)
      have qr := fracA_mk2 (b := p4) x5 y5 Z34.out.2 (by decide)
      clear x4 y4 x5 y5 Z34
      have ha0 := hP.c0
      have ha1 := hP.c1
      have ha2 := hP.c2
      have hb0 := hR.c0
      have hb1 := hR.c1
      have hb2 := hR.c2
      go_wp2_with fail
      refine (cmpC gg qp qr O34 Gg).mono ?_
      rintro e w15 ⟨rfl, h15⟩
      replace hT := hT.mono h15
      replace hZ := hZ.mono h15
      replace qz := qz.mono h15
      replace T := Add.trans T h15
      clear h15 ha0 ha1 ha2 hb0 hb1 hb2 hP hR qp qr O34 Gg
      have hw2 := W2.out
      have hc0 := hZ.c0
      have hc1 := hZ.c1
      have hc2 := hZ.c2
      go_wp2_with fail
      refine (refSignN s qz F3 Gs).mono ?_
      rintro e w16 ⟨rfl, h16⟩
      replace hT := hT.mono h16
      replace T := Add.trans T h16
      clear h16 hc0 hc1 hc2 hZ qz F3 Gs
      go_wp2_with fail
      refine (awake2_any _ hT).mono ?_
      rintro e w17 ⟨rfl, h17⟩
      replace T := Add.trans T h17
      clear h17 hT hw2
      go_wp2_with fail
      go_ret
      exact ⟨rfl, T⟩
    · have ha0 := hX.c0
      have ha1 := hX.c1
      have ha2 := hX.c2
      have hc0 := hZ.c0
      have hc1 := hZ.c1
      have hc2 := hZ.c2
      go_wp2_with fail
      refine ((addN' _ qx qz hT Q1).mono fun _ _ g => g.ok).mono ?_
      rintro e w10 ⟨a1, n1, c1, e1, m1, k1, rfl, x1, y1, h10⟩
      replace hT := hT.mono h10
      replace hX := hX.mono h10
      replace hY := hY.mono h10
      replace hZ := hZ.mono h10
      replace qx := qx.mono h10
      replace qy := qy.mono h10
      replace qz := qz.mono h10
      replace T := Add.trans T h10
      clear u1 t1 t2 hw1 h10 ha0 ha1 ha2 hc0 hc1 hc2 Q1
      obtain ⟨tt, hS⟩ := laid_var w10 p1 a1 n1 c1 e1 m1 k1
      replace hT := hT.mono tt
      replace hX := hX.mono tt
      replace hY := hY.mono tt
      replace hZ := hZ.mono tt
      replace qx := qx.mono tt
      replace qy := qy.mono tt
      replace qz := qz.mono tt
      replace x1 := x1.mono tt
      replace y1 := y1.mono tt
      replace T := Add.trans T tt
      clear tt
      have hb0 := hY.c0
      have hb1 := hY.c1
      have hb2 := hY.c2
      have hc0 := hZ.c0
      have hc1 := hZ.c1
      have hc2 := hZ.c2
      go_wp2_with fail
      refine ((addN' _ qy qz hT Q2).mono fun _ _ g => g.ok).mono ?_
      rintro e w11 ⟨a3, n3, c3, e3, m3, k3, rfl, x3, y3, h11⟩
      replace hT := hT.mono h11
      replace hX := hX.mono h11
      replace hY := hY.mono h11
      replace hZ := hZ.mono h11
      replace qx := qx.mono h11
      replace qy := qy.mono h11
      replace qz := qz.mono h11
      replace hS := hS.mono h11
      replace x1 := x1.mono h11
      replace y1 := y1.mono h11
      replace T := Add.trans T h11
      clear h11 hb0 hb1 hb2 hc0 hc1 hc2 Q2
      obtain ⟨tt, hU⟩ := laid_var w11 p2 a3 n3 c3 e3 m3 k3
      replace hT := hT.mono tt
      replace hX := hX.mono tt
      replace hY := hY.mono tt
      replace hZ := hZ.mono tt
      replace qx := qx.mono tt
      replace qy := qy.mono tt
      replace qz := qz.mono tt
      replace hS := hS.mono tt
      replace x1 := x1.mono tt
      replace y1 := y1.mono tt
      replace x3 := x3.mono tt
      replace y3 := y3.mono tt
      replace T := Add.trans T tt
      clear tt
      have qs := fracA_mk2 (b := p1) x1 y1 Z12.out.1 (by decide)
      have qt := fracA_mk2 (b := p2) x3 y3 Z12.out.2 (by decide)
      clear x1 y1 x3 y3 Z12
      have ha0 := hS.c0
      have ha1 := hS.c1
      have ha2 := hS.c2
      have hb0 := hU.c0
      have hb1 := hU.c1
      have hb2 := hU.c2
      go_wp2_with fail
      refine (cmpC a qs qt O12 Gf).mono ?_
      rintro e w12 ⟨rfl, h12⟩
      replace hT := hT.mono h12
      replace hX := hX.mono h12
      replace hY := hY.mono h12
      replace hZ := hZ.mono h12
      replace qx := qx.mono h12
      replace qy := qy.mono h12
      replace qz := qz.mono h12
      replace T := Add.trans T h12
      clear h12 ha0 ha1 ha2 hb0 hb1 hb2 hS hU qs qt O12 Gf
      have ha0 := hX.c0
      have ha1 := hX.c1
      have ha2 := hX.c2
      have hc0 := hZ.c0
      have hc1 := hZ.c1
      have hc2 := hZ.c2
      go_wp2_with fail
      refine ((mulN' _ qx qz hT Q3).mono fun _ _ g => g.ok).mono ?_
      rintro e w13 ⟨a4, n4, c4, e4, m4, k4, rfl, x4, y4, h13⟩
      replace hT := hT.mono h13
      replace hY := hY.mono h13
      replace hZ := hZ.mono h13
      replace qy := qy.mono h13
      replace qz := qz.mono h13
      replace T := Add.trans T h13
      clear h13 ha0 ha1 ha2 hc0 hc1 hc2 Q3 hX qx
      obtain ⟨tt, hP⟩ := laid_var w13 p3 a4 n4 c4 e4 m4 k4
      replace hT := hT.mono tt
      replace hY := hY.mono tt
      replace hZ := hZ.mono tt
      replace qy := qy.mono tt
      replace qz := qz.mono tt
      replace x4 := x4.mono tt
      replace y4 := y4.mono tt
      replace T := Add.trans T tt
      clear tt
      have hb0 := hY.c0
      have hb1 := hY.c1
      have hb2 := hY.c2
      have hc0 := hZ.c0
      have hc1 := hZ.c1
      have hc2 := hZ.c2
      go_wp2_with fail
      refine ((mulN' _ qy qz hT Q4).mono fun _ _ g => g.ok).mono ?_
      rintro e w14 ⟨a5, n5, c5, e5, m5, k5, rfl, x5, y5, h14⟩
      replace hT := hT.mono h14
      replace hZ := hZ.mono h14
      replace qz := qz.mono h14
      replace hP := hP.mono h14
      replace x4 := x4.mono h14
      replace y4 := y4.mono h14
      replace T := Add.trans T h14
      clear h14 hb0 hb1 hb2 hc0 hc1 hc2 Q4 hY qy
      obtain ⟨tt, hR⟩ := laid_var w14 p4 a5 n5 c5 e5 m5 k5
      replace hT := hT.mono tt
      replace hZ := hZ.mono tt
      replace qz := qz.mono tt
      replace hP := hP.mono tt
      replace x4 := x4.mono tt
      replace y4 := y4.mono tt
      replace x5 := x5.mono tt
      replace y5 := y5.mono tt
      replace T := Add.trans T tt
      clear tt
      have qp := fracA_mk2 (b := p3) x4 y4 Z34.out.1 (by decide)
      have qr := fracA_mk2 (b := p4) x5 y5 Z34.out.2 (by decide)
      clear x4 y4 x5 y5 Z34
      have ha0 := hP.c0
      have ha1 := hP.c1
      have ha2 := hP.c2
      have hb0 := hR.c0
      have hb1 := hR.c1
      have hb2 := hR.c2
      go_wp2_with fail
      refine (cmpC gg qp qr O34 Gg).mono ?_
      rintro e w15 ⟨rfl, h15⟩
      replace hT := hT.mono h15
      replace hZ := hZ.mono h15
      replace qz := qz.mono h15
      replace T := Add.trans T h15
      clear h15 ha0 ha1 ha2 hb0 hb1 hb2 hP hR qp qr O34 Gg
      have hw2 := W2.out
      have hc0 := hZ.c0
      have hc1 := hZ.c1
      have hc2 := hZ.c2
      go_wp2_with fail
      refine (refSignN s qz F3 Gs).mono ?_
      rintro e w16 ⟨rfl, h16⟩
      replace hT := hT.mono h16
      replace T := Add.trans T h16
      clear h16 hc0 hc1 hc2 hZ qz F3 Gs
      go_wp2_with fail
      refine (awake2_any _ hT).mono ?_
      rintro e w17 ⟨rfl, h17⟩
      replace T := Add.trans T h17
      clear h17 hT hw2
      go_wp2_with fail
      go_ret
      exact ⟨rfl, T⟩
    · have ha0 := hX.c0
      have ha1 := hX.c1
      have ha2 := hX.c2
      have hc0 := hZ.c0
      have hc1 := hZ.c1
      have hc2 := hZ.c2
      go_wp2_with fail
      refine ((addN' _ qx qz hT Q1).mono fun _ _ g => g.ok).mono ?_
      rintro e w10 ⟨a1, n1, c1, e1, m1, k1, rfl, x1, y1, h10⟩
      replace hT := hT.mono h10
      replace hX := hX.mono h10
      replace hY := hY.mono h10
      replace hZ := hZ.mono h10
      replace qx := qx.mono h10
      replace qy := qy.mono h10
      replace qz := qz.mono h10
      replace T := Add.trans T h10
      clear u1 t1 hw1 h10 ha0 ha1 ha2 hc0 hc1 hc2 Q1
      obtain ⟨tt, hS⟩ := laid_var w10 p1 a1 n1 c1 e1 m1 k1
      replace hT := hT.mono tt
      replace hX := hX.mono tt
      replace hY := hY.mono tt
      replace hZ := hZ.mono tt
      replace qx := qx.mono tt
      replace qy := qy.mono tt
      replace qz := qz.mono tt
      replace x1 := x1.mono tt
      replace y1 := y1.mono tt
      replace T := Add.trans T tt
      clear tt
      have hb0 := hY.c0
      have hb1 := hY.c1
      have hb2 := hY.c2
      have hc0 := hZ.c0
      have hc1 := hZ.c1
      have hc2 := hZ.c2
      go_wp2_with fail
      refine ((addN' _ qy qz hT Q2).mono fun _ _ g => g.ok).mono ?_
      rintro e w11 ⟨a3, n3, c3, e3, m3, k3, rfl, x3, y3, h11⟩
      replace hT := hT.mono h11
      replace hX := hX.mono h11
      replace hY := hY.mono h11
      replace hZ := hZ.mono h11
      replace qx := qx.mono h11
      replace qy := qy.mono h11
      replace qz := qz.mono h11
      replace hS := hS.mono h11
      replace x1 := x1.mono h11
      replace y1 := y1.mono h11
      replace T := Add.trans T h11
      clear h11 hb0 hb1 hb2 hc0 hc1 hc2 Q2
      obtain ⟨tt, hU⟩ := laid_var w11 p2 a3 n3 c3 e3 m3 k3
      replace hT := hT.mono tt
      replace hX := hX.mono tt
      replace hY := hY.mono tt
      replace hZ := hZ.mono tt
      replace qx := qx.mono tt
      replace qy := qy.mono tt
      replace qz := qz.mono tt
      replace hS := hS.mono tt
      replace x1 := x1.mono tt
      replace y1 := y1.mono tt
      replace x3 := x3.mono tt
      replace y3 := y3.mono tt
      replace T := Add.trans T tt
      clear tt
      have qs := fracA_mk2 (b := p1) x1 y1 Z12.out.1 (by decide)
      have qt := fracA_mk2 (b := p2) x3 y3 Z12.out.2 (by decide)
      clear x1 y1 x3 y3 Z12
      have ha0 := hS.c0
      have ha1 := hS.c1
      have ha2 := hS.c2
      have hb0 := hU.c0
      have hb1 := hU.c1
      have hb2 := hU.c2
      go_wp2_with fail
      refine (cmpC a qs qt O12 Gf).mono ?_
      rintro e w12 ⟨rfl, h12⟩
      replace hT := hT.mono h12
      replace hX := hX.mono h12
      replace hY := hY.mono h12
      replace hZ := hZ.mono h12
      replace qx := qx.mono h12
      replace qy := qy.mono h12
      replace qz := qz.mono h12
      replace T := Add.trans T h12
      clear h12 ha0 ha1 ha2 hb0 hb1 hb2 hS hU qs qt O12 Gf
      have ha0 := hX.c0
      have ha1 := hX.c1
      have ha2 := hX.c2
      have hc0 := hZ.c0
      have hc1 := hZ.c1
      have hc2 := hZ.c2
      go_wp2_with fail
      refine ((mulN' _ qx qz hT Q3).mono fun _ _ g => g.ok).mono ?_
      rintro e w13 ⟨a4, n4, c4, e4, m4, k4, rfl, x4, y4, h13⟩
      replace hT := hT.mono h13
      replace hY := hY.mono h13
      replace hZ := hZ.mono h13
      replace qy := qy.mono h13
      replace qz := qz.mono h13
      replace T := Add.trans T h13
      clear h13 ha0 ha1 ha2 hc0 hc1 hc2 Q3 hX qx
      obtain ⟨tt, hP⟩ := laid_var w13 p3 a4 n4 c4 e4 m4 k4
      replace hT := hT.mono tt
      replace hY := hY.mono tt
      replace hZ := hZ.mono tt
      replace qy := qy.mono tt
      replace qz := qz.mono tt
      replace x4 := x4.mono tt
      replace y4 := y4.mono tt
      replace T := Add.trans T tt
      clear tt
      have hb0 := hY.c0
      have hb1 := hY.c1
      have hb2 := hY.c2
      have hc0 := hZ.c0
      have hc1 := hZ.c1
      have hc2 := hZ.c2
      go_wp2_with fail
      refine ((mulN' _ qy qz hT Q4).mono fun _ _ g => g.ok).mono ?_
      rintro e w14 ⟨a5, n5, c5, e5, m5, k5, rfl, x5, y5, h14⟩
      replace hT := hT.mono h14
      replace hZ := hZ.mono h14
      replace qz := qz.mono h14
      replace hP := hP.mono h14
      replace x4 := x4.mono h14
      replace y4 := y4.mono h14
      replace T := Add.trans T h14
      clear h14 hb0 hb1 hb2 hc0 hc1 hc2 Q4 hY qy
      obtain ⟨tt, hR⟩ := laid_var w14 p4 a5 n5 c5 e5 m5 k5
      replace hT := hT.mono tt
      replace hZ := hZ.mono tt
      replace qz := qz.mono tt
      replace hP := hP.mono tt
      replace x4 := x4.mono tt
      replace y4 := y4.mono tt
      replace x5 := x5.mono tt
      replace y5 := y5.mono tt
      replace T := Add.trans T tt
      clear tt
      have qp := fracA_mk2 (b := p3) x4 y4 Z34.out.1 (by decide)
      have qr := fracA_mk2 (b := p4) x5 y5 Z34.out.2 (by decide)
      clear x4 y4 x5 y5 Z34
      have ha0 := hP.c0
      have ha1 := hP.c1
      have ha2 := hP.c2
      have hb0 := hR.c0
      have hb1 := hR.c1
      have hb2 := hR.c2
      go_wp2_with fail
      refine (cmpC gg qp qr O34 Gg).mono ?_
      rintro e w15 ⟨rfl, h15⟩
      replace hT := hT.mono h15
      replace hZ := hZ.mono h15
      replace qz := qz.mono h15
      replace T := Add.trans T h15
      clear h15 ha0 ha1 ha2 hb0 hb1 hb2 hP hR qp qr O34 Gg
      have hw2 := W2.out
      have hc0 := hZ.c0
      have hc1 := hZ.c1
      have hc2 := hZ.c2
      go_wp2_with fail
      refine (refSignN s qz F3 Gs).mono ?_
      rintro e w16 ⟨rfl, h16⟩
      replace hT := hT.mono h16
      replace T := Add.trans T h16
      clear h16 hc0 hc1 hc2 hZ qz F3 Gs
      go_wp2_with fail
      refine (awake2_any _ hT).mono ?_
      rintro e w17 ⟨rfl, h17⟩
      replace T := Add.trans T h17
      clear h17 hT hw2
      go_wp2_with fail
      go_ret
      exact ⟨rfl, T⟩

theorem order_any {v v' v2 : Value} {b b' b2 : Bool} {xs ys xs' ys' xs2 ys2 : List Nat} (w : World) (hx : FracI w v b xs ys) (hy : FracI w v' b' xs' ys') (hz : FracI w v2 b2 xs2 ys2) (hT : Tab w) : Calls Tryz.prog 5 #[v, v', v2] w (LawP w) := by
  rcases hl : (longB xs ys || longB xs' ys' || longB xs2 ys2) with _ | _
  · by_cases hv : (okF (b, val xs, val ys) = true ∧ okF (b', val xs', val ys') = true) ∧ okF (b2, val xs2, val ys2) = true
    · exact order_ok w hx hy hz hT hl hv
    · exact order_bad w hx hy hz hT hl hv
  · exact order_long w hx hy hz hT hl
end Go.Proofs.YtfoffjnffkgnaaaGreatDoor.OrderL

namespace Go.Proofs.YtfoffjnffkgnaaaGreatDoor
open Go.ChangeShapes Go.WideShapes Go.ChangeAt Go.RowKit NatM

theorem own : ownKnob Tryz.prog.godebug = none := by kernel_rfl
theorem laidOut : laidOutB Tryz.prog = true := by kernel_rfl

theorem wf_nat {z : Int} (h : (Lit.int .u32 z).wf = true) : 0 ≤ z ∧ z < 4294967296 := by
  have h1 : IntKind.u32.min = 0 := rfl
  have h2 : IntKind.u32.max = 4294967295 := rfl
  simp only [Lit.wf, Bool.and_eq_true, decide_eq_true_eq] at h
  omega
theorem cells44 : Tryz.prog.cellsOf 50 = 1 := by kernel_rfl
set_option maxRecDepth 100000 in
/-- A field of type api.Nat reads as a list of limbs. -/
theorem open_nat_field {H : Type} {enc : TypeId × Value → H} {W : World} {v : Value} {n : Nat} {y : DataW H × List MemPlace} (hf : DataW.trod enc Tryz.prog W 0 (fun _ => true) true n 23 [v] = some y) :
    ∃ a l c xs, v = .slice a l c ∧ Reads W (.slice a l c) xs := by
  rcases open_ints Tryz.underlying23 Tryz.underlying50 cells44 hf with ⟨hcs, _⟩ | ⟨a, len, cap, zs, hcs, _, hl, hm, hz, _, hcell, hwz⟩
  · simp only [List.cons.injEq, and_true] at hcs
    subst hcs
    exact ⟨none, 0, 0, [], rfl, Reads.nil W⟩
  · simp only [List.cons.injEq, and_true] at hcs
    subst hcs
    simp only [if_true] at hz
    refine ⟨some a, len, cap, (zs.take len).map Int.toNat, rfl, some a, len, cap, rfl, by simp; omega, hl, hm, ?_, ?_⟩
    · intro x hx
      obtain ⟨z, hz', rfl⟩ := List.mem_map.1 hx
      have := wf_nat (hwz z (List.mem_of_mem_take hz'))
      omega
    · intro hn
      obtain ⟨b, off, rfl, hc⟩ := ints_at hcell (by omega)
      refine ⟨b, off, rfl, fun i hi => ?_⟩
      rw [hc i (by omega)]
      have hi' : i < zs.length := by omega
      have hw := wf_nat (hwz (zs.getD i 0) (by simp [List.getD, hi']))
      have : ((zs.take len).map Int.toNat).getD i 0 = (zs.getD i 0).toNat := by
        simp [List.getD, hi, hi']
      rw [this, Int.toNat_of_nonneg hw.1]
set_option maxRecDepth 100000 in
/-- An argument of type api.Frac. -/
theorem open_frac {H : Type} {enc : TypeId × Value → H} {W : World} {base : Nat} {v : Value} {d : DataW H} {ps : List MemPlace} (hok : Value.okWide Tryz.prog W .any base 25 v) (h : DataW.Trod enc Tryz.prog W 0 (fun _ => true) true 25 v d ps) :
    ∃ b xs ys, FracI W v b xs ys := by
  obtain ⟨v0, v1, v2, y0, y1, y2, n, rfl, -, -, h0, h1, h2⟩ := Go.Joins.open_agg3 Tryz.underlying25 (by kernel_rfl) (show Tryz.prog.cellsOf 25 = 3 by kernel_rfl) hok h
  obtain ⟨b, e0, -⟩ := DataW.trod_bool Tryz.underlying4 h0
  simp only [List.cons.injEq, and_true] at e0
  subst e0
  obtain ⟨a1, l1, c1, xs, rfl, r1⟩ := open_nat_field h1
  obtain ⟨a2, l2, c2, ys, rfl, r2⟩ := open_nat_field h2
  exact ⟨b, xs, ys, a1, l1, c1, a2, l2, c2, rfl, r1, r2⟩
/-- An argument reads behind the call as it read before. -/
theorem kept_arg {H : Type} {enc : TypeId × Value → H} {W W' : World} {t : TypeId} {v : Value} {d : DataW H} {ps : List MemPlace} (hr : Tryz.prog.readableRec t = true) (ht : t < Tryz.prog.types.size)
    (h : DataW.Trod enc Tryz.prog W 0 (fun _ => true) true t v d ps) (hb : Add W W') (hlt : ∀ x ∈ ps, x.block < W.heap.size) : DataW.Trod enc Tryz.prog W' 0 (fun b => decide (b < W.heap.size)) true t v d ps :=
  Below.trod laidOut hr ht h hb hlt
theorem readFrac : Tryz.prog.readableRec 25 = true := by kernel_rfl
theorem ltFrac : 25 < Tryz.prog.types.size := of_decide_eq_true (by kernel_rfl)

/-- A world for the witness: the settled one, with Go's tables in their blocks. -/
def layRow (l : List Nat) : Obj → Obj
  | .cells _ t frozen => .cells (l.map fun n => Value.int .u8 (n : Nat)).toArray t frozen
  | o => o
noncomputable def laidWorld (os : Os) : World :=
  { World.holding Tryz.prog os ⟨#[], #[], []⟩ with heap := (((World.holding Tryz.prog os ⟨#[], #[], []⟩).heap.modify 3 (layRow Pinned.utf8FirstZ)).modify 4 (layRow ([128, 191, 160, 191, 128, 159, 144, 191, 128, 143] ++ List.replicate 22 0))).modify 2 (layRow Lib.deBruijn32tab) }
theorem laid_met (os : Os) (args : Array Value) : laidMet Tryz.prog [("math/bits.deBruijn32tab", Rows.laid_math_bits_deBruijn32tab), ("unicode/utf8.acceptRanges", Rows.laid_unicode_utf8_acceptRanges), ("unicode/utf8.first", Rows.laid_unicode_utf8_first)] ((laidWorld os).forCall (fun _ _ => 0) ⟨#[], args, []⟩).memory :=
  laidMet_of_run' 8 (by kernel_rfl) (by kernel_rfl)

theorem tab_global : Tryz.prog.globalNamed "math/bits.deBruijn32tab" = some 2 := by kernel_rfl
/-- The row's condition lays Go's table. -/
theorem tab_of_laid {W : World} (h : laidMet Tryz.prog [("math/bits.deBruijn32tab", Rows.laid_math_bits_deBruijn32tab), ("unicode/utf8.acceptRanges", Rows.laid_unicode_utf8_acceptRanges), ("unicode/utf8.first", Rows.laid_unicode_utf8_first)] W) : Tab W := by
  have ht := Lib.tabIs_of_head (zs := Lib.deBruijn32tab.map fun n : Nat => (n : Int)) (k := .u8) tab_global (show (Tryz.prog.globals[2]?).map (·.type) = some 148 by kernel_rfl) Tryz.underlying148 Tryz.underlying5 (by kernel_rfl) (by kernel_rfl) h
  have hc : ∀ j, j < 32 → W.cell? ⟨2, j, none⟩ = some (.int .u8 (Lib.deBruijn32tab.getD j 0 : Nat)) := by
    intro j hj
    have hl : Lib.deBruijn32tab.length = 32 := rfl
    rw [ht.cell tab_global j (by simpa [hl] using hj)]
    have hj' : j < Lib.deBruijn32tab.length := by omega
    simp [List.getD, hj']
  exact ⟨World.block_lt_of_cell? W _ (hc 0 (by decide)), hc⟩
theorem int_bounds {z : Int} (h : (Lit.int .i64 z).wf = true) : -9223372036854775808 ≤ z ∧ z ≤ 9223372036854775807 := by
  have h1 : IntKind.i64.min = -9223372036854775808 := rfl
  have h2 : IntKind.i64.max = 9223372036854775807 := rfl
  simp only [Lit.wf, Bool.and_eq_true, decide_eq_true_eq] at h
  omega
end Go.Proofs.YtfoffjnffkgnaaaGreatDoor

namespace Go.Proofs.YtfoffjnffkgnaaaGreatDoor.fnFractionOrder
open Go.Proofs.YtfoffjnffkgnaaaGreatDoor Go.Proofs.YtfoffjnffkgnaaaGreatDoor.Api Go.ChangeShapes Go.WideShapes Go.ChangeAt Go.RowKit NatM
set_option maxRecDepth 100000 in
/-- What the walk gives, for every argument. -/
theorem contract (H : Type) (enc : TypeId × Value → H) (W : World) (base : Nat) (args : Array Value) (ds gs : List (DataW H)) (before : List MemPlace)
    (hval : ∀ (j : Nat) t v, Tryz.f5.params[j]? = some t → args[j]? = some v → Value.okWide Tryz.prog W .any base t v)
    (hW : DataW.Whole enc Tryz.prog Tryz.f5.params.toList Rows.fractionOrderSpec.vars false W args.toList ds gs before) (hT : Tab W) :
    Calls Tryz.prog 5 args W fun e W' => ∃ v, e = .returned v ∧ Rows.fractionOrderSpec.post enc Tryz.prog Tryz.f5 false true false false W args v W' := by
  have hW' := hW
  obtain ⟨p, q, hA0, hV, rfl, -, -⟩ := hW
  have hA : DataW.TrodAll enc Tryz.prog W 0 (fun _ => true) true Tryz.f5.params.toList args.toList ds p := hA0
  rw [Tryz.params5] at hA hval
  obtain ⟨v0, vs0, d0, ds0, p0, q0, hargs0, rfl, rfl, h0, t0⟩ := trodAll_cons hA
  obtain ⟨v1, vs1, d1, ds1, p1, q1, hargs1, rfl, rfl, h1, t1⟩ := trodAll_cons t0
  obtain ⟨v2, vs2, d2, ds2, p2, q2, hargs2, rfl, rfl, h2, t2⟩ := trodAll_cons t1
  obtain ⟨rfl, rfl, rfl⟩ := trodAll_nil t2
  obtain rfl : args = #[v0, v1, v2] := by cases args; simp_all
  obtain ⟨rfl, rfl⟩ := trodVars_none hV
  obtain ⟨b0, xs0, ys0, r0⟩ := open_frac (hval 0 25 v0 rfl rfl) h0
  obtain ⟨b1, xs1, ys1, r1⟩ := open_frac (hval 1 25 v1 rfl rfl) h1
  obtain ⟨b2, xs2, ys2, r2⟩ := open_frac (hval 2 25 v2 rfl rfl) h2
  clear hA0
  simp only [List.append_nil] at hW'
  have hlt : ∀ x, x ∈ p0 ++ p1 ++ p2 → x.block < W.heap.size := fun x hx => by simpa using hW'.lt x (by simpa using hx)
  have walk : Calls Tryz.prog 5 #[v0, v1, v2] W (LawP W) := by
    exact OrderL.order_any W r0 r1 r2 hT
  refine walk.mono fun e W' ⟨he, hb⟩ => ?_
  subst he
  have hargs := trodAll_cons_mk (kept_arg readFrac ltFrac h0 hb fun x hx => hlt x (by simp [hx])) (trodAll_cons_mk (kept_arg readFrac ltFrac h1 hb fun x hx => hlt x (by simp [hx])) (trodAll_cons_mk (kept_arg readFrac ltFrac h2 hb fun x hx => hlt x (by simp [hx])) (trodAll_mk0)))
  exact ⟨_, rfl, _, _, _, [], _, [], hW', trodAll_cons_mk (shut_bool Tryz.underlying4 _) trodAll_mk0, hargs, rfl, Below.frame hb _, fun h => by cases h⟩

def wArgs : Array Value := #[.agg #[.bool false, .slice none 0 0, .slice none 0 0], .agg #[.bool false, .slice none 0 0, .slice none 0 0], .agg #[.bool false, .slice none 0 0, .slice none 0 0]]
theorem reads (os : Os) {H : Type} (enc : TypeId × Value → H) : ∃ places, DataW.whole enc Tryz.prog ((laidWorld os).forCall (fun _ _ => 0) ⟨#[], wArgs, []⟩).memory Tryz.f5.params.toList Rows.fractionOrderSpec.vars false wArgs.toList 8 = some ([.agg [.lit (.bool false), .nil, .nil], .agg [.lit (.bool false), .nil, .nil], .agg [.lit (.bool false), .nil, .nil]], [], places) :=
  ⟨[], by kernel_rfl⟩

set_option maxRecDepth 100000 in
theorem lifted (os : Os) (started : os.Started) (H : Type) (enc : TypeId × Value → H) (F : Stop.Interp) :
    ReturnsInHanded {} Tryz.checked os 5 .any ((OpenSpec.ofChange Rows.fractionOrderSpec).preRow enc Tryz.prog Tryz.f5 Rows.fractionOrderRow.domain false Rows.fractionOrderRow.laid) (((OpenSpec.ofChange Rows.fractionOrderSpec).at F).post enc Tryz.prog Tryz.f5 false true false false) := by
  obtain ⟨places, hx⟩ := reads os enc
  refine returnsInHanded_of_row (C := Tryz.checked) (s := OpenSpec.ofChange Rows.fractionOrderSpec) own started (by kernel_rfl) Tryz.func5
    (witness_row_at (enc := enc) (C := Tryz.checked) false (laidWorld os) wArgs rfl (by kernel_rfl) (by kernel_rfl) (by kernel_rfl)
      (OpenSpec.preRow_of_cond 8 hx (by kernel_rfl) (fun k hk => by cases hk) (by kernel_rfl) (laid_met os _))) ?_
  intro W base args ds gs before hval hW _ _ _ hL _ _
  exact contract H enc W base args ds gs before hval hW (tab_of_laid hL)

theorem said : Rows.FractionOrderSaid :=
  OpenClaim.holds_of_cond 5 Tryz.f5 rfl rfl rfl rfl rfl rfl rfl ⟨rfl, rfl, rfl, rfl, rfl⟩ rfl rfl rfl rfl rfl (by kernel_rfl) Tryz.func5 (by kernel_rfl)
    (of_decide_eq_true (by kernel_rfl)) (by unfold Func.isWrapper; first | (rw [if_pos (by decide +kernel)]; kernel_rfl) | (rw [if_neg (by decide +kernel)]; exact ⟨rfl, rfl⟩))
    (fun os started H enc _ F => by rw [OpenClaim.pre_eq_preRow]; exact lifted os started H enc F)

theorem plain (f : FuncId) (fn : Func) (hf : Tryz.pinned.checked.prog.funcNamed "drydock/drydocklaw02.FractionOrder" = some f) (hfn : Tryz.pinned.checked.prog.funcs[f]? = some fn) :
    false = Tryz.pinned.checked.prog.looks [] ∧ ∀ (j : Nat) t, fn.params[j]? = some t → Tryz.pinned.checked.prog.wantsStandIn t = false := by
  obtain rfl : f = 5 := Option.some.inj ((show Tryz.prog.funcNamed "drydock/drydocklaw02.FractionOrder" = some 5 by kernel_rfl).symm.trans hf) |>.symm
  obtain rfl : fn = Tryz.f5 := (Option.some.inj (Tryz.func5.symm.trans hfn)).symm
  refine ⟨by kernel_rfl, fun j t ht => ?_⟩
  rw [Tryz.params5] at ht
  have hm : t ∈ [25, 25, 25] := by
    have := Array.mem_of_getElem? ht
    simpa using this
  have hall : ([25, 25, 25].all fun u => !Tryz.prog.wantsStandIn u) = true := by kernel_rfl
  exact (show Tryz.prog.wantsStandIn t = false by simpa using List.all_eq_true.1 hall t hm)

/-- The card. -/
theorem card : Rows.FractionOrderCardSaid :=
  Claim7.holds_tied_plain_at .later [] _ _ _ _ said (fun _ h => by cases h) (by kernel_rfl) (fun _ h => by cases h) fractionOrder_row_tie rfl ⟨rfl, rfl⟩ (by kernel_rfl) rfl plain (by kernel_rfl)
end Go.Proofs.YtfoffjnffkgnaaaGreatDoor.fnFractionOrder
namespace Go.Proofs.YtfoffjnffkgnaaaGreatDoor
theorem fractionOrder_card : Rows.FractionOrderCardSaid := fnFractionOrder.card
end Go.Proofs.YtfoffjnffkgnaaaGreatDoor
