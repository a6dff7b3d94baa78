/- The law FractionExact: its walk, for all arguments.
(With the texts that are joined here: ) -/
import Derived.Test.YtfoffjnffkgnaaaGreatDoorZG
import Derived.Test.YtfoffjnffkgnaaaGreatDoorZF

namespace Go.Proofs.YtfoffjnffkgnaaaGreatDoor.ExactF
open Go.Proofs.YtfoffjnffkgnaaaGreatDoor Go.RowKit NatM Go.Proofs.YtfoffjnffkgnaaaGreatDoor.Api
theorem Nv.put {w : World} {v : Value} {N g : Nat} {b an n cn ad d cd} (h : Nv w v N) (hB : Box w g b an n cn ad d cd) (u0 u1 u2 : Value) : Nv (put3 w g u0 u1 u2) v N := by
  obtain ⟨zs, h1, h2⟩ := h; exact ⟨zs, h1.put hB u0 u1 u2, h2⟩
theorem FracA.put {w : World} {v : Value} {x : Tri} {g : Nat} {b an n cn ad d cd} (h : FracA w v x) (hB : Box w g b an n cn ad d cd) (u0 u1 u2 : Value) : FracA (put3 w g u0 u1 u2) v x := by
  obtain ⟨an, n, cn, ad, d, cd, h1, h2, h3⟩ := h; exact ⟨an, n, cn, ad, d, cd, h1, Nv.put h2 hB u0 u1 u2, Nv.put h3 hB u0 u1 u2⟩
theorem put3_size (w : World) (g : Nat) (u0 u1 u2 : Value) : (put3 w g u0 u1 u2).heap.size = w.heap.size := by
  unfold put3; simp [World.setCell]
theorem Tab.put {w : World} {g : Nat} {b an n cn ad d cd} (h : Tab w) (hB : Box w g b an n cn ad d cd) (u0 u1 u2 : Value) : Tab (put3 w g u0 u1 u2) := by
  refine ⟨by rw [put3_size]; exact h.1, fun j hj => ?_⟩
  have hk : 2 ≠ g := by
    rintro rfl
    exact hB.not_int _ _ _ (h.2 j hj)
  rw [cell_other (fun k hk => put3_other u0 u1 u2 hk) _ hk]
  exact h.2 j hj
theorem Box.other {w : World} {g k : Nat} {b an n cn ad d cd} (h : Box w k b an n cn ad d cd) (hk : k ≠ g) (u0 u1 u2 : Value) : Box (put3 w g u0 u1 u2) k b an n cn ad d cd := (put3_other u0 u1 u2 hk).trans h
theorem addC {P Q : Rat} {i j : Nat} (h1 : Sz i (can P)) (h2 : Sz j (can Q)) (h : i + j + 1 ≤ 128) : addF (can P) (can Q) = (can (P + Q), 0) ∧ Sz (i + j + 1) (can (P + Q)) := by
  have := add_sz h1 h2 h
  rwa [qv_can, qv_can] at this
theorem mulC {P Q : Rat} {i j : Nat} (h1 : Sz i (can P)) (h2 : Sz j (can Q)) (h : i + j ≤ 128) : mulF (can P) (can Q) = (can (P * Q), 0) ∧ Sz (i + j) (can (P * Q)) := by
  have := mul_sz h1 h2 h
  rwa [qv_can, qv_can] at this
theorem quoC {P Q : Rat} {i j : Nat} (h1 : Sz i (can P)) (h2 : Sz j (can Q)) (h0 : Q ≠ 0) (h : i + j ≤ 128) : quoF (can P) (can Q) = (can (P / Q), 0) ∧ Sz (i + j) (can (P / Q)) := by
  have := quo_sz h1 h2 (fun e => h0 (can_zero_iff.1 e)) h
  rwa [qv_can, qv_can] at this
theorem subC {P Q : Rat} {i j : Nat} (h1 : Sz i (can P)) (h2 : Sz j (can Q)) (h : i + j + 1 ≤ 128) : subF (can P) (can Q) = (can (P - Q), 0) ∧ Sz (i + j + 1) (can (P - Q)) := by
  have hn : Sz j (negF (can Q)) := h2
  have e : qv (negF (can Q)) = -Q := by
    have h3 : qv (negF (can Q)) = -qv (can Q) := frac_not _ _ _
    rw [h3, qv_can]
  have := add_sz h1 hn h
  rw [e, qv_can, ← Rat.sub_eq_add_neg] at this
  exact this
theorem fracA_mk2 {w : World} {b : Bool} {N D k : Nat} {an n cn ad d cd} (h1 : Num w (.slice an n cn) N) (h2 : Num w (.slice ad d cd) D) (s : Sz k (b, N, D)) (hk : k ≤ 128) : FracA w (.agg #[.bool b, .slice an n cn, .slice ad d cd]) (b, N, D) :=
  ⟨an, n, cn, ad, d, cd, rfl, num_nv h1 (lt_up s.2.1 (by omega)), num_nv h2 (lt_up s.2.2 (by omega))⟩
theorem fracT_mk {w : World} {b : Bool} {N D : Nat} {an n cn ad d cd} (h1 : Num w (.slice an n cn) N) (h2 : Num w (.slice ad d cd) D) : FracT w (.agg #[.bool b, .slice an n cn, .slice ad d cd]) (b, N, D) := ⟨an, n, cn, ad, d, cd, rfl, h1, h2⟩
/-- A result of which the parts have names. -/
def ResE (w : World) (s : Bool) (N D c : Nat) (e : Ending) (w' : World) : Prop := ∃ a n k a' n' k', e = .returned (.tuple #[.agg #[.bool s, .slice a n k, .slice a' n' k'], .int .i64 (c : Nat)]) ∧ Num w' (.slice a n k) N ∧ Num w' (.slice a' n' k') D ∧ Add w w'
theorem resE {w : World} {p : Tri × Nat} {s : Bool} {N D c : Nat} {e : Ending} {w' : World} (g : ResF w p e w') (h : Hid (p = ((s, N, D), c))) : ResE w s N D c e w' := by
  obtain ⟨v, he, ⟨a, n, k, a', n', k', rfl, h1, h2⟩, h3⟩ := g
  have e1 := h.out
  subst e1
  exact ⟨a, n, k, a', n', k', he, h1, h2, h3⟩
def CmpE (w : World) (t : Int) (c : Nat) (e : Ending) (w' : World) : Prop := e = .returned (.tuple #[.int .i64 t, .int .i64 (c : Nat)]) ∧ Add w w'
theorem cmpE {w : World} {p : Int × Nat} {t : Int} {c : Nat} {e : Ending} {w' : World} (g : CmpR w p e w') (h : Hid (p = (t, c))) : CmpE w t c e w' := by
  have e1 := h.out
  subst e1
  exact ⟨g.1, g.2⟩

set_option maxRecDepth 100000 in
set_option maxHeartbeats 20000000 in
theorem exactF_long {v v' : Value} {b b' : Bool} {xs ys xs' ys' : List Nat} (w : World) (hx : FracI w v b xs ys) (hy : FracI w v' b' xs' ys') (hT : Tab w) (hl : (longB xs ys || longB xs' ys') = true) : Calls Tryz.prog 3 #[v, v'] w (LawP w) := by
  obtain ⟨an, n, cn, ad, d, cd, rfl, i0, j0⟩ := hx
  obtain ⟨an', n', cn', ad', d', cd', rfl, i1, j1⟩ := hy
  obtain ⟨T, hX, hY⟩ := start2 w b an n cn ad d cd b' an' n' cn' ad' d' cd'
  obtain ⟨W0, hW0⟩ : ∃ W0, W0 = ((w.alloc (.cells #[.bool b, .slice an n cn, .slice ad d cd] 25)).alloc (.cells #[.bool b', .slice an' n' cn', .slice ad' d' cd'] 25)) := ⟨_, rfl⟩
  rw [← hW0] at T hX hY
  have hX0 := hX
  have hY0 := hY
  have CL := Lib.hid (longF2 true (b := b) (b' := b') (w := W0) (w.heap.size + 1 + 1) (i0.mono T) (j0.mono T) (i1.mono T) (j1.mono T) (by rw [hW0]; simp) (Lib.hid hl))
  have TL : Add W0 (W0.alloc (.cells #[.bool b, .slice an n cn, .slice ad d cd, .bool b', .slice an' n' cn', .slice ad' d' cd'] 25)) := add_new _ _
  replace hX := hX.mono TL
  replace hY := hY.mono TL
  replace hT := (hT.mono T).mono TL
  replace T := Add.trans T TL
  have ha0 := hX0.c0
  have ha1 := hX0.c1
  have ha2 := hX0.c2
  have hb0 := hY0.c0
  have hb1 := hY0.c1
  have hb2 := hY0.c2
  rw [hW0] at ha0 ha1 ha2 hb0 hb1 hb2
  go_enter Tryz.func3, Tryz.ntmps3
  go_wp2_with fail
  rw [← hW0]
  refine CL.out.mono ?_
  rintro e w9 ⟨rfl, rfl⟩
  clear CL TL hW0 hl ha0 ha1 ha2 hb0 hb1 hb2 hX0 hY0 hX hY i0 j0 i1 j1
  go_wp2_with fail
  refine (awake2_any _ hT).mono ?_
  rintro e w9 ⟨rfl, h9⟩
  replace T := Add.trans T h9
  clear h9 hT
  go_wp2_with fail
  go_ret
  exact ⟨rfl, T⟩

set_option maxRecDepth 100000 in
set_option maxHeartbeats 20000000 in
theorem exactF_ok {v v' : Value} {b b' : Bool} {xs ys xs' ys' : List Nat} (w : World) (hx : FracI w v b xs ys) (hy : FracI w v' b' xs' ys') (hT : Tab w) (hl : (longB xs ys || longB xs' ys') = false) : Calls Tryz.prog 3 #[v, v'] w (LawP w) := by
  have hl0 := hl
  obtain ⟨an, n, cn, ad, d, cd, rfl, i0, j0⟩ := hx
  obtain ⟨an', n', cn', ad', d', cd', rfl, i1, j1⟩ := hy
  obtain ⟨T, hX, hY⟩ := start2 w b an n cn ad d cd b' an' n' cn' ad' d' cd'
  obtain ⟨W0, hW0⟩ : ∃ W0, W0 = ((w.alloc (.cells #[.bool b, .slice an n cn, .slice ad d cd] 25)).alloc (.cells #[.bool b', .slice an' n' cn', .slice ad' d' cd'] 25)) := ⟨_, rfl⟩
  rw [← hW0] at T hX hY
  have hX0 := hX
  have hY0 := hY
  have CL := Lib.hid (longF2 false (b := b) (b' := b') (w := W0) (w.heap.size + 1 + 1) (i0.mono T) (j0.mono T) (i1.mono T) (j1.mono T) (by rw [hW0]; simp) (Lib.hid hl))
  have TL : Add W0 (W0.alloc (.cells #[.bool b, .slice an n cn, .slice ad d cd, .bool b', .slice an' n' cn', .slice ad' d' cd'] 25)) := add_new _ _
  replace hX := hX.mono TL
  replace hY := hY.mono TL
  replace hT := (hT.mono T).mono TL
  replace T := Add.trans T TL
  have ha0 := hX0.c0
  have ha1 := hX0.c1
  have ha2 := hX0.c2
  have hb0 := hY0.c0
  have hb1 := hY0.c1
  have hb2 := hY0.c2
  rw [hW0] at ha0 ha1 ha2 hb0 hb1 hb2
  simp only [Bool.or_eq_false_iff] at hl0
  have qx : FracA _ (.agg #[.bool b, .slice an n cn, .slice ad d cd]) (b, val xs, val ys) := (FracI.arg (w := w) ⟨an, n, cn, ad, d, cd, rfl, i0, j0⟩ hl0.1).mono T
  have qy : FracA _ (.agg #[.bool b', .slice an' n' cn', .slice ad' d' cd']) (b', val xs', val ys') := (FracI.arg (w := w) ⟨an', n', cn', ad', d', cd', rfl, i1, j1⟩ hl0.2).mono T
  obtain ⟨x, ex⟩ : ∃ x : Tri, (b, val xs, val ys) = x := ⟨_, rfl⟩
  obtain ⟨y, ey⟩ : ∃ y : Tri, (b', val xs', val ys') = y := ⟨_, rfl⟩
  rw [ex] at qx
  rw [ey] at qy
  clear ex ey hl0 i0 j0 i1 j1
  go_enter Tryz.func3, Tryz.ntmps3
  go_wp2_with fail
  rw [← hW0]
  refine CL.out.mono ?_
  rintro e w9 ⟨rfl, rfl⟩
  clear CL TL hW0 hl ha0 ha1 ha2 hb0 hb1 hb2 hX0 hY0 
  obtain ⟨s1, N1, D1, c1, e1⟩ : ∃ s N D c, addF x y = ((s, N, D), c) := ⟨_, _, _, _, rfl⟩
  have R1 := Lib.hid e1
  clear e1
  obtain ⟨s2, N2, D2, c2, e2⟩ : ∃ s N D c, subF x y = ((s, N, D), c) := ⟨_, _, _, _, rfl⟩
  have R2 := Lib.hid e2
  clear e2
  obtain ⟨s3, N3, D3, c3, e3⟩ : ∃ s N D c, mulF x y = ((s, N, D), c) := ⟨_, _, _, _, rfl⟩
  have R3 := Lib.hid e3
  clear e3
  obtain ⟨s4, N4, D4, c4, e4⟩ : ∃ s N D c, quoF x y = ((s, N, D), c) := ⟨_, _, _, _, rfl⟩
  have R4 := Lib.hid e4
  clear e4
  obtain ⟨s5, N5, D5, c5, e5⟩ : ∃ s N D c, redF x = ((s, N, D), c) := ⟨_, _, _, _, rfl⟩
  have R5 := Lib.hid e5
  clear e5
  obtain ⟨ti, tc, e6⟩ : ∃ t c, cmpF x y = (t, c) := ⟨_, _, rfl⟩
  have R6 := Lib.hid e6
  clear e6
  obtain ⟨ov, e7⟩ : ∃ t, okF x = t := ⟨_, rfl⟩
  have R7 := Lib.hid e7
  clear e7
  have ha0 := hX.c0
  have ha1 := hX.c1
  have ha2 := hX.c2
  have hb0 := hY.c0
  have hb1 := hY.c1
  have hb2 := hY.c2
  go_wp2_with fail
  refine ((addN' _ qx qy hT (Lib.hid rfl)).mono fun _ _ g => resE g R1).mono ?_
  rintro e w10 ⟨aA9, nA9, cA9, eA9, mA9, kA9, rfl, uA, vA, h10⟩
  replace hT := hT.mono h10
  replace hX := hX.mono h10
  replace hY := hY.mono h10
  replace qx := qx.mono h10
  replace qy := qy.mono h10
  replace T := Add.trans T h10
  clear h10 ha0 ha1 ha2 hb0 hb1 hb2 
  obtain ⟨tt, hA⟩ := laid_var w10 s1 aA9 nA9 cA9 eA9 mA9 kA9
  have lXA := Lib.hid hX.lt
  have lYA := Lib.hid hY.lt
  replace hT := hT.mono tt
  replace hX := hX.mono tt
  replace hY := hY.mono tt
  replace qx := qx.mono tt
  replace qy := qy.mono tt
  replace uA := uA.mono tt
  replace vA := vA.mono tt
  replace T := Add.trans T tt
  clear tt
  have ha0 := hX.c0
  have ha1 := hX.c1
  have ha2 := hX.c2
  have hb0 := hY.c0
  have hb1 := hY.c1
  have hb2 := hY.c2
  go_wp2_with fail
  refine ((refAddN2 _ qx qy (Lib.hid rfl)).mono fun _ _ g => resE g R1).mono ?_
  rintro e w11 ⟨aB10, nB10, cB10, eB10, mB10, kB10, rfl, uB, vB, h11⟩
  replace hT := hT.mono h11
  replace hX := hX.mono h11
  replace hY := hY.mono h11
  replace qx := qx.mono h11
  replace qy := qy.mono h11
  replace uA := uA.mono h11
  replace vA := vA.mono h11
  replace hA := hA.mono h11
  replace T := Add.trans T h11
  clear h11 ha0 ha1 ha2 hb0 hb1 hb2 
  obtain ⟨tt, hB⟩ := laid_var w11 s1 aB10 nB10 cB10 eB10 mB10 kB10
  have lXB := Lib.hid hX.lt
  have lYB := Lib.hid hY.lt
  have lAB := Lib.hid hA.lt
  replace hT := hT.mono tt
  replace hX := hX.mono tt
  replace hY := hY.mono tt
  replace qx := qx.mono tt
  replace qy := qy.mono tt
  replace uA := uA.mono tt
  replace vA := vA.mono tt
  replace hA := hA.mono tt
  replace uB := uB.mono tt
  replace vB := vB.mono tt
  replace T := Add.trans T tt
  clear tt
  have ha0 := hX.c0
  have ha1 := hX.c1
  have ha2 := hX.c2
  have hb0 := hY.c0
  have hb1 := hY.c1
  have hb2 := hY.c2
  go_wp2_with fail
  refine ((subN' _ qx qy hT (Lib.hid rfl)).mono fun _ _ g => resE g R2).mono ?_
  rintro e w12 ⟨aC11, nC11, cC11, eC11, mC11, kC11, rfl, uC, vC, h12⟩
  replace hT := hT.mono h12
  replace hX := hX.mono h12
  replace hY := hY.mono h12
  replace qx := qx.mono h12
  replace qy := qy.mono h12
  replace uA := uA.mono h12
  replace vA := vA.mono h12
  replace hA := hA.mono h12
  replace uB := uB.mono h12
  replace vB := vB.mono h12
  replace hB := hB.mono h12
  replace T := Add.trans T h12
  clear h12 ha0 ha1 ha2 hb0 hb1 hb2 
  obtain ⟨tt, hC⟩ := laid_var w12 s2 aC11 nC11 cC11 eC11 mC11 kC11
  have lXC := Lib.hid hX.lt
  have lYC := Lib.hid hY.lt
  have lAC := Lib.hid hA.lt
  have lBC := Lib.hid hB.lt
  replace hT := hT.mono tt
  replace hX := hX.mono tt
  replace hY := hY.mono tt
  replace qx := qx.mono tt
  replace qy := qy.mono tt
  replace uA := uA.mono tt
  replace vA := vA.mono tt
  replace hA := hA.mono tt
  replace uB := uB.mono tt
  replace vB := vB.mono tt
  replace hB := hB.mono tt
  replace uC := uC.mono tt
  replace vC := vC.mono tt
  replace T := Add.trans T tt
  clear tt
  have ha0 := hX.c0
  have ha1 := hX.c1
  have ha2 := hX.c2
  have hb0 := hY.c0
  have hb1 := hY.c1
  have hb2 := hY.c2
  go_wp2_with fail
  refine ((refSubN2 _ qx qy (Lib.hid rfl)).mono fun _ _ g => resE g R2).mono ?_
  rintro e w13 ⟨aD12, nD12, cD12, eD12, mD12, kD12, rfl, uD, vD, h13⟩
  replace hT := hT.mono h13
  replace hX := hX.mono h13
  replace hY := hY.mono h13
  replace qx := qx.mono h13
  replace qy := qy.mono h13
  replace uA := uA.mono h13
  replace vA := vA.mono h13
  replace hA := hA.mono h13
  replace uB := uB.mono h13
  replace vB := vB.mono h13
  replace hB := hB.mono h13
  replace uC := uC.mono h13
  replace vC := vC.mono h13
  replace hC := hC.mono h13
  replace T := Add.trans T h13
  clear h13 ha0 ha1 ha2 hb0 hb1 hb2 
  obtain ⟨tt, hD⟩ := laid_var w13 s2 aD12 nD12 cD12 eD12 mD12 kD12
  have lXD := Lib.hid hX.lt
  have lYD := Lib.hid hY.lt
  have lAD := Lib.hid hA.lt
  have lBD := Lib.hid hB.lt
  have lCD := Lib.hid hC.lt
  replace hT := hT.mono tt
  replace hX := hX.mono tt
  replace hY := hY.mono tt
  replace qx := qx.mono tt
  replace qy := qy.mono tt
  replace uA := uA.mono tt
  replace vA := vA.mono tt
  replace hA := hA.mono tt
  replace uB := uB.mono tt
  replace vB := vB.mono tt
  replace hB := hB.mono tt
  replace uC := uC.mono tt
  replace vC := vC.mono tt
  replace hC := hC.mono tt
  replace uD := uD.mono tt
  replace vD := vD.mono tt
  replace T := Add.trans T tt
  clear tt
  have ha0 := hA.c0
  have ha1 := hA.c1
  have ha2 := hA.c2
  have hb0 := hB.c0
  have hb1 := hB.c1
  have hb2 := hB.c2
  go_wp2_with fail
  refine (sameF true (fracT_mk (b := s1) uA vA) (fracT_mk (b := s1) uB vB) (Lib.hid (decide_eq_true rfl))).mono ?_
  rintro e w14 ⟨rfl, h14⟩
  replace hT := hT.mono h14
  replace hX := hX.mono h14
  replace hY := hY.mono h14
  replace qx := qx.mono h14
  replace qy := qy.mono h14
  replace uA := uA.mono h14
  replace vA := vA.mono h14
  replace hA := hA.mono h14
  replace uB := uB.mono h14
  replace vB := vB.mono h14
  replace hB := hB.mono h14
  replace uC := uC.mono h14
  replace vC := vC.mono h14
  replace hC := hC.mono h14
  replace uD := uD.mono h14
  replace vD := vD.mono h14
  replace hD := hD.mono h14
  replace T := Add.trans T h14
  clear h14 ha0 ha1 ha2 hb0 hb1 hb2 
  clear uA vA uB vB
  have ha0 := hC.c0
  have ha1 := hC.c1
  have ha2 := hC.c2
  have hb0 := hD.c0
  have hb1 := hD.c1
  have hb2 := hD.c2
  go_wp2_with fail
  refine (sameF true (fracT_mk (b := s2) uC vC) (fracT_mk (b := s2) uD vD) (Lib.hid (decide_eq_true rfl))).mono ?_
  rintro e w15 ⟨rfl, h15⟩
  replace hT := hT.mono h15
  replace hX := hX.mono h15
  replace hY := hY.mono h15
  replace qx := qx.mono h15
  replace qy := qy.mono h15
  replace hA := hA.mono h15
  replace hB := hB.mono h15
  replace uC := uC.mono h15
  replace vC := vC.mono h15
  replace hC := hC.mono h15
  replace uD := uD.mono h15
  replace vD := vD.mono h15
  replace hD := hD.mono h15
  replace T := Add.trans T h15
  clear h15 ha0 ha1 ha2 hb0 hb1 hb2 
  clear uC vC uD vD
  have ha0 := hX.c0
  have ha1 := hX.c1
  have ha2 := hX.c2
  have hb0 := hY.c0
  have hb1 := hY.c1
  have hb2 := hY.c2
  go_wp2_with fail
  refine ((mulN' _ qx qy hT (Lib.hid rfl)).mono fun _ _ g => resE g R3).mono ?_
  rintro e w16 ⟨aA15, nA15, cA15, eA15, mA15, kA15, rfl, uA, vA, h16⟩
  replace hT := hT.mono h16
  replace hX := hX.mono h16
  replace hY := hY.mono h16
  replace qx := qx.mono h16
  replace qy := qy.mono h16
  replace hA := hA.mono h16
  replace hB := hB.mono h16
  replace hC := hC.mono h16
  replace hD := hD.mono h16
  replace T := Add.trans T h16
  clear h16 ha0 ha1 ha2 hb0 hb1 hb2 
  have hold := hA
  have s0x := hA.c0
  have s1x := hA.c1
  have s2x := hA.c2
  have s3x := hA.fr 0
  have s4x := hA.fr 1
  have s5x := hA.fr 2
  replace hT := Tab.put hT hold (.bool s3) (.slice aA15 nA15 cA15) (.slice eA15 mA15 kA15)
  replace hX := Box.other (g := w10.heap.size) hX (by have := lXA.out; omega) (.bool s3) (.slice aA15 nA15 cA15) (.slice eA15 mA15 kA15)
  replace hY := Box.other (g := w10.heap.size) hY (by have := lYA.out; omega) (.bool s3) (.slice aA15 nA15 cA15) (.slice eA15 mA15 kA15)
  replace qx := FracA.put qx hold (.bool s3) (.slice aA15 nA15 cA15) (.slice eA15 mA15 kA15)
  replace qy := FracA.put qy hold (.bool s3) (.slice aA15 nA15 cA15) (.slice eA15 mA15 kA15)
  replace hA := hold.put s3 aA15 nA15 cA15 eA15 mA15 kA15
  replace hB := Box.other (g := w10.heap.size) hB (by have := lAB.out; omega) (.bool s3) (.slice aA15 nA15 cA15) (.slice eA15 mA15 kA15)
  replace hC := Box.other (g := w10.heap.size) hC (by have := lAC.out; omega) (.bool s3) (.slice aA15 nA15 cA15) (.slice eA15 mA15 kA15)
  replace hD := Box.other (g := w10.heap.size) hD (by have := lAD.out; omega) (.bool s3) (.slice aA15 nA15 cA15) (.slice eA15 mA15 kA15)
  replace uA := uA.put hold (.bool s3) (.slice aA15 nA15 cA15) (.slice eA15 mA15 kA15)
  replace vA := vA.put hold (.bool s3) (.slice aA15 nA15 cA15) (.slice eA15 mA15 kA15)
  replace T := put3_below (.bool s3) (.slice aA15 nA15 cA15) (.slice eA15 mA15 kA15) T (show w.heap.size ≤ w10.heap.size by have := lXA.out; omega)
  clear hold
  unfold put3 at T hT hX hY qx qy hA hB hC hD uA vA
  have ha0 := hX.c0
  have ha1 := hX.c1
  have ha2 := hX.c2
  have hb0 := hY.c0
  have hb1 := hY.c1
  have hb2 := hY.c2
  go_wp2_with fail
  refine ((refMulN2 _ qx qy (Lib.hid rfl)).mono fun _ _ g => resE g R3).mono ?_
  rintro e w17 ⟨aB16, nB16, cB16, eB16, mB16, kB16, rfl, uB, vB, h17⟩
  replace hT := hT.mono h17
  replace hX := hX.mono h17
  replace hY := hY.mono h17
  replace qx := qx.mono h17
  replace qy := qy.mono h17
  replace hA := hA.mono h17
  replace hB := hB.mono h17
  replace hC := hC.mono h17
  replace hD := hD.mono h17
  replace uA := uA.mono h17
  replace vA := vA.mono h17
  replace T := Add.trans T h17
  clear h17 ha0 ha1 ha2 hb0 hb1 hb2 s0x s1x s2x s3x s4x s5x
  have hold := hB
  have s0x := hB.c0
  have s1x := hB.c1
  have s2x := hB.c2
  have s3x := hB.fr 0
  have s4x := hB.fr 1
  have s5x := hB.fr 2
  replace hT := Tab.put hT hold (.bool s3) (.slice aB16 nB16 cB16) (.slice eB16 mB16 kB16)
  replace hX := Box.other (g := w11.heap.size) hX (by have := lXB.out; omega) (.bool s3) (.slice aB16 nB16 cB16) (.slice eB16 mB16 kB16)
  replace hY := Box.other (g := w11.heap.size) hY (by have := lYB.out; omega) (.bool s3) (.slice aB16 nB16 cB16) (.slice eB16 mB16 kB16)
  replace qx := FracA.put qx hold (.bool s3) (.slice aB16 nB16 cB16) (.slice eB16 mB16 kB16)
  replace qy := FracA.put qy hold (.bool s3) (.slice aB16 nB16 cB16) (.slice eB16 mB16 kB16)
  replace hA := Box.other (g := w11.heap.size) hA (by have := lAB.out; omega) (.bool s3) (.slice aB16 nB16 cB16) (.slice eB16 mB16 kB16)
  replace hB := hold.put s3 aB16 nB16 cB16 eB16 mB16 kB16
  replace hC := Box.other (g := w11.heap.size) hC (by have := lBC.out; omega) (.bool s3) (.slice aB16 nB16 cB16) (.slice eB16 mB16 kB16)
  replace hD := Box.other (g := w11.heap.size) hD (by have := lBD.out; omega) (.bool s3) (.slice aB16 nB16 cB16) (.slice eB16 mB16 kB16)
  replace uA := uA.put hold (.bool s3) (.slice aB16 nB16 cB16) (.slice eB16 mB16 kB16)
  replace vA := vA.put hold (.bool s3) (.slice aB16 nB16 cB16) (.slice eB16 mB16 kB16)
  replace uB := uB.put hold (.bool s3) (.slice aB16 nB16 cB16) (.slice eB16 mB16 kB16)
  replace vB := vB.put hold (.bool s3) (.slice aB16 nB16 cB16) (.slice eB16 mB16 kB16)
  replace T := put3_below (.bool s3) (.slice aB16 nB16 cB16) (.slice eB16 mB16 kB16) T (show w.heap.size ≤ w11.heap.size by have := lXB.out; omega)
  clear hold
  unfold put3 at T hT hX hY qx qy hA hB hC hD uA vA uB vB
  have ha0 := hX.c0
  have ha1 := hX.c1
  have ha2 := hX.c2
  have hb0 := hY.c0
  have hb1 := hY.c1
  have hb2 := hY.c2
  go_wp2_with fail
  refine ((quoN' _ qx qy hT (Lib.hid rfl)).mono fun _ _ g => resE g R4).mono ?_
  rintro e w18 ⟨aC17, nC17, cC17, eC17, mC17, kC17, rfl, uC, vC, h18⟩
  replace hT := hT.mono h18
  replace hX := hX.mono h18
  replace hY := hY.mono h18
  replace qx := qx.mono h18
  replace qy := qy.mono h18
  replace hA := hA.mono h18
  replace hB := hB.mono h18
  replace hC := hC.mono h18
  replace hD := hD.mono h18
  replace uA := uA.mono h18
  replace vA := vA.mono h18
  replace uB := uB.mono h18
  replace vB := vB.mono h18
  replace T := Add.trans T h18
  clear h18 ha0 ha1 ha2 hb0 hb1 hb2 s0x s1x s2x s3x s4x s5x
  have hold := hC
  have s0x := hC.c0
  have s1x := hC.c1
  have s2x := hC.c2
  have s3x := hC.fr 0
  have s4x := hC.fr 1
  have s5x := hC.fr 2
  replace hT := Tab.put hT hold (.bool s4) (.slice aC17 nC17 cC17) (.slice eC17 mC17 kC17)
  replace hX := Box.other (g := w12.heap.size) hX (by have := lXC.out; omega) (.bool s4) (.slice aC17 nC17 cC17) (.slice eC17 mC17 kC17)
  replace hY := Box.other (g := w12.heap.size) hY (by have := lYC.out; omega) (.bool s4) (.slice aC17 nC17 cC17) (.slice eC17 mC17 kC17)
  replace qx := FracA.put qx hold (.bool s4) (.slice aC17 nC17 cC17) (.slice eC17 mC17 kC17)
  replace qy := FracA.put qy hold (.bool s4) (.slice aC17 nC17 cC17) (.slice eC17 mC17 kC17)
  replace hA := Box.other (g := w12.heap.size) hA (by have := lAC.out; omega) (.bool s4) (.slice aC17 nC17 cC17) (.slice eC17 mC17 kC17)
  replace hB := Box.other (g := w12.heap.size) hB (by have := lBC.out; omega) (.bool s4) (.slice aC17 nC17 cC17) (.slice eC17 mC17 kC17)
  replace hC := hold.put s4 aC17 nC17 cC17 eC17 mC17 kC17
  replace hD := Box.other (g := w12.heap.size) hD (by have := lCD.out; omega) (.bool s4) (.slice aC17 nC17 cC17) (.slice eC17 mC17 kC17)
  replace uA := uA.put hold (.bool s4) (.slice aC17 nC17 cC17) (.slice eC17 mC17 kC17)
  replace vA := vA.put hold (.bool s4) (.slice aC17 nC17 cC17) (.slice eC17 mC17 kC17)
  replace uB := uB.put hold (.bool s4) (.slice aC17 nC17 cC17) (.slice eC17 mC17 kC17)
  replace vB := vB.put hold (.bool s4) (.slice aC17 nC17 cC17) (.slice eC17 mC17 kC17)
  replace uC := uC.put hold (.bool s4) (.slice aC17 nC17 cC17) (.slice eC17 mC17 kC17)
  replace vC := vC.put hold (.bool s4) (.slice aC17 nC17 cC17) (.slice eC17 mC17 kC17)
  replace T := put3_below (.bool s4) (.slice aC17 nC17 cC17) (.slice eC17 mC17 kC17) T (show w.heap.size ≤ w12.heap.size by have := lXC.out; omega)
  clear hold
  unfold put3 at T hT hX hY qx qy hA hB hC hD uA vA uB vB uC vC
  have ha0 := hX.c0
  have ha1 := hX.c1
  have ha2 := hX.c2
  have hb0 := hY.c0
  have hb1 := hY.c1
  have hb2 := hY.c2
  go_wp2_with fail
  refine ((refQuoN2 _ qx qy (Lib.hid rfl)).mono fun _ _ g => resE g R4).mono ?_
  rintro e w19 ⟨aD18, nD18, cD18, eD18, mD18, kD18, rfl, uD, vD, h19⟩
  replace hT := hT.mono h19
  replace hX := hX.mono h19
  replace hY := hY.mono h19
  replace qx := qx.mono h19
  replace qy := qy.mono h19
  replace hA := hA.mono h19
  replace hB := hB.mono h19
  replace hC := hC.mono h19
  replace hD := hD.mono h19
  replace uA := uA.mono h19
  replace vA := vA.mono h19
  replace uB := uB.mono h19
  replace vB := vB.mono h19
  replace uC := uC.mono h19
  replace vC := vC.mono h19
  replace T := Add.trans T h19
  clear h19 ha0 ha1 ha2 hb0 hb1 hb2 s0x s1x s2x s3x s4x s5x
  have hold := hD
  have s0x := hD.c0
  have s1x := hD.c1
  have s2x := hD.c2
  have s3x := hD.fr 0
  have s4x := hD.fr 1
  have s5x := hD.fr 2
  replace hT := Tab.put hT hold (.bool s4) (.slice aD18 nD18 cD18) (.slice eD18 mD18 kD18)
  replace hX := Box.other (g := w13.heap.size) hX (by have := lXD.out; omega) (.bool s4) (.slice aD18 nD18 cD18) (.slice eD18 mD18 kD18)
  replace hY := Box.other (g := w13.heap.size) hY (by have := lYD.out; omega) (.bool s4) (.slice aD18 nD18 cD18) (.slice eD18 mD18 kD18)
  replace qx := FracA.put qx hold (.bool s4) (.slice aD18 nD18 cD18) (.slice eD18 mD18 kD18)
  replace qy := FracA.put qy hold (.bool s4) (.slice aD18 nD18 cD18) (.slice eD18 mD18 kD18)
  replace hA := Box.other (g := w13.heap.size) hA (by have := lAD.out; omega) (.bool s4) (.slice aD18 nD18 cD18) (.slice eD18 mD18 kD18)
  replace hB := Box.other (g := w13.heap.size) hB (by have := lBD.out; omega) (.bool s4) (.slice aD18 nD18 cD18) (.slice eD18 mD18 kD18)
  replace hC := Box.other (g := w13.heap.size) hC (by have := lCD.out; omega) (.bool s4) (.slice aD18 nD18 cD18) (.slice eD18 mD18 kD18)
  replace hD := hold.put s4 aD18 nD18 cD18 eD18 mD18 kD18
  replace uA := uA.put hold (.bool s4) (.slice aD18 nD18 cD18) (.slice eD18 mD18 kD18)
  replace vA := vA.put hold (.bool s4) (.slice aD18 nD18 cD18) (.slice eD18 mD18 kD18)
  replace uB := uB.put hold (.bool s4) (.slice aD18 nD18 cD18) (.slice eD18 mD18 kD18)
  replace vB := vB.put hold (.bool s4) (.slice aD18 nD18 cD18) (.slice eD18 mD18 kD18)
  replace uC := uC.put hold (.bool s4) (.slice aD18 nD18 cD18) (.slice eD18 mD18 kD18)
  replace vC := vC.put hold (.bool s4) (.slice aD18 nD18 cD18) (.slice eD18 mD18 kD18)
  replace uD := uD.put hold (.bool s4) (.slice aD18 nD18 cD18) (.slice eD18 mD18 kD18)
  replace vD := vD.put hold (.bool s4) (.slice aD18 nD18 cD18) (.slice eD18 mD18 kD18)
  replace T := put3_below (.bool s4) (.slice aD18 nD18 cD18) (.slice eD18 mD18 kD18) T (show w.heap.size ≤ w13.heap.size by have := lXD.out; omega)
  clear hold
  unfold put3 at T hT hX hY qx qy hA hB hC hD uA vA uB vB uC vC uD vD
  have ha0 := hA.c0
  have ha1 := hA.c1
  have ha2 := hA.c2
  have hb0 := hB.c0
  have hb1 := hB.c1
  have hb2 := hB.c2
  go_wp2_with fail
  refine (sameF true (fracT_mk (b := s3) uA vA) (fracT_mk (b := s3) uB vB) (Lib.hid (decide_eq_true rfl))).mono ?_
  rintro e w20 ⟨rfl, h20⟩
  replace hT := hT.mono h20
  replace hX := hX.mono h20
  replace hY := hY.mono h20
  replace qx := qx.mono h20
  replace qy := qy.mono h20
  replace hA := hA.mono h20
  replace hB := hB.mono h20
  replace hC := hC.mono h20
  replace hD := hD.mono h20
  replace uA := uA.mono h20
  replace vA := vA.mono h20
  replace uB := uB.mono h20
  replace vB := vB.mono h20
  replace uC := uC.mono h20
  replace vC := vC.mono h20
  replace uD := uD.mono h20
  replace vD := vD.mono h20
  replace T := Add.trans T h20
  clear h20 ha0 ha1 ha2 hb0 hb1 hb2 s0x s1x s2x s3x s4x s5x
  clear uA vA uB vB
  have ha0 := hC.c0
  have ha1 := hC.c1
  have ha2 := hC.c2
  have hb0 := hD.c0
  have hb1 := hD.c1
  have hb2 := hD.c2
  go_wp2_with fail
  refine (sameF true (fracT_mk (b := s4) uC vC) (fracT_mk (b := s4) uD vD) (Lib.hid (decide_eq_true rfl))).mono ?_
  rintro e w21 ⟨rfl, h21⟩
  replace hT := hT.mono h21
  replace hX := hX.mono h21
  replace hY := hY.mono h21
  replace qx := qx.mono h21
  replace qy := qy.mono h21
  replace hA := hA.mono h21
  replace hB := hB.mono h21
  replace hC := hC.mono h21
  replace hD := hD.mono h21
  replace uC := uC.mono h21
  replace vC := vC.mono h21
  replace uD := uD.mono h21
  replace vD := vD.mono h21
  replace T := Add.trans T h21
  clear h21 ha0 ha1 ha2 hb0 hb1 hb2 
  clear uC vC uD vD
  clear hC hD
  clear R1 R2 R3 R4
  have ha0 := hX.c0
  have ha1 := hX.c1
  have ha2 := hX.c2
  have hb0 := hY.c0
  have hb1 := hY.c1
  have hb2 := hY.c2
  go_wp2_with fail
  refine ((cmpN' _ qx qy (Lib.hid rfl)).mono fun _ _ g => cmpE g R6).mono ?_
  rintro e w22 ⟨rfl, h22⟩
  replace hT := hT.mono h22
  replace hX := hX.mono h22
  replace hY := hY.mono h22
  replace qx := qx.mono h22
  replace qy := qy.mono h22
  replace hA := hA.mono h22
  replace hB := hB.mono h22
  replace T := Add.trans T h22
  clear h22 ha0 ha1 ha2 hb0 hb1 hb2
  have ha0 := hX.c0
  have ha1 := hX.c1
  have ha2 := hX.c2
  have hb0 := hY.c0
  have hb1 := hY.c1
  have hb2 := hY.c2
  go_wp2_with fail
  refine ((refCmpN2 _ qx qy (Lib.hid rfl)).mono fun _ _ g => cmpE g R6).mono ?_
  rintro e w23 ⟨rfl, h23⟩
  replace hT := hT.mono h23
  replace hX := hX.mono h23
  replace hY := hY.mono h23
  replace qx := qx.mono h23
  replace qy := qy.mono h23
  replace hA := hA.mono h23
  replace hB := hB.mono h23
  replace T := Add.trans T h23
  clear h23 ha0 ha1 ha2 hb0 hb1 hb2
  clear hY qy
  have ha0 := hX.c0
  have ha1 := hX.c1
  have ha2 := hX.c2
  go_wp2_with fail
  refine ((reduceN' _ qx hT (Lib.hid rfl)).mono fun _ _ g => resE g R5).mono ?_
  rintro e w24 ⟨aA23, nA23, cA23, eA23, mA23, kA23, rfl, uA, vA, h24⟩
  replace hT := hT.mono h24
  replace hX := hX.mono h24
  replace qx := qx.mono h24
  replace hA := hA.mono h24
  replace hB := hB.mono h24
  replace T := Add.trans T h24
  clear h24 ha0 ha1 ha2 
  have hold := hA
  have s0x := hA.c0
  have s1x := hA.c1
  have s2x := hA.c2
  have s3x := hA.fr 0
  have s4x := hA.fr 1
  have s5x := hA.fr 2
  replace hT := Tab.put hT hold (.bool s5) (.slice aA23 nA23 cA23) (.slice eA23 mA23 kA23)
  replace hX := Box.other (g := w10.heap.size) hX (by have := lXA.out; omega) (.bool s5) (.slice aA23 nA23 cA23) (.slice eA23 mA23 kA23)
  replace qx := FracA.put qx hold (.bool s5) (.slice aA23 nA23 cA23) (.slice eA23 mA23 kA23)
  replace hA := hold.put s5 aA23 nA23 cA23 eA23 mA23 kA23
  replace hB := Box.other (g := w10.heap.size) hB (by have := lAB.out; omega) (.bool s5) (.slice aA23 nA23 cA23) (.slice eA23 mA23 kA23)
  replace uA := uA.put hold (.bool s5) (.slice aA23 nA23 cA23) (.slice eA23 mA23 kA23)
  replace vA := vA.put hold (.bool s5) (.slice aA23 nA23 cA23) (.slice eA23 mA23 kA23)
  replace T := put3_below (.bool s5) (.slice aA23 nA23 cA23) (.slice eA23 mA23 kA23) T (show w.heap.size ≤ w10.heap.size by have := lXA.out; omega)
  clear hold
  unfold put3 at T hT hX qx hA hB uA vA
  have ha0 := hX.c0
  have ha1 := hX.c1
  have ha2 := hX.c2
  go_wp2_with fail
  refine ((refReduceN _ qx (Lib.hid rfl)).mono fun _ _ g => resE g R5).mono ?_
  rintro e w25 ⟨aB24, nB24, cB24, eB24, mB24, kB24, rfl, uB, vB, h25⟩
  replace hT := hT.mono h25
  replace hX := hX.mono h25
  replace qx := qx.mono h25
  replace hA := hA.mono h25
  replace hB := hB.mono h25
  replace uA := uA.mono h25
  replace vA := vA.mono h25
  replace T := Add.trans T h25
  clear h25 ha0 ha1 ha2 s0x s1x s2x s3x s4x s5x
  have hold := hB
  have s0x := hB.c0
  have s1x := hB.c1
  have s2x := hB.c2
  have s3x := hB.fr 0
  have s4x := hB.fr 1
  have s5x := hB.fr 2
  replace hT := Tab.put hT hold (.bool s5) (.slice aB24 nB24 cB24) (.slice eB24 mB24 kB24)
  replace hX := Box.other (g := w11.heap.size) hX (by have := lXB.out; omega) (.bool s5) (.slice aB24 nB24 cB24) (.slice eB24 mB24 kB24)
  replace qx := FracA.put qx hold (.bool s5) (.slice aB24 nB24 cB24) (.slice eB24 mB24 kB24)
  replace hA := Box.other (g := w11.heap.size) hA (by have := lAB.out; omega) (.bool s5) (.slice aB24 nB24 cB24) (.slice eB24 mB24 kB24)
  replace hB := hold.put s5 aB24 nB24 cB24 eB24 mB24 kB24
  replace uA := uA.put hold (.bool s5) (.slice aB24 nB24 cB24) (.slice eB24 mB24 kB24)
  replace vA := vA.put hold (.bool s5) (.slice aB24 nB24 cB24) (.slice eB24 mB24 kB24)
  replace uB := uB.put hold (.bool s5) (.slice aB24 nB24 cB24) (.slice eB24 mB24 kB24)
  replace vB := vB.put hold (.bool s5) (.slice aB24 nB24 cB24) (.slice eB24 mB24 kB24)
  replace T := put3_below (.bool s5) (.slice aB24 nB24 cB24) (.slice eB24 mB24 kB24) T (show w.heap.size ≤ w11.heap.size by have := lXB.out; omega)
  clear hold
  unfold put3 at T hT hX qx hA hB uA vA uB vB
  go_wp2_with fail
  obtain ⟨W5, hW5⟩ : ∃ W5, W5 = (((w25.setCell ⟨w11.heap.size, 0, none⟩ (.bool s5)).setCell ⟨w11.heap.size, 1, none⟩ (.slice aB24 nB24 cB24)).setCell ⟨w11.heap.size, 2, none⟩ (.slice eB24 mB24 kB24)) := ⟨_, rfl⟩
  rw [← hW5] at hT hX qx hA hB uA vA uB vB T ⊢
  clear hW5 s0x s1x s2x s3x s4x s5x
  have K0 : Hid (∀ w', Add W5 w' → w'.cell? ⟨w10.heap.size, 0, none⟩ = some (.bool s5) ∧ w'.cell? ⟨w10.heap.size, 1, none⟩ = some (.slice aA23 nA23 cA23) ∧ w'.cell? ⟨w10.heap.size, 2, none⟩ = some (.slice eA23 mA23 kA23) ∧ w'.cell? ⟨w11.heap.size, 0, none⟩ = some (.bool s5) ∧ w'.cell? ⟨w11.heap.size, 1, none⟩ = some (.slice aB24 nB24 cB24) ∧ w'.cell? ⟨w11.heap.size, 2, none⟩ = some (.slice eB24 mB24 kB24) ∧ w'.cell? ⟨w.heap.size, 0, none⟩ = some (.bool b) ∧ w'.cell? ⟨w.heap.size, 1, none⟩ = some (.slice an n cn) ∧ w'.cell? ⟨w.heap.size, 2, none⟩ = some (.slice ad d cd)) := Lib.hid fun w' a => ⟨(hA.mono a).c0, (hA.mono a).c1, (hA.mono a).c2, (hB.mono a).c0, (hB.mono a).c1, (hB.mono a).c2, (hX.mono a).c0, (hX.mono a).c1, (hX.mono a).c2⟩
  have C1 : Hid (∀ w', Add W5 w' → Calls Tryz.prog 22 #[.agg #[.bool s5, .slice aA23 nA23 cA23, .slice eA23 mA23 kA23], .agg #[.bool s5, .slice aB24 nB24 cB24, .slice eB24 mB24 kB24]] w' (BoolIs w' true)) := Lib.hid fun w' a => sameF true (fracT_mk (b := s5) (uA.mono a) (vA.mono a)) (fracT_mk (b := s5) (uB.mono a) (vB.mono a)) (Lib.hid (decide_eq_true rfl))
  have C2 : Hid (∀ w', Add W5 w' → Calls Tryz.prog 31 #[.agg #[.bool b, .slice an n cn, .slice ad d cd]] w' (BoolIs w' ov)) := Lib.hid fun w' a => validN ov (qx.mono a) R7
  have C3 : Hid (∀ w', Add W5 w' → Calls Tryz.prog 32 #[.agg #[.bool b, .slice an n cn, .slice ad d cd]] w' (BoolIs w' ov)) := Lib.hid fun w' a => refValidN ov (qx.mono a) R7
  have C4 : Hid (∀ w', Add W5 w' → Calls Tryz.prog 17 #[] w' (Awake2P w')) := Lib.hid fun w' a => awake2_any w' (hT.mono a)
  have ha0 := hA.c0
  have ha1 := hA.c1
  have ha2 := hA.c2
  have hb0 := hB.c0
  have hb1 := hB.c1
  have hb2 := hB.c2
  have hc0 := hX.c0
  have hc1 := hX.c1
  have hc2 := hX.c2
  clear hT hX qx hA hB uA vA uB vB R5 R6 R7
  go_region_held3 (fun w' => w'.cell? ⟨w10.heap.size, 0, none⟩ = some (.bool s5) ∧ w'.cell? ⟨w10.heap.size, 1, none⟩ = some (.slice aA23 nA23 cA23) ∧ w'.cell? ⟨w10.heap.size, 2, none⟩ = some (.slice eA23 mA23 kA23) ∧ w'.cell? ⟨w11.heap.size, 0, none⟩ = some (.bool s5) ∧ w'.cell? ⟨w11.heap.size, 1, none⟩ = some (.slice aB24 nB24 cB24) ∧ w'.cell? ⟨w11.heap.size, 2, none⟩ = some (.slice eB24 mB24 kB24) ∧ w'.cell? ⟨w.heap.size, 0, none⟩ = some (.bool b) ∧ w'.cell? ⟨w.heap.size, 1, none⟩ = some (.slice an n cn) ∧ w'.cell? ⟨w.heap.size, 2, none⟩ = some (.slice ad d cd))
    (first | exact K0.out _ (Below.drew (Below.refl _ _)) | exact K0.out _ a2 | exact K0.out _ a3 | exact K0.out _ a4 | exact K0.out _ a5 | go_keep)
    (first | (go_at_call 22; ((with_reducible refine (C1.out _ (Below.drew (Below.refl _ _))).mono ?_); rintro e z1 ⟨rfl, hq1⟩; have a2 := Add.trans (Below.drew (Below.refl _ _) : Add W5 (World.drew W5)) hq1))
           | (go_at_call 31; ((with_reducible refine (C2.out _ a2).mono ?_); rintro e z2 ⟨rfl, hq2⟩; have a3 := Add.trans a2 hq2))
           | (go_at_call 32; ((with_reducible refine (C3.out _ a3).mono ?_); rintro e z3 ⟨rfl, hq3⟩; have a4 := Add.trans a3 hq3))
           | (go_at_call 17; ((with_reducible refine (C4.out _ a4).mono ?_); rintro e z4 ⟨rfl, hq4⟩; have a5 := Add.trans a4 hq4)))
  go_wp2_with fail
  go_ret
  exact ⟨rfl, Add.trans T a5⟩

theorem exactF_any {v v' : Value} {b b' : Bool} {xs ys xs' ys' : List Nat} (w : World) (hx : FracI w v b xs ys) (hy : FracI w v' b' xs' ys') (hT : Tab w) : Calls Tryz.prog 3 #[v, v'] w (LawP w) := by
  rcases hl : (longB xs ys || longB xs' ys') with _ | _
  · exact exactF_ok w hx hy hT hl
  · exact exactF_long w hx hy hT hl
end Go.Proofs.YtfoffjnffkgnaaaGreatDoor.ExactF
