/- The law FractionRounds: its walk, for all arguments.
(With the texts that are joined here: ) -/
import Derived.Test.YtiboebgnbnafdaaGreatDoorZG
import Derived.Test.YtiboebgnbnafdaaGreatDoorZF

namespace Go.Proofs.YtiboebgnbnafdaaGreatDoor.RoundsL
open Go.Proofs.YtiboebgnbnafdaaGreatDoor Go.RowKit NatM Go.Proofs.YtiboebgnbnafdaaGreatDoor.Api
theorem Nv.put {w : World} {v : Value} {N g : Nat} {b an n cn ad d cd} (h : Nv w v N) (hB : Box w g b an n cn ad d cd) (u0 u1 u2 : Value) : Nv (put3 w g u0 u1 u2) v N := by
  obtain ⟨zs, h1, h2⟩ := h; exact ⟨zs, h1.put hB u0 u1 u2, h2⟩
theorem FracA.put {w : World} {v : Value} {x : Tri} {g : Nat} {b an n cn ad d cd} (h : FracA w v x) (hB : Box w g b an n cn ad d cd) (u0 u1 u2 : Value) : FracA (put3 w g u0 u1 u2) v x := by
  obtain ⟨an, n, cn, ad, d, cd, h1, h2, h3⟩ := h; exact ⟨an, n, cn, ad, d, cd, h1, Nv.put h2 hB u0 u1 u2, Nv.put h3 hB u0 u1 u2⟩
theorem put3_size (w : World) (g : Nat) (u0 u1 u2 : Value) : (put3 w g u0 u1 u2).heap.size = w.heap.size := by
  unfold put3; simp [World.setCell]
theorem Tab.put {w : World} {g : Nat} {b an n cn ad d cd} (h : Tab w) (hB : Box w g b an n cn ad d cd) (u0 u1 u2 : Value) : Tab (put3 w g u0 u1 u2) := by
  refine ⟨by rw [put3_size]; exact h.1, fun j hj => ?_⟩
  have hk : 2 ≠ g := by
    rintro rfl
    exact hB.not_int _ _ _ (h.2 j hj)
  rw [cell_other (fun k hk => put3_other u0 u1 u2 hk) _ hk]
  exact h.2 j hj
theorem Box.other {w : World} {g k : Nat} {b an n cn ad d cd} (h : Box w k b an n cn ad d cd) (hk : k ≠ g) (u0 u1 u2 : Value) : Box (put3 w g u0 u1 u2) k b an n cn ad d cd := (put3_other u0 u1 u2 hk).trans h
theorem addC {P Q : Rat} {i j : Nat} (h1 : Sz i (can P)) (h2 : Sz j (can Q)) (h : i + j + 1 ≤ 128) : addF (can P) (can Q) = (can (P + Q), 0) ∧ Sz (i + j + 1) (can (P + Q)) := by
  have := add_sz h1 h2 h
  rwa [qv_can, qv_can] at this
theorem mulC {P Q : Rat} {i j : Nat} (h1 : Sz i (can P)) (h2 : Sz j (can Q)) (h : i + j ≤ 128) : mulF (can P) (can Q) = (can (P * Q), 0) ∧ Sz (i + j) (can (P * Q)) := by
  have := mul_sz h1 h2 h
  rwa [qv_can, qv_can] at this
theorem quoC {P Q : Rat} {i j : Nat} (h1 : Sz i (can P)) (h2 : Sz j (can Q)) (h0 : Q ≠ 0) (h : i + j ≤ 128) : quoF (can P) (can Q) = (can (P / Q), 0) ∧ Sz (i + j) (can (P / Q)) := by
  have := quo_sz h1 h2 (fun e => h0 (can_zero_iff.1 e)) h
  rwa [qv_can, qv_can] at this
theorem subC {P Q : Rat} {i j : Nat} (h1 : Sz i (can P)) (h2 : Sz j (can Q)) (h : i + j + 1 ≤ 128) : subF (can P) (can Q) = (can (P - Q), 0) ∧ Sz (i + j + 1) (can (P - Q)) := by
  have hn : Sz j (negF (can Q)) := h2
  have e : qv (negF (can Q)) = -Q := by
    have h3 : qv (negF (can Q)) = -qv (can Q) := frac_not _ _ _
    rw [h3, qv_can]
  have := add_sz h1 hn h
  rw [e, qv_can, ← Rat.sub_eq_add_neg] at this
  exact this
theorem fracA_mk2 {w : World} {b : Bool} {N D k : Nat} {an n cn ad d cd} (h1 : Num w (.slice an n cn) N) (h2 : Num w (.slice ad d cd) D) (s : Sz k (b, N, D)) (hk : k ≤ 128) : FracA w (.agg #[.bool b, .slice an n cn, .slice ad d cd]) (b, N, D) :=
  ⟨an, n, cn, ad, d, cd, rfl, num_nv h1 (lt_up s.2.1 (by omega)), num_nv h2 (lt_up s.2.2 (by omega))⟩
theorem fracT_mk {w : World} {b : Bool} {N D : Nat} {an n cn ad d cd} (h1 : Num w (.slice an n cn) N) (h2 : Num w (.slice ad d cd) D) : FracT w (.agg #[.bool b, .slice an n cn, .slice ad d cd]) (b, N, D) := ⟨an, n, cn, ad, d, cd, rfl, h1, h2⟩
/-- A result of which the parts have names. -/
def ResE (w : World) (s : Bool) (N D c : Nat) (e : Ending) (w' : World) : Prop := ∃ a n k a' n' k', e = .returned (.tuple #[.agg #[.bool s, .slice a n k, .slice a' n' k'], .int .i64 (c : Nat)]) ∧ Num w' (.slice a n k) N ∧ Num w' (.slice a' n' k') D ∧ Add w w'
theorem resE {w : World} {p : Tri × Nat} {s : Bool} {N D c : Nat} {e : Ending} {w' : World} (g : ResF w p e w') (h : Hid (p = ((s, N, D), c))) : ResE w s N D c e w' := by
  obtain ⟨v, he, ⟨a, n, k, a', n', k', rfl, h1, h2⟩, h3⟩ := g
  have e1 := h.out
  subst e1
  exact ⟨a, n, k, a', n', k', he, h1, h2, h3⟩
def CmpE (w : World) (t : Int) (c : Nat) (e : Ending) (w' : World) : Prop := e = .returned (.tuple #[.int .i64 t, .int .i64 (c : Nat)]) ∧ Add w w'
theorem cmpE {w : World} {p : Int × Nat} {t : Int} {c : Nat} {e : Ending} {w' : World} (g : CmpR w p e w') (h : Hid (p = (t, c))) : CmpE w t c e w' := by
  have e1 := h.out
  subst e1
  exact ⟨g.1, g.2⟩

theorem longF1 (t : Bool) {b : Bool} {an n cn ad d cd} {xs ys : List Nat} {w : World} (g : Nat)
    (h1 : Reads w (.slice an n cn) xs) (h2 : Reads w (.slice ad d cd) ys) (hg : w.heap.size = g) (h : Hid (longB xs ys = t)) :
    Calls Tryz.prog 12 #[.slice (some ⟨g, 0, none⟩) 1 1] (w.alloc (.cells #[.bool b, .slice an n cn, .slice ad d cd] 25))
      (Long2P (w.alloc (.cells #[.bool b, .slice an n cn, .slice ad d cd] 25)) t) := by
  subst hg
  refine longF_is t w.heap.size 1 [(.slice an n cn, .slice ad d cd)] _ rfl (by decide) ?_ ?_ ?_
  · intro i hi
    obtain rfl : i = 0 := by omega
    rw [World.cell?_alloc_new, World.cell?_alloc_new]
    exact ⟨rfl, rfl⟩
  · intro i hi
    obtain rfl : i = 0 := by omega
    exact ⟨h1.isSlice, h2.isSlice⟩
  · rw [← h.out]
    simp only [List.any_cons, List.any_nil, Bool.or_false, tooLong, longB, h1.lenV, h2.lenV]

set_option maxRecDepth 100000 in
set_option maxHeartbeats 20000000 in
theorem rounds_long {v : Value} {b : Bool} {xs ys : List Nat} {z : Int} (w : World) (hx : FracI w v b xs ys) (hT : Tab w) (hl : longB xs ys = true) : Calls Tryz.prog 3 #[v, .int .i64 z] w (LawP w) := by
  obtain ⟨an, n, cn, ad, d, cd, rfl, i0, j0⟩ := hx
  obtain ⟨T, hX⟩ := start1 w b an n cn ad d cd
  obtain ⟨W0, hW0⟩ : ∃ W0, W0 = (w.alloc (.cells #[.bool b, .slice an n cn, .slice ad d cd] 25)) := ⟨_, rfl⟩
  rw [← hW0] at T hX
  have hX0 := hX
  have CL := Lib.hid (longF1 true (b := b) (w := W0) (w.heap.size + 1) (i0.mono T) (j0.mono T) (by rw [hW0]; simp) (Lib.hid hl))
  have TL : Add W0 (W0.alloc (.cells #[.bool b, .slice an n cn, .slice ad d cd] 25)) := add_new _ _
  replace hX := hX.mono TL
  replace hT := (hT.mono T).mono TL
  replace T := Add.trans T TL
  have ha0 := hX0.c0
  have ha1 := hX0.c1
  have ha2 := hX0.c2
  rw [hW0] at ha0 ha1 ha2
  go_enter Tryz.func3, Tryz.ntmps3
  go_wp2_with fail
  rw [← hW0]
  refine CL.out.mono ?_
  rintro e w9 ⟨rfl, rfl⟩
  clear CL TL hW0 hl ha0 ha1 ha2 hX0 hX i0 j0
  go_wp2_with fail
  refine (awake2_any _ hT).mono ?_
  rintro e w9 ⟨rfl, h9⟩
  replace T := Add.trans T h9
  clear h9 hT
  go_wp2_with fail
  go_ret
  exact ⟨rfl, T⟩

set_option maxRecDepth 100000 in
set_option maxHeartbeats 20000000 in
theorem rounds_bad {v : Value} {b : Bool} {xs ys : List Nat} {z : Int} (w : World) (hx : FracI w v b xs ys) (hT : Tab w) (hl : longB xs ys = false) (h : okF (b, val xs, val ys) = false) : Calls Tryz.prog 3 #[v, .int .i64 z] w (LawP w) := by
  obtain ⟨an, n, cn, ad, d, cd, rfl, i0, j0⟩ := hx
  obtain ⟨T, hX⟩ := start1 w b an n cn ad d cd
  obtain ⟨W0, hW0⟩ : ∃ W0, W0 = (w.alloc (.cells #[.bool b, .slice an n cn, .slice ad d cd] 25)) := ⟨_, rfl⟩
  rw [← hW0] at T hX
  have hX0 := hX
  have CL := Lib.hid (longF1 false (b := b) (w := W0) (w.heap.size + 1) (i0.mono T) (j0.mono T) (by rw [hW0]; simp) (Lib.hid hl))
  have TL : Add W0 (W0.alloc (.cells #[.bool b, .slice an n cn, .slice ad d cd] 25)) := add_new _ _
  replace hX := hX.mono TL
  replace hT := (hT.mono T).mono TL
  replace T := Add.trans T TL
  have ha0 := hX0.c0
  have ha1 := hX0.c1
  have ha2 := hX0.c2
  rw [hW0] at ha0 ha1 ha2
  have hl0 := hl
  have qx : FracA _ (.agg #[.bool b, .slice an n cn, .slice ad d cd]) (b, val xs, val ys) := (FracI.arg (w := w) ⟨an, n, cn, ad, d, cd, rfl, i0, j0⟩ hl0).mono T
  obtain ⟨x, ex⟩ : ∃ x : Tri, (b, val xs, val ys) = x := ⟨_, rfl⟩
  rw [ex] at qx
  rw [ex] at h
  obtain ⟨c, hc⟩ : ∃ c : Nat, c = 1 := ⟨_, rfl⟩
  have hR : ∀ a, roundF x z a = ((false, 0, 0), c) := fun a => by rw [hc]; exact roundF_bad h
  have hcz := nzi (show c ≠ 0 by omega)
  obtain ⟨s1, N1, D1, h01, hR1⟩ : ∃ s N D, (s, N, D) = (false, 0, 0) ∧ roundF x z x.1 = ((s, N, D), c) := ⟨_, _, _, rfl, hR _⟩
  obtain ⟨s2, N2, D2, h02, hR2⟩ : ∃ s N D, (s, N, D) = (false, 0, 0) ∧ roundF x z (!x.1) = ((s, N, D), c) := ⟨_, _, _, rfl, hR _⟩
  have R1 := Lib.hid hR1
  have R2 := Lib.hid hR2
  have OK := Lib.hid h
  clear h
  clear ex hl0 i0 j0 hR hR1 hR2 hc h01 h02
  go_enter Tryz.func3, Tryz.ntmps3
  go_wp2_with fail
  rw [← hW0]
  refine CL.out.mono ?_
  rintro e w9 ⟨rfl, rfl⟩
  clear CL TL hW0 hl ha0 ha1 ha2 hX0 
  have ha0 := hX.c0
  have ha1 := hX.c1
  have ha2 := hX.c2
  go_wp2_with fail
  refine ((floorN _ qx hT (Lib.hid rfl)).mono fun _ _ g => resE g R1).mono ?_
  rintro e w10 ⟨aA, nA, cA, eA, mA, kA, rfl, uA, vA, h10⟩
  replace hT := hT.mono h10
  replace hX := hX.mono h10
  replace qx := qx.mono h10
  replace T := Add.trans T h10
  clear h10 ha0 ha1 ha2
  obtain ⟨tt, hA⟩ := laid_var w10 s1 aA nA cA eA mA kA
  replace hT := hT.mono tt
  replace hX := hX.mono tt
  replace qx := qx.mono tt
  replace uA := uA.mono tt
  replace vA := vA.mono tt
  replace T := Add.trans T tt
  clear tt
  have ha0 := hX.c0
  have ha1 := hX.c1
  have ha2 := hX.c2
  go_wp2_with fail
  refine ((refFloorN _ qx (Lib.hid rfl)).mono fun _ _ g => resE g R1).mono ?_
  rintro e w11 ⟨aB, nB, cB, eB, mB, kB, rfl, uB, vB, h11⟩
  replace hT := hT.mono h11
  replace hX := hX.mono h11
  replace qx := qx.mono h11
  replace uA := uA.mono h11
  replace vA := vA.mono h11
  replace hA := hA.mono h11
  replace T := Add.trans T h11
  clear h11 ha0 ha1 ha2
  obtain ⟨tt, hB⟩ := laid_var w11 s1 aB nB cB eB mB kB
  replace hT := hT.mono tt
  replace hX := hX.mono tt
  replace qx := qx.mono tt
  replace uA := uA.mono tt
  replace vA := vA.mono tt
  replace hA := hA.mono tt
  replace uB := uB.mono tt
  replace vB := vB.mono tt
  replace T := Add.trans T tt
  clear tt
  have ha0 := hX.c0
  have ha1 := hX.c1
  have ha2 := hX.c2
  go_wp2_with fail
  refine ((ceilN _ qx hT (Lib.hid rfl)).mono fun _ _ g => resE g R2).mono ?_
  rintro e w12 ⟨aC, nC, cC, eC, mC, kC, rfl, uC, vC, h12⟩
  replace hT := hT.mono h12
  replace hX := hX.mono h12
  replace qx := qx.mono h12
  replace uA := uA.mono h12
  replace vA := vA.mono h12
  replace hA := hA.mono h12
  replace uB := uB.mono h12
  replace vB := vB.mono h12
  replace hB := hB.mono h12
  replace T := Add.trans T h12
  clear h12 ha0 ha1 ha2
  obtain ⟨tt, hC⟩ := laid_var w12 s2 aC nC cC eC mC kC
  replace hT := hT.mono tt
  replace hX := hX.mono tt
  replace qx := qx.mono tt
  replace uA := uA.mono tt
  replace vA := vA.mono tt
  replace hA := hA.mono tt
  replace uB := uB.mono tt
  replace vB := vB.mono tt
  replace hB := hB.mono tt
  replace uC := uC.mono tt
  replace vC := vC.mono tt
  replace T := Add.trans T tt
  clear tt
  have ha0 := hX.c0
  have ha1 := hX.c1
  have ha2 := hX.c2
  go_wp2_with fail
  refine ((refCeilN _ qx (Lib.hid rfl)).mono fun _ _ g => resE g R2).mono ?_
  rintro e w13 ⟨aD, nD, cD, eD, mD, kD, rfl, uD, vD, h13⟩
  replace hT := hT.mono h13
  replace hX := hX.mono h13
  replace qx := qx.mono h13
  replace uA := uA.mono h13
  replace vA := vA.mono h13
  replace hA := hA.mono h13
  replace uB := uB.mono h13
  replace vB := vB.mono h13
  replace hB := hB.mono h13
  replace uC := uC.mono h13
  replace vC := vC.mono h13
  replace hC := hC.mono h13
  replace T := Add.trans T h13
  clear h13 ha0 ha1 ha2
  obtain ⟨tt, hD⟩ := laid_var w13 s2 aD nD cD eD mD kD
  replace hT := hT.mono tt
  replace hX := hX.mono tt
  replace qx := qx.mono tt
  replace uA := uA.mono tt
  replace vA := vA.mono tt
  replace hA := hA.mono tt
  replace uB := uB.mono tt
  replace vB := vB.mono tt
  replace hB := hB.mono tt
  replace uC := uC.mono tt
  replace vC := vC.mono tt
  replace hC := hC.mono tt
  replace uD := uD.mono tt
  replace vD := vD.mono tt
  replace T := Add.trans T tt
  clear tt
  have ha0 := hA.c0
  have ha1 := hA.c1
  have ha2 := hA.c2
  have hb0 := hB.c0
  have hb1 := hB.c1
  have hb2 := hB.c2
  go_wp2_with fail
  refine (sameF true (fracT_mk (b := s1) uA vA) (fracT_mk (b := s1) uB vB) (Lib.hid (decide_eq_true rfl))).mono ?_
  rintro e w14 ⟨rfl, h14⟩
  replace hT := hT.mono h14
  replace hX := hX.mono h14
  replace qx := qx.mono h14
  replace uA := uA.mono h14
  replace vA := vA.mono h14
  replace hA := hA.mono h14
  replace uB := uB.mono h14
  replace vB := vB.mono h14
  replace hB := hB.mono h14
  replace uC := uC.mono h14
  replace vC := vC.mono h14
  replace hC := hC.mono h14
  replace uD := uD.mono h14
  replace vD := vD.mono h14
  replace hD := hD.mono h14
  replace T := Add.trans T h14
  clear h14 ha0 ha1 ha2 hb0 hb1 hb2
  clear hB uB vB
  have ha0 := hC.c0
  have ha1 := hC.c1
  have ha2 := hC.c2
  have hb0 := hD.c0
  have hb1 := hD.c1
  have hb2 := hD.c2
  go_wp2_with fail
  refine (sameF true (fracT_mk (b := s2) uC vC) (fracT_mk (b := s2) uD vD) (Lib.hid (decide_eq_true rfl))).mono ?_
  rintro e w15 ⟨rfl, h15⟩
  replace hT := hT.mono h15
  replace hX := hX.mono h15
  replace qx := qx.mono h15
  replace uA := uA.mono h15
  replace vA := vA.mono h15
  replace hA := hA.mono h15
  replace uC := uC.mono h15
  replace vC := vC.mono h15
  replace hC := hC.mono h15
  replace uD := uD.mono h15
  replace vD := vD.mono h15
  replace hD := hD.mono h15
  replace T := Add.trans T h15
  clear h15 ha0 ha1 ha2 hb0 hb1 hb2
  clear hD uD vD
  clear hA uA vA hC uC vC
  clear R1 R2
  have ha0 := hX.c0
  have ha1 := hX.c1
  have ha2 := hX.c2
  go_wp2_with fail
  refine (refValidN false qx OK).mono ?_
  rintro e w16 ⟨rfl, h16⟩
  replace hT := hT.mono h16
  replace hX := hX.mono h16
  replace qx := qx.mono h16
  replace T := Add.trans T h16
  clear h16 ha0 ha1 ha2
  clear hX qx
  go_wp2_with fail
  refine (awake2_any _ hT).mono ?_
  rintro e w17 ⟨rfl, h17⟩
  replace hT := hT.mono h17
  replace T := Add.trans T h17
  clear h17 
  go_wp2_with fail
  go_ret
  exact ⟨rfl, T⟩

set_option maxRecDepth 100000 in
set_option maxHeartbeats 20000000 in
theorem rounds_low {v : Value} {b : Bool} {xs ys : List Nat} {z : Int} (w : World) (hx : FracI w v b xs ys) (hT : Tab w) (hl : longB xs ys = false) (h : okF (b, val xs, val ys) = true) (hz : z < 0) : Calls Tryz.prog 3 #[v, .int .i64 z] w (LawP w) := by
  obtain ⟨an, n, cn, ad, d, cd, rfl, i0, j0⟩ := hx
  obtain ⟨T, hX⟩ := start1 w b an n cn ad d cd
  obtain ⟨W0, hW0⟩ : ∃ W0, W0 = (w.alloc (.cells #[.bool b, .slice an n cn, .slice ad d cd] 25)) := ⟨_, rfl⟩
  rw [← hW0] at T hX
  have hX0 := hX
  have CL := Lib.hid (longF1 false (b := b) (w := W0) (w.heap.size + 1) (i0.mono T) (j0.mono T) (by rw [hW0]; simp) (Lib.hid hl))
  have TL : Add W0 (W0.alloc (.cells #[.bool b, .slice an n cn, .slice ad d cd] 25)) := add_new _ _
  replace hX := hX.mono TL
  replace hT := (hT.mono T).mono TL
  replace T := Add.trans T TL
  have ha0 := hX0.c0
  have ha1 := hX0.c1
  have ha2 := hX0.c2
  rw [hW0] at ha0 ha1 ha2
  have hl0 := hl
  have qx : FracA _ (.agg #[.bool b, .slice an n cn, .slice ad d cd]) (b, val xs, val ys) := (FracI.arg (w := w) ⟨an, n, cn, ad, d, cd, rfl, i0, j0⟩ hl0).mono T
  obtain ⟨x, ex⟩ : ∃ x : Tri, (b, val xs, val ys) = x := ⟨_, rfl⟩
  rw [ex] at qx
  rw [ex] at h
  obtain ⟨c, hc⟩ : ∃ c : Nat, c = 5 := ⟨_, rfl⟩
  have hR : ∀ a, roundF x z a = ((false, 0, 0), c) := fun a => by rw [hc]; exact roundF_range h (.inl hz)
  have hcz := nzi (show c ≠ 0 by omega)
  obtain ⟨s1, N1, D1, h01, hR1⟩ : ∃ s N D, (s, N, D) = (false, 0, 0) ∧ roundF x z x.1 = ((s, N, D), c) := ⟨_, _, _, rfl, hR _⟩
  obtain ⟨s2, N2, D2, h02, hR2⟩ : ∃ s N D, (s, N, D) = (false, 0, 0) ∧ roundF x z (!x.1) = ((s, N, D), c) := ⟨_, _, _, rfl, hR _⟩
  have R1 := Lib.hid hR1
  have R2 := Lib.hid hR2
  have OK := Lib.hid h
  have d1 : decide (z < 0) = true := decide_eq_true hz
  clear h hz
  clear ex hl0 i0 j0 hR hR1 hR2 hc h01 h02
  go_enter Tryz.func3, Tryz.ntmps3
  go_wp2_with fail
  rw [← hW0]
  refine CL.out.mono ?_
  rintro e w9 ⟨rfl, rfl⟩
  clear CL TL hW0 hl ha0 ha1 ha2 hX0 
  have ha0 := hX.c0
  have ha1 := hX.c1
  have ha2 := hX.c2
  go_wp2_with fail
  refine ((floorN _ qx hT (Lib.hid rfl)).mono fun _ _ g => resE g R1).mono ?_
  rintro e w10 ⟨aA, nA, cA, eA, mA, kA, rfl, uA, vA, h10⟩
  replace hT := hT.mono h10
  replace hX := hX.mono h10
  replace qx := qx.mono h10
  replace T := Add.trans T h10
  clear h10 ha0 ha1 ha2
  obtain ⟨tt, hA⟩ := laid_var w10 s1 aA nA cA eA mA kA
  replace hT := hT.mono tt
  replace hX := hX.mono tt
  replace qx := qx.mono tt
  replace uA := uA.mono tt
  replace vA := vA.mono tt
  replace T := Add.trans T tt
  clear tt
  have ha0 := hX.c0
  have ha1 := hX.c1
  have ha2 := hX.c2
  go_wp2_with fail
  refine ((refFloorN _ qx (Lib.hid rfl)).mono fun _ _ g => resE g R1).mono ?_
  rintro e w11 ⟨aB, nB, cB, eB, mB, kB, rfl, uB, vB, h11⟩
  replace hT := hT.mono h11
  replace hX := hX.mono h11
  replace qx := qx.mono h11
  replace uA := uA.mono h11
  replace vA := vA.mono h11
  replace hA := hA.mono h11
  replace T := Add.trans T h11
  clear h11 ha0 ha1 ha2
  obtain ⟨tt, hB⟩ := laid_var w11 s1 aB nB cB eB mB kB
  replace hT := hT.mono tt
  replace hX := hX.mono tt
  replace qx := qx.mono tt
  replace uA := uA.mono tt
  replace vA := vA.mono tt
  replace hA := hA.mono tt
  replace uB := uB.mono tt
  replace vB := vB.mono tt
  replace T := Add.trans T tt
  clear tt
  have ha0 := hX.c0
  have ha1 := hX.c1
  have ha2 := hX.c2
  go_wp2_with fail
  refine ((ceilN _ qx hT (Lib.hid rfl)).mono fun _ _ g => resE g R2).mono ?_
  rintro e w12 ⟨aC, nC, cC, eC, mC, kC, rfl, uC, vC, h12⟩
  replace hT := hT.mono h12
  replace hX := hX.mono h12
  replace qx := qx.mono h12
  replace uA := uA.mono h12
  replace vA := vA.mono h12
  replace hA := hA.mono h12
  replace uB := uB.mono h12
  replace vB := vB.mono h12
  replace hB := hB.mono h12
  replace T := Add.trans T h12
  clear h12 ha0 ha1 ha2
  obtain ⟨tt, hC⟩ := laid_var w12 s2 aC nC cC eC mC kC
  replace hT := hT.mono tt
  replace hX := hX.mono tt
  replace qx := qx.mono tt
  replace uA := uA.mono tt
  replace vA := vA.mono tt
  replace hA := hA.mono tt
  replace uB := uB.mono tt
  replace vB := vB.mono tt
  replace hB := hB.mono tt
  replace uC := uC.mono tt
  replace vC := vC.mono tt
  replace T := Add.trans T tt
  clear tt
  have ha0 := hX.c0
  have ha1 := hX.c1
  have ha2 := hX.c2
  go_wp2_with fail
  refine ((refCeilN _ qx (Lib.hid rfl)).mono fun _ _ g => resE g R2).mono ?_
  rintro e w13 ⟨aD, nD, cD, eD, mD, kD, rfl, uD, vD, h13⟩
  replace hT := hT.mono h13
  replace hX := hX.mono h13
  replace qx := qx.mono h13
  replace uA := uA.mono h13
  replace vA := vA.mono h13
  replace hA := hA.mono h13
  replace uB := uB.mono h13
  replace vB := vB.mono h13
  replace hB := hB.mono h13
  replace uC := uC.mono h13
  replace vC := vC.mono h13
  replace hC := hC.mono h13
  replace T := Add.trans T h13
  clear h13 ha0 ha1 ha2
  obtain ⟨tt, hD⟩ := laid_var w13 s2 aD nD cD eD mD kD
  replace hT := hT.mono tt
  replace hX := hX.mono tt
  replace qx := qx.mono tt
  replace uA := uA.mono tt
  replace vA := vA.mono tt
  replace hA := hA.mono tt
  replace uB := uB.mono tt
  replace vB := vB.mono tt
  replace hB := hB.mono tt
  replace uC := uC.mono tt
  replace vC := vC.mono tt
  replace hC := hC.mono tt
  replace uD := uD.mono tt
  replace vD := vD.mono tt
  replace T := Add.trans T tt
  clear tt
  have ha0 := hA.c0
  have ha1 := hA.c1
  have ha2 := hA.c2
  have hb0 := hB.c0
  have hb1 := hB.c1
  have hb2 := hB.c2
  go_wp2_with fail
  refine (sameF true (fracT_mk (b := s1) uA vA) (fracT_mk (b := s1) uB vB) (Lib.hid (decide_eq_true rfl))).mono ?_
  rintro e w14 ⟨rfl, h14⟩
  replace hT := hT.mono h14
  replace hX := hX.mono h14
  replace qx := qx.mono h14
  replace uA := uA.mono h14
  replace vA := vA.mono h14
  replace hA := hA.mono h14
  replace uB := uB.mono h14
  replace vB := vB.mono h14
  replace hB := hB.mono h14
  replace uC := uC.mono h14
  replace vC := vC.mono h14
  replace hC := hC.mono h14
  replace uD := uD.mono h14
  replace vD := vD.mono h14
  replace hD := hD.mono h14
  replace T := Add.trans T h14
  clear h14 ha0 ha1 ha2 hb0 hb1 hb2
  clear hB uB vB
  have ha0 := hC.c0
  have ha1 := hC.c1
  have ha2 := hC.c2
  have hb0 := hD.c0
  have hb1 := hD.c1
  have hb2 := hD.c2
  go_wp2_with fail
  refine (sameF true (fracT_mk (b := s2) uC vC) (fracT_mk (b := s2) uD vD) (Lib.hid (decide_eq_true rfl))).mono ?_
  rintro e w15 ⟨rfl, h15⟩
  replace hT := hT.mono h15
  replace hX := hX.mono h15
  replace qx := qx.mono h15
  replace uA := uA.mono h15
  replace vA := vA.mono h15
  replace hA := hA.mono h15
  replace uC := uC.mono h15
  replace vC := vC.mono h15
  replace hC := hC.mono h15
  replace uD := uD.mono h15
  replace vD := vD.mono h15
  replace hD := hD.mono h15
  replace T := Add.trans T h15
  clear h15 ha0 ha1 ha2 hb0 hb1 hb2
  clear hD uD vD
  clear hA uA vA hC uC vC
  clear R1 R2
  have ha0 := hX.c0
  have ha1 := hX.c1
  have ha2 := hX.c2
  go_wp2_with fail
  refine (refValidN true qx OK).mono ?_
  rintro e w16 ⟨rfl, h16⟩
  replace hT := hT.mono h16
  replace hX := hX.mono h16
  replace qx := qx.mono h16
  replace T := Add.trans T h16
  clear h16 ha0 ha1 ha2
  clear hX qx
  go_wp2_with fail
  refine (awake2_any _ hT).mono ?_
  rintro e w17 ⟨rfl, h17⟩
  replace hT := hT.mono h17
  replace T := Add.trans T h17
  clear h17 
  go_wp2_with fail
  go_ret
  exact ⟨rfl, T⟩

set_option maxRecDepth 100000 in
set_option maxHeartbeats 20000000 in
theorem rounds_high {v : Value} {b : Bool} {xs ys : List Nat} {z : Int} (w : World) (hx : FracI w v b xs ys) (hT : Tab w) (hl : longB xs ys = false) (h : okF (b, val xs, val ys) = true) (hz : ¬ z < 0) (hz2 : 256 < z) : Calls Tryz.prog 3 #[v, .int .i64 z] w (LawP w) := by
  obtain ⟨an, n, cn, ad, d, cd, rfl, i0, j0⟩ := hx
  obtain ⟨T, hX⟩ := start1 w b an n cn ad d cd
  obtain ⟨W0, hW0⟩ : ∃ W0, W0 = (w.alloc (.cells #[.bool b, .slice an n cn, .slice ad d cd] 25)) := ⟨_, rfl⟩
  rw [← hW0] at T hX
  have hX0 := hX
  have CL := Lib.hid (longF1 false (b := b) (w := W0) (w.heap.size + 1) (i0.mono T) (j0.mono T) (by rw [hW0]; simp) (Lib.hid hl))
  have TL : Add W0 (W0.alloc (.cells #[.bool b, .slice an n cn, .slice ad d cd] 25)) := add_new _ _
  replace hX := hX.mono TL
  replace hT := (hT.mono T).mono TL
  replace T := Add.trans T TL
  have ha0 := hX0.c0
  have ha1 := hX0.c1
  have ha2 := hX0.c2
  rw [hW0] at ha0 ha1 ha2
  have hl0 := hl
  have qx : FracA _ (.agg #[.bool b, .slice an n cn, .slice ad d cd]) (b, val xs, val ys) := (FracI.arg (w := w) ⟨an, n, cn, ad, d, cd, rfl, i0, j0⟩ hl0).mono T
  obtain ⟨x, ex⟩ : ∃ x : Tri, (b, val xs, val ys) = x := ⟨_, rfl⟩
  rw [ex] at qx
  rw [ex] at h
  obtain ⟨c, hc⟩ : ∃ c : Nat, c = 5 := ⟨_, rfl⟩
  have hR : ∀ a, roundF x z a = ((false, 0, 0), c) := fun a => by rw [hc]; exact roundF_range h (.inr hz2)
  have hcz := nzi (show c ≠ 0 by omega)
  obtain ⟨s1, N1, D1, h01, hR1⟩ : ∃ s N D, (s, N, D) = (false, 0, 0) ∧ roundF x z x.1 = ((s, N, D), c) := ⟨_, _, _, rfl, hR _⟩
  obtain ⟨s2, N2, D2, h02, hR2⟩ : ∃ s N D, (s, N, D) = (false, 0, 0) ∧ roundF x z (!x.1) = ((s, N, D), c) := ⟨_, _, _, rfl, hR _⟩
  have R1 := Lib.hid hR1
  have R2 := Lib.hid hR2
  have OK := Lib.hid h
  have d1 : decide (z < 0) = false := decide_eq_false hz
  have d2 : decide (256 < z) = true := decide_eq_true hz2
  clear h hz hz2
  clear ex hl0 i0 j0 hR hR1 hR2 hc h01 h02
  go_enter Tryz.func3, Tryz.ntmps3
  go_wp2_with fail
  rw [← hW0]
  refine CL.out.mono ?_
  rintro e w9 ⟨rfl, rfl⟩
  clear CL TL hW0 hl ha0 ha1 ha2 hX0 
  have ha0 := hX.c0
  have ha1 := hX.c1
  have ha2 := hX.c2
  go_wp2_with fail
  refine ((floorN _ qx hT (Lib.hid rfl)).mono fun _ _ g => resE g R1).mono ?_
  rintro e w10 ⟨aA, nA, cA, eA, mA, kA, rfl, uA, vA, h10⟩
  replace hT := hT.mono h10
  replace hX := hX.mono h10
  replace qx := qx.mono h10
  replace T := Add.trans T h10
  clear h10 ha0 ha1 ha2
  obtain ⟨tt, hA⟩ := laid_var w10 s1 aA nA cA eA mA kA
  replace hT := hT.mono tt
  replace hX := hX.mono tt
  replace qx := qx.mono tt
  replace uA := uA.mono tt
  replace vA := vA.mono tt
  replace T := Add.trans T tt
  clear tt
  have ha0 := hX.c0
  have ha1 := hX.c1
  have ha2 := hX.c2
  go_wp2_with fail
  refine ((refFloorN _ qx (Lib.hid rfl)).mono fun _ _ g => resE g R1).mono ?_
  rintro e w11 ⟨aB, nB, cB, eB, mB, kB, rfl, uB, vB, h11⟩
  replace hT := hT.mono h11
  replace hX := hX.mono h11
  replace qx := qx.mono h11
  replace uA := uA.mono h11
  replace vA := vA.mono h11
  replace hA := hA.mono h11
  replace T := Add.trans T h11
  clear h11 ha0 ha1 ha2
  obtain ⟨tt, hB⟩ := laid_var w11 s1 aB nB cB eB mB kB
  replace hT := hT.mono tt
  replace hX := hX.mono tt
  replace qx := qx.mono tt
  replace uA := uA.mono tt
  replace vA := vA.mono tt
  replace hA := hA.mono tt
  replace uB := uB.mono tt
  replace vB := vB.mono tt
  replace T := Add.trans T tt
  clear tt
  have ha0 := hX.c0
  have ha1 := hX.c1
  have ha2 := hX.c2
  go_wp2_with fail
  refine ((ceilN _ qx hT (Lib.hid rfl)).mono fun _ _ g => resE g R2).mono ?_
  rintro e w12 ⟨aC, nC, cC, eC, mC, kC, rfl, uC, vC, h12⟩
  replace hT := hT.mono h12
  replace hX := hX.mono h12
  replace qx := qx.mono h12
  replace uA := uA.mono h12
  replace vA := vA.mono h12
  replace hA := hA.mono h12
  replace uB := uB.mono h12
  replace vB := vB.mono h12
  replace hB := hB.mono h12
  replace T := Add.trans T h12
  clear h12 ha0 ha1 ha2
  obtain ⟨tt, hC⟩ := laid_var w12 s2 aC nC cC eC mC kC
  replace hT := hT.mono tt
  replace hX := hX.mono tt
  replace qx := qx.mono tt
  replace uA := uA.mono tt
  replace vA := vA.mono tt
  replace hA := hA.mono tt
  replace uB := uB.mono tt
  replace vB := vB.mono tt
  replace hB := hB.mono tt
  replace uC := uC.mono tt
  replace vC := vC.mono tt
  replace T := Add.trans T tt
  clear tt
  have ha0 := hX.c0
  have ha1 := hX.c1
  have ha2 := hX.c2
  go_wp2_with fail
  refine ((refCeilN _ qx (Lib.hid rfl)).mono fun _ _ g => resE g R2).mono ?_
  rintro e w13 ⟨aD, nD, cD, eD, mD, kD, rfl, uD, vD, h13⟩
  replace hT := hT.mono h13
  replace hX := hX.mono h13
  replace qx := qx.mono h13
  replace uA := uA.mono h13
  replace vA := vA.mono h13
  replace hA := hA.mono h13
  replace uB := uB.mono h13
  replace vB := vB.mono h13
  replace hB := hB.mono h13
  replace uC := uC.mono h13
  replace vC := vC.mono h13
  replace hC := hC.mono h13
  replace T := Add.trans T h13
  clear h13 ha0 ha1 ha2
  obtain ⟨tt, hD⟩ := laid_var w13 s2 aD nD cD eD mD kD
  replace hT := hT.mono tt
  replace hX := hX.mono tt
  replace qx := qx.mono tt
  replace uA := uA.mono tt
  replace vA := vA.mono tt
  replace hA := hA.mono tt
  replace uB := uB.mono tt
  replace vB := vB.mono tt
  replace hB := hB.mono tt
  replace uC := uC.mono tt
  replace vC := vC.mono tt
  replace hC := hC.mono tt
  replace uD := uD.mono tt
  replace vD := vD.mono tt
  replace T := Add.trans T tt
  clear tt
  have ha0 := hA.c0
  have ha1 := hA.c1
  have ha2 := hA.c2
  have hb0 := hB.c0
  have hb1 := hB.c1
  have hb2 := hB.c2
  go_wp2_with fail
  refine (sameF true (fracT_mk (b := s1) uA vA) (fracT_mk (b := s1) uB vB) (Lib.hid (decide_eq_true rfl))).mono ?_
  rintro e w14 ⟨rfl, h14⟩
  replace hT := hT.mono h14
  replace hX := hX.mono h14
  replace qx := qx.mono h14
  replace uA := uA.mono h14
  replace vA := vA.mono h14
  replace hA := hA.mono h14
  replace uB := uB.mono h14
  replace vB := vB.mono h14
  replace hB := hB.mono h14
  replace uC := uC.mono h14
  replace vC := vC.mono h14
  replace hC := hC.mono h14
  replace uD := uD.mono h14
  replace vD := vD.mono h14
  replace hD := hD.mono h14
  replace T := Add.trans T h14
  clear h14 ha0 ha1 ha2 hb0 hb1 hb2
  clear hB uB vB
  have ha0 := hC.c0
  have ha1 := hC.c1
  have ha2 := hC.c2
  have hb0 := hD.c0
  have hb1 := hD.c1
  have hb2 := hD.c2
  go_wp2_with fail
  refine (sameF true (fracT_mk (b := s2) uC vC) (fracT_mk (b := s2) uD vD) (Lib.hid (decide_eq_true rfl))).mono ?_
  rintro e w15 ⟨rfl, h15⟩
  replace hT := hT.mono h15
  replace hX := hX.mono h15
  replace qx := qx.mono h15
  replace uA := uA.mono h15
  replace vA := vA.mono h15
  replace hA := hA.mono h15
  replace uC := uC.mono h15
  replace vC := vC.mono h15
  replace hC := hC.mono h15
  replace uD := uD.mono h15
  replace vD := vD.mono h15
  replace hD := hD.mono h15
  replace T := Add.trans T h15
  clear h15 ha0 ha1 ha2 hb0 hb1 hb2
  clear hD uD vD
  clear hA uA vA hC uC vC
  clear R1 R2
  have ha0 := hX.c0
  have ha1 := hX.c1
  have ha2 := hX.c2
  go_wp2_with fail
  refine (refValidN true qx OK).mono ?_
  rintro e w16 ⟨rfl, h16⟩
  replace hT := hT.mono h16
  replace hX := hX.mono h16
  replace qx := qx.mono h16
  replace T := Add.trans T h16
  clear h16 ha0 ha1 ha2
  clear hX qx
  go_wp2_with fail
  refine (awake2_any _ hT).mono ?_
  rintro e w17 ⟨rfl, h17⟩
  replace hT := hT.mono h17
  replace T := Add.trans T h17
  clear h17 
  go_wp2_with fail
  go_ret
  exact ⟨rfl, T⟩

set_option maxRecDepth 100000 in
set_option maxHeartbeats 20000000 in
theorem rounds_ok {v : Value} {b : Bool} {xs ys : List Nat} (k : Nat) (w : World) (hx : FracI w v b xs ys) (hT : Tab w) (hl : longB xs ys = false) (h : okF (b, val xs, val ys) = true) (hk : k ≤ 256) : Calls Tryz.prog 3 #[v, .int .i64 (k : Nat)] w (LawP w) := by
  obtain ⟨an, n, cn, ad, d, cd, rfl, i0, j0⟩ := hx
  obtain ⟨T, hX⟩ := start1 w b an n cn ad d cd
  obtain ⟨W0, hW0⟩ : ∃ W0, W0 = (w.alloc (.cells #[.bool b, .slice an n cn, .slice ad d cd] 25)) := ⟨_, rfl⟩
  rw [← hW0] at T hX
  have hX0 := hX
  have CL := Lib.hid (longF1 false (b := b) (w := W0) (w.heap.size + 1) (i0.mono T) (j0.mono T) (by rw [hW0]; simp) (Lib.hid hl))
  have TL : Add W0 (W0.alloc (.cells #[.bool b, .slice an n cn, .slice ad d cd] 25)) := add_new _ _
  replace hX := hX.mono TL
  replace hT := (hT.mono T).mono TL
  replace T := Add.trans T TL
  have ha0 := hX0.c0
  have ha1 := hX0.c1
  have ha2 := hX0.c2
  rw [hW0] at ha0 ha1 ha2
  have hl0 := hl
  have qx : FracA _ (.agg #[.bool b, .slice an n cn, .slice ad d cd]) (b, val xs, val ys) := (FracI.arg (w := w) ⟨an, n, cn, ad, d, cd, rfl, i0, j0⟩ hl0).mono T
  obtain ⟨x, ex⟩ : ∃ x : Tri, (b, val xs, val ys) = x := ⟨_, rfl⟩
  rw [ex] at qx
  rw [ex] at h
  obtain ⟨l1, l2⟩ := FracI.small i0.limbs j0.limbs hl0
  have sx : Sz 24 x := by
    obtain ⟨g1, -, -⟩ := okF_iff.1 h
    subst ex
    exact ⟨g1, l1, l2⟩
  have k0 : (0 : Int) ≤ (k : Nat) := by omega
  have k1 : ((k : Nat) : Int) ≤ 256 := by omega
  obtain ⟨r1, z1⟩ := round_sz (z := (k : Nat)) (away := x.1) sx k0 k1
  obtain ⟨r2, z2⟩ := round_sz (z := (k : Nat)) (away := !x.1) sx k0 k1
  rw [Int.toNat_natCast] at r1 z1 r2 z2
  obtain ⟨g1, g2, g3, g4⟩ := round_law (s := x.1) (N := x.2.1) (n := k) sx.1
  have g5 : (roundQ x.1 x.2.1 x.2.2 k x.1).den ∣ 2 ^ k := round_den
  have hq : frac x.1 x.2.1 x.2.2 = qv x := rfl
  rw [hq] at g1 g2 g3
  obtain ⟨Lq, hLq⟩ : ∃ q, roundQ x.1 x.2.1 x.2.2 k x.1 = q := ⟨_, rfl⟩
  obtain ⟨Hq, hHq⟩ : ∃ q, roundQ x.1 x.2.1 x.2.2 k (!x.1) = q := ⟨_, rfl⟩
  rw [hLq] at r1 z1 g1 g2 g4 g5
  rw [hHq] at r2 z2 g3 g4
  obtain ⟨r3, z3⟩ := add_sz z1 (unit_sz hk) (by decide)
  have e3 : qv (can Lq) + qv (false, 1, 2 ^ k) = Lq + unitQ k := by rw [qv_can]; rfl
  rw [e3] at r3 z3
  have ox := sx.ok (by decide)
  have o1 := z1.ok (by decide)
  have o2 := z2.ok (by decide)
  have o3 := z3.ok (by decide)
  have c1 : cmpF (can Lq) x = (cmpQ Lq (qv x), 0) := by unfold cmpF; rw [if_pos ⟨o1, ox⟩, qv_can]
  have c2 : cmpF x (can (Lq + unitQ k)) = (cmpQ (qv x) (Lq + unitQ k), 0) := by unfold cmpF; rw [if_pos ⟨ox, o3⟩, qv_can]
  have c3 : cmpF x (can Hq) = (cmpQ (qv x) Hq, 0) := by unfold cmpF; rw [if_pos ⟨ox, o2⟩, qv_can]
  have s4 : can Lq = can Hq ∨ (can Lq ≠ can Hq ∧ can Hq = can (Lq + unitQ k)) := by
    rcases g4 with g | g
    · exact .inl (by rw [g])
    · by_cases e : can Lq = can Hq
      · exact .inl e
      · exact .inr ⟨e, by rw [g]⟩
  obtain ⟨i1, hi1⟩ : ∃ i, cmpQ Lq (qv x) = i := ⟨_, rfl⟩
  obtain ⟨i2, hi2⟩ : ∃ i, cmpQ (qv x) (Lq + unitQ k) = i := ⟨_, rfl⟩
  obtain ⟨i3, hi3⟩ : ∃ i, cmpQ (qv x) Hq = i := ⟨_, rfl⟩
  have di1 : decide (i1 ≤ 0) = true := decide_eq_true (by rw [← hi1]; exact cmpQ_le.2 g1)
  have di2 : decide (i2 < 0) = true := decide_eq_true (by rw [← hi2, cmpQ_lt g2]; decide)
  have di3 : decide (i3 ≤ 0) = true := decide_eq_true (by rw [← hi3]; exact cmpQ_le.2 g3)
  rw [hi1] at c1
  rw [hi2] at c2
  rw [hi3] at c3
  have g6 : (can Lq).2.2 ∣ 2 ^ k := g5
  obtain ⟨⟨s1, N1, D1⟩, e1⟩ : ∃ t, can Lq = t := ⟨_, rfl⟩
  obtain ⟨⟨s2, N2, D2⟩, e2⟩ : ∃ t, can Hq = t := ⟨_, rfl⟩
  obtain ⟨⟨s3, N3, D3⟩, e4⟩ : ∃ t, can (Lq + unitQ k) = t := ⟨_, rfl⟩
  rw [e1] at r1 z1 r3 c1 s4 g6
  rw [e2] at r2 z2 c3 s4
  rw [e4] at r3 z3 c2 s4
  have hD1 : D1 ≠ 0 := z1.1
  have bD1 : D1 < pw 512 := lt_up z1.2.2 (by decide)
  have bE : 2 ^ k < pw 512 := lt_up (two_lt hk) (by decide)
  obtain ⟨V, hV⟩ : ∃ V, 2 ^ k / D1 = V := ⟨_, rfl⟩
  have hV0 : V ≠ 0 := by
    rw [← hV]
    exact Nat.pos_iff_ne_zero.1 (Nat.div_pos (Nat.le_of_dvd (Nat.two_pow_pos k) (show D1 ∣ 2 ^ k from g6)) (Nat.pos_of_ne_zero hD1))
  have hdv : divS (2 ^ k) D1 = (V, 0, 0) := by
    unfold divS
    rw [if_neg (by omega), if_neg hD1, hV, Nat.mod_eq_zero_of_dvd g6]
  have R1 := Lib.hid r1
  have R2 := Lib.hid r2
  have R3 := Lib.hid r3
  have Z1 := Lib.hid z1
  have Z2 := Lib.hid z2
  have Z3 := Lib.hid z3
  have ZE : Hid (2 ^ k < pw 1000) := Lib.hid (lt_up bE (by decide))
  have ZU : Hid (Sz 9 (FracP k)) := Lib.hid (unit_sz hk)
  have C1c := Lib.hid c1
  have C2c := Lib.hid c2
  have C3c := Lib.hid c3
  have S4 := Lib.hid s4
  have DV := Lib.hid hdv
  have HV0 := Lib.hid hV0
  have HK := Lib.hid hk
  clear ex hl0 i0 j0 h l1 l2 sx k0 k1 r1 z1 r2 z2 r3 z3 g1 g2 g3 g4 g5 g6 hq hLq hHq e3 ox o1 o2 o3 c1 c2 c3 s4 hi1 hi2 hi3 e1 e2 e4 hD1 bD1 bE hV hV0 hdv hk
  go_enter Tryz.func3, Tryz.ntmps3
  go_wp2_with fail
  rw [← hW0]
  refine CL.out.mono ?_
  rintro e w9 ⟨rfl, rfl⟩
  clear CL TL hW0 hl ha0 ha1 ha2 hX0 
  have ha0 := hX.c0
  have ha1 := hX.c1
  have ha2 := hX.c2
  go_wp2_with fail
  refine ((floorN _ qx hT (Lib.hid rfl)).mono fun _ _ g => resE g R1).mono ?_
  rintro e w10 ⟨aA, nA, cA, eA, mA, kA, rfl, uA, vA, h10⟩
  replace hT := hT.mono h10
  replace hX := hX.mono h10
  replace qx := qx.mono h10
  replace T := Add.trans T h10
  clear h10 ha0 ha1 ha2
  obtain ⟨tt, hA⟩ := laid_var w10 s1 aA nA cA eA mA kA
  replace hT := hT.mono tt
  replace hX := hX.mono tt
  replace qx := qx.mono tt
  replace uA := uA.mono tt
  replace vA := vA.mono tt
  replace T := Add.trans T tt
  clear tt
  have ha0 := hX.c0
  have ha1 := hX.c1
  have ha2 := hX.c2
  go_wp2_with fail
  refine ((refFloorN _ qx (Lib.hid rfl)).mono fun _ _ g => resE g R1).mono ?_
  rintro e w11 ⟨aB, nB, cB, eB, mB, kB, rfl, uB, vB, h11⟩
  replace hT := hT.mono h11
  replace hX := hX.mono h11
  replace qx := qx.mono h11
  replace uA := uA.mono h11
  replace vA := vA.mono h11
  replace hA := hA.mono h11
  replace T := Add.trans T h11
  clear h11 ha0 ha1 ha2
  obtain ⟨tt, hB⟩ := laid_var w11 s1 aB nB cB eB mB kB
  replace hT := hT.mono tt
  replace hX := hX.mono tt
  replace qx := qx.mono tt
  replace uA := uA.mono tt
  replace vA := vA.mono tt
  replace hA := hA.mono tt
  replace uB := uB.mono tt
  replace vB := vB.mono tt
  replace T := Add.trans T tt
  clear tt
  have ha0 := hX.c0
  have ha1 := hX.c1
  have ha2 := hX.c2
  go_wp2_with fail
  refine ((ceilN _ qx hT (Lib.hid rfl)).mono fun _ _ g => resE g R2).mono ?_
  rintro e w12 ⟨aC, nC, cC, eC, mC, kC, rfl, uC, vC, h12⟩
  replace hT := hT.mono h12
  replace hX := hX.mono h12
  replace qx := qx.mono h12
  replace uA := uA.mono h12
  replace vA := vA.mono h12
  replace hA := hA.mono h12
  replace uB := uB.mono h12
  replace vB := vB.mono h12
  replace hB := hB.mono h12
  replace T := Add.trans T h12
  clear h12 ha0 ha1 ha2
  obtain ⟨tt, hC⟩ := laid_var w12 s2 aC nC cC eC mC kC
  replace hT := hT.mono tt
  replace hX := hX.mono tt
  replace qx := qx.mono tt
  replace uA := uA.mono tt
  replace vA := vA.mono tt
  replace hA := hA.mono tt
  replace uB := uB.mono tt
  replace vB := vB.mono tt
  replace hB := hB.mono tt
  replace uC := uC.mono tt
  replace vC := vC.mono tt
  replace T := Add.trans T tt
  clear tt
  have ha0 := hX.c0
  have ha1 := hX.c1
  have ha2 := hX.c2
  go_wp2_with fail
  refine ((refCeilN _ qx (Lib.hid rfl)).mono fun _ _ g => resE g R2).mono ?_
  rintro e w13 ⟨aD, nD, cD, eD, mD, kD, rfl, uD, vD, h13⟩
  replace hT := hT.mono h13
  replace hX := hX.mono h13
  replace qx := qx.mono h13
  replace uA := uA.mono h13
  replace vA := vA.mono h13
  replace hA := hA.mono h13
  replace uB := uB.mono h13
  replace vB := vB.mono h13
  replace hB := hB.mono h13
  replace uC := uC.mono h13
  replace vC := vC.mono h13
  replace hC := hC.mono h13
  replace T := Add.trans T h13
  clear h13 ha0 ha1 ha2
  obtain ⟨tt, hD⟩ := laid_var w13 s2 aD nD cD eD mD kD
  replace hT := hT.mono tt
  replace hX := hX.mono tt
  replace qx := qx.mono tt
  replace uA := uA.mono tt
  replace vA := vA.mono tt
  replace hA := hA.mono tt
  replace uB := uB.mono tt
  replace vB := vB.mono tt
  replace hB := hB.mono tt
  replace uC := uC.mono tt
  replace vC := vC.mono tt
  replace hC := hC.mono tt
  replace uD := uD.mono tt
  replace vD := vD.mono tt
  replace T := Add.trans T tt
  clear tt
  have ha0 := hA.c0
  have ha1 := hA.c1
  have ha2 := hA.c2
  have hb0 := hB.c0
  have hb1 := hB.c1
  have hb2 := hB.c2
  go_wp2_with fail
  refine (sameF true (fracT_mk (b := s1) uA vA) (fracT_mk (b := s1) uB vB) (Lib.hid (decide_eq_true rfl))).mono ?_
  rintro e w14 ⟨rfl, h14⟩
  replace hT := hT.mono h14
  replace hX := hX.mono h14
  replace qx := qx.mono h14
  replace uA := uA.mono h14
  replace vA := vA.mono h14
  replace hA := hA.mono h14
  replace uB := uB.mono h14
  replace vB := vB.mono h14
  replace hB := hB.mono h14
  replace uC := uC.mono h14
  replace vC := vC.mono h14
  replace hC := hC.mono h14
  replace uD := uD.mono h14
  replace vD := vD.mono h14
  replace hD := hD.mono h14
  replace T := Add.trans T h14
  clear h14 ha0 ha1 ha2 hb0 hb1 hb2
  clear hB uB vB
  have ha0 := hC.c0
  have ha1 := hC.c1
  have ha2 := hC.c2
  have hb0 := hD.c0
  have hb1 := hD.c1
  have hb2 := hD.c2
  go_wp2_with fail
  refine (sameF true (fracT_mk (b := s2) uC vC) (fracT_mk (b := s2) uD vD) (Lib.hid (decide_eq_true rfl))).mono ?_
  rintro e w15 ⟨rfl, h15⟩
  replace hT := hT.mono h15
  replace hX := hX.mono h15
  replace qx := qx.mono h15
  replace uA := uA.mono h15
  replace vA := vA.mono h15
  replace hA := hA.mono h15
  replace uC := uC.mono h15
  replace vC := vC.mono h15
  replace hC := hC.mono h15
  replace uD := uD.mono h15
  replace vD := vD.mono h15
  replace hD := hD.mono h15
  replace T := Add.trans T h15
  clear h15 ha0 ha1 ha2 hb0 hb1 hb2
  clear hD uD vD
  clear R1 R2
  have ha0 := hA.c0
  have ha1 := hA.c1
  have ha2 := hA.c2
  have K0 : Hid (∀ w', Add w15 w' → w'.cell? ⟨w10.heap.size, 0, none⟩ = some (.bool s1) ∧ w'.cell? ⟨w10.heap.size, 1, none⟩ = some (.slice aA nA cA) ∧ w'.cell? ⟨w10.heap.size, 2, none⟩ = some (.slice eA mA kA)) := Lib.hid fun w' a => ⟨(hA.mono a).c0, (hA.mono a).c1, (hA.mono a).c2⟩
  have qA : FracA w15 (.agg #[.bool s1, .slice aA nA cA, .slice eA mA kA]) (s1, N1, D1) := fracA_mk2 (b := s1) uA vA Z1.out (by decide)
  have C1 : Hid (∀ w', Add w15 w' → Calls Tryz.prog 21 #[.int .i64 (k : Nat)] w' (RetF w' (FracP k))) := Lib.hid fun w' a => refPowerN k HK
  have C2 : Hid (∀ w', Add w15 w' → ∀ v1, FracT w' v1 (FracP k) → Calls Tryz.prog 20 #[.agg #[.bool s1, .slice aA nA cA, .slice eA mA kA], v1] w' (ResE w' s3 N3 D3 0)) := Lib.hid fun w' a v1 f1 => (addN' _ (qA.mono a) (f1.arg (lt_up ZU.out.2.1 (by decide)) (lt_up ZU.out.2.2 (by decide))) (hT.mono a) (Lib.hid rfl)).mono fun _ _ g => resE g R3
  clear qA
  have LX := Lib.hid hX.lt
  have LA := Lib.hid hA.lt
  have LC := Lib.hid hC.lt
  go_wp2_with fail
  go_region_held3 (fun w' => w'.cell? ⟨w10.heap.size, 0, none⟩ = some (.bool s1) ∧ w'.cell? ⟨w10.heap.size, 1, none⟩ = some (.slice aA nA cA) ∧ w'.cell? ⟨w10.heap.size, 2, none⟩ = some (.slice eA mA kA))
    (first | exact K0.out _ (Below.drew (Below.refl _ _)) | exact K0.out _ (Below.drew (add_new _ _)) | exact K0.out _ a2 | exact K0.out _ (Add.trans a2 (add_new _ _)) | exact K0.out _ a3 | exact K0.out _ (Add.trans a3 (add_new _ _)) | exact K0.out _ (put3_below _ _ _ a3 (Nat.le_refl _)) | exact K0.out _ (put3_below _ _ _ a3 a2.size) | exact K0.out _ (put3_below _ _ _ (Add.trans a3 (add_new _ _)) (by have := a3.size; omega)) | go_keep)
    (first | (go_at_call 21; ((with_reducible refine (C1.out _ (Below.drew (Below.refl _ _))).mono ?_); rintro e z1 ⟨v1, rfl, n1, hq1⟩; have a2 := Add.trans (Below.drew (Below.refl _ _) : Add w15 (World.drew w15)) hq1))
           | (go_at_call 21; ((with_reducible refine (C1.out _ (Below.drew (add_new _ _))).mono ?_); rintro e z1 ⟨v1, rfl, n1, hq1⟩; have a2 := Add.trans (Below.drew (add_new w15 _)) hq1; have bx := ((box_new w15 false none 0 0 none 0 0).mono (Below.drew (Below.refl _ _))).mono hq1; have g0 := bx.c0; have g1 := bx.c1; have g2 := bx.c2; have g3 := bx.fr 0; have g4 := bx.fr 1; have g5 := bx.fr 2))
           | (go_at_call 20; ((with_reducible refine (C2.out _ a2 _ n1).mono ?_); rintro e z2 ⟨a4, n4, k4, e4, d4, l4, rfl, x1, y1, hq2⟩; have a3 := Add.trans a2 hq2; have bx3 := bx.mono hq2; have g0 := bx3.c0; have g1 := bx3.c1; have g2 := bx3.c2; have g3 := bx3.fr 0; have g4 := bx3.fr 1; have g5 := bx3.fr 2))
           | (go_at_call 20; ((with_reducible refine (C2.out _ a2 _ n1).mono ?_); rintro e z2 ⟨a4, n4, k4, e4, d4, l4, rfl, x1, y1, hq2⟩; have a3 := Add.trans a2 hq2))
           | (go_at_call 20; ((with_reducible refine (C2.out _ (Add.trans a2 (add_new _ _)) _ (n1.mono (add_new _ _))).mono ?_); rintro e z2 ⟨a4, n4, k4, e4, d4, l4, rfl, x1, y1, hq2⟩; have a3 := Add.trans (Add.trans a2 (add_new _ _)) hq2; have bx3 := (box_new z1 false none 0 0 none 0 0).mono hq2; have g0 := bx3.c0; have g1 := bx3.c1; have g2 := bx3.c2; have g3 := bx3.fr 0; have g4 := bx3.fr 1; have g5 := bx3.fr 2)))
  · rename_i hHeld
    clear hHeld
    obtain ⟨tt, hN⟩ := laid_var z2 s3 a4 n4 k4 e4 d4 l4
    have tw := Add.trans a3 tt
    replace hT := hT.mono tw
    replace hX := hX.mono tw
    replace qx := qx.mono tw
    replace uA := uA.mono tw
    replace vA := vA.mono tw
    replace hA := hA.mono tw
    replace uC := uC.mono tw
    replace vC := vC.mono tw
    replace hC := hC.mono tw
    replace x1 := x1.mono tt
    replace y1 := y1.mono tt
    replace T := Add.trans T tw
    obtain ⟨gb, hgb⟩ : ∃ gb, gb = z2.heap.size := ⟨_, rfl⟩
    clear tt tw
    rw [← hgb] at hN ⊢
    obtain ⟨w40, hW5⟩ : ∃ W5, W5 = (z2.alloc (.cells #[.bool s3, .slice a4 n4 k4, .slice e4 d4 l4] 25)) := ⟨_, rfl⟩
    rw [← hW5] at hN x1 y1 T hT hX qx uA vA hA uC vC hC ⊢
    clear hW5 hgb K0 C1 C2 hq1 hq2 n1 a2 a3 LX LA LC
    clear ha0 ha1 ha2
    have ha0 := hA.c0
    have ha1 := hA.c1
    have ha2 := hA.c2
    have hb0 := hX.c0
    have hb1 := hX.c1
    have hb2 := hX.c2
    go_wp2_with fail
    refine ((cmpN' _ (fracA_mk2 (b := s1) uA vA Z1.out (by decide)) qx (Lib.hid rfl)).mono fun _ _ g => cmpE g C1c).mono ?_
    rintro e w41 ⟨rfl, h41⟩
    replace hT := hT.mono h41
    replace hX := hX.mono h41
    replace qx := qx.mono h41
    replace uA := uA.mono h41
    replace vA := vA.mono h41
    replace hA := hA.mono h41
    replace uC := uC.mono h41
    replace vC := vC.mono h41
    replace hC := hC.mono h41
    replace hN := hN.mono h41
    replace x1 := x1.mono h41
    replace y1 := y1.mono h41
    replace T := Add.trans T h41
    clear h41 ha0 ha1 ha2 hb0 hb1 hb2
    have ha0 := hX.c0
    have ha1 := hX.c1
    have ha2 := hX.c2
    have hb0 := hN.c0
    have hb1 := hN.c1
    have hb2 := hN.c2
    go_wp2_with fail
    refine ((cmpN' _ qx (fracA_mk2 (b := s3) x1 y1 Z3.out (by decide)) (Lib.hid rfl)).mono fun _ _ g => cmpE g C2c).mono ?_
    rintro e w42 ⟨rfl, h42⟩
    replace hT := hT.mono h42
    replace hX := hX.mono h42
    replace qx := qx.mono h42
    replace uA := uA.mono h42
    replace vA := vA.mono h42
    replace hA := hA.mono h42
    replace uC := uC.mono h42
    replace vC := vC.mono h42
    replace hC := hC.mono h42
    replace hN := hN.mono h42
    replace x1 := x1.mono h42
    replace y1 := y1.mono h42
    replace T := Add.trans T h42
    clear h42 ha0 ha1 ha2 hb0 hb1 hb2
    have ha0 := hX.c0
    have ha1 := hX.c1
    have ha2 := hX.c2
    have hb0 := hC.c0
    have hb1 := hC.c1
    have hb2 := hC.c2
    go_wp2_with fail
    refine ((cmpN' _ qx (fracA_mk2 (b := s2) uC vC Z2.out (by decide)) (Lib.hid rfl)).mono fun _ _ g => cmpE g C3c).mono ?_
    rintro e w43 ⟨rfl, h43⟩
    replace hT := hT.mono h43
    replace hX := hX.mono h43
    replace qx := qx.mono h43
    replace uA := uA.mono h43
    replace vA := vA.mono h43
    replace hA := hA.mono h43
    replace uC := uC.mono h43
    replace vC := vC.mono h43
    replace hC := hC.mono h43
    replace hN := hN.mono h43
    replace x1 := x1.mono h43
    replace y1 := y1.mono h43
    replace T := Add.trans T h43
    clear h43 ha0 ha1 ha2 hb0 hb1 hb2
    clear hX qx
    have ha2 := hA.c2
    have uD1 := num_nv vA (lt_up Z1.out.2.2 (by decide))
    have K0 : Hid (∀ w', Add w43 w' → w'.cell? ⟨w10.heap.size, 2, none⟩ = some (.slice eA mA kA)) := Lib.hid fun w' a => (hA.mono a).c2
    have C1 : Hid (∀ w', Add w43 w' → Calls Tryz.prog 21 #[.int .i64 (k : Nat)] w' (RetF w' (FracP k))) := Lib.hid fun w' a => refPowerN k HK
    have C2 : Hid (∀ w', Add w43 w' → ∀ v1, Num w' v1 (FracP k).2.2 → Calls Tryz.prog 23 #[v1, .slice eA mA kA] w' (ResP2 w' (V, 0, 0))) := Lib.hid fun w' a v1 f1 => refDivX (V, 0, 0) (num_nv f1 ZE.out) (uD1.mono a) DV
    clear uD1
    have hfd : ∀ (s : Bool) (a : Option Addr) (n c : Nat) (e : Option Addr) (d l : Nat) (w : World), Sem.run Tryz.prog (Instr.field 25 (Value.agg #[Value.bool s, Value.slice a n c, Value.slice e d l]) 2) w = .ok (.slice e d l) w := fieldDen
    go_wp2_with fail
    go_region_held3 (fun w' => w'.cell? ⟨w10.heap.size, 2, none⟩ = some (.slice eA mA kA))
      (first | exact K0.out _ (Below.drew (Below.refl _ _)) | exact K0.out _ a2 | exact K0.out _ a3 | go_keep)
      (first | (go_at_call 21; ((with_reducible refine (C1.out _ (Below.drew (Below.refl _ _))).mono ?_); rintro e z1 ⟨v1, rfl, ⟨aq, nq, cq, eq, dq, lq, rfl, xq, yq⟩, hq1⟩; have a2 := Add.trans (Below.drew (Below.refl _ _) : Add w43 (World.drew w43)) hq1))
             | (go_at_call 23; ((with_reducible refine (C2.out _ a2 _ yq).mono ?_); rintro e z2 ⟨vw, vr, rfl, nw, nr, hq2⟩; have a3 := Add.trans a2 hq2)))
    obtain ⟨ar, cr, rfl⟩ := num_len0 nr
    obtain ⟨aw, mw, cw, rfl, hw0, -⟩ := num_size nw
    have dw : decide (0 < mw) = true := decide_eq_true (by have := mt hw0.1 HV0.out; omega)
    clear hw0 nw nr xq yq hfd K0 C1 C2 ha2 hq1 hq2 a2
    replace hT := hT.mono a3
    replace uA := uA.mono a3
    replace vA := vA.mono a3
    replace hA := hA.mono a3
    replace uC := uC.mono a3
    replace vC := vC.mono a3
    replace hC := hC.mono a3
    replace hN := hN.mono a3
    replace x1 := x1.mono a3
    replace y1 := y1.mono a3
    replace T := Add.trans T a3
    clear a3
    obtain ⟨w48, hW5⟩ : ∃ W5, W5 = z2 := ⟨_, rfl⟩
    rw [← hW5] at T hT uA vA hA uC vC hC hN x1 y1 ⊢
    clear hW5
    rcases S4.out with h4 | ⟨h4, h5⟩
    · have D1 : Hid (decide ((s1, N1, D1) = (s2, N2, D2)) = true) := Lib.hid (decide_eq_true h4)
      clear h4
      have ha0 := hA.c0
      have ha1 := hA.c1
      have ha2 := hA.c2
      have hb0 := hC.c0
      have hb1 := hC.c1
      have hb2 := hC.c2
      go_wp2_with fail
      refine (sameF true (fracT_mk (b := s1) uA vA) (fracT_mk (b := s2) uC vC) D1).mono ?_
      rintro e w49 ⟨rfl, h49⟩
      replace hT := hT.mono h49
      replace uA := uA.mono h49
      replace vA := vA.mono h49
      replace hA := hA.mono h49
      replace uC := uC.mono h49
      replace vC := vC.mono h49
      replace hC := hC.mono h49
      replace hN := hN.mono h49
      replace x1 := x1.mono h49
      replace y1 := y1.mono h49
      replace T := Add.trans T h49
      clear h49 ha0 ha1 ha2 hb0 hb1 hb2
      go_wp2_with fail
      refine (awake2_any _ hT).mono ?_
      rintro e w50 ⟨rfl, h50⟩
      replace hT := hT.mono h50
      replace uA := uA.mono h50
      replace vA := vA.mono h50
      replace hA := hA.mono h50
      replace uC := uC.mono h50
      replace vC := vC.mono h50
      replace hC := hC.mono h50
      replace hN := hN.mono h50
      replace x1 := x1.mono h50
      replace y1 := y1.mono h50
      replace T := Add.trans T h50
      clear h50 
      go_wp2_with fail
      go_ret
      exact ⟨rfl, T⟩
    · have D1 : Hid (decide ((s1, N1, D1) = (s2, N2, D2)) = false) := Lib.hid (decide_eq_false h4)
      have D2 : Hid (decide ((s2, N2, D2) = (s3, N3, D3)) = true) := Lib.hid (decide_eq_true h5)
      clear h4 h5
      have ha0 := hA.c0
      have ha1 := hA.c1
      have ha2 := hA.c2
      have hb0 := hC.c0
      have hb1 := hC.c1
      have hb2 := hC.c2
      go_wp2_with fail
      refine (sameF false (fracT_mk (b := s1) uA vA) (fracT_mk (b := s2) uC vC) D1).mono ?_
      rintro e w49 ⟨rfl, h49⟩
      replace hT := hT.mono h49
      replace uA := uA.mono h49
      replace vA := vA.mono h49
      replace hA := hA.mono h49
      replace uC := uC.mono h49
      replace vC := vC.mono h49
      replace hC := hC.mono h49
      replace hN := hN.mono h49
      replace x1 := x1.mono h49
      replace y1 := y1.mono h49
      replace T := Add.trans T h49
      clear h49 ha0 ha1 ha2 hb0 hb1 hb2
      have ha0 := hC.c0
      have ha1 := hC.c1
      have ha2 := hC.c2
      have hb0 := hN.c0
      have hb1 := hN.c1
      have hb2 := hN.c2
      go_wp2_with fail
      refine (sameF true (fracT_mk (b := s2) uC vC) (fracT_mk (b := s3) x1 y1) D2).mono ?_
      rintro e w50 ⟨rfl, h50⟩
      replace hT := hT.mono h50
      replace uA := uA.mono h50
      replace vA := vA.mono h50
      replace hA := hA.mono h50
      replace uC := uC.mono h50
      replace vC := vC.mono h50
      replace hC := hC.mono h50
      replace hN := hN.mono h50
      replace x1 := x1.mono h50
      replace y1 := y1.mono h50
      replace T := Add.trans T h50
      clear h50 ha0 ha1 ha2 hb0 hb1 hb2
      go_wp2_with fail
      refine (awake2_any _ hT).mono ?_
      rintro e w51 ⟨rfl, h51⟩
      replace hT := hT.mono h51
      replace uA := uA.mono h51
      replace vA := vA.mono h51
      replace hA := hA.mono h51
      replace uC := uC.mono h51
      replace vC := vC.mono h51
      replace hC := hC.mono h51
      replace hN := hN.mono h51
      replace x1 := x1.mono h51
      replace y1 := y1.mono h51
      replace T := Add.trans T h51
      clear h51 
      go_wp2_with fail
      go_ret
      exact ⟨rfl, T⟩
  · rename_i hHeld
    clear hHeld
    have hN := bx3.put s3 a4 n4 k4 e4 d4 l4
    have gle : w15.heap.size ≤ z1.heap.size := a2.size
    have lX := LX.out
    have lA := LA.out
    have lC := LC.out
    replace hT := Tab.put (hT.mono a3) bx3 (.bool s3) (.slice a4 n4 k4) (.slice e4 d4 l4)
    replace hX := Box.other2 (hX.mono a3) (show w.heap.size ≠ z1.heap.size by omega) (.bool s3) (.slice a4 n4 k4) (.slice e4 d4 l4)
    replace qx := FracA.put (qx.mono a3) bx3 (.bool s3) (.slice a4 n4 k4) (.slice e4 d4 l4)
    replace uA := (uA.mono a3).put bx3 (.bool s3) (.slice a4 n4 k4) (.slice e4 d4 l4)
    replace vA := (vA.mono a3).put bx3 (.bool s3) (.slice a4 n4 k4) (.slice e4 d4 l4)
    replace hA := Box.other2 (hA.mono a3) (show w10.heap.size ≠ z1.heap.size by omega) (.bool s3) (.slice a4 n4 k4) (.slice e4 d4 l4)
    replace uC := (uC.mono a3).put bx3 (.bool s3) (.slice a4 n4 k4) (.slice e4 d4 l4)
    replace vC := (vC.mono a3).put bx3 (.bool s3) (.slice a4 n4 k4) (.slice e4 d4 l4)
    replace hC := Box.other2 (hC.mono a3) (show w12.heap.size ≠ z1.heap.size by omega) (.bool s3) (.slice a4 n4 k4) (.slice e4 d4 l4)
    replace x1 := x1.put bx3 (.bool s3) (.slice a4 n4 k4) (.slice e4 d4 l4)
    replace y1 := y1.put bx3 (.bool s3) (.slice a4 n4 k4) (.slice e4 d4 l4)
    replace T := put3_below (.bool s3) (.slice a4 n4 k4) (.slice e4 d4 l4) (Add.trans T a3) (show w.heap.size ≤ z1.heap.size by omega)
    obtain ⟨gb, hgb⟩ : ∃ gb, gb = z1.heap.size := ⟨_, rfl⟩
    unfold put3 at hN x1 y1 T hT hX qx uA vA hA uC vC hC
    clear bx3 g0 g1 g2 g3 g4 g5 gle lX lA lC
    rw [← hgb] at hN x1 y1 T hT hX qx uA vA hA uC vC hC ⊢
    obtain ⟨w40, hW5⟩ : ∃ W5, W5 = (((z2.setCell ⟨gb, 0, none⟩ (.bool s3)).setCell ⟨gb, 1, none⟩ (.slice a4 n4 k4)).setCell ⟨gb, 2, none⟩ (.slice e4 d4 l4)) := ⟨_, rfl⟩
    rw [← hW5] at hN x1 y1 T hT hX qx uA vA hA uC vC hC ⊢
    clear hW5 hgb K0 C1 C2 hq1 hq2 n1 a2 a3 LX LA LC
    clear ha0 ha1 ha2
    have ha0 := hA.c0
    have ha1 := hA.c1
    have ha2 := hA.c2
    have hb0 := hX.c0
    have hb1 := hX.c1
    have hb2 := hX.c2
    go_wp2_with fail
    refine ((cmpN' _ (fracA_mk2 (b := s1) uA vA Z1.out (by decide)) qx (Lib.hid rfl)).mono fun _ _ g => cmpE g C1c).mono ?_
    rintro e w41 ⟨rfl, h41⟩
    replace hT := hT.mono h41
    replace hX := hX.mono h41
    replace qx := qx.mono h41
    replace uA := uA.mono h41
    replace vA := vA.mono h41
    replace hA := hA.mono h41
    replace uC := uC.mono h41
    replace vC := vC.mono h41
    replace hC := hC.mono h41
    replace hN := hN.mono h41
    replace x1 := x1.mono h41
    replace y1 := y1.mono h41
    replace T := Add.trans T h41
    clear h41 ha0 ha1 ha2 hb0 hb1 hb2
    have ha0 := hX.c0
    have ha1 := hX.c1
    have ha2 := hX.c2
    have hb0 := hN.c0
    have hb1 := hN.c1
    have hb2 := hN.c2
    go_wp2_with fail
    refine ((cmpN' _ qx (fracA_mk2 (b := s3) x1 y1 Z3.out (by decide)) (Lib.hid rfl)).mono fun _ _ g => cmpE g C2c).mono ?_
    rintro e w42 ⟨rfl, h42⟩
    replace hT := hT.mono h42
    replace hX := hX.mono h42
    replace qx := qx.mono h42
    replace uA := uA.mono h42
    replace vA := vA.mono h42
    replace hA := hA.mono h42
    replace uC := uC.mono h42
    replace vC := vC.mono h42
    replace hC := hC.mono h42
    replace hN := hN.mono h42
    replace x1 := x1.mono h42
    replace y1 := y1.mono h42
    replace T := Add.trans T h42
    clear h42 ha0 ha1 ha2 hb0 hb1 hb2
    have ha0 := hX.c0
    have ha1 := hX.c1
    have ha2 := hX.c2
    have hb0 := hC.c0
    have hb1 := hC.c1
    have hb2 := hC.c2
    go_wp2_with fail
    refine ((cmpN' _ qx (fracA_mk2 (b := s2) uC vC Z2.out (by decide)) (Lib.hid rfl)).mono fun _ _ g => cmpE g C3c).mono ?_
    rintro e w43 ⟨rfl, h43⟩
    replace hT := hT.mono h43
    replace hX := hX.mono h43
    replace qx := qx.mono h43
    replace uA := uA.mono h43
    replace vA := vA.mono h43
    replace hA := hA.mono h43
    replace uC := uC.mono h43
    replace vC := vC.mono h43
    replace hC := hC.mono h43
    replace hN := hN.mono h43
    replace x1 := x1.mono h43
    replace y1 := y1.mono h43
    replace T := Add.trans T h43
    clear h43 ha0 ha1 ha2 hb0 hb1 hb2
    clear hX qx
    have ha2 := hA.c2
    have uD1 := num_nv vA (lt_up Z1.out.2.2 (by decide))
    have K0 : Hid (∀ w', Add w43 w' → w'.cell? ⟨w10.heap.size, 2, none⟩ = some (.slice eA mA kA)) := Lib.hid fun w' a => (hA.mono a).c2
    have C1 : Hid (∀ w', Add w43 w' → Calls Tryz.prog 21 #[.int .i64 (k : Nat)] w' (RetF w' (FracP k))) := Lib.hid fun w' a => refPowerN k HK
    have C2 : Hid (∀ w', Add w43 w' → ∀ v1, Num w' v1 (FracP k).2.2 → Calls Tryz.prog 23 #[v1, .slice eA mA kA] w' (ResP2 w' (V, 0, 0))) := Lib.hid fun w' a v1 f1 => refDivX (V, 0, 0) (num_nv f1 ZE.out) (uD1.mono a) DV
    clear uD1
    have hfd : ∀ (s : Bool) (a : Option Addr) (n c : Nat) (e : Option Addr) (d l : Nat) (w : World), Sem.run Tryz.prog (Instr.field 25 (Value.agg #[Value.bool s, Value.slice a n c, Value.slice e d l]) 2) w = .ok (.slice e d l) w := fieldDen
    go_wp2_with fail
    go_region_held3 (fun w' => w'.cell? ⟨w10.heap.size, 2, none⟩ = some (.slice eA mA kA))
      (first | exact K0.out _ (Below.drew (Below.refl _ _)) | exact K0.out _ a2 | exact K0.out _ a3 | go_keep)
      (first | (go_at_call 21; ((with_reducible refine (C1.out _ (Below.drew (Below.refl _ _))).mono ?_); rintro e z1 ⟨v1, rfl, ⟨aq, nq, cq, eq, dq, lq, rfl, xq, yq⟩, hq1⟩; have a2 := Add.trans (Below.drew (Below.refl _ _) : Add w43 (World.drew w43)) hq1))
             | (go_at_call 23; ((with_reducible refine (C2.out _ a2 _ yq).mono ?_); rintro e z2 ⟨vw, vr, rfl, nw, nr, hq2⟩; have a3 := Add.trans a2 hq2)))
    obtain ⟨ar, cr, rfl⟩ := num_len0 nr
    obtain ⟨aw, mw, cw, rfl, hw0, -⟩ := num_size nw
    have dw : decide (0 < mw) = true := decide_eq_true (by have := mt hw0.1 HV0.out; omega)
    clear hw0 nw nr xq yq hfd K0 C1 C2 ha2 hq1 hq2 a2
    replace hT := hT.mono a3
    replace uA := uA.mono a3
    replace vA := vA.mono a3
    replace hA := hA.mono a3
    replace uC := uC.mono a3
    replace vC := vC.mono a3
    replace hC := hC.mono a3
    replace hN := hN.mono a3
    replace x1 := x1.mono a3
    replace y1 := y1.mono a3
    replace T := Add.trans T a3
    clear a3
    obtain ⟨w48, hW5⟩ : ∃ W5, W5 = z2 := ⟨_, rfl⟩
    rw [← hW5] at T hT uA vA hA uC vC hC hN x1 y1 ⊢
    clear hW5
    rcases S4.out with h4 | ⟨h4, h5⟩
    · have D1 : Hid (decide ((s1, N1, D1) = (s2, N2, D2)) = true) := Lib.hid (decide_eq_true h4)
      clear h4
      have ha0 := hA.c0
      have ha1 := hA.c1
      have ha2 := hA.c2
      have hb0 := hC.c0
      have hb1 := hC.c1
      have hb2 := hC.c2
      go_wp2_with fail
      refine (sameF true (fracT_mk (b := s1) uA vA) (fracT_mk (b := s2) uC vC) D1).mono ?_
      rintro e w49 ⟨rfl, h49⟩
      replace hT := hT.mono h49
      replace uA := uA.mono h49
      replace vA := vA.mono h49
      replace hA := hA.mono h49
      replace uC := uC.mono h49
      replace vC := vC.mono h49
      replace hC := hC.mono h49
      replace hN := hN.mono h49
      replace x1 := x1.mono h49
      replace y1 := y1.mono h49
      replace T := Add.trans T h49
      clear h49 ha0 ha1 ha2 hb0 hb1 hb2
      go_wp2_with fail
      refine (awake2_any _ hT).mono ?_
      rintro e w50 ⟨rfl, h50⟩
      replace hT := hT.mono h50
      replace uA := uA.mono h50
      replace vA := vA.mono h50
      replace hA := hA.mono h50
      replace uC := uC.mono h50
      replace vC := vC.mono h50
      replace hC := hC.mono h50
      replace hN := hN.mono h50
      replace x1 := x1.mono h50
      replace y1 := y1.mono h50
      replace T := Add.trans T h50
      clear h50 
      go_wp2_with fail
      go_ret
      exact ⟨rfl, T⟩
    · have D1 : Hid (decide ((s1, N1, D1) = (s2, N2, D2)) = false) := Lib.hid (decide_eq_false h4)
      have D2 : Hid (decide ((s2, N2, D2) = (s3, N3, D3)) = true) := Lib.hid (decide_eq_true h5)
      clear h4 h5
      have ha0 := hA.c0
      have ha1 := hA.c1
      have ha2 := hA.c2
      have hb0 := hC.c0
      have hb1 := hC.c1
      have hb2 := hC.c2
      go_wp2_with fail
      refine (sameF false (fracT_mk (b := s1) uA vA) (fracT_mk (b := s2) uC vC) D1).mono ?_
      rintro e w49 ⟨rfl, h49⟩
      replace hT := hT.mono h49
      replace uA := uA.mono h49
      replace vA := vA.mono h49
      replace hA := hA.mono h49
      replace uC := uC.mono h49
      replace vC := vC.mono h49
      replace hC := hC.mono h49
      replace hN := hN.mono h49
      replace x1 := x1.mono h49
      replace y1 := y1.mono h49
      replace T := Add.trans T h49
      clear h49 ha0 ha1 ha2 hb0 hb1 hb2
      have ha0 := hC.c0
      have ha1 := hC.c1
      have ha2 := hC.c2
      have hb0 := hN.c0
      have hb1 := hN.c1
      have hb2 := hN.c2
      go_wp2_with fail
      refine (sameF true (fracT_mk (b := s2) uC vC) (fracT_mk (b := s3) x1 y1) D2).mono ?_
      rintro e w50 ⟨rfl, h50⟩
      replace hT := hT.mono h50
      replace uA := uA.mono h50
      replace vA := vA.mono h50
      replace hA := hA.mono h50
      replace uC := uC.mono h50
      replace vC := vC.mono h50
      replace hC := hC.mono h50
      replace hN := hN.mono h50
      replace x1 := x1.mono h50
      replace y1 := y1.mono h50
      replace T := Add.trans T h50
      clear h50 ha0 ha1 ha2 hb0 hb1 hb2
      go_wp2_with fail
      refine (awake2_any _ hT).mono ?_
      rintro e w51 ⟨rfl, h51⟩
      replace hT := hT.mono h51
      replace uA := uA.mono h51
      replace vA := vA.mono h51
      replace hA := hA.mono h51
      replace uC := uC.mono h51
      replace vC := vC.mono h51
      replace hC := hC.mono h51
      replace hN := hN.mono h51
      replace x1 := x1.mono h51
      replace y1 := y1.mono h51
      replace T := Add.trans T h51
      clear h51 
      go_wp2_with fail
      go_ret
      exact ⟨rfl, T⟩
  · rename_i hHeld
    clear hHeld
    have hN := bx3.put s3 a4 n4 k4 e4 d4 l4
    have gle : w15.heap.size ≤ w15.heap.size := Nat.le_refl _
    have lX := LX.out
    have lA := LA.out
    have lC := LC.out
    replace hT := Tab.put (hT.mono a3) bx3 (.bool s3) (.slice a4 n4 k4) (.slice e4 d4 l4)
    replace hX := Box.other2 (hX.mono a3) (show w.heap.size ≠ w15.heap.size by omega) (.bool s3) (.slice a4 n4 k4) (.slice e4 d4 l4)
    replace qx := FracA.put (qx.mono a3) bx3 (.bool s3) (.slice a4 n4 k4) (.slice e4 d4 l4)
    replace uA := (uA.mono a3).put bx3 (.bool s3) (.slice a4 n4 k4) (.slice e4 d4 l4)
    replace vA := (vA.mono a3).put bx3 (.bool s3) (.slice a4 n4 k4) (.slice e4 d4 l4)
    replace hA := Box.other2 (hA.mono a3) (show w10.heap.size ≠ w15.heap.size by omega) (.bool s3) (.slice a4 n4 k4) (.slice e4 d4 l4)
    replace uC := (uC.mono a3).put bx3 (.bool s3) (.slice a4 n4 k4) (.slice e4 d4 l4)
    replace vC := (vC.mono a3).put bx3 (.bool s3) (.slice a4 n4 k4) (.slice e4 d4 l4)
    replace hC := Box.other2 (hC.mono a3) (show w12.heap.size ≠ w15.heap.size by omega) (.bool s3) (.slice a4 n4 k4) (.slice e4 d4 l4)
    replace x1 := x1.put bx3 (.bool s3) (.slice a4 n4 k4) (.slice e4 d4 l4)
    replace y1 := y1.put bx3 (.bool s3) (.slice a4 n4 k4) (.slice e4 d4 l4)
    replace T := put3_below (.bool s3) (.slice a4 n4 k4) (.slice e4 d4 l4) (Add.trans T a3) (show w.heap.size ≤ w15.heap.size by omega)
    obtain ⟨gb, hgb⟩ : ∃ gb, gb = w15.heap.size := ⟨_, rfl⟩
    unfold put3 at hN x1 y1 T hT hX qx uA vA hA uC vC hC
    clear bx3 g0 g1 g2 g3 g4 g5 gle lX lA lC
    rw [← hgb] at hN x1 y1 T hT hX qx uA vA hA uC vC hC ⊢
    obtain ⟨w40, hW5⟩ : ∃ W5, W5 = (((z2.setCell ⟨gb, 0, none⟩ (.bool s3)).setCell ⟨gb, 1, none⟩ (.slice a4 n4 k4)).setCell ⟨gb, 2, none⟩ (.slice e4 d4 l4)) := ⟨_, rfl⟩
    rw [← hW5] at hN x1 y1 T hT hX qx uA vA hA uC vC hC ⊢
    clear hW5 hgb K0 C1 C2 hq1 hq2 n1 a2 a3 LX LA LC
    clear ha0 ha1 ha2
    have ha0 := hA.c0
    have ha1 := hA.c1
    have ha2 := hA.c2
    have hb0 := hX.c0
    have hb1 := hX.c1
    have hb2 := hX.c2
    go_wp2_with fail
    refine ((cmpN' _ (fracA_mk2 (b := s1) uA vA Z1.out (by decide)) qx (Lib.hid rfl)).mono fun _ _ g => cmpE g C1c).mono ?_
    rintro e w41 ⟨rfl, h41⟩
    replace hT := hT.mono h41
    replace hX := hX.mono h41
    replace qx := qx.mono h41
    replace uA := uA.mono h41
    replace vA := vA.mono h41
    replace hA := hA.mono h41
    replace uC := uC.mono h41
    replace vC := vC.mono h41
    replace hC := hC.mono h41
    replace hN := hN.mono h41
    replace x1 := x1.mono h41
    replace y1 := y1.mono h41
    replace T := Add.trans T h41
    clear h41 ha0 ha1 ha2 hb0 hb1 hb2
    have ha0 := hX.c0
    have ha1 := hX.c1
    have ha2 := hX.c2
    have hb0 := hN.c0
    have hb1 := hN.c1
    have hb2 := hN.c2
    go_wp2_with fail
    refine ((cmpN' _ qx (fracA_mk2 (b := s3) x1 y1 Z3.out (by decide)) (Lib.hid rfl)).mono fun _ _ g => cmpE g C2c).mono ?_
    rintro e w42 ⟨rfl, h42⟩
    replace hT := hT.mono h42
    replace hX := hX.mono h42
    replace qx := qx.mono h42
    replace uA := uA.mono h42
    replace vA := vA.mono h42
    replace hA := hA.mono h42
    replace uC := uC.mono h42
    replace vC := vC.mono h42
    replace hC := hC.mono h42
    replace hN := hN.mono h42
    replace x1 := x1.mono h42
    replace y1 := y1.mono h42
    replace T := Add.trans T h42
    clear h42 ha0 ha1 ha2 hb0 hb1 hb2
    have ha0 := hX.c0
    have ha1 := hX.c1
    have ha2 := hX.c2
    have hb0 := hC.c0
    have hb1 := hC.c1
    have hb2 := hC.c2
    go_wp2_with fail
    refine ((cmpN' _ qx (fracA_mk2 (b := s2) uC vC Z2.out (by decide)) (Lib.hid rfl)).mono fun _ _ g => cmpE g C3c).mono ?_
    rintro e w43 ⟨rfl, h43⟩
    replace hT := hT.mono h43
    replace hX := hX.mono h43
    replace qx := qx.mono h43
    replace uA := uA.mono h43
    replace vA := vA.mono h43
    replace hA := hA.mono h43
    replace uC := uC.mono h43
    replace vC := vC.mono h43
    replace hC := hC.mono h43
    replace hN := hN.mono h43
    replace x1 := x1.mono h43
    replace y1 := y1.mono h43
    replace T := Add.trans T h43
    clear h43 ha0 ha1 ha2 hb0 hb1 hb2
    clear hX qx
    have ha2 := hA.c2
    have uD1 := num_nv vA (lt_up Z1.out.2.2 (by decide))
    have K0 : Hid (∀ w', Add w43 w' → w'.cell? ⟨w10.heap.size, 2, none⟩ = some (.slice eA mA kA)) := Lib.hid fun w' a => (hA.mono a).c2
    have C1 : Hid (∀ w', Add w43 w' → Calls Tryz.prog 21 #[.int .i64 (k : Nat)] w' (RetF w' (FracP k))) := Lib.hid fun w' a => refPowerN k HK
    have C2 : Hid (∀ w', Add w43 w' → ∀ v1, Num w' v1 (FracP k).2.2 → Calls Tryz.prog 23 #[v1, .slice eA mA kA] w' (ResP2 w' (V, 0, 0))) := Lib.hid fun w' a v1 f1 => refDivX (V, 0, 0) (num_nv f1 ZE.out) (uD1.mono a) DV
    clear uD1
    have hfd : ∀ (s : Bool) (a : Option Addr) (n c : Nat) (e : Option Addr) (d l : Nat) (w : World), Sem.run Tryz.prog (Instr.field 25 (Value.agg #[Value.bool s, Value.slice a n c, Value.slice e d l]) 2) w = .ok (.slice e d l) w := fieldDen
    go_wp2_with fail
    go_region_held3 (fun w' => w'.cell? ⟨w10.heap.size, 2, none⟩ = some (.slice eA mA kA))
      (first | exact K0.out _ (Below.drew (Below.refl _ _)) | exact K0.out _ a2 | exact K0.out _ a3 | go_keep)
      (first | (go_at_call 21; ((with_reducible refine (C1.out _ (Below.drew (Below.refl _ _))).mono ?_); rintro e z1 ⟨v1, rfl, ⟨aq, nq, cq, eq, dq, lq, rfl, xq, yq⟩, hq1⟩; have a2 := Add.trans (Below.drew (Below.refl _ _) : Add w43 (World.drew w43)) hq1))
             | (go_at_call 23; ((with_reducible refine (C2.out _ a2 _ yq).mono ?_); rintro e z2 ⟨vw, vr, rfl, nw, nr, hq2⟩; have a3 := Add.trans a2 hq2)))
    obtain ⟨ar, cr, rfl⟩ := num_len0 nr
    obtain ⟨aw, mw, cw, rfl, hw0, -⟩ := num_size nw
    have dw : decide (0 < mw) = true := decide_eq_true (by have := mt hw0.1 HV0.out; omega)
    clear hw0 nw nr xq yq hfd K0 C1 C2 ha2 hq1 hq2 a2
    replace hT := hT.mono a3
    replace uA := uA.mono a3
    replace vA := vA.mono a3
    replace hA := hA.mono a3
    replace uC := uC.mono a3
    replace vC := vC.mono a3
    replace hC := hC.mono a3
    replace hN := hN.mono a3
    replace x1 := x1.mono a3
    replace y1 := y1.mono a3
    replace T := Add.trans T a3
    clear a3
    obtain ⟨w48, hW5⟩ : ∃ W5, W5 = z2 := ⟨_, rfl⟩
    rw [← hW5] at T hT uA vA hA uC vC hC hN x1 y1 ⊢
    clear hW5
    rcases S4.out with h4 | ⟨h4, h5⟩
    · have D1 : Hid (decide ((s1, N1, D1) = (s2, N2, D2)) = true) := Lib.hid (decide_eq_true h4)
      clear h4
      have ha0 := hA.c0
      have ha1 := hA.c1
      have ha2 := hA.c2
      have hb0 := hC.c0
      have hb1 := hC.c1
      have hb2 := hC.c2
      go_wp2_with fail
      refine (sameF true (fracT_mk (b := s1) uA vA) (fracT_mk (b := s2) uC vC) D1).mono ?_
      rintro e w49 ⟨rfl, h49⟩
      replace hT := hT.mono h49
      replace uA := uA.mono h49
      replace vA := vA.mono h49
      replace hA := hA.mono h49
      replace uC := uC.mono h49
      replace vC := vC.mono h49
      replace hC := hC.mono h49
      replace hN := hN.mono h49
      replace x1 := x1.mono h49
      replace y1 := y1.mono h49
      replace T := Add.trans T h49
      clear h49 ha0 ha1 ha2 hb0 hb1 hb2
      go_wp2_with fail
      refine (awake2_any _ hT).mono ?_
      rintro e w50 ⟨rfl, h50⟩
      replace hT := hT.mono h50
      replace uA := uA.mono h50
      replace vA := vA.mono h50
      replace hA := hA.mono h50
      replace uC := uC.mono h50
      replace vC := vC.mono h50
      replace hC := hC.mono h50
      replace hN := hN.mono h50
      replace x1 := x1.mono h50
      replace y1 := y1.mono h50
      replace T := Add.trans T h50
      clear h50 
      go_wp2_with fail
      go_ret
      exact ⟨rfl, T⟩
    · have D1 : Hid (decide ((s1, N1, D1) = (s2, N2, D2)) = false) := Lib.hid (decide_eq_false h4)
      have D2 : Hid (decide ((s2, N2, D2) = (s3, N3, D3)) = true) := Lib.hid (decide_eq_true h5)
      clear h4 h5
      have ha0 := hA.c0
      have ha1 := hA.c1
      have ha2 := hA.c2
      have hb0 := hC.c0
      have hb1 := hC.c1
      have hb2 := hC.c2
      go_wp2_with fail
      refine (sameF false (fracT_mk (b := s1) uA vA) (fracT_mk (b := s2) uC vC) D1).mono ?_
      rintro e w49 ⟨rfl, h49⟩
      replace hT := hT.mono h49
      replace uA := uA.mono h49
      replace vA := vA.mono h49
      replace hA := hA.mono h49
      replace uC := uC.mono h49
      replace vC := vC.mono h49
      replace hC := hC.mono h49
      replace hN := hN.mono h49
      replace x1 := x1.mono h49
      replace y1 := y1.mono h49
      replace T := Add.trans T h49
      clear h49 ha0 ha1 ha2 hb0 hb1 hb2
      have ha0 := hC.c0
      have ha1 := hC.c1
      have ha2 := hC.c2
      have hb0 := hN.c0
      have hb1 := hN.c1
      have hb2 := hN.c2
      go_wp2_with fail
      refine (sameF true (fracT_mk (b := s2) uC vC) (fracT_mk (b := s3) x1 y1) D2).mono ?_
      rintro e w50 ⟨rfl, h50⟩
      replace hT := hT.mono h50
      replace uA := uA.mono h50
      replace vA := vA.mono h50
      replace hA := hA.mono h50
      replace uC := uC.mono h50
      replace vC := vC.mono h50
      replace hC := hC.mono h50
      replace hN := hN.mono h50
      replace x1 := x1.mono h50
      replace y1 := y1.mono h50
      replace T := Add.trans T h50
      clear h50 ha0 ha1 ha2 hb0 hb1 hb2
      go_wp2_with fail
      refine (awake2_any _ hT).mono ?_
      rintro e w51 ⟨rfl, h51⟩
      replace hT := hT.mono h51
      replace uA := uA.mono h51
      replace vA := vA.mono h51
      replace hA := hA.mono h51
      replace uC := uC.mono h51
      replace vC := vC.mono h51
      replace hC := hC.mono h51
      replace hN := hN.mono h51
      replace x1 := x1.mono h51
      replace y1 := y1.mono h51
      replace T := Add.trans T h51
      clear h51 
      go_wp2_with fail
      go_ret
      exact ⟨rfl, T⟩

theorem rounds_any {v : Value} {b : Bool} {xs ys : List Nat} {z : Int} (w : World) (hx : FracI w v b xs ys) (hT : Tab w) : Calls Tryz.prog 3 #[v, .int .i64 z] w (LawP w) := by
  rcases hl : longB xs ys with _ | _
  · cases h : okF (b, val xs, val ys)
    · exact rounds_bad w hx hT hl h
    · by_cases h1 : z < 0
      · exact rounds_low w hx hT hl h h1
      · by_cases h2 : 256 < z
        · exact rounds_high w hx hT hl h h1 h2
        · obtain ⟨k, rfl⟩ : ∃ k : Nat, z = (k : Int) := ⟨z.toNat, by omega⟩
          exact rounds_ok k w hx hT hl h (by omega)
  · exact rounds_long w hx hT hl
end Go.Proofs.YtiboebgnbnafdaaGreatDoor.RoundsL
