/- The law NaturalRing: its walk, for all arguments. -/
import Derived.Test.YtgcjjikoogieeaaDoorA
namespace Go.Proofs.YtgcjjikoogieeaaDoor.Ring
open Go.Proofs.YtgcjjikoogieeaaDoor Go.Proofs.YtgcjjikoogieeaaDoor.Api Go.RowKit NatM
set_option maxRecDepth 100000 in
theorem ring_long (va : Value) (vb : Value) (vc : Value) (xs : List Nat) (ys : List Nat) (zs : List Nat) (w : World) (ra : Reads w va xs) (rb : Reads w vb ys) (rc : Reads w vc zs)  (hl : 60 < xs.length ∨ 60 < ys.length ∨ 60 < zs.length) :
    Calls Tryd.prog 5 #[va, vb, vc] w (LawP w) := by
  have hL : decide (60 < xs.length ∨ 60 < ys.length ∨ 60 < zs.length) = true := decide_eq_true hl
  have HLONG := Lib.hid (long3 true ra rb rc hL)
  obtain ⟨a0, n0, k0, rfl, -⟩ := ra.isSlice
  obtain ⟨a1, n1, k1, rfl, -⟩ := rb.isSlice
  obtain ⟨a2, n2, k2, rfl, -⟩ := rc.isSlice
  clear hL hl ra rb rc
  go_enter Tryd.func5, Tryd.ntmps5
  go_wp2_with fail
  refine HLONG.out.mono ?_
  rintro e w' ⟨rfl, rfl⟩
  go_wp2_with fail
  refine (awake_any _).mono ?_
  rintro e w' ⟨rfl, hadd⟩
  go_wp2_with fail
  go_ret
  exact ⟨rfl, Add.trans ((Below.refl _ _).alloc (Nat.le_refl _) _) hadd⟩

set_option maxRecDepth 100000 in
set_option maxHeartbeats 4000000 in
theorem ring_short (va : Value) (vb : Value) (vc : Value) (xs : List Nat) (ys : List Nat) (zs : List Nat) (w : World) (ra : Reads w va xs) (rb : Reads w vb ys) (rc : Reads w vc zs) (la : xs.length ≤ 60) (lb : ys.length ≤ 60) (lc : zs.length ≤ 60)  :
    Calls Tryd.prog 5 #[va, vb, vc] w (LawP w) := by
  have hL : decide (60 < xs.length ∨ 60 < ys.length ∨ 60 < zs.length) = false := decide_eq_false (by omega)
  have HLONG := Lib.hid (long3 false ra rb rc hL)
  obtain ⟨A, hA⟩ : ∃ A, A = val xs := ⟨_, rfl⟩
  have sA : A < pw 60 := by rw [hA]; exact small60 ra.limbs la
  have u_a : Nu w va A := ⟨xs, ra, hA.symm, by omega⟩
  obtain ⟨B, hB⟩ : ∃ B, B = val ys := ⟨_, rfl⟩
  have sB : B < pw 60 := by rw [hB]; exact small60 rb.limbs lb
  have u_b : Nu w vb B := ⟨ys, rb, hB.symm, by omega⟩
  obtain ⟨C, hC⟩ : ∃ C, C = val zs := ⟨_, rfl⟩
  have sC : C < pw 60 := by rw [hC]; exact small60 rc.limbs lc
  have u_c : Nu w vc C := ⟨zs, rc, hC.symm, by omega⟩
  obtain ⟨a0, n0, k0, rfl, -⟩ := ra.isSlice
  obtain ⟨a1, n1, k1, rfl, -⟩ := rb.isSlice
  obtain ⟨a2, n2, k2, rfl, -⟩ := rc.isSlice
  have T : Add w (w.alloc (.cells #[.slice a0 n0 k0, .slice a1 n1 k1, .slice a2 n2 k2] 23)) := (Below.refl _ _).alloc (Nat.le_refl _) _
  replace u_a := u_a.mono T
  replace u_b := u_b.mono T
  replace u_c := u_c.mono T
  have bA := lt_up sA (by omega : 60 ≤ 512)
  have bB := lt_up sB (by omega : 60 ≤ 512)
  have bC := lt_up sC (by omega : 60 ≤ 512)
  have hAB := lt_add sA sB
  have hBC := lt_add sB sC
  have F1 : Hid (A + B < pw 512) := Lib.hid (lt_up hAB (by omega))
  have F2 : Hid (B + A < pw 512) := Lib.hid (lt_up (lt_add sB sA) (by omega))
  have F3 : Hid (A + B + C < pw 512) := Lib.hid (lt_up (lt_add hAB (lt_up sC (by omega : 60 ≤ 61))) (by omega))
  have F4 : Hid (B + C < pw 512) := Lib.hid (lt_up hBC (by omega))
  have F5 : Hid (A + (B + C) < pw 512) := Lib.hid (lt_up (lt_add (lt_up sA (by omega : 60 ≤ 61)) hBC) (by omega))
  have F6 : Hid (A + B < pw 512 ∧ B ≤ A + B) := Lib.hid ⟨F1.out, by omega⟩
  have F7 : Hid (decide (A + B = B + A) = true) := Lib.hid (decide_eq_true (by omega))
  have F8 : Hid (decide (A + B + C = A + (B + C)) = true) := Lib.hid (decide_eq_true (by omega))
  have F9 : Hid (cmpI (A + B - B) A = 0) := Lib.hid (cmpI_eq (by omega))
  have mAB := lt_mul sA sB
  have mBC := lt_mul sB sC
  have F10 : Hid (A < pw 512 ∧ B < pw 512 ∧ A * B < pw 512) := Lib.hid ⟨bA, bB, lt_up mAB (by omega)⟩
  have F11 : Hid (B < pw 512 ∧ A < pw 512 ∧ B * A < pw 512) := Lib.hid ⟨bB, bA, lt_up (lt_mul sB sA) (by omega)⟩
  have F12 : Hid (A * B < pw 512 ∧ C < pw 512 ∧ A * B * C < pw 512) := Lib.hid ⟨F10.out.2.2, bC, lt_up (lt_mul mAB sC) (by omega)⟩
  have F13 : Hid (B < pw 512 ∧ C < pw 512 ∧ B * C < pw 512) := Lib.hid ⟨bB, bC, lt_up mBC (by omega)⟩
  have F14 : Hid (A < pw 512 ∧ B * C < pw 512 ∧ A * (B * C) < pw 512) := Lib.hid ⟨bA, F13.out.2.2, lt_up (lt_mul sA mBC) (by omega)⟩
  have F15 : Hid (A < pw 512 ∧ B + C < pw 512 ∧ A * (B + C) < pw 512) := Lib.hid ⟨bA, F4.out, lt_up (lt_mul sA hBC) (by omega)⟩
  have mAC := lt_mul sA sC
  have F16 : Hid (A < pw 512 ∧ C < pw 512 ∧ A * C < pw 512) := Lib.hid ⟨bA, bC, lt_up mAC (by omega)⟩
  have F17 : Hid (A * B + A * C < pw 512) := Lib.hid (lt_up (lt_add mAB mAC) (by omega))
  have F18 : Hid (decide (A * B = B * A) = true) := Lib.hid (decide_eq_true (Nat.mul_comm A B))
  have F19 : Hid (decide (A * B * C = A * (B * C)) = true) := Lib.hid (decide_eq_true (Nat.mul_assoc A B C))
  have F20 : Hid (decide (A * (B + C) = A * B + A * C) = true) := Lib.hid (decide_eq_true (Nat.mul_add A B C))
  clear bA bB bC hAB hBC mAB mBC mAC
  clear hL hA ra la hB rb lb hC rc lc sA sB sC
  go_enter Tryd.func5, Tryd.ntmps5
  go_wp2_with fail
  refine HLONG.out.mono ?_
  rintro e w' ⟨rfl, rfl⟩
  clear HLONG
  go_wp2_with fail
  refine (addN u_a u_b F1).mono ?_
  rintro e w1 ⟨v_ab, rfl, n_ab, u_ab, h1⟩
  replace u_a := u_a.mono h1
  replace u_b := u_b.mono h1
  replace u_c := u_c.mono h1
  replace T := Add.trans T h1
  clear h1
  go_wp2_with fail
  refine (addN u_b u_a F2).mono ?_
  rintro e w2 ⟨v_ba, rfl, n_ba, u_ba, h2⟩
  replace u_a := u_a.mono h2
  replace u_b := u_b.mono h2
  replace u_c := u_c.mono h2
  replace n_ab := n_ab.mono h2
  replace u_ab := u_ab.mono h2
  replace T := Add.trans T h2
  clear u_ba h2
  go_wp2_with fail
  refine (addN u_ab u_c F3).mono ?_
  rintro e w3 ⟨v_x, rfl, n_x, u_x, h3⟩
  replace u_a := u_a.mono h3
  replace u_b := u_b.mono h3
  replace u_c := u_c.mono h3
  replace n_ab := n_ab.mono h3
  replace u_ab := u_ab.mono h3
  replace n_ba := n_ba.mono h3
  replace T := Add.trans T h3
  clear u_x h3
  go_wp2_with fail
  refine (addN u_b u_c F4).mono ?_
  rintro e w4 ⟨v_bc, rfl, n_bc, u_bc, h4⟩
  replace u_a := u_a.mono h4
  replace u_b := u_b.mono h4
  replace u_c := u_c.mono h4
  replace n_ab := n_ab.mono h4
  replace u_ab := u_ab.mono h4
  replace n_ba := n_ba.mono h4
  replace n_x := n_x.mono h4
  replace T := Add.trans T h4
  clear n_bc h4
  go_wp2_with fail
  refine (addN u_a u_bc F5).mono ?_
  rintro e w5 ⟨v_y, rfl, n_y, u_y, h5⟩
  replace u_a := u_a.mono h5
  replace u_b := u_b.mono h5
  replace u_c := u_c.mono h5
  replace n_ab := n_ab.mono h5
  replace u_ab := u_ab.mono h5
  replace n_ba := n_ba.mono h5
  replace n_x := n_x.mono h5
  replace u_bc := u_bc.mono h5
  replace T := Add.trans T h5
  clear u_y h5
  go_wp2_with fail
  refine (subN u_ab u_b F6).mono ?_
  rintro e w6 ⟨v_back, rfl, n_back, u_back, h6⟩
  replace u_a := u_a.mono h6
  replace u_b := u_b.mono h6
  replace u_c := u_c.mono h6
  replace n_ab := n_ab.mono h6
  replace n_ba := n_ba.mono h6
  replace n_x := n_x.mono h6
  replace u_bc := u_bc.mono h6
  replace n_y := n_y.mono h6
  replace T := Add.trans T h6
  clear u_ab n_back h6
  go_wp2_with fail
  refine (sameN true n_ab n_ba F7).mono ?_
  rintro e w7 ⟨rfl, h7⟩
  replace u_a := u_a.mono h7
  replace u_b := u_b.mono h7
  replace u_c := u_c.mono h7
  replace n_x := n_x.mono h7
  replace u_bc := u_bc.mono h7
  replace n_y := n_y.mono h7
  replace u_back := u_back.mono h7
  replace T := Add.trans T h7
  clear n_ab n_ba h7
  go_wp2_with fail
  refine (sameN true n_x n_y F8).mono ?_
  rintro e w8 ⟨rfl, h8⟩
  replace u_a := u_a.mono h8
  replace u_b := u_b.mono h8
  replace u_c := u_c.mono h8
  replace u_bc := u_bc.mono h8
  replace u_back := u_back.mono h8
  replace T := Add.trans T h8
  clear n_x n_y h8
  go_wp2_with fail
  refine (cmpN 0 u_back u_a F9).mono ?_
  rintro e w9 ⟨rfl, h9⟩
  replace u_a := u_a.mono h9
  replace u_b := u_b.mono h9
  replace u_c := u_c.mono h9
  replace u_bc := u_bc.mono h9
  replace T := Add.trans T h9
  clear u_back h9
  go_wp2_with fail
  refine (mulN u_a u_b F10).mono ?_
  rintro e w10 ⟨v_m, rfl, n_m, u_m, h10⟩
  replace u_a := u_a.mono h10
  replace u_b := u_b.mono h10
  replace u_c := u_c.mono h10
  replace u_bc := u_bc.mono h10
  replace T := Add.trans T h10
  clear h10
  go_wp2_with fail
  refine (mulN u_b u_a F11).mono ?_
  rintro e w11 ⟨v_n, rfl, n_n, u_n, h11⟩
  replace u_a := u_a.mono h11
  replace u_b := u_b.mono h11
  replace u_c := u_c.mono h11
  replace u_bc := u_bc.mono h11
  replace n_m := n_m.mono h11
  replace u_m := u_m.mono h11
  replace T := Add.trans T h11
  clear u_n h11
  go_wp2_with fail
  refine (mulN u_m u_c F12).mono ?_
  rintro e w12 ⟨v_mc, rfl, n_mc, u_mc, h12⟩
  replace u_a := u_a.mono h12
  replace u_b := u_b.mono h12
  replace u_c := u_c.mono h12
  replace u_bc := u_bc.mono h12
  replace n_m := n_m.mono h12
  replace u_m := u_m.mono h12
  replace n_n := n_n.mono h12
  replace T := Add.trans T h12
  clear u_mc h12
  go_wp2_with fail
  refine (mulN u_b u_c F13).mono ?_
  rintro e w13 ⟨v_bd, rfl, n_bd, u_bd, h13⟩
  replace u_a := u_a.mono h13
  replace u_c := u_c.mono h13
  replace u_bc := u_bc.mono h13
  replace n_m := n_m.mono h13
  replace u_m := u_m.mono h13
  replace n_n := n_n.mono h13
  replace n_mc := n_mc.mono h13
  replace T := Add.trans T h13
  clear u_b n_bd h13
  go_wp2_with fail
  refine (mulN u_a u_bd F14).mono ?_
  rintro e w14 ⟨v_ad, rfl, n_ad, u_ad, h14⟩
  replace u_a := u_a.mono h14
  replace u_c := u_c.mono h14
  replace u_bc := u_bc.mono h14
  replace n_m := n_m.mono h14
  replace u_m := u_m.mono h14
  replace n_n := n_n.mono h14
  replace n_mc := n_mc.mono h14
  replace T := Add.trans T h14
  clear u_bd u_ad h14
  go_wp2_with fail
  refine (mulN u_a u_bc F15).mono ?_
  rintro e w15 ⟨v_left, rfl, n_left, u_left, h15⟩
  replace u_a := u_a.mono h15
  replace u_c := u_c.mono h15
  replace n_m := n_m.mono h15
  replace u_m := u_m.mono h15
  replace n_n := n_n.mono h15
  replace n_mc := n_mc.mono h15
  replace n_ad := n_ad.mono h15
  replace T := Add.trans T h15
  clear u_bc u_left h15
  go_wp2_with fail
  refine (mulN u_a u_c F16).mono ?_
  rintro e w16 ⟨v_ac, rfl, n_ac, u_ac, h16⟩
  replace n_m := n_m.mono h16
  replace u_m := u_m.mono h16
  replace n_n := n_n.mono h16
  replace n_mc := n_mc.mono h16
  replace n_ad := n_ad.mono h16
  replace n_left := n_left.mono h16
  replace T := Add.trans T h16
  clear u_a u_c n_ac h16
  go_wp2_with fail
  refine (addN u_m u_ac F17).mono ?_
  rintro e w17 ⟨v_right, rfl, n_right, u_right, h17⟩
  replace n_m := n_m.mono h17
  replace n_n := n_n.mono h17
  replace n_mc := n_mc.mono h17
  replace n_ad := n_ad.mono h17
  replace n_left := n_left.mono h17
  replace T := Add.trans T h17
  clear u_m u_ac u_right h17
  go_wp2_with fail
  refine (sameN true n_m n_n F18).mono ?_
  rintro e w18 ⟨rfl, h18⟩
  replace n_mc := n_mc.mono h18
  replace n_ad := n_ad.mono h18
  replace n_left := n_left.mono h18
  replace n_right := n_right.mono h18
  replace T := Add.trans T h18
  clear n_m n_n h18
  go_wp2_with fail
  refine (sameN true n_mc n_ad F19).mono ?_
  rintro e w19 ⟨rfl, h19⟩
  replace n_left := n_left.mono h19
  replace n_right := n_right.mono h19
  replace T := Add.trans T h19
  clear n_mc n_ad h19
  go_wp2_with fail
  refine (sameN true n_left n_right F20).mono ?_
  rintro e w20 ⟨rfl, h20⟩
  replace T := Add.trans T h20
  clear n_left n_right h20
  go_wp2_with fail
  refine (awake_any _).mono ?_
  rintro e w' ⟨rfl, hadd⟩
  go_wp2_with fail
  go_ret
  exact ⟨rfl, Add.trans T hadd⟩
end Go.Proofs.YtgcjjikoogieeaaDoor.Ring
