/- The law NaturalShifts: its walk, for all arguments. -/
import Derived.Test.YtgcjjikoogieeaaDoorA2
namespace Go.Proofs.YtgcjjikoogieeaaDoor.Shifts
open Go.Proofs.YtgcjjikoogieeaaDoor Go.Proofs.YtgcjjikoogieeaaDoor.Api Go.RowKit NatM
set_option maxRecDepth 100000 in
theorem shifts_long (va : Value) (xs : List Nat) (w : World) (ra : Reads w va xs) (p q : Nat) (hl : 60 < xs.length) :
    Calls Tryd.prog 8 #[va, .int .u8 (p : Nat), .int .u8 (q : Nat)] w (LawP w) := by
  have hL : decide (60 < xs.length) = true := decide_eq_true hl
  have HLONG := Lib.hid (long1 true ra hL)
  obtain ⟨a0, n0, k0, rfl, -⟩ := ra.isSlice
  clear hL hl ra
  go_enter Tryd.func8, Tryd.ntmps8
  go_wp2_with fail
  refine HLONG.out.mono ?_
  rintro e w' ⟨rfl, rfl⟩
  go_wp2_with fail
  refine (awake_any _).mono ?_
  rintro e w' ⟨rfl, hadd⟩
  go_wp2_with fail
  go_ret
  exact ⟨rfl, Add.trans ((Below.refl _ _).alloc (Nat.le_refl _) _) hadd⟩

set_option maxRecDepth 100000 in
set_option maxHeartbeats 4000000 in
theorem shifts_zero (va : Value) (xs : List Nat) (w : World) (ra : Reads w va xs) (la : xs.length ≤ 60) (p q : Nat) (hp : p ≤ 255) (hq : q ≤ 255) (h0 : val xs = 0) :
    Calls Tryd.prog 8 #[va, .int .u8 (p : Nat), .int .u8 (q : Nat)] w (LawP w) := by
  have hL : decide (60 < xs.length) = false := decide_eq_false (by omega)
  have HLONG := Lib.hid (long1 false ra hL)
  obtain ⟨A, hA⟩ : ∃ A, A = val xs := ⟨_, rfl⟩
  have sA : A < pw 60 := by rw [hA]; exact small60 ra.limbs la
  have u_a : Nu w va A := ⟨xs, ra, hA.symm, by omega⟩
  obtain ⟨a0, n0, k0, rfl, -⟩ := ra.isSlice
  have T : Add w (w.alloc (.cells #[.slice a0 n0 k0] 23)) := (Below.refl _ _).alloc (Nat.le_refl _) _
  replace u_a := u_a.mono T
  have bA := lt_up sA (by omega : 60 ≤ 512)
  obtain ⟨P, hP⟩ : ∃ P, P = 2 ^ p := ⟨_, rfl⟩
  obtain ⟨U, hU⟩ : ∃ U, U = A * P := ⟨_, rfl⟩
  obtain ⟨H, hH⟩ : ∃ H, H = 2 ^ q := ⟨_, rfl⟩
  obtain ⟨D, hD⟩ : ∃ D, D = A / H := ⟨_, rfl⟩
  obtain ⟨R, hR⟩ : ∃ R, R = A % H := ⟨_, rfl⟩
  obtain ⟨t, ht⟩ : ∃ t, t = nb A := ⟨_, rfl⟩
  have hP8 : P < pw 8 := by rw [hP, pw_two]; exact Nat.pow_lt_pow_right (by decide) (by omega)
  have hH8 : H < pw 8 := by rw [hH, pw_two]; exact Nat.pow_lt_pow_right (by decide) (by omega)
  have hUb : U < pw 512 := by rw [hU]; exact lt_up (lt_mul sA hP8) (by omega)
  have hPp : 0 < P := by rw [hP]; exact Nat.pow_pos (by decide)
  have hHp : H ≠ 0 := by rw [hH]; exact Nat.pos_iff_ne_zero.1 (Nat.pow_pos (by decide))
  have hn1 : nb 1 = 1 := nb_eq (by decide) (by decide)
  have hnA : nb A ≤ 32 * 60 := nb_lt_pw.1 sA
  have F1 : Hid (1 < pw 512 ∧ nb 1 + p ≤ 16384 ∧ 1 * 2 ^ p = P) := Lib.hid ⟨lt_up (by decide : 1 < pw 1) (by omega : 1 ≤ 512), by omega, by rw [hP, Nat.one_mul]⟩
  have F2 : Hid (A < pw 512 ∧ nb A + p ≤ 16384 ∧ A * 2 ^ p = U) := Lib.hid ⟨bA, by omega, by rw [hU, hP]⟩
  have F3 : Hid (A < pw 512 ∧ P < pw 512 ∧ A * P < pw 512) := Lib.hid ⟨bA, lt_up hP8 (by omega), by rw [← hU]; exact hUb⟩
  have F4 : Hid (U < pw 512 ∧ U / 2 ^ p = A) := Lib.hid ⟨hUb, by rw [hU, ← hP]; exact Nat.mul_div_cancel _ hPp⟩
  have F5 : Hid (A < pw 512 ∧ A / 2 ^ q = D) := Lib.hid ⟨bA, by rw [hD, hH]⟩
  have F6 : Hid (1 < pw 512 ∧ nb 1 + q ≤ 16384 ∧ 1 * 2 ^ q = H) := Lib.hid ⟨F1.out.1, by omega, by rw [hH, Nat.one_mul]⟩
  have F7 : Hid (A < pw 512 ∧ H < pw 512 ∧ H ≠ 0 ∧ A / H = D ∧ A % H = R) := Lib.hid ⟨bA, lt_up hH8 (by omega), hHp, hD.symm, hR.symm⟩
  have F8 : Hid (decide (U = A * P) = true) := Lib.hid (decide_eq_true hU)
  have F9 : Hid (cmpI A A = 0) := Lib.hid (cmpI_eq rfl)
  have F11 : Hid (nb A = t) := Lib.hid ht.symm
  have F13 : Hid (nb P = p + 1) := Lib.hid (by rw [hP, nb_pow])
  have ht0 : t = 0 := by rw [ht]; exact nb_eq_zero.2 (by omega)
  clear h0 bA hP hU hH hD hR ht hP8 hH8 hUb hPp hHp hn1 hnA
  subst ht0
  clear hL hA ra la sA
  go_enter Tryd.func8, Tryd.ntmps8
  go_wp2_with fail
  refine HLONG.out.mono ?_
  rintro e w' ⟨rfl, rfl⟩
  clear HLONG
  go_wp2_with fail
  refine (upN P p (oneNu _ _ (by simp)) F1).mono ?_
  rintro e w1 ⟨v_power, rfl, n_power, u_power, h1⟩
  replace h1 := Add.trans ((Below.refl _ _).alloc (Nat.le_refl _) _) h1
  replace u_a := u_a.mono h1
  replace T := Add.trans T h1
  clear n_power h1
  go_wp2_with fail
  refine (upN U p u_a F2).mono ?_
  rintro e w2 ⟨v_up, rfl, n_up, u_up, h2⟩
  replace u_a := u_a.mono h2
  replace u_power := u_power.mono h2
  replace T := Add.trans T h2
  clear h2
  go_wp2_with fail
  refine (mulN u_a u_power F3).mono ?_
  rintro e w3 ⟨v_want, rfl, n_want, u_want, h3⟩
  replace u_a := u_a.mono h3
  replace u_power := u_power.mono h3
  replace n_up := n_up.mono h3
  replace u_up := u_up.mono h3
  replace T := Add.trans T h3
  clear u_want h3
  go_wp2_with fail
  refine (downN A p u_up F4).mono ?_
  rintro e w4 ⟨v_back, rfl, n_back, u_back, h4⟩
  replace u_a := u_a.mono h4
  replace u_power := u_power.mono h4
  replace n_up := n_up.mono h4
  replace n_want := n_want.mono h4
  replace T := Add.trans T h4
  clear u_up n_back h4
  go_wp2_with fail
  refine (downN D q u_a F5).mono ?_
  rintro e w5 ⟨v_down, rfl, n_down, u_down, h5⟩
  replace u_a := u_a.mono h5
  replace u_power := u_power.mono h5
  replace n_up := n_up.mono h5
  replace n_want := n_want.mono h5
  replace u_back := u_back.mono h5
  replace T := Add.trans T h5
  clear u_down h5
  go_wp2_with fail
  refine (upN H q (oneNu _ _ (by simp)) F6).mono ?_
  rintro e w6 ⟨v_half, rfl, n_half, u_half, h6⟩
  replace h6 := Add.trans ((Below.refl _ _).alloc (Nat.le_refl _) _) h6
  replace u_a := u_a.mono h6
  replace u_power := u_power.mono h6
  replace n_up := n_up.mono h6
  replace n_want := n_want.mono h6
  replace u_back := u_back.mono h6
  replace n_down := n_down.mono h6
  replace T := Add.trans T h6
  clear n_half h6
  go_wp2_with fail
  refine (divN D R u_a u_half F7).mono ?_
  rintro e w7 ⟨v_quo, v_rem, rfl, n_quo, u_quo, n_rem, u_rem, h7⟩
  replace u_a := u_a.mono h7
  replace u_power := u_power.mono h7
  replace n_up := n_up.mono h7
  replace n_want := n_want.mono h7
  replace u_back := u_back.mono h7
  replace n_down := n_down.mono h7
  replace T := Add.trans T h7
  clear u_half u_quo n_rem u_rem h7
  go_wp2_with fail
  refine (sameN true n_up n_want F8).mono ?_
  rintro e w8 ⟨rfl, h8⟩
  replace u_a := u_a.mono h8
  replace u_power := u_power.mono h8
  replace u_back := u_back.mono h8
  replace n_down := n_down.mono h8
  replace n_quo := n_quo.mono h8
  replace T := Add.trans T h8
  clear n_up n_want h8
  go_wp2_with fail
  refine (cmpN 0 u_back u_a F9).mono ?_
  rintro e w9 ⟨rfl, h9⟩
  replace u_a := u_a.mono h9
  replace u_power := u_power.mono h9
  replace n_down := n_down.mono h9
  replace n_quo := n_quo.mono h9
  replace T := Add.trans T h9
  clear u_back h9
  go_wp2_with fail
  refine (sameN true n_down n_quo (Lib.hid (decide_eq_true rfl))).mono ?_
  rintro e w10 ⟨rfl, h10⟩
  replace u_a := u_a.mono h10
  replace u_power := u_power.mono h10
  replace T := Add.trans T h10
  clear n_down n_quo h10
  go_wp2_with fail
  refine (bitsN 0 u_a F11).mono ?_
  rintro e w11 ⟨rfl, h11⟩
  replace u_power := u_power.mono h11
  replace T := Add.trans T h11
  clear u_a h11
  go_wp2_with fail
  refine (bitsN (p + 1) u_power F13).mono ?_
  rintro e w12 ⟨rfl, h12⟩
  replace T := Add.trans T h12
  clear u_power h12
  go_wp2_with fail
  refine (awake_any _).mono ?_
  rintro e w' ⟨rfl, hadd⟩
  go_wp2_with fail
  go_ret
  exact ⟨rfl, Add.trans T hadd⟩
set_option maxRecDepth 100000 in
set_option maxHeartbeats 4000000 in
theorem shifts_pos (va : Value) (xs : List Nat) (w : World) (ra : Reads w va xs) (la : xs.length ≤ 60) (p q : Nat) (hp : p ≤ 255) (hq : q ≤ 255) (h0 : val xs ≠ 0) :
    Calls Tryd.prog 8 #[va, .int .u8 (p : Nat), .int .u8 (q : Nat)] w (LawP w) := by
  have hL : decide (60 < xs.length) = false := decide_eq_false (by omega)
  have HLONG := Lib.hid (long1 false ra hL)
  obtain ⟨A, hA⟩ : ∃ A, A = val xs := ⟨_, rfl⟩
  have sA : A < pw 60 := by rw [hA]; exact small60 ra.limbs la
  have u_a : Nu w va A := ⟨xs, ra, hA.symm, by omega⟩
  obtain ⟨a0, n0, k0, rfl, -⟩ := ra.isSlice
  have T : Add w (w.alloc (.cells #[.slice a0 n0 k0] 23)) := (Below.refl _ _).alloc (Nat.le_refl _) _
  replace u_a := u_a.mono T
  have bA := lt_up sA (by omega : 60 ≤ 512)
  obtain ⟨P, hP⟩ : ∃ P, P = 2 ^ p := ⟨_, rfl⟩
  obtain ⟨U, hU⟩ : ∃ U, U = A * P := ⟨_, rfl⟩
  obtain ⟨H, hH⟩ : ∃ H, H = 2 ^ q := ⟨_, rfl⟩
  obtain ⟨D, hD⟩ : ∃ D, D = A / H := ⟨_, rfl⟩
  obtain ⟨R, hR⟩ : ∃ R, R = A % H := ⟨_, rfl⟩
  obtain ⟨t, ht⟩ : ∃ t, t = nb A := ⟨_, rfl⟩
  have hP8 : P < pw 8 := by rw [hP, pw_two]; exact Nat.pow_lt_pow_right (by decide) (by omega)
  have hH8 : H < pw 8 := by rw [hH, pw_two]; exact Nat.pow_lt_pow_right (by decide) (by omega)
  have hUb : U < pw 512 := by rw [hU]; exact lt_up (lt_mul sA hP8) (by omega)
  have hPp : 0 < P := by rw [hP]; exact Nat.pow_pos (by decide)
  have hHp : H ≠ 0 := by rw [hH]; exact Nat.pos_iff_ne_zero.1 (Nat.pow_pos (by decide))
  have hn1 : nb 1 = 1 := nb_eq (by decide) (by decide)
  have hnA : nb A ≤ 32 * 60 := nb_lt_pw.1 sA
  have F1 : Hid (1 < pw 512 ∧ nb 1 + p ≤ 16384 ∧ 1 * 2 ^ p = P) := Lib.hid ⟨lt_up (by decide : 1 < pw 1) (by omega : 1 ≤ 512), by omega, by rw [hP, Nat.one_mul]⟩
  have F2 : Hid (A < pw 512 ∧ nb A + p ≤ 16384 ∧ A * 2 ^ p = U) := Lib.hid ⟨bA, by omega, by rw [hU, hP]⟩
  have F3 : Hid (A < pw 512 ∧ P < pw 512 ∧ A * P < pw 512) := Lib.hid ⟨bA, lt_up hP8 (by omega), by rw [← hU]; exact hUb⟩
  have F4 : Hid (U < pw 512 ∧ U / 2 ^ p = A) := Lib.hid ⟨hUb, by rw [hU, ← hP]; exact Nat.mul_div_cancel _ hPp⟩
  have F5 : Hid (A < pw 512 ∧ A / 2 ^ q = D) := Lib.hid ⟨bA, by rw [hD, hH]⟩
  have F6 : Hid (1 < pw 512 ∧ nb 1 + q ≤ 16384 ∧ 1 * 2 ^ q = H) := Lib.hid ⟨F1.out.1, by omega, by rw [hH, Nat.one_mul]⟩
  have F7 : Hid (A < pw 512 ∧ H < pw 512 ∧ H ≠ 0 ∧ A / H = D ∧ A % H = R) := Lib.hid ⟨bA, lt_up hH8 (by omega), hHp, hD.symm, hR.symm⟩
  have F8 : Hid (decide (U = A * P) = true) := Lib.hid (decide_eq_true hU)
  have F9 : Hid (cmpI A A = 0) := Lib.hid (cmpI_eq rfl)
  have F11 : Hid (nb A = t) := Lib.hid ht.symm
  have F13 : Hid (nb P = p + 1) := Lib.hid (by rw [hP, nb_pow])
  have htp : ((t : Int) == 0) = false := by have := nb_pos (n := A) (by omega); simp; omega
  have htb : t ≤ 1920 := by omega
  have F12 : Hid (nb U = t + p) := Lib.hid (by rw [hU, hP, nb_shift (by omega), ht])
  clear h0 bA hP hU hH hD hR ht hP8 hH8 hUb hPp hHp hn1 hnA
  clear hL hA ra la sA
  go_enter Tryd.func8, Tryd.ntmps8
  go_wp2_with fail
  refine HLONG.out.mono ?_
  rintro e w' ⟨rfl, rfl⟩
  clear HLONG
  go_wp2_with fail
  refine (upN P p (oneNu _ _ (by simp)) F1).mono ?_
  rintro e w1 ⟨v_power, rfl, n_power, u_power, h1⟩
  replace h1 := Add.trans ((Below.refl _ _).alloc (Nat.le_refl _) _) h1
  replace u_a := u_a.mono h1
  replace T := Add.trans T h1
  clear n_power h1
  go_wp2_with fail
  refine (upN U p u_a F2).mono ?_
  rintro e w2 ⟨v_up, rfl, n_up, u_up, h2⟩
  replace u_a := u_a.mono h2
  replace u_power := u_power.mono h2
  replace T := Add.trans T h2
  clear h2
  go_wp2_with fail
  refine (mulN u_a u_power F3).mono ?_
  rintro e w3 ⟨v_want, rfl, n_want, u_want, h3⟩
  replace u_a := u_a.mono h3
  replace u_power := u_power.mono h3
  replace n_up := n_up.mono h3
  replace u_up := u_up.mono h3
  replace T := Add.trans T h3
  clear u_want h3
  go_wp2_with fail
  refine (downN A p u_up F4).mono ?_
  rintro e w4 ⟨v_back, rfl, n_back, u_back, h4⟩
  replace u_a := u_a.mono h4
  replace u_power := u_power.mono h4
  replace n_up := n_up.mono h4
  replace u_up := u_up.mono h4
  replace n_want := n_want.mono h4
  replace T := Add.trans T h4
  clear n_back h4
  go_wp2_with fail
  refine (downN D q u_a F5).mono ?_
  rintro e w5 ⟨v_down, rfl, n_down, u_down, h5⟩
  replace u_a := u_a.mono h5
  replace u_power := u_power.mono h5
  replace n_up := n_up.mono h5
  replace u_up := u_up.mono h5
  replace n_want := n_want.mono h5
  replace u_back := u_back.mono h5
  replace T := Add.trans T h5
  clear u_down h5
  go_wp2_with fail
  refine (upN H q (oneNu _ _ (by simp)) F6).mono ?_
  rintro e w6 ⟨v_half, rfl, n_half, u_half, h6⟩
  replace h6 := Add.trans ((Below.refl _ _).alloc (Nat.le_refl _) _) h6
  replace u_a := u_a.mono h6
  replace u_power := u_power.mono h6
  replace n_up := n_up.mono h6
  replace u_up := u_up.mono h6
  replace n_want := n_want.mono h6
  replace u_back := u_back.mono h6
  replace n_down := n_down.mono h6
  replace T := Add.trans T h6
  clear n_half h6
  go_wp2_with fail
  refine (divN D R u_a u_half F7).mono ?_
  rintro e w7 ⟨v_quo, v_rem, rfl, n_quo, u_quo, n_rem, u_rem, h7⟩
  replace u_a := u_a.mono h7
  replace u_power := u_power.mono h7
  replace n_up := n_up.mono h7
  replace u_up := u_up.mono h7
  replace n_want := n_want.mono h7
  replace u_back := u_back.mono h7
  replace n_down := n_down.mono h7
  replace T := Add.trans T h7
  clear u_half u_quo n_rem u_rem h7
  go_wp2_with fail
  refine (sameN true n_up n_want F8).mono ?_
  rintro e w8 ⟨rfl, h8⟩
  replace u_a := u_a.mono h8
  replace u_power := u_power.mono h8
  replace u_up := u_up.mono h8
  replace u_back := u_back.mono h8
  replace n_down := n_down.mono h8
  replace n_quo := n_quo.mono h8
  replace T := Add.trans T h8
  clear n_up n_want h8
  go_wp2_with fail
  refine (cmpN 0 u_back u_a F9).mono ?_
  rintro e w9 ⟨rfl, h9⟩
  replace u_a := u_a.mono h9
  replace u_power := u_power.mono h9
  replace u_up := u_up.mono h9
  replace n_down := n_down.mono h9
  replace n_quo := n_quo.mono h9
  replace T := Add.trans T h9
  clear u_back h9
  go_wp2_with fail
  refine (sameN true n_down n_quo (Lib.hid (decide_eq_true rfl))).mono ?_
  rintro e w10 ⟨rfl, h10⟩
  replace u_a := u_a.mono h10
  replace u_power := u_power.mono h10
  replace u_up := u_up.mono h10
  replace T := Add.trans T h10
  clear n_down n_quo h10
  go_wp2_with fail
  refine (bitsN t u_a F11).mono ?_
  rintro e w11 ⟨rfl, h11⟩
  replace u_a := u_a.mono h11
  replace u_power := u_power.mono h11
  replace u_up := u_up.mono h11
  replace T := Add.trans T h11
  clear h11
  go_wp2_with fail
  refine (bitsN (t + p) u_up F12).mono ?_
  rintro e w12 ⟨rfl, h12⟩
  replace u_a := u_a.mono h12
  replace u_power := u_power.mono h12
  replace T := Add.trans T h12
  clear u_up h12
  go_wp2_with fail
  refine (bitsN t u_a F11).mono ?_
  rintro e w13 ⟨rfl, h13⟩
  replace u_power := u_power.mono h13
  replace T := Add.trans T h13
  clear u_a h13
  go_wp2_with fail
  refine (bitsN (p + 1) u_power F13).mono ?_
  rintro e w14 ⟨rfl, h14⟩
  replace T := Add.trans T h14
  clear u_power h14
  go_wp2_with fail
  refine (awake_any _).mono ?_
  rintro e w' ⟨rfl, hadd⟩
  go_wp2_with fail
  go_ret
  exact ⟨rfl, Add.trans T hadd⟩
end Go.Proofs.YtgcjjikoogieeaaDoor.Shifts
