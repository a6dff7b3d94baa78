/- The law NaturalDivides: its walk, for all arguments. -/
import Derived.Test.YtgcjjikoogieeaaDoorA2
namespace Go.Proofs.YtgcjjikoogieeaaDoor.Divides
open Go.Proofs.YtgcjjikoogieeaaDoor Go.Proofs.YtgcjjikoogieeaaDoor.Api Go.RowKit NatM
set_option maxRecDepth 100000 in
theorem divides_long (va : Value) (vb : Value) (xs : List Nat) (ys : List Nat) (w : World) (ra : Reads w va xs) (rb : Reads w vb ys)  (hl : 60 < xs.length ∨ 60 < ys.length) :
    Calls Tryd.prog 6 #[va, vb] w (LawP w) := by
  have hL : decide (60 < xs.length ∨ 60 < ys.length) = true := decide_eq_true hl
  have HLONG := Lib.hid (long2 true ra rb hL)
  obtain ⟨a0, n0, k0, rfl, -⟩ := ra.isSlice
  obtain ⟨a1, n1, k1, rfl, -⟩ := rb.isSlice
  clear hL hl ra rb
  go_enter Tryd.func6, Tryd.ntmps6
  go_wp2_with fail
  refine HLONG.out.mono ?_
  rintro e w' ⟨rfl, rfl⟩
  go_wp2_with fail
  refine (awake_any _).mono ?_
  rintro e w' ⟨rfl, hadd⟩
  go_wp2_with fail
  go_ret
  exact ⟨rfl, Add.trans ((Below.refl _ _).alloc (Nat.le_refl _) _) hadd⟩

set_option maxRecDepth 100000 in
set_option maxHeartbeats 4000000 in
theorem divides_zero (va : Value) (vb : Value) (xs : List Nat) (ys : List Nat) (w : World) (ra : Reads w va xs) (rb : Reads w vb ys) (la : xs.length ≤ 60) (lb : ys.length ≤ 60) (h0 : val ys = 0) :
    Calls Tryd.prog 6 #[va, vb] w (LawP w) := by
  have hL : decide (60 < xs.length ∨ 60 < ys.length) = false := decide_eq_false (by omega)
  have HLONG := Lib.hid (long2 false ra rb hL)
  obtain ⟨A, hA⟩ : ∃ A, A = val xs := ⟨_, rfl⟩
  have sA : A < pw 60 := by rw [hA]; exact small60 ra.limbs la
  have u_a : Nu w va A := ⟨xs, ra, hA.symm, by omega⟩
  obtain ⟨B, hB⟩ : ∃ B, B = val ys := ⟨_, rfl⟩
  have sB : B < pw 60 := by rw [hB]; exact small60 rb.limbs lb
  have u_b : Nu w vb B := ⟨ys, rb, hB.symm, by omega⟩
  obtain ⟨a0, n0, k0, rfl, -⟩ := ra.isSlice
  obtain ⟨a1, n1, k1, rfl, -⟩ := rb.isSlice
  have T : Add w (w.alloc (.cells #[.slice a0 n0 k0, .slice a1 n1 k1] 23)) := (Below.refl _ _).alloc (Nat.le_refl _) _
  replace u_a := u_a.mono T
  replace u_b := u_b.mono T
  have bA := lt_up sA (by omega : 60 ≤ 512)
  have bB := lt_up sB (by omega : 60 ≤ 512)
  have hB0 : B = 0 := by omega
  have F1 : Hid (A < pw 512 ∧ B = 0) := Lib.hid ⟨bA, hB0⟩
  have F2 : Hid (nb B = 0) := Lib.hid (nb_eq_zero.2 hB0)
  clear bA bB hB0 h0
  clear hL hA ra la hB rb lb sA sB
  go_enter Tryd.func6, Tryd.ntmps6
  go_wp2_with fail
  refine HLONG.out.mono ?_
  rintro e w' ⟨rfl, rfl⟩
  clear HLONG
  go_wp2_with fail
  refine (divZ u_a u_b F1).mono ?_
  rintro e w1 ⟨rfl, h1⟩
  replace u_b := u_b.mono h1
  replace T := Add.trans T h1
  clear u_a h1
  go_wp2_with fail
  refine (bitsN 0 u_b F2).mono ?_
  rintro e w2 ⟨rfl, h2⟩
  replace T := Add.trans T h2
  clear u_b h2
  go_wp2_with fail
  refine (awake_any _).mono ?_
  rintro e w' ⟨rfl, hadd⟩
  go_wp2_with fail
  go_ret
  exact ⟨rfl, Add.trans T hadd⟩
set_option maxRecDepth 100000 in
set_option maxHeartbeats 4000000 in
theorem divides_pos (va : Value) (vb : Value) (xs : List Nat) (ys : List Nat) (w : World) (ra : Reads w va xs) (rb : Reads w vb ys) (la : xs.length ≤ 60) (lb : ys.length ≤ 60) (h0 : val ys ≠ 0) :
    Calls Tryd.prog 6 #[va, vb] w (LawP w) := by
  have hL : decide (60 < xs.length ∨ 60 < ys.length) = false := decide_eq_false (by omega)
  have HLONG := Lib.hid (long2 false ra rb hL)
  obtain ⟨A, hA⟩ : ∃ A, A = val xs := ⟨_, rfl⟩
  have sA : A < pw 60 := by rw [hA]; exact small60 ra.limbs la
  have u_a : Nu w va A := ⟨xs, ra, hA.symm, by omega⟩
  obtain ⟨B, hB⟩ : ∃ B, B = val ys := ⟨_, rfl⟩
  have sB : B < pw 60 := by rw [hB]; exact small60 rb.limbs lb
  have u_b : Nu w vb B := ⟨ys, rb, hB.symm, by omega⟩
  obtain ⟨a0, n0, k0, rfl, -⟩ := ra.isSlice
  obtain ⟨a1, n1, k1, rfl, -⟩ := rb.isSlice
  have T : Add w (w.alloc (.cells #[.slice a0 n0 k0, .slice a1 n1 k1] 23)) := (Below.refl _ _).alloc (Nat.le_refl _) _
  replace u_a := u_a.mono T
  replace u_b := u_b.mono T
  have bA := lt_up sA (by omega : 60 ≤ 512)
  have bB := lt_up sB (by omega : 60 ≤ 512)
  have hB0 : B ≠ 0 := by omega
  obtain ⟨Q, hQ⟩ : ∃ Q, Q = A / B := ⟨_, rfl⟩
  obtain ⟨R, hR⟩ : ∃ R, R = A % B := ⟨_, rfl⟩
  obtain ⟨t, ht⟩ : ∃ t, t = nb B := ⟨_, rfl⟩
  have htp : ((t : Int) == 0) = false := by have := nb_pos hB0; simp; omega
  have hQA : Q * B + R = A := by rw [hQ, hR, Nat.mul_comm]; exact Nat.div_add_mod A B
  have hRB : R < B := by rw [hR]; exact Nat.mod_lt _ (by omega)
  have hQl : Q ≤ A := by rw [hQ]; exact Nat.div_le_self _ _
  have F1 : Hid (A < pw 512 ∧ B < pw 512 ∧ B ≠ 0 ∧ A / B = Q ∧ A % B = R) := Lib.hid ⟨bA, bB, hB0, hQ.symm, hR.symm⟩
  have F2 : Hid (nb B = t) := Lib.hid ht.symm
  have F3 : Hid (Q < pw 512 ∧ B < pw 512 ∧ Q * B < pw 512) := Lib.hid ⟨by omega, bB, by omega⟩
  have F4 : Hid (Q * B + R < pw 512) := Lib.hid (by omega)
  have F5 : Hid (cmpI (Q * B + R) A = 0) := Lib.hid (cmpI_eq hQA)
  have F6 : Hid (cmpI R B = -1) := Lib.hid (cmpI_lt hRB)
  clear bA bB hB0 h0 hQ hR ht hQA hRB hQl
  clear hL hA ra la hB rb lb sA sB
  go_enter Tryd.func6, Tryd.ntmps6
  go_wp2_with fail
  refine HLONG.out.mono ?_
  rintro e w' ⟨rfl, rfl⟩
  clear HLONG
  go_wp2_with fail
  refine (divN Q R u_a u_b F1).mono ?_
  rintro e w1 ⟨v_q, v_r, rfl, n_q, u_q, n_r, u_r, h1⟩
  replace u_a := u_a.mono h1
  replace u_b := u_b.mono h1
  replace T := Add.trans T h1
  clear n_q n_r h1
  go_wp2_with fail
  refine (bitsN t u_b F2).mono ?_
  rintro e w2 ⟨rfl, h2⟩
  replace u_a := u_a.mono h2
  replace u_b := u_b.mono h2
  replace u_q := u_q.mono h2
  replace u_r := u_r.mono h2
  replace T := Add.trans T h2
  clear h2
  go_wp2_with fail
  refine (mulN u_q u_b F3).mono ?_
  rintro e w3 ⟨v_p, rfl, n_p, u_p, h3⟩
  replace u_a := u_a.mono h3
  replace u_b := u_b.mono h3
  replace u_r := u_r.mono h3
  replace T := Add.trans T h3
  clear u_q n_p h3
  go_wp2_with fail
  refine (addN u_p u_r F4).mono ?_
  rintro e w4 ⟨v_s, rfl, n_s, u_s, h4⟩
  replace u_a := u_a.mono h4
  replace u_b := u_b.mono h4
  replace u_r := u_r.mono h4
  replace T := Add.trans T h4
  clear u_p n_s h4
  go_wp2_with fail
  refine (cmpN 0 u_s u_a F5).mono ?_
  rintro e w5 ⟨rfl, h5⟩
  replace u_b := u_b.mono h5
  replace u_r := u_r.mono h5
  replace T := Add.trans T h5
  clear u_a u_s h5
  go_wp2_with fail
  refine (cmpN (-1) u_r u_b F6).mono ?_
  rintro e w6 ⟨rfl, h6⟩
  replace T := Add.trans T h6
  clear u_b u_r h6
  go_wp2_with fail
  refine (awake_any _).mono ?_
  rintro e w' ⟨rfl, hadd⟩
  go_wp2_with fail
  go_ret
  exact ⟨rfl, Add.trans T hadd⟩
end Go.Proofs.YtgcjjikoogieeaaDoor.Divides
