/- The law NaturalGcd: its walk, for all arguments. -/
import Derived.Test.YtjgaeodihijalaaDoorA3
namespace Go.Proofs.YtjgaeodihijalaaDoor.GcdL
open Go.Proofs.YtjgaeodihijalaaDoor Go.Proofs.YtjgaeodihijalaaDoor.Api Go.RowKit NatM
set_option maxRecDepth 100000 in
theorem gcd_long (va : Value) (vb : Value) (vc : Value) (xs : List Nat) (ys : List Nat) (zs : List Nat) (w : World) (ra : Reads w va xs) (rb : Reads w vb ys) (rc : Reads w vc zs)  (hl : 60 < xs.length ∨ 60 < ys.length ∨ 60 < zs.length) :
    Calls Tryd.prog 7 #[va, vb, vc] w (LawP w) := by
  have hL : decide (60 < xs.length ∨ 60 < ys.length ∨ 60 < zs.length) = true := decide_eq_true hl
  have HLONG := Lib.hid (long3 true ra rb rc hL)
  obtain ⟨a0, n0, k0, rfl, -⟩ := ra.isSlice
  obtain ⟨a1, n1, k1, rfl, -⟩ := rb.isSlice
  obtain ⟨a2, n2, k2, rfl, -⟩ := rc.isSlice
  clear hL hl ra rb rc
  go_enter Tryd.func7, Tryd.ntmps7
  go_wp2_with fail
  refine HLONG.out.mono ?_
  rintro e w' ⟨rfl, rfl⟩
  go_wp2_with fail
  refine (awake_any _).mono ?_
  rintro e w' ⟨rfl, hadd⟩
  go_wp2_with fail
  go_ret
  exact ⟨rfl, Add.trans ((Below.refl _ _).alloc (Nat.le_refl _) _) hadd⟩

set_option maxRecDepth 100000 in
set_option maxHeartbeats 4000000 in
theorem gcd_wa (va : Value) (vb : Value) (vc : Value) (xs : List Nat) (ys : List Nat) (zs : List Nat) (w : World) (ra : Reads w va xs) (rb : Reads w vb ys) (rc : Reads w vc zs) (la : xs.length ≤ 60) (lb : ys.length ≤ 60) (lc : zs.length ≤ 60)  (hw : 12 < xs.length) :
    Calls Tryd.prog 7 #[va, vb, vc] w (LawP w) := by
  have hL : decide (60 < xs.length ∨ 60 < ys.length ∨ 60 < zs.length) = false := decide_eq_false (by omega)
  have HLONG := Lib.hid (long3 false ra rb rc hL)
  obtain ⟨A, hA⟩ : ∃ A, A = val xs := ⟨_, rfl⟩
  have sA : A < pw 60 := by rw [hA]; exact small60 ra.limbs la
  have u_a : Nu w va A := ⟨xs, ra, hA.symm, by omega⟩
  obtain ⟨B, hB⟩ : ∃ B, B = val ys := ⟨_, rfl⟩
  have sB : B < pw 60 := by rw [hB]; exact small60 rb.limbs lb
  have u_b : Nu w vb B := ⟨ys, rb, hB.symm, by omega⟩
  obtain ⟨C, hC⟩ : ∃ C, C = val zs := ⟨_, rfl⟩
  have sC : C < pw 60 := by rw [hC]; exact small60 rc.limbs lc
  have u_c : Nu w vc C := ⟨zs, rc, hC.symm, by omega⟩
  obtain ⟨a0, n0, k0, rfl, -⟩ := ra.isSlice
  obtain ⟨a1, n1, k1, rfl, -⟩ := rb.isSlice
  obtain ⟨a2, n2, k2, rfl, -⟩ := rc.isSlice
  have T : Add w (w.alloc (.cells #[.slice a0 n0 k0, .slice a1 n1 k1, .slice a2 n2 k2] 23)) := (Below.refl _ _).alloc (Nat.le_refl _) _
  replace u_a := u_a.mono T
  replace u_b := u_b.mono T
  replace u_c := u_c.mono T
  have e0 : n0 = xs.length := ra.lenV
  have e1 : n1 = ys.length := rb.lenV
  have e2 : n2 = zs.length := rc.lenV
  have d1 : decide ((12 : Int) < (n0 : Nat)) = true := by simp; omega
  clear e0 e1 e2 hw
  clear hL hA ra la hB rb lb hC rc lc sA sB sC
  go_enter Tryd.func7, Tryd.ntmps7
  go_wp2_with fail
  refine HLONG.out.mono ?_
  rintro e w' ⟨rfl, rfl⟩
  clear HLONG
  go_wp2_with fail
  refine (awake_any _).mono ?_
  rintro e w' ⟨rfl, hadd⟩
  go_wp2_with fail
  go_ret
  exact ⟨rfl, Add.trans T hadd⟩
set_option maxRecDepth 100000 in
set_option maxHeartbeats 4000000 in
theorem gcd_wb (va : Value) (vb : Value) (vc : Value) (xs : List Nat) (ys : List Nat) (zs : List Nat) (w : World) (ra : Reads w va xs) (rb : Reads w vb ys) (rc : Reads w vc zs) (la : xs.length ≤ 60) (lb : ys.length ≤ 60) (lc : zs.length ≤ 60)  (hw0 : xs.length ≤ 12) (hw : 12 < ys.length) :
    Calls Tryd.prog 7 #[va, vb, vc] w (LawP w) := by
  have hL : decide (60 < xs.length ∨ 60 < ys.length ∨ 60 < zs.length) = false := decide_eq_false (by omega)
  have HLONG := Lib.hid (long3 false ra rb rc hL)
  obtain ⟨A, hA⟩ : ∃ A, A = val xs := ⟨_, rfl⟩
  have sA : A < pw 60 := by rw [hA]; exact small60 ra.limbs la
  have u_a : Nu w va A := ⟨xs, ra, hA.symm, by omega⟩
  obtain ⟨B, hB⟩ : ∃ B, B = val ys := ⟨_, rfl⟩
  have sB : B < pw 60 := by rw [hB]; exact small60 rb.limbs lb
  have u_b : Nu w vb B := ⟨ys, rb, hB.symm, by omega⟩
  obtain ⟨C, hC⟩ : ∃ C, C = val zs := ⟨_, rfl⟩
  have sC : C < pw 60 := by rw [hC]; exact small60 rc.limbs lc
  have u_c : Nu w vc C := ⟨zs, rc, hC.symm, by omega⟩
  obtain ⟨a0, n0, k0, rfl, -⟩ := ra.isSlice
  obtain ⟨a1, n1, k1, rfl, -⟩ := rb.isSlice
  obtain ⟨a2, n2, k2, rfl, -⟩ := rc.isSlice
  have T : Add w (w.alloc (.cells #[.slice a0 n0 k0, .slice a1 n1 k1, .slice a2 n2 k2] 23)) := (Below.refl _ _).alloc (Nat.le_refl _) _
  replace u_a := u_a.mono T
  replace u_b := u_b.mono T
  replace u_c := u_c.mono T
  have e0 : n0 = xs.length := ra.lenV
  have e1 : n1 = ys.length := rb.lenV
  have e2 : n2 = zs.length := rc.lenV
  have d1 : decide ((12 : Int) < (n0 : Nat)) = false := by simp; omega
  have d2 : decide ((12 : Int) < (n1 : Nat)) = true := by simp; omega
  clear e0 e1 e2 hw hw0
  clear hL hA ra la hB rb lb hC rc lc sA sB sC
  go_enter Tryd.func7, Tryd.ntmps7
  go_wp2_with fail
  refine HLONG.out.mono ?_
  rintro e w' ⟨rfl, rfl⟩
  clear HLONG
  go_wp2_with fail
  refine (awake_any _).mono ?_
  rintro e w' ⟨rfl, hadd⟩
  go_wp2_with fail
  go_ret
  exact ⟨rfl, Add.trans T hadd⟩
set_option maxRecDepth 100000 in
set_option maxHeartbeats 4000000 in
theorem gcd_wc (va : Value) (vb : Value) (vc : Value) (xs : List Nat) (ys : List Nat) (zs : List Nat) (w : World) (ra : Reads w va xs) (rb : Reads w vb ys) (rc : Reads w vc zs) (la : xs.length ≤ 60) (lb : ys.length ≤ 60) (lc : zs.length ≤ 60)  (hw0 : xs.length ≤ 12) (hw1 : ys.length ≤ 12) (hw : 6 < zs.length) :
    Calls Tryd.prog 7 #[va, vb, vc] w (LawP w) := by
  have hL : decide (60 < xs.length ∨ 60 < ys.length ∨ 60 < zs.length) = false := decide_eq_false (by omega)
  have HLONG := Lib.hid (long3 false ra rb rc hL)
  obtain ⟨A, hA⟩ : ∃ A, A = val xs := ⟨_, rfl⟩
  have sA : A < pw 60 := by rw [hA]; exact small60 ra.limbs la
  have u_a : Nu w va A := ⟨xs, ra, hA.symm, by omega⟩
  obtain ⟨B, hB⟩ : ∃ B, B = val ys := ⟨_, rfl⟩
  have sB : B < pw 60 := by rw [hB]; exact small60 rb.limbs lb
  have u_b : Nu w vb B := ⟨ys, rb, hB.symm, by omega⟩
  obtain ⟨C, hC⟩ : ∃ C, C = val zs := ⟨_, rfl⟩
  have sC : C < pw 60 := by rw [hC]; exact small60 rc.limbs lc
  have u_c : Nu w vc C := ⟨zs, rc, hC.symm, by omega⟩
  obtain ⟨a0, n0, k0, rfl, -⟩ := ra.isSlice
  obtain ⟨a1, n1, k1, rfl, -⟩ := rb.isSlice
  obtain ⟨a2, n2, k2, rfl, -⟩ := rc.isSlice
  have T : Add w (w.alloc (.cells #[.slice a0 n0 k0, .slice a1 n1 k1, .slice a2 n2 k2] 23)) := (Below.refl _ _).alloc (Nat.le_refl _) _
  replace u_a := u_a.mono T
  replace u_b := u_b.mono T
  replace u_c := u_c.mono T
  have e0 : n0 = xs.length := ra.lenV
  have e1 : n1 = ys.length := rb.lenV
  have e2 : n2 = zs.length := rc.lenV
  have d1 : decide ((12 : Int) < (n0 : Nat)) = false := by simp; omega
  have d2 : decide ((12 : Int) < (n1 : Nat)) = false := by simp; omega
  have d3 : decide ((6 : Int) < (n2 : Nat)) = true := by simp; omega
  clear e0 e1 e2 hw hw0 hw1
  clear hL hA ra la hB rb lb hC rc lc sA sB sC
  go_enter Tryd.func7, Tryd.ntmps7
  go_wp2_with fail
  refine HLONG.out.mono ?_
  rintro e w' ⟨rfl, rfl⟩
  clear HLONG
  go_wp2_with fail
  refine (awake_any _).mono ?_
  rintro e w' ⟨rfl, hadd⟩
  go_wp2_with fail
  go_ret
  exact ⟨rfl, Add.trans T hadd⟩
set_option maxRecDepth 100000 in
set_option maxHeartbeats 4000000 in
theorem gcd_zero (va : Value) (vb : Value) (vc : Value) (xs : List Nat) (ys : List Nat) (zs : List Nat) (w : World) (ra : Reads w va xs) (rb : Reads w vb ys) (rc : Reads w vc zs) (la : xs.length ≤ 60) (lb : ys.length ≤ 60) (lc : zs.length ≤ 60)  (hw0 : xs.length ≤ 12) (hw1 : ys.length ≤ 12) (hw2 : zs.length ≤ 6) (h0 : val xs = 0 ∧ val ys = 0) :
    Calls Tryd.prog 7 #[va, vb, vc] w (LawP w) := by
  have hL : decide (60 < xs.length ∨ 60 < ys.length ∨ 60 < zs.length) = false := decide_eq_false (by omega)
  have HLONG := Lib.hid (long3 false ra rb rc hL)
  obtain ⟨A, hA⟩ : ∃ A, A = val xs := ⟨_, rfl⟩
  have sA : A < pw 60 := by rw [hA]; exact small60 ra.limbs la
  have u_a : Nu w va A := ⟨xs, ra, hA.symm, by omega⟩
  obtain ⟨B, hB⟩ : ∃ B, B = val ys := ⟨_, rfl⟩
  have sB : B < pw 60 := by rw [hB]; exact small60 rb.limbs lb
  have u_b : Nu w vb B := ⟨ys, rb, hB.symm, by omega⟩
  obtain ⟨C, hC⟩ : ∃ C, C = val zs := ⟨_, rfl⟩
  have sC : C < pw 60 := by rw [hC]; exact small60 rc.limbs lc
  have u_c : Nu w vc C := ⟨zs, rc, hC.symm, by omega⟩
  obtain ⟨a0, n0, k0, rfl, -⟩ := ra.isSlice
  obtain ⟨a1, n1, k1, rfl, -⟩ := rb.isSlice
  obtain ⟨a2, n2, k2, rfl, -⟩ := rc.isSlice
  have T : Add w (w.alloc (.cells #[.slice a0 n0 k0, .slice a1 n1 k1, .slice a2 n2 k2] 23)) := (Below.refl _ _).alloc (Nat.le_refl _) _
  replace u_a := u_a.mono T
  replace u_b := u_b.mono T
  replace u_c := u_c.mono T
  have e0 : n0 = xs.length := ra.lenV
  have e1 : n1 = ys.length := rb.lenV
  have e2 : n2 = zs.length := rc.lenV
  have d1 : decide ((12 : Int) < (n0 : Nat)) = false := by simp; omega
  have d2 : decide ((12 : Int) < (n1 : Nat)) = false := by simp; omega
  have d3 : decide ((6 : Int) < (n2 : Nat)) = false := by simp; omega
  have q12 : ∀ (v : Value) (zs : List Nat), Reads w v zs → zs.length ≤ 12 → val zs < pw 12 := fun v zs r l => Nat.lt_of_lt_of_le (val_lt r.limbs) (pw_le l)
  have tA : A < pw 12 := by rw [hA]; exact q12 _ _ ra hw0
  have tB : B < pw 12 := by rw [hB]; exact q12 _ _ rb hw1
  have tC : C < pw 12 := by rw [hC]; exact q12 _ _ rc (by omega)
  have bA := lt_up tA (by omega : 12 ≤ 512)
  have bB := lt_up tB (by omega : 12 ≤ 512)
  have bC := lt_up tC (by omega : 12 ≤ 512)
  clear e0 e1 e2 hw0 hw1 hw2 q12
  obtain ⟨G, hG⟩ : ∃ G, G = Nat.gcd A B := ⟨_, rfl⟩
  have F1 : Hid (A < pw 512 ∧ B < pw 512 ∧ Nat.gcd A B = G) := Lib.hid ⟨bA, bB, hG.symm⟩
  have F2 : Hid (nb A = 0) := Lib.hid (nb_eq_zero.2 (hA.trans h0.1))
  have F3 : Hid (nb B = 0) := Lib.hid (nb_eq_zero.2 (hB.trans h0.2))
  have hG0 : G = 0 := by rw [hG, hA.trans h0.1, hB.trans h0.2]; rfl
  subst hG0
  clear bA bB bC tA tB tC hG h0
  clear hL hA ra la hB rb lb hC rc lc sA sB sC
  go_enter Tryd.func7, Tryd.ntmps7
  go_wp2_with fail
  refine HLONG.out.mono ?_
  rintro e w' ⟨rfl, rfl⟩
  clear HLONG
  go_wp2_with fail
  refine (gcdN 0 u_a u_b F1).mono ?_
  rintro e w1 ⟨v_g, rfl, n_g, u_g, h1⟩
  replace u_a := u_a.mono h1
  replace u_b := u_b.mono h1
  replace T := Add.trans T h1
  clear u_c u_g h1
  go_wp2_with fail
  refine (bitsN 0 u_a F2).mono ?_
  rintro e w2 ⟨rfl, h2⟩
  replace u_b := u_b.mono h2
  replace n_g := n_g.mono h2
  replace T := Add.trans T h2
  clear u_a h2
  go_wp2_with fail
  refine (bitsN 0 u_b F3).mono ?_
  rintro e w3 ⟨rfl, h3⟩
  replace n_g := n_g.mono h3
  replace T := Add.trans T h3
  clear u_b h3
  obtain ⟨a_g, c_g, rfl⟩ := num_len0 n_g
  go_wp2_with fail
  refine (awake_any _).mono ?_
  rintro e w' ⟨rfl, hadd⟩
  go_wp2_with fail
  go_ret
  exact ⟨rfl, Add.trans T hadd⟩
set_option maxRecDepth 100000 in
set_option maxHeartbeats 4000000 in
theorem gcd_posa (va : Value) (vb : Value) (vc : Value) (xs : List Nat) (ys : List Nat) (zs : List Nat) (w : World) (ra : Reads w va xs) (rb : Reads w vb ys) (rc : Reads w vc zs) (la : xs.length ≤ 60) (lb : ys.length ≤ 60) (lc : zs.length ≤ 60)  (hw0 : xs.length ≤ 12) (hw1 : ys.length ≤ 12) (hw2 : zs.length ≤ 6) (hp0 : val xs ≠ 0) :
    Calls Tryd.prog 7 #[va, vb, vc] w (LawP w) := by
  have hL : decide (60 < xs.length ∨ 60 < ys.length ∨ 60 < zs.length) = false := decide_eq_false (by omega)
  have HLONG := Lib.hid (long3 false ra rb rc hL)
  obtain ⟨A, hA⟩ : ∃ A, A = val xs := ⟨_, rfl⟩
  have sA : A < pw 60 := by rw [hA]; exact small60 ra.limbs la
  have u_a : Nu w va A := ⟨xs, ra, hA.symm, by omega⟩
  obtain ⟨B, hB⟩ : ∃ B, B = val ys := ⟨_, rfl⟩
  have sB : B < pw 60 := by rw [hB]; exact small60 rb.limbs lb
  have u_b : Nu w vb B := ⟨ys, rb, hB.symm, by omega⟩
  obtain ⟨C, hC⟩ : ∃ C, C = val zs := ⟨_, rfl⟩
  have sC : C < pw 60 := by rw [hC]; exact small60 rc.limbs lc
  have u_c : Nu w vc C := ⟨zs, rc, hC.symm, by omega⟩
  obtain ⟨a0, n0, k0, rfl, -⟩ := ra.isSlice
  obtain ⟨a1, n1, k1, rfl, -⟩ := rb.isSlice
  obtain ⟨a2, n2, k2, rfl, -⟩ := rc.isSlice
  have T : Add w (w.alloc (.cells #[.slice a0 n0 k0, .slice a1 n1 k1, .slice a2 n2 k2] 23)) := (Below.refl _ _).alloc (Nat.le_refl _) _
  replace u_a := u_a.mono T
  replace u_b := u_b.mono T
  replace u_c := u_c.mono T
  have hp : A ≠ 0 := by rw [hA]; exact hp0
  have h0 : A ≠ 0 ∨ B ≠ 0 := .inl hp
  clear hp0
  have e0 : n0 = xs.length := ra.lenV
  have e1 : n1 = ys.length := rb.lenV
  have e2 : n2 = zs.length := rc.lenV
  have d1 : decide ((12 : Int) < (n0 : Nat)) = false := by simp; omega
  have d2 : decide ((12 : Int) < (n1 : Nat)) = false := by simp; omega
  have d3 : decide ((6 : Int) < (n2 : Nat)) = false := by simp; omega
  have q12 : ∀ (v : Value) (zs : List Nat), Reads w v zs → zs.length ≤ 12 → val zs < pw 12 := fun v zs r l => Nat.lt_of_lt_of_le (val_lt r.limbs) (pw_le l)
  have tA : A < pw 12 := by rw [hA]; exact q12 _ _ ra hw0
  have tB : B < pw 12 := by rw [hB]; exact q12 _ _ rb hw1
  have tC : C < pw 12 := by rw [hC]; exact q12 _ _ rc (by omega)
  have bA := lt_up tA (by omega : 12 ≤ 512)
  have bB := lt_up tB (by omega : 12 ≤ 512)
  have bC := lt_up tC (by omega : 12 ≤ 512)
  clear e0 e1 e2 hw0 hw1 hw2 q12
  obtain ⟨G, hG⟩ : ∃ G, G = Nat.gcd A B := ⟨_, rfl⟩
  have F1 : Hid (A < pw 512 ∧ B < pw 512 ∧ Nat.gcd A B = G) := Lib.hid ⟨bA, bB, hG.symm⟩
  have hGp : 0 < G := by
    rw [hG]
    rcases h0 with h | h
    · exact Nat.gcd_pos_of_pos_left _ (by omega)
    · exact Nat.gcd_pos_of_pos_right _ (by omega)
  have gA : G ∣ A := by rw [hG]; exact Nat.gcd_dvd_left _ _
  have gB : G ∣ B := by rw [hG]; exact Nat.gcd_dvd_right _ _
  have tG : G < pw 12 := by
    rcases h0 with h | h
    · exact Nat.lt_of_le_of_lt (Nat.le_of_dvd (by omega) gA) tA
    · exact Nat.lt_of_le_of_lt (Nat.le_of_dvd (by omega) gB) tB
  have bG := lt_up tG (by omega : 12 ≤ 512)
  obtain ⟨X, hX⟩ : ∃ X, X = A / G := ⟨_, rfl⟩
  obtain ⟨Y, hY⟩ : ∃ Y, Y = B / G := ⟨_, rfl⟩
  have bX : X < pw 512 := by rw [hX]; exact Nat.lt_of_le_of_lt (Nat.div_le_self _ _) bA
  have bY : Y < pw 512 := by rw [hY]; exact Nat.lt_of_le_of_lt (Nat.div_le_self _ _) bB
  have F4 : Hid (A < pw 512 ∧ G < pw 512 ∧ G ≠ 0 ∧ A / G = X ∧ A % G = 0) := Lib.hid ⟨bA, bG, by omega, hX.symm, Nat.mod_eq_zero_of_dvd gA⟩
  have F5 : Hid (B < pw 512 ∧ G < pw 512 ∧ G ≠ 0 ∧ B / G = Y ∧ B % G = 0) := Lib.hid ⟨bB, bG, by omega, hY.symm, Nat.mod_eq_zero_of_dvd gB⟩
  have F6 : Hid (X < pw 512 ∧ Y < pw 512 ∧ Nat.gcd X Y = 1) := Lib.hid ⟨bX, bY, gcd_cofactors hG hGp hX hY⟩
  have bAC : A * C < pw 512 := lt_up (lt_mul tA tC) (by omega)
  have bBC : B * C < pw 512 := lt_up (lt_mul tB tC) (by omega)
  have bGC : G * C < pw 512 := lt_up (lt_mul tG tC) (by omega)
  have F7 : Hid (A < pw 512 ∧ C < pw 512 ∧ A * C < pw 512) := Lib.hid ⟨bA, bC, bAC⟩
  have F8 : Hid (B < pw 512 ∧ C < pw 512 ∧ B * C < pw 512) := Lib.hid ⟨bB, bC, bBC⟩
  have F9 : Hid (A * C < pw 512 ∧ B * C < pw 512 ∧ Nat.gcd (A * C) (B * C) = G * C) := Lib.hid ⟨bAC, bBC, by rw [Nat.gcd_mul_right, hG]⟩
  have F10 : Hid (G < pw 512 ∧ C < pw 512 ∧ G * C < pw 512) := Lib.hid ⟨bG, bC, bGC⟩
  have F11 : Hid (cmpI 1 1 = 0) := Lib.hid (cmpI_eq rfl)
  obtain ⟨t, ht⟩ : ∃ t, t = nb A := ⟨_, rfl⟩
  have htp : ((t : Int) == 0) = false := by have := nb_pos (n := A) hp; simp; omega
  have F2 : Hid (nb A = t) := Lib.hid ht.symm
  clear ht hp
  clear bA bB bC tA tB tC hG h0 hGp gA gB tG bG hX hY bX bY bAC bBC bGC
  clear hL hA ra la hB rb lb hC rc lc sA sB sC
  go_enter Tryd.func7, Tryd.ntmps7
  go_wp2_with fail
  refine HLONG.out.mono ?_
  rintro e w' ⟨rfl, rfl⟩
  clear HLONG
  go_wp2_with fail
  refine (gcdN G u_a u_b F1).mono ?_
  rintro e w1 ⟨v_g, rfl, n_g, u_g, h1⟩
  replace u_a := u_a.mono h1
  replace u_b := u_b.mono h1
  replace u_c := u_c.mono h1
  replace T := Add.trans T h1
  clear n_g h1
  go_wp2_with fail
  refine (bitsN t u_a F2).mono ?_
  rintro e w2 ⟨rfl, h2⟩
  replace u_a := u_a.mono h2
  replace u_b := u_b.mono h2
  replace u_c := u_c.mono h2
  replace u_g := u_g.mono h2
  replace T := Add.trans T h2
  clear h2
  go_wp2_with fail
  refine (divN X 0 u_a u_g F4).mono ?_
  rintro e w3 ⟨v_x, v_r, rfl, n_x, u_x, n_r, u_r, h3⟩
  replace u_a := u_a.mono h3
  replace u_b := u_b.mono h3
  replace u_c := u_c.mono h3
  replace u_g := u_g.mono h3
  replace T := Add.trans T h3
  clear n_x u_r h3
  obtain ⟨a_r, c_r, rfl⟩ := num_len0 n_r
  go_wp2_with fail
  refine (divN Y 0 u_b u_g F5).mono ?_
  rintro e w4 ⟨v_y, v_s, rfl, n_y, u_y, n_s, u_s, h4⟩
  replace u_a := u_a.mono h4
  replace u_b := u_b.mono h4
  replace u_c := u_c.mono h4
  replace u_g := u_g.mono h4
  replace u_x := u_x.mono h4
  replace T := Add.trans T h4
  clear n_r n_y u_s h4
  obtain ⟨a_s, c_s, rfl⟩ := num_len0 n_s
  go_wp2_with fail
  refine (gcdN 1 u_x u_y F6).mono ?_
  rintro e w5 ⟨v_one, rfl, n_one, u_one, h5⟩
  replace u_a := u_a.mono h5
  replace u_b := u_b.mono h5
  replace u_c := u_c.mono h5
  replace u_g := u_g.mono h5
  replace T := Add.trans T h5
  clear u_x u_y n_s n_one h5
  go_wp2_with fail
  refine (mulN u_a u_c F7).mono ?_
  rintro e w6 ⟨v_ac, rfl, n_ac, u_ac, h6⟩
  replace u_b := u_b.mono h6
  replace u_c := u_c.mono h6
  replace u_g := u_g.mono h6
  replace u_one := u_one.mono h6
  replace T := Add.trans T h6
  clear u_a n_ac h6
  go_wp2_with fail
  refine (mulN u_b u_c F8).mono ?_
  rintro e w7 ⟨v_bc, rfl, n_bc, u_bc, h7⟩
  replace u_c := u_c.mono h7
  replace u_g := u_g.mono h7
  replace u_one := u_one.mono h7
  replace u_ac := u_ac.mono h7
  replace T := Add.trans T h7
  clear u_b n_bc h7
  go_wp2_with fail
  refine (gcdN (G * C) u_ac u_bc F9).mono ?_
  rintro e w8 ⟨v_h, rfl, n_h, u_h, h8⟩
  replace u_c := u_c.mono h8
  replace u_g := u_g.mono h8
  replace u_one := u_one.mono h8
  replace T := Add.trans T h8
  clear u_ac u_bc u_h h8
  go_wp2_with fail
  refine (mulN u_g u_c F10).mono ?_
  rintro e w9 ⟨v_gc, rfl, n_gc, u_gc, h9⟩
  replace u_one := u_one.mono h9
  replace n_h := n_h.mono h9
  replace T := Add.trans T h9
  clear u_c u_g u_gc h9
  go_wp2_with fail
  have TA : ∀ W : World, Add W (W.alloc (.cells #[.int .u32 1] 44)) := fun W => (Below.refl _ _).alloc (Nat.le_refl _) _
  refine (cmpN 0 (u_one.mono (TA _)) (oneNu _ _ (by simp)) F11).mono ?_
  rintro e w99 ⟨rfl, h99⟩
  replace h99 := Add.trans (TA _) h99
  replace n_h := n_h.mono h99
  replace n_gc := n_gc.mono h99
  replace T := Add.trans T h99
  clear h99 TA
  go_wp2_with fail
  refine (sameN true n_h n_gc (Lib.hid (decide_eq_true rfl))).mono ?_
  rintro e w10 ⟨rfl, h10⟩
  replace T := Add.trans T h10
  clear u_one n_h n_gc h10
  go_wp2_with fail
  refine (awake_any _).mono ?_
  rintro e w' ⟨rfl, hadd⟩
  go_wp2_with fail
  go_ret
  exact ⟨rfl, Add.trans T hadd⟩
set_option maxRecDepth 100000 in
set_option maxHeartbeats 4000000 in
theorem gcd_posb (va : Value) (vb : Value) (vc : Value) (xs : List Nat) (ys : List Nat) (zs : List Nat) (w : World) (ra : Reads w va xs) (rb : Reads w vb ys) (rc : Reads w vc zs) (la : xs.length ≤ 60) (lb : ys.length ≤ 60) (lc : zs.length ≤ 60)  (hw0 : xs.length ≤ 12) (hw1 : ys.length ≤ 12) (hw2 : zs.length ≤ 6) (hz0 : val xs = 0) (hp0 : val ys ≠ 0) :
    Calls Tryd.prog 7 #[va, vb, vc] w (LawP w) := by
  have hL : decide (60 < xs.length ∨ 60 < ys.length ∨ 60 < zs.length) = false := decide_eq_false (by omega)
  have HLONG := Lib.hid (long3 false ra rb rc hL)
  obtain ⟨A, hA⟩ : ∃ A, A = val xs := ⟨_, rfl⟩
  have sA : A < pw 60 := by rw [hA]; exact small60 ra.limbs la
  have u_a : Nu w va A := ⟨xs, ra, hA.symm, by omega⟩
  obtain ⟨B, hB⟩ : ∃ B, B = val ys := ⟨_, rfl⟩
  have sB : B < pw 60 := by rw [hB]; exact small60 rb.limbs lb
  have u_b : Nu w vb B := ⟨ys, rb, hB.symm, by omega⟩
  obtain ⟨C, hC⟩ : ∃ C, C = val zs := ⟨_, rfl⟩
  have sC : C < pw 60 := by rw [hC]; exact small60 rc.limbs lc
  have u_c : Nu w vc C := ⟨zs, rc, hC.symm, by omega⟩
  obtain ⟨a0, n0, k0, rfl, -⟩ := ra.isSlice
  obtain ⟨a1, n1, k1, rfl, -⟩ := rb.isSlice
  obtain ⟨a2, n2, k2, rfl, -⟩ := rc.isSlice
  have T : Add w (w.alloc (.cells #[.slice a0 n0 k0, .slice a1 n1 k1, .slice a2 n2 k2] 23)) := (Below.refl _ _).alloc (Nat.le_refl _) _
  replace u_a := u_a.mono T
  replace u_b := u_b.mono T
  replace u_c := u_c.mono T
  have hp : B ≠ 0 := by rw [hB]; exact hp0
  have hz : A = 0 := by rw [hA]; exact hz0
  have h0 : A ≠ 0 ∨ B ≠ 0 := .inr hp
  clear hp0 hz0
  have e0 : n0 = xs.length := ra.lenV
  have e1 : n1 = ys.length := rb.lenV
  have e2 : n2 = zs.length := rc.lenV
  have d1 : decide ((12 : Int) < (n0 : Nat)) = false := by simp; omega
  have d2 : decide ((12 : Int) < (n1 : Nat)) = false := by simp; omega
  have d3 : decide ((6 : Int) < (n2 : Nat)) = false := by simp; omega
  have q12 : ∀ (v : Value) (zs : List Nat), Reads w v zs → zs.length ≤ 12 → val zs < pw 12 := fun v zs r l => Nat.lt_of_lt_of_le (val_lt r.limbs) (pw_le l)
  have tA : A < pw 12 := by rw [hA]; exact q12 _ _ ra hw0
  have tB : B < pw 12 := by rw [hB]; exact q12 _ _ rb hw1
  have tC : C < pw 12 := by rw [hC]; exact q12 _ _ rc (by omega)
  have bA := lt_up tA (by omega : 12 ≤ 512)
  have bB := lt_up tB (by omega : 12 ≤ 512)
  have bC := lt_up tC (by omega : 12 ≤ 512)
  clear e0 e1 e2 hw0 hw1 hw2 q12
  obtain ⟨G, hG⟩ : ∃ G, G = Nat.gcd A B := ⟨_, rfl⟩
  have F1 : Hid (A < pw 512 ∧ B < pw 512 ∧ Nat.gcd A B = G) := Lib.hid ⟨bA, bB, hG.symm⟩
  have hGp : 0 < G := by
    rw [hG]
    rcases h0 with h | h
    · exact Nat.gcd_pos_of_pos_left _ (by omega)
    · exact Nat.gcd_pos_of_pos_right _ (by omega)
  have gA : G ∣ A := by rw [hG]; exact Nat.gcd_dvd_left _ _
  have gB : G ∣ B := by rw [hG]; exact Nat.gcd_dvd_right _ _
  have tG : G < pw 12 := by
    rcases h0 with h | h
    · exact Nat.lt_of_le_of_lt (Nat.le_of_dvd (by omega) gA) tA
    · exact Nat.lt_of_le_of_lt (Nat.le_of_dvd (by omega) gB) tB
  have bG := lt_up tG (by omega : 12 ≤ 512)
  obtain ⟨X, hX⟩ : ∃ X, X = A / G := ⟨_, rfl⟩
  obtain ⟨Y, hY⟩ : ∃ Y, Y = B / G := ⟨_, rfl⟩
  have bX : X < pw 512 := by rw [hX]; exact Nat.lt_of_le_of_lt (Nat.div_le_self _ _) bA
  have bY : Y < pw 512 := by rw [hY]; exact Nat.lt_of_le_of_lt (Nat.div_le_self _ _) bB
  have F4 : Hid (A < pw 512 ∧ G < pw 512 ∧ G ≠ 0 ∧ A / G = X ∧ A % G = 0) := Lib.hid ⟨bA, bG, by omega, hX.symm, Nat.mod_eq_zero_of_dvd gA⟩
  have F5 : Hid (B < pw 512 ∧ G < pw 512 ∧ G ≠ 0 ∧ B / G = Y ∧ B % G = 0) := Lib.hid ⟨bB, bG, by omega, hY.symm, Nat.mod_eq_zero_of_dvd gB⟩
  have F6 : Hid (X < pw 512 ∧ Y < pw 512 ∧ Nat.gcd X Y = 1) := Lib.hid ⟨bX, bY, gcd_cofactors hG hGp hX hY⟩
  have bAC : A * C < pw 512 := lt_up (lt_mul tA tC) (by omega)
  have bBC : B * C < pw 512 := lt_up (lt_mul tB tC) (by omega)
  have bGC : G * C < pw 512 := lt_up (lt_mul tG tC) (by omega)
  have F7 : Hid (A < pw 512 ∧ C < pw 512 ∧ A * C < pw 512) := Lib.hid ⟨bA, bC, bAC⟩
  have F8 : Hid (B < pw 512 ∧ C < pw 512 ∧ B * C < pw 512) := Lib.hid ⟨bB, bC, bBC⟩
  have F9 : Hid (A * C < pw 512 ∧ B * C < pw 512 ∧ Nat.gcd (A * C) (B * C) = G * C) := Lib.hid ⟨bAC, bBC, by rw [Nat.gcd_mul_right, hG]⟩
  have F10 : Hid (G < pw 512 ∧ C < pw 512 ∧ G * C < pw 512) := Lib.hid ⟨bG, bC, bGC⟩
  have F11 : Hid (cmpI 1 1 = 0) := Lib.hid (cmpI_eq rfl)
  obtain ⟨t, ht⟩ : ∃ t, t = nb B := ⟨_, rfl⟩
  have htp : ((t : Int) == 0) = false := by have := nb_pos (n := B) hp; simp; omega
  have F2 : Hid (nb A = 0) := Lib.hid (nb_eq_zero.2 hz)
  have F3 : Hid (nb B = t) := Lib.hid ht.symm
  clear ht hp hz
  clear bA bB bC tA tB tC hG h0 hGp gA gB tG bG hX hY bX bY bAC bBC bGC
  clear hL hA ra la hB rb lb hC rc lc sA sB sC
  go_enter Tryd.func7, Tryd.ntmps7
  go_wp2_with fail
  refine HLONG.out.mono ?_
  rintro e w' ⟨rfl, rfl⟩
  clear HLONG
  go_wp2_with fail
  refine (gcdN G u_a u_b F1).mono ?_
  rintro e w1 ⟨v_g, rfl, n_g, u_g, h1⟩
  replace u_a := u_a.mono h1
  replace u_b := u_b.mono h1
  replace u_c := u_c.mono h1
  replace T := Add.trans T h1
  clear n_g h1
  go_wp2_with fail
  refine (bitsN 0 u_a F2).mono ?_
  rintro e w2 ⟨rfl, h2⟩
  replace u_a := u_a.mono h2
  replace u_b := u_b.mono h2
  replace u_c := u_c.mono h2
  replace u_g := u_g.mono h2
  replace T := Add.trans T h2
  clear h2
  go_wp2_with fail
  refine (bitsN t u_b F3).mono ?_
  rintro e w3 ⟨rfl, h3⟩
  replace u_a := u_a.mono h3
  replace u_b := u_b.mono h3
  replace u_c := u_c.mono h3
  replace u_g := u_g.mono h3
  replace T := Add.trans T h3
  clear h3
  go_wp2_with fail
  refine (divN X 0 u_a u_g F4).mono ?_
  rintro e w4 ⟨v_x, v_r, rfl, n_x, u_x, n_r, u_r, h4⟩
  replace u_a := u_a.mono h4
  replace u_b := u_b.mono h4
  replace u_c := u_c.mono h4
  replace u_g := u_g.mono h4
  replace T := Add.trans T h4
  clear n_x u_r h4
  obtain ⟨a_r, c_r, rfl⟩ := num_len0 n_r
  go_wp2_with fail
  refine (divN Y 0 u_b u_g F5).mono ?_
  rintro e w5 ⟨v_y, v_s, rfl, n_y, u_y, n_s, u_s, h5⟩
  replace u_a := u_a.mono h5
  replace u_b := u_b.mono h5
  replace u_c := u_c.mono h5
  replace u_g := u_g.mono h5
  replace u_x := u_x.mono h5
  replace T := Add.trans T h5
  clear n_r n_y u_s h5
  obtain ⟨a_s, c_s, rfl⟩ := num_len0 n_s
  go_wp2_with fail
  refine (gcdN 1 u_x u_y F6).mono ?_
  rintro e w6 ⟨v_one, rfl, n_one, u_one, h6⟩
  replace u_a := u_a.mono h6
  replace u_b := u_b.mono h6
  replace u_c := u_c.mono h6
  replace u_g := u_g.mono h6
  replace T := Add.trans T h6
  clear u_x u_y n_s n_one h6
  go_wp2_with fail
  refine (mulN u_a u_c F7).mono ?_
  rintro e w7 ⟨v_ac, rfl, n_ac, u_ac, h7⟩
  replace u_b := u_b.mono h7
  replace u_c := u_c.mono h7
  replace u_g := u_g.mono h7
  replace u_one := u_one.mono h7
  replace T := Add.trans T h7
  clear u_a n_ac h7
  go_wp2_with fail
  refine (mulN u_b u_c F8).mono ?_
  rintro e w8 ⟨v_bc, rfl, n_bc, u_bc, h8⟩
  replace u_c := u_c.mono h8
  replace u_g := u_g.mono h8
  replace u_one := u_one.mono h8
  replace u_ac := u_ac.mono h8
  replace T := Add.trans T h8
  clear u_b n_bc h8
  go_wp2_with fail
  refine (gcdN (G * C) u_ac u_bc F9).mono ?_
  rintro e w9 ⟨v_h, rfl, n_h, u_h, h9⟩
  replace u_c := u_c.mono h9
  replace u_g := u_g.mono h9
  replace u_one := u_one.mono h9
  replace T := Add.trans T h9
  clear u_ac u_bc u_h h9
  go_wp2_with fail
  refine (mulN u_g u_c F10).mono ?_
  rintro e w10 ⟨v_gc, rfl, n_gc, u_gc, h10⟩
  replace u_one := u_one.mono h10
  replace n_h := n_h.mono h10
  replace T := Add.trans T h10
  clear u_c u_g u_gc h10
  go_wp2_with fail
  have TA : ∀ W : World, Add W (W.alloc (.cells #[.int .u32 1] 44)) := fun W => (Below.refl _ _).alloc (Nat.le_refl _) _
  refine (cmpN 0 (u_one.mono (TA _)) (oneNu _ _ (by simp)) F11).mono ?_
  rintro e w99 ⟨rfl, h99⟩
  replace h99 := Add.trans (TA _) h99
  replace n_h := n_h.mono h99
  replace n_gc := n_gc.mono h99
  replace T := Add.trans T h99
  clear h99 TA
  go_wp2_with fail
  refine (sameN true n_h n_gc (Lib.hid (decide_eq_true rfl))).mono ?_
  rintro e w11 ⟨rfl, h11⟩
  replace T := Add.trans T h11
  clear u_one n_h n_gc h11
  go_wp2_with fail
  refine (awake_any _).mono ?_
  rintro e w' ⟨rfl, hadd⟩
  go_wp2_with fail
  go_ret
  exact ⟨rfl, Add.trans T hadd⟩
end Go.Proofs.YtjgaeodihijalaaDoor.GcdL
