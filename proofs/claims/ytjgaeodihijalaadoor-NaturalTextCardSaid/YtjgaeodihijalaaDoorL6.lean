/- The law NaturalText: its walk, for all arguments. -/
import Derived.Test.YtjgaeodihijalaaDoorR9
namespace Go.Proofs.YtjgaeodihijalaaDoor.Text
open Go.Proofs.YtjgaeodihijalaaDoor Go.Proofs.YtjgaeodihijalaaDoor.Api Go.RowKit NatM
set_option maxRecDepth 100000 in
theorem text_long (va : Value) (xs : List Nat) (w : World) (ra : Reads w va xs) (s : ByteArray) (m : Nat) (hl : 60 < xs.length) :
    Calls Tryd.prog 9 #[va, .string s, .int .u8 (m : Nat)] w (LawP w) := by
  have hL : decide (60 < xs.length) = true := decide_eq_true hl
  have HLONG := Lib.hid (long1 true ra hL)
  obtain ⟨a0, n0, k0, rfl, -⟩ := ra.isSlice
  clear hL hl ra
  go_enter Tryd.func9, Tryd.ntmps9
  go_wp2_with fail
  refine HLONG.out.mono ?_
  rintro e w' ⟨rfl, rfl⟩
  go_wp2_with fail
  refine (awake_any _).mono ?_
  rintro e w' ⟨rfl, hadd⟩
  go_wp2_with fail
  go_ret
  exact ⟨rfl, Add.trans ((Below.refl _ _).alloc (Nat.le_refl _) _) hadd⟩
set_option maxRecDepth 100000 in
theorem text_big (va : Value) (xs : List Nat) (w : World) (ra : Reads w va xs) (s : ByteArray) (m : Nat) (hl : xs.length ≤ 60) (hs : 300 < s.size) :
    Calls Tryd.prog 9 #[va, .string s, .int .u8 (m : Nat)] w (LawP w) := by
  have hL : decide (60 < xs.length) = false := decide_eq_false (by omega)
  have HLONG := Lib.hid (long1 false ra hL)
  obtain ⟨a0, n0, k0, rfl, -⟩ := ra.isSlice
  clear hL hl ra
  go_enter Tryd.func9, Tryd.ntmps9
  go_wp2_with fail
  refine HLONG.out.mono ?_
  rintro e w' ⟨rfl, rfl⟩
  go_wp2_with fail
  refine (awake_any _).mono ?_
  rintro e w' ⟨rfl, hadd⟩
  go_wp2_with fail
  go_ret
  exact ⟨rfl, Add.trans ((Below.refl _ _).alloc (Nat.le_refl _) _) hadd⟩
set_option maxRecDepth 100000 in
set_option maxHeartbeats 8000000 in
theorem text_short (va : Value) (xs : List Nat) (w : World) (ra : Reads w va xs) (s : ByteArray) (m : Nat) (hm : m ≤ 255) (hl : xs.length ≤ 60) (hs : s.size ≤ 300) :
    Calls Tryd.prog 9 #[va, .string s, .int .u8 (m : Nat)] w (LawP w) := by
  have hL : decide (60 < xs.length) = false := decide_eq_false (by omega)
  have HLONG := Lib.hid (long1 false ra hL)
  have sA : val xs < pw 60 := small60 ra.limbs hl
  have b512 : val xs < pw 512 := lt_up sA (by decide)
  have u_a : Nu w va (val xs) := ⟨xs, ra, rfl, by omega⟩
  obtain ⟨a0, n0, k0, rfl, -⟩ := ra.isSlice
  have T : Add w (w.alloc (.cells #[.slice a0 n0 k0] 23)) := (Below.refl _ _).alloc (Nat.le_refl _) _
  have HF := Lib.hid (format_ok _ xs _ (ra.mono T) (by omega) b512)
  have HRF := fun w1 (h : Add w w1) => Lib.hid (refFormat_ok _ xs w1 (ra.mono h) (by omega) b512)
  obtain ⟨A, hA⟩ : ∃ A, A = val xs := ⟨_, rfl⟩
  rw [← hA] at HF u_a sA b512
  simp only [← hA] at HRF
  obtain ⟨Z, hZ⟩ : ∃ Z : Nat, (m : Int) % 9 = (Z : Int) := ⟨m % 9, by omega⟩
  have hZ9 : Z ≤ 8 := by omega
  obtain ⟨p, hp⟩ : ∃ p, parseS s = p := ⟨_, rfl⟩
  have FP : Hid (s.size ≤ 1000000 ∧ parseS s = p) := Lib.hid ⟨by omega, hp⟩
  have SA := Lib.hid sA
  have B512 := Lib.hid b512
  replace u_a := u_a.mono T
  clear hL hl ra hA sA b512 hp
  go_enter Tryd.func9, Tryd.ntmps9
  go_wp2_with fail
  refine HLONG.out.mono ?_
  rintro e w' ⟨rfl, rfl⟩
  clear HLONG
  go_wp2_with fail
  refine HF.out.mono ?_
  rintro e w1 ⟨t, rfl, ht, -, h1⟩
  clear HF
  have T1 := Add.trans T h1
  replace u_a := u_a.mono h1
  clear T h1
  go_wp2_with fail
  refine (HRF _ T1).out.mono ?_
  rintro e w2 ⟨t', rfl, ht', -, h2⟩
  obtain rfl : t = t' := ht.uniq ht'
  clear HRF ht'
  have T2 := Add.trans T1 h2
  replace u_a := u_a.mono h2
  have hts : t.size ≤ 1921 := fmt_size ht SA.out
  have hnum := fmt_parse ht
  have FT : Hid (t.size ≤ 1000000 ∧ parseS t = (A, 0)) := Lib.hid ⟨by omega, parseS_num (by omega) hnum.1 hnum.2 B512.out⟩
  have HNUM := Lib.hid hnum
  clear T1 h2 ht hnum
  go_wp2_with fail
  refine (parseN (A, 0) FT).mono ?_
  rintro e w3 ⟨vx, rfl, n_x, h3⟩
  have T3 := Add.trans T2 h3
  replace u_a := u_a.mono h3
  clear T2 h3
  go_wp2_with fail
  go_loopw [13, 14] (fun ld i wr => ∃ k : Nat, k ≤ Z ∧ i = .int .i64 (k : Nat) ∧ ld = .string (zeros k) ∧ w3 = wr) (fun _ i _ => Z - (intOf i).toNat)
  case atStart => exact ⟨0, Nat.zero_le _, rfl, rfl, rfl⟩
  case round =>
    obtain ⟨k, hk, rfl, rfl, rfl⟩ := hrel
    have hzk : (zeros k).size = k := zeros_size k
    by_cases hlt : k < Z
    · have hsucc := zeros_succ k
      have dlt : decide (k < Z) = true := decide_eq_true hlt
      go_wp2_with fail
      go_roundw
      case rel => exact ⟨k + 1, by omega, by go_num, rfl, by trivial⟩
      case measure => simp [intOf]; omega
    · have dlt : decide (k < Z) = false := decide_eq_false hlt
      have FZ : Hid ((zeros k ++ t).size ≤ 1000000 ∧ parseS (zeros k ++ t) = (A, 0)) := Lib.hid ⟨by rw [ByteArray.size_append']; omega, parseS_num (by rw [ByteArray.size_append']; omega) (isNum_zeros HNUM.out.1) (by rw [zeros_list, dval_zeros]; exact HNUM.out.2) B512.out⟩
      have F9 : Hid (cmpI A A = 0) := Lib.hid (cmpI_eq rfl)
      have u_x := num_nu n_x B512.out
      go_wp2_with fail
      refine (parseN (A, 0) FZ).mono ?_
      rintro e w4 ⟨vy, rfl, n_y, h4⟩
      replace n_x := n_x.mono h4
      replace u_x := u_x.mono h4
      replace u_a := u_a.mono h4
      have T4 := Add.trans T3 h4
      clear T3 h4 FZ
      go_wp2_with fail
      refine (cmpN 0 u_x u_a F9).mono ?_
      rintro e w5 ⟨rfl, h5⟩
      replace n_x := n_x.mono h5
      replace n_y := n_y.mono h5
      have T5 := Add.trans T4 h5
      clear T4 h5 u_x u_a
      go_wp2_with fail
      refine (sameN true n_x n_y (Lib.hid (decide_eq_true rfl))).mono ?_
      rintro e w6 ⟨rfl, h6⟩
      have T6 := Add.trans T5 h6
      clear T5 h6 n_x n_y
      go_wp2_with fail
      refine (parseN p FP).mono ?_
      rintro e w7 ⟨vu, rfl, n_u, h7⟩
      have T7 := Add.trans T6 h7
      clear T6 h7
      go_wp2_with fail
      refine (refParseN p FP).mono ?_
      rintro e w8 ⟨vv, rfl, n_v, h8⟩
      have T8 := Add.trans T7 h8
      replace n_u := n_u.mono h8
      clear T7 h8
      go_wp2_with fail
      refine (sameN true n_u n_v (Lib.hid (decide_eq_true rfl))).mono ?_
      rintro e w9 ⟨rfl, h9⟩
      have T9 := Add.trans T8 h9
      clear T8 h9 n_u n_v
      go_wp2_with fail
      refine (awake_any _).mono ?_
      rintro e w' ⟨rfl, hadd⟩
      go_wp2_with fail
      go_ret
      exact ⟨rfl, Add.trans T9 hadd⟩
end Go.Proofs.YtjgaeodihijalaaDoor.Text
