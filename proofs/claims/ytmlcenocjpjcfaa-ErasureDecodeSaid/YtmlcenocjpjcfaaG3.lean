/- Package field and its reference: powers, inverses, quotients and logarithms of elements return what they promise. -/
import Derived.Test.YtmlcenocjpjcfaaG2
import Derived.Laws.Small
namespace Go.Proofs.Ytmlcenocjpjcfaa
open Go.RowKit GfM

theorem i64_and1' : ∀ m < 256, bits .and .i64 (m : Nat) 1 = ((m % 2 : Nat) : Int) := by decide +kernel
/-- A byte is returned, and nothing changes but a count of draws. -/
def QB (w : World) (n : Nat) (e : Ending) (w' : World) : Prop := e = .returned (.int .u8 (n : Nat)) ∧ ∃ q, w' = w.drewN q
def QBE (w : World) (n : Nat) (k : Int) (e : Ending) (w' : World) : Prop := e = .returned (.tuple #[.int .u8 (n : Nat), .int .i64 k]) ∧ ∃ q, w' = w.drewN q
def QIE (w : World) (n : Nat) (k : Int) (e : Ending) (w' : World) : Prop := e = .returned (.tuple #[.int .i64 (n : Nat), .int .i64 k]) ∧ ∃ q, w' = w.drewN q
/-- What one round of Pow's loop does to the powers. -/
theorem pow_even {a c k r : Nat} (ha : a < 256) (h : gm c (pw a k) = r) (h2 : k % 2 = 0) : gm c (pw (gm a a) (k / 2)) = r := by
  rw [pw_sq ha, ← h]; congr 2; omega
theorem pow_odd {a c k r : Nat} (ha : a < 256) (hc : c < 256) (h : gm c (pw a k) = r) (h2 : k % 2 = 1) : gm (gm c a) (pw (gm a a) (k / 2)) = r := by
  have e : k = 2 * (k / 2) + 1 := by omega
  rw [pw_sq ha, ← h]
  conv => rhs; rw [e]
  show _ = gm c (gm (pw a (2 * (k / 2))) a)
  rw [gm_comm (pw_lt) ha, gm_assoc hc ha pw_lt]
theorem pow_start {a m r : Nat} (h : pw a m = r) : gm 1 (pw a m) = r := by rw [gm_one_l pw_lt, h]
set_option maxRecDepth 100000 in
theorem pow_zero (n : Int) (hn : n = 0) (a m r : Nat) (ha0 : a = 0) (hm : m = 0) (HM : Hid (pw a m = r)) (w : World) : Calls Try.prog 49 #[.int .u8 (a : Nat), .int .i64 n] w (RetB w r) := by
    subst hn ha0 hm
    go_enter Try.func49, Try.ntmps49
    go_wp2_with fail
    go_loop [0, 1, 5] (fun x y s => x = .int .u8 0 ∧ y = .int .i64 0 ∧ s = .int .u8 1) (fun _ y _ => (intOf y).toNat)
    case atStart => exact ⟨rfl, rfl, rfl⟩
    case round =>
      obtain ⟨rfl, rfl, rfl⟩ := hrel
      have HR : Hid (r = 1) := Lib.hid HM.out.symm
      go_wp2_with fail
      go_ret
      exact ⟨by rw [HR.out]; rfl, rfl⟩
set_option maxRecDepth 100000 in
theorem pow_pos (n : Int) (h0n : 0 ≤ n) (h2n : n ≤ 9223372036854775807) (a m r : Nat) (ha : a < 256) (ha0 : ((a : Int) == 0) = false) (hm : n % 255 = (m : Int)) (hm5 : m < 255) (HM : Hid (pw a m = r)) (w : World) : Calls Try.prog 49 #[.int .u8 (a : Nat), .int .i64 n] w (RetB w r) := by
    go_enter Try.func49, Try.ntmps49
    go_wp2_with fail
    have HMM := Lib.hid hm
    clear hm ha0
    go_loop [0, 1, 5] (fun x y s => ∃ a' k c : Nat, a' < 256 ∧ k < 256 ∧ c < 256 ∧ x = .int .u8 (a' : Nat) ∧ y = .int .i64 (k : Nat) ∧ s = .int .u8 (c : Nat) ∧ gm c (pw a' k) = r) (fun _ y _ => (intOf y).toNat)
    case atStart => exact ⟨a, m, 1, ha, by omega, by decide, rfl, by first | rfl | (rw [HMM.out]; rfl) | (rw [HMM.out]) | go_num, rfl, pow_start HM.out⟩
    case round =>
      obtain ⟨a', k, c, ha', hk, hc, rfl, rfl, rfl, hrel⟩ := hrel
      by_cases h0 : k = 0
      · subst h0
        have hcr : c = r := by rw [← hrel]; exact (gm_one_r hc).symm
        have HCR := Lib.hid hcr
        clear hcr hrel hk HM
        go_wp2_with fail
        go_ret
        exact ⟨by rw [HCR.out]; rfl, rfl⟩
      · have hpos : 0 < k := by omega
        have hand := i64_and1' k hk
        have HREL := Lib.hid hrel
        clear hrel h0
        rcases Nat.mod_two_eq_zero_or_one k with h2 | h2
        · rw [h2] at hand
          have H2 := Lib.hid h2
          clear h2
          go_wp2_with first | (go_at_call 56; (with_reducible refine (mul_any a' a' ha' ha' _).mono ?_); rintro e w' ⟨rfl, rfl⟩) | fail
          go_round
          case rel => exact ⟨gm a' a', k / 2, c, gm_lt ha', by omega, hc, rfl, by go_num, rfl, pow_even ha' HREL.out H2.out⟩
          case measure => simp [intOf]; omega
        · rw [h2] at hand
          have H2 := Lib.hid h2
          clear h2
          go_wp2_with first | (go_at_call 56; (with_reducible refine (mul_any a' a' ha' ha' _).mono ?_); rintro e w' ⟨rfl, rfl⟩) | (go_at_call 56; (with_reducible refine (mul_any c a' hc ha' _).mono ?_); rintro e w' ⟨rfl, rfl⟩) | fail
          go_round
          case rel => exact ⟨gm a' a', k / 2, gm c a', gm_lt ha', by omega, gm_lt hc, rfl, by go_num, rfl, pow_odd ha' hc HREL.out H2.out⟩
          case measure => simp [intOf]; omega
set_option maxRecDepth 100000 in
theorem pow_negz (n : Int) (_h0n : n < 0) (_h1n : -9223372036854775808 ≤ n) (a m r : Nat) (ha : a < 256) (ha0 : ((a : Int) == 0) = false) (hm : n.tmod 255 = 0) (hm5 : m = 0) (HM : Hid (pw a m = r)) (w : World) : Calls Try.prog 49 #[.int .u8 (a : Nat), .int .i64 n] w (RetB w r) := by
    subst hm5
    go_enter Try.func49, Try.ntmps49
    go_wp2_with fail
    have HMM := Lib.hid hm
    clear hm ha0
    go_loop [0, 1, 5] (fun x y s => ∃ a' k c : Nat, a' < 256 ∧ k < 256 ∧ c < 256 ∧ x = .int .u8 (a' : Nat) ∧ y = .int .i64 (k : Nat) ∧ s = .int .u8 (c : Nat) ∧ gm c (pw a' k) = r) (fun _ y _ => (intOf y).toNat)
    case atStart => exact ⟨a, 0, 1, ha, by omega, by decide, rfl, by first | rfl | (rw [HMM.out]; rfl) | (rw [HMM.out]) | go_num, rfl, pow_start HM.out⟩
    case round =>
      obtain ⟨a', k, c, ha', hk, hc, rfl, rfl, rfl, hrel⟩ := hrel
      by_cases h0 : k = 0
      · subst h0
        have hcr : c = r := by rw [← hrel]; exact (gm_one_r hc).symm
        have HCR := Lib.hid hcr
        clear hcr hrel hk HM
        go_wp2_with fail
        go_ret
        exact ⟨by rw [HCR.out]; rfl, rfl⟩
      · have hpos : 0 < k := by omega
        have hand := i64_and1' k hk
        have HREL := Lib.hid hrel
        clear hrel h0
        rcases Nat.mod_two_eq_zero_or_one k with h2 | h2
        · rw [h2] at hand
          have H2 := Lib.hid h2
          clear h2
          go_wp2_with first | (go_at_call 56; (with_reducible refine (mul_any a' a' ha' ha' _).mono ?_); rintro e w' ⟨rfl, rfl⟩) | fail
          go_round
          case rel => exact ⟨gm a' a', k / 2, c, gm_lt ha', by omega, hc, rfl, by go_num, rfl, pow_even ha' HREL.out H2.out⟩
          case measure => simp [intOf]; omega
        · rw [h2] at hand
          have H2 := Lib.hid h2
          clear h2
          go_wp2_with first | (go_at_call 56; (with_reducible refine (mul_any a' a' ha' ha' _).mono ?_); rintro e w' ⟨rfl, rfl⟩) | (go_at_call 56; (with_reducible refine (mul_any c a' hc ha' _).mono ?_); rintro e w' ⟨rfl, rfl⟩) | fail
          go_round
          case rel => exact ⟨gm a' a', k / 2, gm c a', gm_lt ha', by omega, gm_lt hc, rfl, by go_num, rfl, pow_odd ha' hc HREL.out H2.out⟩
          case measure => simp [intOf]; omega
set_option maxRecDepth 100000 in
theorem pow_negn (n : Int) (_h0n : n < 0) (_h1n : -9223372036854775808 ≤ n) (a m r : Nat) (t : Int) (ha : a < 256) (ha0 : ((a : Int) == 0) = false) (hm : n.tmod 255 = t) (ht : t < 0) (ht2 : -255 < t) (htm : t + 255 = (m : Int)) (_hm5 : m < 255) (HM : Hid (pw a m = r)) (w : World) : Calls Try.prog 49 #[.int .u8 (a : Nat), .int .i64 n] w (RetB w r) := by
    go_enter Try.func49, Try.ntmps49
    go_wp2_with fail
    have HMM := Lib.hid hm
    clear hm ha0
    go_loop [0, 1, 5] (fun x y s => ∃ a' k c : Nat, a' < 256 ∧ k < 256 ∧ c < 256 ∧ x = .int .u8 (a' : Nat) ∧ y = .int .i64 (k : Nat) ∧ s = .int .u8 (c : Nat) ∧ gm c (pw a' k) = r) (fun _ y _ => (intOf y).toNat)
    case atStart => exact ⟨a, m, 1, ha, by omega, by decide, rfl, by first | rfl | (rw [HMM.out]; rfl) | (rw [HMM.out]) | go_num, rfl, pow_start HM.out⟩
    case round =>
      obtain ⟨a', k, c, ha', hk, hc, rfl, rfl, rfl, hrel⟩ := hrel
      by_cases h0 : k = 0
      · subst h0
        have hcr : c = r := by rw [← hrel]; exact (gm_one_r hc).symm
        have HCR := Lib.hid hcr
        clear hcr hrel hk HM
        go_wp2_with fail
        go_ret
        exact ⟨by rw [HCR.out]; rfl, rfl⟩
      · have hpos : 0 < k := by omega
        have hand := i64_and1' k hk
        have HREL := Lib.hid hrel
        clear hrel h0
        rcases Nat.mod_two_eq_zero_or_one k with h2 | h2
        · rw [h2] at hand
          have H2 := Lib.hid h2
          clear h2
          go_wp2_with first | (go_at_call 56; (with_reducible refine (mul_any a' a' ha' ha' _).mono ?_); rintro e w' ⟨rfl, rfl⟩) | fail
          go_round
          case rel => exact ⟨gm a' a', k / 2, c, gm_lt ha', by omega, hc, rfl, by go_num, rfl, pow_even ha' HREL.out H2.out⟩
          case measure => simp [intOf]; omega
        · rw [h2] at hand
          have H2 := Lib.hid h2
          clear h2
          go_wp2_with first | (go_at_call 56; (with_reducible refine (mul_any a' a' ha' ha' _).mono ?_); rintro e w' ⟨rfl, rfl⟩) | (go_at_call 56; (with_reducible refine (mul_any c a' hc ha' _).mono ?_); rintro e w' ⟨rfl, rfl⟩) | fail
          go_round
          case rel => exact ⟨gm a' a', k / 2, gm c a', gm_lt ha', by omega, gm_lt hc, rfl, by go_num, rfl, pow_odd ha' hc HREL.out H2.out⟩
          case measure => simp [intOf]; omega
theorem tmod_cases (n : Int) (h : n < 0) : n.tmod 255 = 0 ∧ n % 255 = 0 ∨ n.tmod 255 < 0 ∧ -255 < n.tmod 255 ∧ n.tmod 255 + 255 = n % 255 := by
  rw [tmod_eq_if, if_neg (by omega)]; omega
theorem pow_any (a : Nat) (ha : a < 256) (n : Int) (h1 : -9223372036854775808 ≤ n) (h2 : n ≤ 9223372036854775807) (w : World) : Calls Try.prog 49 #[.int .u8 (a : Nat), .int .i64 n] w (RetB w (pz a n)) := by
  by_cases hn : n = 0
  · subst hn
    by_cases ha0 : a = 0
    · exact pow_zero 0 rfl a 0 _ ha0 rfl (Lib.hid (by rw [pz, if_pos rfl]; rfl)) w
    · exact pow_pos 0 (by omega) (by omega) a 0 _ ha (by simp; omega) rfl (by omega) (Lib.hid (by rw [pz, if_pos rfl]; rfl)) w
  · by_cases ha0 : a = 0
    · subst ha0
      have hr0 : pz 0 n = 0 := by rw [pz, if_neg hn, if_pos rfl]
      have HR := Lib.hid hr0
      have hne : (n != 0) = true := by simp [hn]
      clear hr0
      go_enter Try.func49, Try.ntmps49
      go_wp2_with fail
      go_ret
      exact ⟨by rw [HR.out]; rfl, rfl⟩
    · have hb : ((a : Int) == 0) = false := by simp; omega
      have hp : pw a (n % 255).toNat = pz a n := (pz_of ha0 n).symm
      by_cases hneg : n < 0
      · rcases tmod_cases n hneg with ⟨ht, hm⟩ | ⟨ht, ht2, htm⟩
        · rw [hm] at hp
          exact pow_negz n hneg h1 a 0 _ ha hb ht rfl (Lib.hid hp) w
        · exact pow_negn n hneg h1 a (n % 255).toNat _ _ ha hb rfl ht ht2 (by omega) (by omega) (Lib.hid hp) w
      · exact pow_pos n (by omega) h2 a (n % 255).toNat _ ha hb (by omega) (by omega) (Lib.hid hp) w
set_option maxRecDepth 100000 in
theorem refPow_pos (n : Int) (h0n : 0 ≤ n) (hnz : (n == 0) = false) (h2n : n ≤ 9223372036854775807) (a m r : Nat) (ha : a < 256) (ha0 : ((a : Int) == 0) = false) (hm : n % 255 = (m : Int)) (hm5 : m < 255) (HM : Hid (pw a m = r)) (w : World) : Calls Try.prog 50 #[.int .u8 (a : Nat), .int .i64 n] w (RetB w r) := by
    go_enter Try.func50, Try.ntmps50
    go_wp2_with fail
    have hma := Int.le_of_eq hm
    have hmb := Int.le_of_eq hm.symm
    clear hm ha0 hnz
    go_loop [6, 7] (fun s i => ∃ k : Nat, k ≤ m ∧ s = .int .u8 (pw a k : Nat) ∧ i = .int .i64 (k : Nat)) (fun _ i => m - (intOf i).toNat)
    case atStart => exact ⟨0, Nat.zero_le _, rfl, rfl⟩
    case round =>
      obtain ⟨k, hk, rfl, rfl⟩ := hrel
      by_cases h0 : k = m
      · subst h0
        go_wp2_with fail
        go_ret
        exact ⟨by rw [HM.out]; rfl, rfl⟩
      · have hlt : k < m := by omega
        have hmul := fun w => refMul_any (pw a k) a pw_lt ha w
        have HMUL := Lib.hid hmul
        clear hmul
        go_wp2_with first | (go_at_call 24; refine (HMUL.out _).mono ?_; rintro e w' ⟨rfl, rfl⟩) | fail
        go_round
        case rel => exact ⟨k + 1, by omega, rfl, by go_num⟩
        case measure => simp [intOf]; omega
set_option maxRecDepth 100000 in
theorem refPow_negz (n : Int) (_h0n : n < 0) (hnz : (n == 0) = false) (_h1n : -9223372036854775808 ≤ n) (a m r : Nat) (_ha : a < 256) (ha0 : ((a : Int) == 0) = false) (hm : n.tmod 255 = 0) (hm5 : m = 0) (HM : Hid (pw a m = r)) (w : World) : Calls Try.prog 50 #[.int .u8 (a : Nat), .int .i64 n] w (RetB w r) := by
    subst hm5
    go_enter Try.func50, Try.ntmps50
    go_wp2_with fail
    have hma := Int.le_of_eq hm
    have hmb := Int.le_of_eq hm.symm
    clear hm ha0 hnz
    go_loop [6, 7] (fun s i => ∃ k : Nat, k ≤ 0 ∧ s = .int .u8 (pw a k : Nat) ∧ i = .int .i64 (k : Nat)) (fun _ i => 0 - (intOf i).toNat)
    case atStart => exact ⟨0, Nat.zero_le _, rfl, rfl⟩
    case round =>
      obtain ⟨k, hk, rfl, rfl⟩ := hrel
      by_cases h0 : k = 0
      · subst h0
        go_wp2_with fail
        go_ret
        exact ⟨by rw [HM.out]; rfl, rfl⟩
      · exact absurd (Nat.le_zero.1 hk) h0
set_option maxRecDepth 100000 in
theorem refPow_negn (n : Int) (_h0n : n < 0) (hnz : (n == 0) = false) (_h1n : -9223372036854775808 ≤ n) (a m r : Nat) (t : Int) (ha : a < 256) (ha0 : ((a : Int) == 0) = false) (hm : n.tmod 255 = t) (ht : t < 0) (ht2 : -255 < t) (htm : t + 255 = (m : Int)) (_hm5 : m < 255) (HM : Hid (pw a m = r)) (w : World) : Calls Try.prog 50 #[.int .u8 (a : Nat), .int .i64 n] w (RetB w r) := by
    go_enter Try.func50, Try.ntmps50
    go_wp2_with fail
    have hma := Int.le_of_eq hm
    have hmb := Int.le_of_eq hm.symm
    clear hm ha0 hnz
    go_loop [6, 7] (fun s i => ∃ k : Nat, k ≤ m ∧ s = .int .u8 (pw a k : Nat) ∧ i = .int .i64 (k : Nat)) (fun _ i => m - (intOf i).toNat)
    case atStart => exact ⟨0, Nat.zero_le _, rfl, rfl⟩
    case round =>
      obtain ⟨k, hk, rfl, rfl⟩ := hrel
      by_cases h0 : k = m
      · subst h0
        go_wp2_with fail
        go_ret
        exact ⟨by rw [HM.out]; rfl, rfl⟩
      · have hlt : k < m := by omega
        have hmul := fun w => refMul_any (pw a k) a pw_lt ha w
        have HMUL := Lib.hid hmul
        clear hmul
        go_wp2_with first | (go_at_call 24; refine (HMUL.out _).mono ?_; rintro e w' ⟨rfl, rfl⟩) | fail
        go_round
        case rel => exact ⟨k + 1, by omega, rfl, by go_num⟩
        case measure => simp [intOf]; omega
theorem refPow_any (a : Nat) (ha : a < 256) (n : Int) (h1 : -9223372036854775808 ≤ n) (h2 : n ≤ 9223372036854775807) (w : World) : Calls Try.prog 50 #[.int .u8 (a : Nat), .int .i64 n] w (RetB w (pz a n)) := by
  by_cases hn : n = 0
  · subst hn
    have HR : Hid (pz a 0 = 1) := Lib.hid (by rw [pz, if_pos rfl])
    go_enter Try.func50, Try.ntmps50
    go_wp2_with fail
    go_ret
    exact ⟨by rw [HR.out]; rfl, rfl⟩
  · have hnz : (n == 0) = false := by simp [hn]
    by_cases ha0 : a = 0
    · subst ha0
      have HR : Hid (pz 0 n = 0) := Lib.hid (by rw [pz, if_neg hn, if_pos rfl])
      go_enter Try.func50, Try.ntmps50
      go_wp2_with fail
      go_ret
      exact ⟨by rw [HR.out]; rfl, rfl⟩
    · have hb : ((a : Int) == 0) = false := by simp; omega
      have hp : pw a (n % 255).toNat = pz a n := (pz_of ha0 n).symm
      by_cases hneg : n < 0
      · rcases tmod_cases n hneg with ⟨ht, hm⟩ | ⟨ht, ht2, htm⟩
        · rw [hm] at hp
          exact refPow_negz n hneg hnz h1 a 0 _ ha hb ht rfl (Lib.hid hp) w
        · exact refPow_negn n hneg hnz h1 a (n % 255).toNat _ _ ha hb rfl ht ht2 (by omega) (by omega) (Lib.hid hp) w
      · exact refPow_pos n (by omega) hnz h2 a (n % 255).toNat _ ha hb (by omega) (by omega) (Lib.hid hp) w
end Go.Proofs.Ytmlcenocjpjcfaa
