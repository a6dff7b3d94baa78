/- The laws FieldExact and FieldPowers: their walks, for all arguments. -/
import Derived.Test.YtahjijpoihljjaaG5
namespace Go.Proofs.Ytahjijpoihljjaa
open Go.RowKit GfM

theorem powE {a : Nat} {n : Int} {r : Nat} (ha : a < 256) (h1 : -9223372036854775808 ≤ n) (h2 : n ≤ 9223372036854775807) (e : pz a n = r) (w : World) : Calls Try.prog 20 #[.int .u8 (a : Nat), .int .i64 n] w (RetB w r) := e ▸ pow_any a ha n h1 h2 w
set_option maxRecDepth 100000 in
set_option maxHeartbeats 4000000 in
theorem fieldExact_any (a b : Nat) (n : Int) (ha : a < 256) (hb : b < 256) (h1 : -9223372036854775808 ≤ n) (h2 : n ≤ 9223372036854775807) (w : World) : Calls Try.prog 3 #[.int .u8 (a : Nat), .int .u8 (b : Nat), .int .i64 n] w (RetT w) := by
  obtain ⟨x, hx⟩ : ∃ x, x = iv a := ⟨_, rfl⟩
  obtain ⟨e, he⟩ : ∃ e, e = zE a := ⟨_, rfl⟩
  obtain ⟨p, hp⟩ : ∃ p, p = gm a (iv b) := ⟨_, rfl⟩
  obtain ⟨g, hg⟩ : ∃ g, g = zE b := ⟨_, rfl⟩
  obtain ⟨k, hk⟩ : ∃ k, k = lgz a := ⟨_, rfl⟩
  obtain ⟨s, hs⟩ : ∃ s, s = a ^^^ b := ⟨_, rfl⟩
  obtain ⟨m, hm⟩ : ∃ m, m = gm a b := ⟨_, rfl⟩
  obtain ⟨t, ht⟩ : ∃ t, t = pz a n := ⟨_, rfl⟩
  have C1 : Hid (∀ w, Calls Try.prog 10 #[.int .u8 (a : Nat)] w (RetBE w x e)) := Lib.hid fun w => by rw [hx, he]; exact inv_any a ha w
  have C2 : Hid (∀ w, Calls Try.prog 12 #[.int .u8 (a : Nat), .int .u8 (b : Nat)] w (RetBE w p g)) := Lib.hid fun w => by rw [hp, hg]; exact div_any a b ha hb w
  have C3 : Hid (∀ w, Calls Try.prog 14 #[.int .u8 (a : Nat)] w (RetIE w k e)) := Lib.hid fun w => by rw [hk, he]; exact log_any a ha w
  have C4 : Hid (∀ w, Calls Try.prog 16 #[.int .u8 (a : Nat), .int .u8 (b : Nat)] w (RetB w s)) := Lib.hid fun w => by rw [hs]; exact add_any a b ha hb w
  have C5 : Hid (∀ w, Calls Try.prog 18 #[.int .u8 (a : Nat), .int .u8 (b : Nat)] w (RetB w m)) := Lib.hid fun w => by rw [hm]; exact mul_any a b ha hb w
  have C6 : Hid (∀ w, Calls Try.prog 20 #[.int .u8 (a : Nat), .int .i64 n] w (RetB w t)) := Lib.hid fun w => by rw [ht]; exact pow_any a ha n h1 h2 w
  have C7 : Hid (∀ w, Calls Try.prog 11 #[.int .u8 (a : Nat)] w (RetBE w x e)) := Lib.hid fun w => by rw [hx, he]; exact refInv_any a ha w
  have C8 : Hid (∀ w, Calls Try.prog 13 #[.int .u8 (a : Nat), .int .u8 (b : Nat)] w (RetBE w p g)) := Lib.hid fun w => by rw [hp, hg]; exact refDiv_any a b ha hb w
  have C9 : Hid (∀ w, Calls Try.prog 15 #[.int .u8 (a : Nat)] w (RetIE w k e)) := Lib.hid fun w => by rw [hk, he]; exact refLog_any a ha w
  have C10 : Hid (∀ w, Calls Try.prog 17 #[.int .u8 (a : Nat), .int .u8 (b : Nat)] w (RetB w s)) := Lib.hid fun w => by rw [hs]; exact refAdd_any a b ha hb w
  have C11 : Hid (∀ w, Calls Try.prog 19 #[.int .u8 (a : Nat), .int .u8 (b : Nat)] w (RetB w m)) := Lib.hid fun w => by rw [hm]; exact refMul_any a b ha hb w
  have C12 : Hid (∀ w, Calls Try.prog 21 #[.int .u8 (a : Nat), .int .i64 n] w (RetB w t)) := Lib.hid fun w => by rw [ht]; exact refPow_any a ha n h1 h2 w
  clear hx he hp hg hk hs hm ht ha hb h1 h2
  go_enter Try.func3, Try.ntmps3
  go_wp2_with first | (go_at_call 10; (with_reducible refine (C1.out _).mono ?_); rintro e w' ⟨rfl, rfl⟩) | (go_at_call 12; (with_reducible refine (C2.out _).mono ?_); rintro e w' ⟨rfl, rfl⟩) | (go_at_call 14; (with_reducible refine (C3.out _).mono ?_); rintro e w' ⟨rfl, rfl⟩) | (go_at_call 16; (with_reducible refine (C4.out _).mono ?_); rintro e w' ⟨rfl, rfl⟩) | (go_at_call 18; (with_reducible refine (C5.out _).mono ?_); rintro e w' ⟨rfl, rfl⟩) | (go_at_call 20; (with_reducible refine (C6.out _).mono ?_); rintro e w' ⟨rfl, rfl⟩) | (go_at_call 11; (with_reducible refine (C7.out _).mono ?_); rintro e w' ⟨rfl, rfl⟩) | (go_at_call 13; (with_reducible refine (C8.out _).mono ?_); rintro e w' ⟨rfl, rfl⟩) | (go_at_call 15; (with_reducible refine (C9.out _).mono ?_); rintro e w' ⟨rfl, rfl⟩) | (go_at_call 17; (with_reducible refine (C10.out _).mono ?_); rintro e w' ⟨rfl, rfl⟩) | (go_at_call 19; (with_reducible refine (C11.out _).mono ?_); rintro e w' ⟨rfl, rfl⟩) | (go_at_call 21; (with_reducible refine (C12.out _).mono ?_); rintro e w' ⟨rfl, rfl⟩) | (go_at_call 22; refine (awake_any _).mono ?_; rintro e w' ⟨rfl, rfl⟩)
  go_ret
  exact ⟨rfl, rfl⟩
set_option maxRecDepth 100000 in
set_option maxHeartbeats 4000000 in
theorem powers_zero (b : Nat) (m n : Int) (z : Bool) (hz : (n == 0) = z) (_hn1 : -2147483648 ≤ n) (_hn2 : n ≤ 2147483647) (w : World) : Calls Try.prog 5 #[.int .u8 0, .int .u8 (b : Nat), .int .i32 m, .int .i32 n] w (RetT w) := by
  have C1 : Hid (∀ w, Calls Try.prog 20 #[.int .u8 0, .int .i64 0] w (fun e w' => e = .returned (.int .u8 1) ∧ w = w')) := Lib.hid fun w => (pow_any 0 (by decide) 0 (by decide) (by decide) w).mono fun _ _ h => ⟨by rw [h.1]; rfl, h.2⟩
  have C2 : Hid (∀ w, Calls Try.prog 20 #[.int .u8 0, .int .i64 n] w (fun e w' => z = false → e = .returned (.int .u8 0) ∧ w = w')) := Lib.hid fun w => (pow_any 0 (by decide) n (by omega) (by omega) w).mono fun _ _ h e => ⟨by rw [h.1, pz, if_neg (by subst hz; simpa using e), if_pos rfl]; rfl, h.2⟩
  cases z with
  | true =>
    go_enter Try.func5, Try.ntmps5
    go_wp2_with first | (go_at_call 20; (with_reducible refine (C1.out _).mono ?_); rintro e w' ⟨rfl, rfl⟩) | (go_at_call 22; refine (awake_any _).mono ?_; rintro e w' ⟨rfl, rfl⟩)
    go_ret
    exact ⟨rfl, rfl⟩
  | false =>
    go_enter Try.func5, Try.ntmps5
    go_wp2_with first | (go_at_call 20; (with_reducible refine (C1.out _).mono ?_); rintro e w' ⟨rfl, rfl⟩) | (go_at_call 20; (with_reducible refine (C2.out _).mono ?_); intro e w' hh; obtain ⟨rfl, rfl⟩ := hh (by trivial)) | (go_at_call 22; refine (awake_any _).mono ?_; rintro e w' ⟨rfl, rfl⟩)
    go_ret
    exact ⟨rfl, rfl⟩
set_option maxRecDepth 100000 in
set_option maxHeartbeats 4000000 in
theorem powers_b0 (a b : Nat) (m n : Int) (ha : a < 256) (h0 : a ≠ 0) (hm1 : -2147483648 ≤ m) (hm2 : m ≤ 2147483647) (hn1 : -2147483648 ≤ n) (hn2 : n ≤ 2147483647) (hb0 : ((b : Int) == 0) = true) (w : World) : Calls Try.prog 5 #[.int .u8 (a : Nat), .int .u8 (b : Nat), .int .i32 m, .int .i32 n] w (RetT w) := by
  obtain ⟨x, hx⟩ : ∃ x, x = pz a m := ⟨_, rfl⟩
  obtain ⟨y, hy⟩ : ∃ y, y = pz a n := ⟨_, rfl⟩
  obtain ⟨z, hz⟩ : ∃ z, z = gm x y := ⟨_, rfl⟩
  obtain ⟨k, hk⟩ : ∃ k, k = lg a := ⟨_, rfl⟩
  have ha0 : ((a : Int) == 0) = false := by simp; omega
  have hk5 : k < 255 := by rw [hk]; exact lg_lt ha h0
  have lx : x < 256 := by rw [hx]; exact pz_lt
  have ly : y < 256 := by rw [hy]; exact pz_lt
  have C1 : Hid (∀ w, Calls Try.prog 20 #[.int .u8 (a : Nat), .int .i64 (m + n)] w (RetB w z)) := Lib.hid fun w => powE ha (by omega) (by omega) (show pz a (m + n) = z by rw [hz, hx, hy, pz_add ha h0]) w
  have C2 : Hid (∀ w, Calls Try.prog 20 #[.int .u8 (a : Nat), .int .i64 m] w (RetB w x)) := Lib.hid fun w => powE ha (by omega) (by omega) hx.symm w
  have C3 : Hid (∀ w, Calls Try.prog 20 #[.int .u8 (a : Nat), .int .i64 n] w (RetB w y)) := Lib.hid fun w => powE ha (by omega) (by omega) hy.symm w
  have C4 : Hid (∀ w, Calls Try.prog 18 #[.int .u8 (x : Nat), .int .u8 (y : Nat)] w (RetB w z)) := Lib.hid fun w => mulE lx ly hz.symm w
  have C5 : Hid (∀ w, Calls Try.prog 20 #[.int .u8 (a : Nat), .int .i64 (m + 255)] w (RetB w x)) := Lib.hid fun w => powE ha (by omega) (by omega) (show pz a (m + 255) = x by rw [hx, pz_255 h0]) w
  have C6 : Hid (∀ w, Calls Try.prog 14 #[.int .u8 (a : Nat)] w (fun e w' => e = .returned (.tuple #[.int .i64 (k : Nat), .int .i64 0]) ∧ w = w')) := Lib.hid fun w => (log_any a ha w).mono fun _ _ h => ⟨by rw [h.1, lgz_ne h0, zE_ne h0, hk], h.2⟩
  have C7 : Hid (∀ w, Calls Try.prog 20 #[.int .u8 2, .int .i64 (k : Nat)] w (RetB w a)) := Lib.hid fun w => powE (a := 2) (by decide) (by omega) (by omega) (show pz 2 (k : Int) = a by rw [pz_of (by decide), show ((k : Int) % 255).toNat = k by omega, hk, pw_lg ha h0]) w
  clear hx hy hz hk ha h0 lx ly
  go_enter Try.func5, Try.ntmps5
  go_wp2_with first | (go_at_call 20; (with_reducible refine (C1.out _).mono ?_); rintro e w' ⟨rfl, rfl⟩) | (go_at_call 20; (with_reducible refine (C2.out _).mono ?_); rintro e w' ⟨rfl, rfl⟩) | (go_at_call 20; (with_reducible refine (C3.out _).mono ?_); rintro e w' ⟨rfl, rfl⟩) | (go_at_call 20; (with_reducible refine (C5.out _).mono ?_); rintro e w' ⟨rfl, rfl⟩) | (go_at_call 20; (with_reducible refine (C7.out _).mono ?_); rintro e w' ⟨rfl, rfl⟩) | (go_at_call 18; (with_reducible refine (C4.out _).mono ?_); rintro e w' ⟨rfl, rfl⟩) | (go_at_call 14; (with_reducible refine (C6.out _).mono ?_); rintro e w' ⟨rfl, rfl⟩) | (go_at_call 22; refine (awake_any _).mono ?_; rintro e w' ⟨rfl, rfl⟩)
  go_ret
  exact ⟨rfl, rfl⟩
set_option maxRecDepth 100000 in
set_option maxHeartbeats 4000000 in
theorem powers_b1 (a b : Nat) (m n : Int) (ha : a < 256) (h0 : a ≠ 0) (hm1 : -2147483648 ≤ m) (hm2 : m ≤ 2147483647) (hn1 : -2147483648 ≤ n) (hn2 : n ≤ 2147483647) (hb : b < 256) (k0 : b ≠ 0) (w : World) : Calls Try.prog 5 #[.int .u8 (a : Nat), .int .u8 (b : Nat), .int .i32 m, .int .i32 n] w (RetT w) := by
  obtain ⟨x, hx⟩ : ∃ x, x = pz a m := ⟨_, rfl⟩
  obtain ⟨y, hy⟩ : ∃ y, y = pz a n := ⟨_, rfl⟩
  obtain ⟨z, hz⟩ : ∃ z, z = gm x y := ⟨_, rfl⟩
  obtain ⟨k, hk⟩ : ∃ k, k = lg a := ⟨_, rfl⟩
  have ha0 : ((a : Int) == 0) = false := by simp; omega
  have hk5 : k < 255 := by rw [hk]; exact lg_lt ha h0
  have lx : x < 256 := by rw [hx]; exact pz_lt
  have ly : y < 256 := by rw [hy]; exact pz_lt
  have C1 : Hid (∀ w, Calls Try.prog 20 #[.int .u8 (a : Nat), .int .i64 (m + n)] w (RetB w z)) := Lib.hid fun w => powE ha (by omega) (by omega) (show pz a (m + n) = z by rw [hz, hx, hy, pz_add ha h0]) w
  have C2 : Hid (∀ w, Calls Try.prog 20 #[.int .u8 (a : Nat), .int .i64 m] w (RetB w x)) := Lib.hid fun w => powE ha (by omega) (by omega) hx.symm w
  have C3 : Hid (∀ w, Calls Try.prog 20 #[.int .u8 (a : Nat), .int .i64 n] w (RetB w y)) := Lib.hid fun w => powE ha (by omega) (by omega) hy.symm w
  have C4 : Hid (∀ w, Calls Try.prog 18 #[.int .u8 (x : Nat), .int .u8 (y : Nat)] w (RetB w z)) := Lib.hid fun w => mulE lx ly hz.symm w
  have C5 : Hid (∀ w, Calls Try.prog 20 #[.int .u8 (a : Nat), .int .i64 (m + 255)] w (RetB w x)) := Lib.hid fun w => powE ha (by omega) (by omega) (show pz a (m + 255) = x by rw [hx, pz_255 h0]) w
  have C6 : Hid (∀ w, Calls Try.prog 14 #[.int .u8 (a : Nat)] w (fun e w' => e = .returned (.tuple #[.int .i64 (k : Nat), .int .i64 0]) ∧ w = w')) := Lib.hid fun w => (log_any a ha w).mono fun _ _ h => ⟨by rw [h.1, lgz_ne h0, zE_ne h0, hk], h.2⟩
  have C7 : Hid (∀ w, Calls Try.prog 20 #[.int .u8 2, .int .i64 (k : Nat)] w (RetB w a)) := Lib.hid fun w => powE (a := 2) (by decide) (by omega) (by omega) (show pz 2 (k : Int) = a by rw [pz_of (by decide), show ((k : Int) % 255).toNat = k by omega, hk, pw_lg ha h0]) w
  obtain ⟨p, hp⟩ : ∃ p, p = gm a b := ⟨_, rfl⟩
  obtain ⟨l, hl⟩ : ∃ l, l = lg b := ⟨_, rfl⟩
  have hb0 : ((b : Int) == 0) = false := by simp; omega
  have hl5 : l < 255 := by rw [hl]; exact lg_lt hb k0
  have lp : p < 256 := by rw [hp]; exact gm_lt ha
  have C8 : Hid (∀ w, Calls Try.prog 18 #[.int .u8 (a : Nat), .int .u8 (b : Nat)] w (RetB w p)) := Lib.hid fun w => mulE ha hb hp.symm w
  have C9 : Hid (∀ w, Calls Try.prog 14 #[.int .u8 (b : Nat)] w (fun e w' => e = .returned (.tuple #[.int .i64 (l : Nat), .int .i64 0]) ∧ w = w')) := Lib.hid fun w => (log_any b hb w).mono fun _ _ h => ⟨by rw [h.1, lgz_ne k0, zE_ne k0, hl], h.2⟩
  have C10 : Hid (∀ w, Calls Try.prog 14 #[.int .u8 (p : Nat)] w (fun e w' => e = .returned (.tuple #[.int .i64 (((k : Int) + l) % 255), .int .i64 0]) ∧ w = w')) := Lib.hid fun w => (log_any p lp w).mono fun _ _ h => ⟨by rw [h.1, hp, lgz_ne (gm_ne ha hb h0 k0), zE_ne (gm_ne ha hb h0 k0), lg_mul ha hb h0 k0, hk, hl]; rfl, h.2⟩
  clear hx hy hz hk ha h0 lx ly hp hl hb k0 lp
  go_enter Try.func5, Try.ntmps5
  go_wp2_with first | (go_at_call 20; (with_reducible refine (C1.out _).mono ?_); rintro e w' ⟨rfl, rfl⟩) | (go_at_call 20; (with_reducible refine (C2.out _).mono ?_); rintro e w' ⟨rfl, rfl⟩) | (go_at_call 20; (with_reducible refine (C3.out _).mono ?_); rintro e w' ⟨rfl, rfl⟩) | (go_at_call 20; (with_reducible refine (C5.out _).mono ?_); rintro e w' ⟨rfl, rfl⟩) | (go_at_call 20; (with_reducible refine (C7.out _).mono ?_); rintro e w' ⟨rfl, rfl⟩) | (go_at_call 18; (with_reducible refine (C4.out _).mono ?_); rintro e w' ⟨rfl, rfl⟩) | (go_at_call 14; (with_reducible refine (C6.out _).mono ?_); rintro e w' ⟨rfl, rfl⟩) | (go_at_call 18; (with_reducible refine (C8.out _).mono ?_); rintro e w' ⟨rfl, rfl⟩) | (go_at_call 14; (with_reducible refine (C9.out _).mono ?_); rintro e w' ⟨rfl, rfl⟩) | (go_at_call 14; (with_reducible refine (C10.out _).mono ?_); rintro e w' ⟨rfl, rfl⟩) | (go_at_call 22; refine (awake_any _).mono ?_; rintro e w' ⟨rfl, rfl⟩)
  go_ret
  exact ⟨rfl, rfl⟩
theorem fieldPowers_any (a b : Nat) (m n : Int) (ha : a < 256) (hb : b < 256) (hm1 : -2147483648 ≤ m) (hm2 : m ≤ 2147483647) (hn1 : -2147483648 ≤ n) (hn2 : n ≤ 2147483647) (w : World) : Calls Try.prog 5 #[.int .u8 (a : Nat), .int .u8 (b : Nat), .int .i32 m, .int .i32 n] w (RetT w) := by
  by_cases h0 : a = 0
  · subst h0; exact powers_zero b m n _ rfl hn1 hn2 w
  · by_cases k0 : b = 0
    · exact powers_b0 a b m n ha h0 hm1 hm2 hn1 hn2 (by simp [k0]) w
    · exact powers_b1 a b m n ha h0 hm1 hm2 hn1 hn2 hb k0 w
theorem byte_of {z : Int} (h : (Lit.int .u8 z).wf = true) : ∃ n : Nat, n < 256 ∧ z = (n : Nat) := by
  have h1 : IntKind.u8.min = 0 := rfl
  have h2 : IntKind.u8.max = 255 := rfl
  simp only [Lit.wf, Bool.and_eq_true, decide_eq_true_eq] at h
  exact ⟨z.toNat, by omega, by omega⟩
theorem i64_of {z : Int} (h : (Lit.int .i64 z).wf = true) : -9223372036854775808 ≤ z ∧ z ≤ 9223372036854775807 := by
  have h1 : IntKind.i64.min = -9223372036854775808 := rfl
  have h2 : IntKind.i64.max = 9223372036854775807 := rfl
  simp only [Lit.wf, Bool.and_eq_true, decide_eq_true_eq] at h
  omega
theorem i32_of {z : Int} (h : (Lit.int .i32 z).wf = true) : -2147483648 ≤ z ∧ z ≤ 2147483647 := by
  have h1 : IntKind.i32.min = -2147483648 := rfl
  have h2 : IntKind.i32.max = 2147483647 := rfl
  simp only [Lit.wf, Bool.and_eq_true, decide_eq_true_eq] at h
  omega
end Go.Proofs.Ytahjijpoihljjaa
