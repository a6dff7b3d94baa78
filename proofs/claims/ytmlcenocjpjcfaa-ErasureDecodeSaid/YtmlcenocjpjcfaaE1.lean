/- Package erasure and its reference: the factors of a code, and what a code is. -/
import Derived.Test.YtmlcenocjpjcfaaG4
import Derived.Test.YtmlcenocjpjcfaaEm
namespace Go.Proofs.Ytmlcenocjpjcfaa
open Go.RowKit GfM

/-- The factor of data row i in parity row j. -/
def coefZ (j i : Int) : Nat := if 0 ≤ j ∧ j < 64 ∧ 0 ≤ i ∧ i < 64 then iv ((128 + j.toNat) ^^^ i.toNat) else 0
theorem coefZ_lt (j i : Int) : coefZ j i < 256 := by unfold coefZ; split; exact iv_lt _; decide
theorem coefZ_in {j i : Nat} (hj : j < 64) (hi : i < 64) : coefZ j i = iv ((128 + j) ^^^ i) := by
  unfold coefZ; rw [if_pos (by omega)]; simp
theorem coefZ_out {j i : Int} (h : ¬ (0 ≤ j ∧ j < 64 ∧ 0 ≤ i ∧ i < 64)) : coefZ j i = 0 := if_neg h
theorem coef_pt {j i : Nat} (hj : j < 64) (hi : i < 64) : (128 + j) ^^^ i < 256 ∧ (128 + j) ^^^ i ≠ 0 := by
  refine ⟨xor_lt (by omega) (by omega), xor_ne (by omega)⟩
theorem coefZ_ne {j i : Nat} (hj : j < 64) (hi : i < 64) : coefZ j i ≠ 0 := by
  rw [coefZ_in hj hi]; exact iv_ne (coef_pt hj hi).1 (coef_pt hj hi).2

set_option maxRecDepth 100000 in
theorem coef_in (j i : Nat) (hj : j < 64) (hi : i < 64) (w : World) : Calls Try.prog 16 #[.int .i64 (j : Nat), .int .i64 (i : Nat)] w (RetB w (coefZ j i)) := by
  obtain ⟨p, ep⟩ : ∃ p, p = 128 + j := ⟨_, rfl⟩
  obtain ⟨q, eq⟩ : ∃ q, q = p ^^^ i := ⟨_, rfl⟩
  have hq : q < 256 := by rw [eq]; exact xor_lt (by omega) (by omega)
  have hq0 : q ≠ 0 := by rw [eq]; exact xor_ne (by omega)
  have hc : coefZ j i = iv q := by rw [coefZ_in hj hi, eq, ep]
  have CA : Hid (∀ w, Calls Try.prog 37 #[.int .u8 (p : Nat), .int .u8 (i : Nat)] w (RetB w q)) := Lib.hid fun w => by rw [eq]; exact add_any p i (by omega) (by omega) w
  have CI : Hid (∀ w, Calls Try.prog 36 #[.int .u8 (q : Nat)] w (RetBE w (iv q) (zE q))) := Lib.hid fun w => inv_any q hq w
  have HC := Lib.hid hc
  have d1 : decide ((j : Int) < 0) = false := decide_eq_false (by omega)
  have d2 : decide ((64 : Int) ≤ (j : Int)) = false := decide_eq_false (by omega)
  have d3 : decide ((i : Int) < 0) = false := decide_eq_false (by omega)
  have d4 : decide ((64 : Int) ≤ (i : Int)) = false := decide_eq_false (by omega)
  have w1 : IntKind.u8.wrap (128 + (j : Int)) = (p : Int) := by rw [IntKind.wrap_u8']; omega
  have w2 : IntKind.u8.wrap (i : Int) = (i : Int) := by rw [IntKind.wrap_u8']; omega
  clear hc eq ep hq hq0
  go_enter Try.func16, Try.ntmps16
  go_wp2_with first | (go_at_call 37; (with_reducible refine (CA.out _).mono ?_); rintro e w' ⟨rfl, rfl⟩) | (go_at_call 36; (with_reducible refine (CI.out _).mono ?_); rintro e w' ⟨rfl, rfl⟩) | fail
  go_ret
  exact ⟨by rw [HC.out]; rfl, rfl⟩

set_option maxRecDepth 100000 in
theorem coef_out (j i : Int) (h : ¬ (0 ≤ j ∧ j < 64 ∧ 0 ≤ i ∧ i < 64)) (w : World) : Calls Try.prog 16 #[.int .i64 j, .int .i64 i] w (RetB w (coefZ j i)) := by
  rw [coefZ_out h]
  by_cases h1 : j < 0
  · have d1 : decide (j < 0) = true := decide_eq_true h1
    clear h
    go_enter Try.func16, Try.ntmps16
    go_wp2_with fail
    go_ret
    exact ⟨rfl, rfl⟩
  · have d1 : decide (j < 0) = false := decide_eq_false h1
    by_cases h2 : 64 ≤ j
    · have d2 : decide (64 ≤ j) = true := decide_eq_true h2
      clear h
      go_enter Try.func16, Try.ntmps16
      go_wp2_with fail
      go_ret
      exact ⟨rfl, rfl⟩
    · have d2 : decide (64 ≤ j) = false := decide_eq_false h2
      by_cases h3 : i < 0
      · have d3 : decide (i < 0) = true := decide_eq_true h3
        clear h
        go_enter Try.func16, Try.ntmps16
        go_wp2_with fail
        go_ret
        exact ⟨rfl, rfl⟩
      · have d3 : decide (i < 0) = false := decide_eq_false h3
        have d4 : decide (64 ≤ i) = true := decide_eq_true (by omega)
        clear h
        go_enter Try.func16, Try.ntmps16
        go_wp2_with fail
        go_ret
        exact ⟨rfl, rfl⟩
theorem coef_any (j i : Int) (w : World) : Calls Try.prog 16 #[.int .i64 j, .int .i64 i] w (RetB w (coefZ j i)) := by
  by_cases h : 0 ≤ j ∧ j < 64 ∧ 0 ≤ i ∧ i < 64
  · obtain ⟨j', rfl⟩ := Int.eq_ofNat_of_zero_le h.1
    obtain ⟨i', rfl⟩ := Int.eq_ofNat_of_zero_le h.2.2.1
    exact coef_in j' i' (by omega) (by omega) w
  · exact coef_out j i h w
/-- Are k and m a code? -/
def codeZ (k m : Int) : Bool := decide (1 ≤ k) && decide (k ≤ 6) && decide (0 ≤ m) && decide (m ≤ 4) && decide (k + m ≤ 8)
end Go.Proofs.Ytmlcenocjpjcfaa
