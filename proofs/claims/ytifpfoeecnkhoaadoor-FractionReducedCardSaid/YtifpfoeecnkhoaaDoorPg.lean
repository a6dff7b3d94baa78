/- Plain facts on the number of binary digits of a number. No program is read here. -/
import Derived.Test.YtifpfoeecnkhoaaDoorPf
import Derived.Lib.BitFns
namespace NatM

/-- The number of binary digits. -/
def nb (n : Nat) : Nat := if n = 0 then 0 else n.log2 + 1
theorem nb_zero : nb 0 = 0 := rfl
theorem lt_nb (n : Nat) : n < 2 ^ nb n := by
  unfold nb
  split
  · subst_vars; decide
  · exact Nat.lt_log2_self
theorem nb_le {n : Nat} (h : n ≠ 0) : 2 ^ (nb n - 1) ≤ n := by
  unfold nb
  rw [if_neg h]
  simpa using Nat.log2_self_le h
theorem nb_pos {n : Nat} (h : n ≠ 0) : 0 < nb n := by unfold nb; rw [if_neg h]; omega
theorem nb_eq_zero {n : Nat} : nb n = 0 ↔ n = 0 := by
  unfold nb
  constructor
  · intro h
    by_cases h0 : n = 0
    · exact h0
    · rw [if_neg h0] at h; omega
  · intro h; rw [if_pos h]
theorem pow_lt_inv {a b : Nat} (h : 2 ^ a < 2 ^ b) : a < b := by
  rcases Nat.lt_or_ge a b with h1 | h1
  · exact h1
  · have := Nat.pow_le_pow_right (n := 2) (by decide) h1
    omega
theorem nb_le_of_lt {n k : Nat} (h : n < 2 ^ k) : nb n ≤ k := by
  by_cases h0 : n = 0
  · subst h0; simp [nb]
  · have h1 := nb_le h0
    have h2 : nb n - 1 < k := pow_lt_inv (by omega)
    omega
theorem lt_nb_of_le {n k : Nat} (h : 2 ^ k ≤ n) : k < nb n := by
  have h1 := lt_nb n
  exact pow_lt_inv (by omega)
theorem nb_eq {n k : Nat} (h1 : n < 2 ^ k) (h2 : k ≠ 0 → 2 ^ (k - 1) ≤ n) : nb n = k := by
  have h3 := nb_le_of_lt h1
  by_cases h0 : k = 0
  · omega
  · have h4 := lt_nb_of_le (h2 h0)
    omega
theorem nb_half {n : Nat} (h : n ≠ 0) : nb n = nb (n / 2) + 1 := by
  refine nb_eq ?_ ?_
  · have := lt_nb (n / 2)
    rw [Nat.pow_succ]; omega
  · intro _
    rw [Nat.add_sub_cancel]
    by_cases h0 : n / 2 = 0
    · rw [h0, nb_zero]
      show 1 ≤ n
      omega
    · have h1 := nb_le h0
      have h2 := nb_pos h0
      obtain ⟨k, hk⟩ : ∃ k, nb (n / 2) = k + 1 := ⟨nb (n / 2) - 1, by omega⟩
      rw [hk] at h1 ⊢
      rw [Nat.add_sub_cancel] at h1
      rw [Nat.pow_succ]; omega
theorem aux_nb (f : Nat) : ∀ x, x < 2 ^ f → Go.Lib.bitLenAux f x = nb x := by
  induction f with
  | zero => intro x h; obtain rfl : x = 0 := by simpa using h
            rfl
  | succ f ih =>
    intro x h
    unfold Go.Lib.bitLenAux
    by_cases h0 : x = 0
    · subst h0; rfl
    · rw [if_neg h0, ih (x / 2) (by rw [Nat.pow_succ] at h; omega), nb_half h0]; omega
theorem bitLen_nb (x : Nat) (h : x < 2 ^ 64) : Go.Lib.bitLen x = nb x := aux_nb 64 x h
theorem nb_limb {x : Nat} (h : x < 4294967296) : nb x ≤ 32 := nb_le_of_lt (k := 32) h

/-- The number of digits of a list of limbs. -/
theorem nb_val {xs : List Nat} (hx : Limbs xs) (h : tlen xs ≠ 0) : nb (val xs) = 32 * (tlen xs - 1) + nb (xs.getD (tlen xs - 1) 0) := by
  obtain ⟨t, ht⟩ : ∃ t, tlen xs = t + 1 := ⟨tlen xs - 1, by omega⟩
  have htop := tlen_top xs h
  rw [ht] at htop ⊢
  rw [Nat.add_sub_cancel] at htop ⊢
  have hv : val xs = val (xs.take t) + pw t * xs.getD t 0 := by
    rw [← val_trim xs, ← val_take_succ]; unfold trim; rw [ht]
  have h1 : val (xs.take t) < pw t := by
    have a := val_lt (hx.take t)
    have b : pw (xs.take t).length ≤ pw t := pw_le (List.length_take_le _ _)
    omega
  have hp : pw t = 2 ^ (32 * t) := pw_two t
  refine nb_eq ?_ ?_
  · rw [hv, Nat.pow_add, ← hp]
    have h2 := lt_nb (xs.getD t 0)
    have h3 : pw t * (xs.getD t 0 + 1) ≤ pw t * 2 ^ nb (xs.getD t 0) := Nat.mul_le_mul_left _ h2
    rw [Nat.mul_add] at h3
    omega
  · intro _
    have h2 := nb_le htop
    have h3 := nb_pos htop
    rw [Nat.add_sub_assoc (by omega), Nat.pow_add, ← hp, hv]
    have := Nat.mul_le_mul_left (pw t) h2
    omega

/-- Shifting and the number of digits. -/
theorem nb_shift {n k : Nat} (h : n ≠ 0) : nb (n * 2 ^ k) = nb n + k := by
  refine nb_eq ?_ ?_
  · rw [Nat.pow_add]; exact Nat.mul_lt_mul_of_pos_right (lt_nb n) (Nat.pow_pos (by decide))
  · intro _
    have h2 := nb_pos h
    rw [show nb n + k - 1 = (nb n - 1) + k from by omega, Nat.pow_add]
    exact Nat.mul_le_mul_right _ (nb_le h)
theorem nb_pow (k : Nat) : nb (2 ^ k) = k + 1 := by
  have := nb_shift (n := 1) (k := k) (by decide)
  rw [Nat.one_mul] at this
  rw [this]
  have : nb 1 = 1 := by decide
  omega
theorem nb_lt_pw {n k : Nat} : n < pw k ↔ nb n ≤ 32 * k := by
  rw [pw_two]
  constructor
  · exact nb_le_of_lt
  · intro h
    exact Nat.lt_of_lt_of_le (lt_nb n) (Nat.pow_le_pow_right (by decide) h)
/-- A shift down by all digits or more leaves nothing. -/
theorem shift_out {n k : Nat} (h : nb n ≤ k) : n / 2 ^ k = 0 := by
  apply Nat.div_eq_of_lt
  exact Nat.lt_of_lt_of_le (lt_nb n) (Nat.pow_le_pow_right (by decide) h)
end NatM
