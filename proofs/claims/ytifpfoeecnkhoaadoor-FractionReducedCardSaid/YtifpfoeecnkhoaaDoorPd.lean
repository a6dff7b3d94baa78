/- Plain facts on long division: how it begins, and what the scaled numbers give. No program is read here. -/
import Derived.Test.YtifpfoeecnkhoaaDoorPl
namespace NatM

/-- The divisor moved up until its first digit is the first of a limb. -/
theorem normal {ys : List Nat} {m up : Nat} (hy : Limbs ys) (hc : Canon ys) (hl : ys.length = m + 2) (hup : up = 32 - nb (ys.getD (m + 1) 0)) :
    up ≤ 31 ∧ val ys * 2 ^ up < pw (m + 2) ∧ 2147483648 * pw (m + 1) ≤ val ys * 2 ^ up := by
  unfold Canon at hc
  have ht : tlen ys = m + 2 := by omega
  have htop := tlen_top ys (by omega)
  rw [ht, show m + 2 - 1 = m + 1 from by omega] at htop
  have h1 := nb_pos htop
  have h2 := nb_limb (hy.getD (m + 1))
  have h3 := nb_val hy (by omega)
  rw [ht, show m + 2 - 1 = m + 1 from by omega] at h3
  have hne : val ys ≠ 0 := by
    intro e
    have := val_eq_zero.1 e
    omega
  have h4 : nb (val ys * 2 ^ up) = 32 * (m + 2) := by rw [nb_shift hne, h3]; omega
  have hne2 : val ys * 2 ^ up ≠ 0 := Nat.mul_ne_zero hne (Nat.pos_iff_ne_zero.1 (Nat.pow_pos (by decide)))
  refine ⟨by omega, ?_, ?_⟩
  · rw [pw_two, ← h4]; exact lt_nb _
  · have h5 := nb_le hne2
    rw [h4] at h5
    have h6 : 2 ^ (32 * (m + 2) - 1) = 2147483648 * pw (m + 1) := by
      rw [pw_two, show 32 * (m + 2) - 1 = 31 + 32 * (m + 1) from by omega, Nat.pow_add]
    rw [h6] at h5; exact h5

theorem longDiv_start {A D up la k m : Nat} {zs : List Nat} (hz : val zs = A * 2 ^ up) (hA : A < pw la) (hup : up ≤ 31) (hD : 2147483648 * pw (m + 1) ≤ D) (hk : la = k + (m + 1)) : LongDiv (A * 2 ^ up) D zs (List.replicate k 0) k := by
  refine ⟨?_, ?_⟩
  · rw [List.drop_of_length_le (by simp), hz]; simp [val]
  · rw [hz]
    have h1 : A * 2 ^ up < pw la * 2 ^ up := Nat.mul_lt_mul_of_pos_right hA (Nat.pow_pos (by decide))
    have h2 : pw la * 2 ^ up ≤ pw la * 2147483648 := Nat.mul_le_mul_left _ (Nat.pow_le_pow_right (n := 2) (by decide) hup)
    have h3 : pw la * 2147483648 = pw k * (2147483648 * pw (m + 1)) := by rw [hk, pw_add]; simp only [Nat.mul_assoc, Nat.mul_comm]
    have h4 : pw k * (2147483648 * pw (m + 1)) ≤ pw k * D := Nat.mul_le_mul_left _ hD
    omega

theorem scaled_quo (A B up : Nat) : A * 2 ^ up / (B * 2 ^ up) = A / B := Nat.mul_div_mul_right A B (Nat.pow_pos (by decide))
theorem scaled_rem (A B up : Nat) : A * 2 ^ up % (B * 2 ^ up) / 2 ^ up = A % B := by
  rw [Nat.mul_mod_mul_right, Nat.mul_div_cancel _ (Nat.pow_pos (by decide))]
end NatM
