/- Plain facts on long division: one digit of the quotient taken out keeps the state, and the end of it. No program is read here. -/
import Derived.Test.YtifpfoeecnkhoaaDoorPk
namespace NatM
theorem longDiv_step {A0 D j n q : Nat} {zs qs ws : List Nat} (h : LongDiv A0 D zs qs (j + 1)) (hz : Limbs zs) (hD : D < pw n) (hl : j + (n + 1) ≤ zs.length) (hq : j < qs.length) (hwl : ws.length = n + 1)
    (e : val ws + q * D = val ((zs.drop j).take (n + 1))) (hlt : val ws < D) : LongDiv A0 D (put zs j ws) (qs.set j q) j := by
  obtain ⟨h1, h2⟩ := h
  obtain ⟨h3, _⟩ := longDiv_window hD hl h2
  have h4 : val (zs.take j) < pw j := by
    have a := val_lt (hz.take j)
    rwa [List.length_take, Nat.min_eq_left (by omega)] at a
  have hup : val (zs.drop (j + (n + 1))) = 0 := by
    have a := val_take_drop zs (j + (n + 1)) hl
    rw [List.take_add, val_append, List.length_take, Nat.min_eq_left (by omega)] at a
    rcases Nat.eq_zero_or_pos (val (zs.drop (j + (n + 1)))) with b | b
    · exact b
    · have c : 0 < pw (j + (n + 1)) * val (zs.drop (j + (n + 1))) := Nat.mul_pos (pw_pos _) b
      omega
  have h5 : val (put zs j ws) = val (zs.take j) + pw j * val ws := by
    unfold put
    rw [val_append, val_append, List.length_take, Nat.min_eq_left (by omega), hwl, hup, Nat.mul_zero, Nat.add_zero]
  rw [pw_succ] at h1
  unfold LongDiv
  rw [h5, drop_set_cons hq]
  exact ⟨ld_arith h1 h3 e, ld_less h4 hlt⟩
theorem longDiv_done {A0 D : Nat} {zs qs : List Nat} (h : LongDiv A0 D zs qs 0) : val qs = A0 / D ∧ val zs = A0 % D := by
  obtain ⟨h1, h2⟩ := h
  simp only [pw, Nat.pow_zero, Nat.one_mul, List.drop_zero] at h1 h2
  have hD : 0 < D := by omega
  constructor
  · rw [h1, Nat.add_mul_div_right _ _ hD, Nat.div_eq_of_lt h2, Nat.zero_add]
  · rw [h1, Nat.add_mul_mod_self_right, Nat.mod_eq_of_lt h2]
end NatM
