/- The reference's minus. -/
import Derived.Test.YtifpfoeecnkhoaaDoorR2
namespace Go.Proofs.YtifpfoeecnkhoaaDoor
open Go.RowKit NatM

/-- k limbs of the difference are laid, c is the borrow. -/
def MinusAt (xs ys zs : List Nat) (c : Nat) : Prop := val zs + val (ys.take zs.length) = val (xs.take zs.length) + pw zs.length * c
theorem minusAt_zero (xs ys : List Nat) : MinusAt xs ys [] 0 := by simp [MinusAt, val]
theorem minusAt_step {xs ys zs : List Nat} {c s c' : Nat} (h : MinusAt xs ys zs c) (e : s + c + ys.getD zs.length 0 = xs.getD zs.length 0 + 4294967296 * c') : MinusAt xs ys (zs ++ [s]) c' := by
  unfold MinusAt at *
  rw [List.length_append, List.length_singleton, val_append, val_take_succ, val_take_succ, pw_succ]
  simp only [val, Nat.mul_zero, Nat.add_zero]
  have e2 : pw zs.length * xs.getD zs.length 0 + 4294967296 * pw zs.length * c' = pw zs.length * (xs.getD zs.length 0 + 4294967296 * c') := by rw [Nat.mul_add, Nat.mul_comm 4294967296 (pw zs.length), Nat.mul_assoc]
  have e3 : pw zs.length * (s + c + ys.getD zs.length 0) = pw zs.length * s + pw zs.length * c + pw zs.length * ys.getD zs.length 0 := by rw [Nat.mul_add, Nat.mul_add]
  rw [← e, e3] at e2
  omega
theorem minusAt_done {xs ys zs : List Nat} {c : Nat} (h : MinusAt xs ys zs c) (hx : Limbs xs) (hz : Limbs zs) (h1 : zs.length = xs.length) (hle : val ys ≤ val xs) : val zs = val xs - val ys := by
  unfold MinusAt at h
  rw [h1, List.take_of_length_le (Nat.le_refl _)] at h
  have a1 := val_lt hx
  have a2 := val_lt hz
  rw [h1] at a2
  have e : val (ys.take xs.length) = val ys := by
    rcases Nat.lt_or_ge ys.length xs.length with g | g
    · rw [List.take_of_length_le (by omega)]
    · have h2 := val_take_drop ys xs.length g
      rcases Nat.eq_zero_or_pos (val (ys.drop xs.length)) with h3 | h3
      · rw [h3, Nat.mul_zero] at h2; omega
      · have : pw xs.length * 1 ≤ pw xs.length * val (ys.drop xs.length) := Nat.mul_le_mul_left _ h3
        omega
  rw [e] at h
  rcases Nat.eq_zero_or_pos c with h0 | h0
  · subst h0; omega
  · have : pw xs.length * 1 ≤ pw xs.length * c := Nat.mul_le_mul_left _ h0
    omega

/-- What the loop of minus keeps. -/
def MinusSt (w : World) (xs ys : List Nat) (out carry i : Value) (wr : World) : Prop :=
  ∃ (zs : List Nat) (c : Nat), carry = .int .u64 (c : Nat) ∧ c ≤ 1 ∧ i = .int .i64 (zs.length : Nat) ∧ OwnL wr w.heap.size out zs ∧ Limbs zs ∧ MinusAt xs ys zs c ∧ zs.length ≤ xs.length ∧ Add w wr

end Go.Proofs.YtifpfoeecnkhoaaDoor
