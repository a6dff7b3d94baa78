/- The reference's plus and minus. -/
import Derived.Test.YtifpfoeecnkhoaaDoorR1
namespace Go.Proofs.YtifpfoeecnkhoaaDoor
open Go.RowKit NatM

/-- k limbs of the sum are laid, c is the carry. -/
def PlusAt (xs ys zs : List Nat) (c : Nat) : Prop := val zs + pw zs.length * c = val (xs.take zs.length) + val (ys.take zs.length)
theorem plusAt_zero (xs ys : List Nat) : PlusAt xs ys [] 0 := by simp [PlusAt, val]
theorem plusAt_step {xs ys zs : List Nat} {c s c' : Nat} (h : PlusAt xs ys zs c) (e : s + 4294967296 * c' = c + xs.getD zs.length 0 + ys.getD zs.length 0) : PlusAt xs ys (zs ++ [s]) c' := by
  unfold PlusAt at *
  rw [List.length_append, List.length_singleton, val_append, val_take_succ, val_take_succ, pw_succ]
  simp only [val, Nat.mul_zero, Nat.add_zero]
  have e2 : pw zs.length * s + 4294967296 * pw zs.length * c' = pw zs.length * (s + 4294967296 * c') := by rw [Nat.mul_add, Nat.mul_comm 4294967296 (pw zs.length), Nat.mul_assoc]
  have e3 : pw zs.length * (c + xs.getD zs.length 0 + ys.getD zs.length 0) = pw zs.length * c + pw zs.length * xs.getD zs.length 0 + pw zs.length * ys.getD zs.length 0 := by rw [Nat.mul_add, Nat.mul_add]
  rw [e, e3] at e2
  omega
theorem plusAt_top {xs ys zs : List Nat} {c m : Nat} (h : PlusAt xs ys zs c) (hx : Limbs xs) (hy : Limbs ys) (h1 : xs.length ≤ m) (h2 : ys.length ≤ m) (h3 : zs.length = m + 1) : c = 0 := by
  unfold PlusAt at h
  rw [List.take_of_length_le (by omega), List.take_of_length_le (by omega), h3] at h
  have a1 := Nat.lt_of_lt_of_le (val_lt hx) (pw_le h1)
  have a2 := Nat.lt_of_lt_of_le (val_lt hy) (pw_le h2)
  have a3 := pw_succ m
  rcases Nat.eq_zero_or_pos c with h0 | h0
  · exact h0
  · have : pw (m + 1) * 1 ≤ pw (m + 1) * c := Nat.mul_le_mul_left _ h0
    omega
theorem plusAt_done {xs ys zs : List Nat} (h : PlusAt xs ys zs 0) (h1 : xs.length ≤ zs.length) (h2 : ys.length ≤ zs.length) : val zs = val xs + val ys := by
  unfold PlusAt at h
  rw [List.take_of_length_le (by omega), List.take_of_length_le (by omega)] at h
  omega

/-- What the loop of plus keeps. -/
def PlusSt (w : World) (xs ys : List Nat) (out carry i : Value) (wr : World) : Prop :=
  ∃ (zs : List Nat) (c : Nat), carry = .int .u64 (c : Nat) ∧ c ≤ 1 ∧ i = .int .i64 (zs.length : Nat) ∧ OwnL wr w.heap.size out zs ∧ Limbs zs ∧ PlusAt xs ys zs c ∧ zs.length ≤ max xs.length ys.length + 1 ∧ Add w wr

end Go.Proofs.YtifpfoeecnkhoaaDoor
