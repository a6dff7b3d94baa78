/- Decimal digits that are read, the greatest first: their value, and a row of limbs times a power of ten plus a number. -/
import Derived.Test.YtjgaeodihijalaaDoorPf
namespace NatM

/-- A byte that is a decimal digit. -/
def IsDig (b : UInt8) : Prop := 48 ≤ b.toNat ∧ b.toNat ≤ 57
def AllDig (l : List UInt8) : Prop := ∀ b ∈ l, IsDig b
/-- The number whose digits stand behind those of a. -/
def dstep (a : Nat) (b : UInt8) : Nat := 10 * a + (b.toNat - 48)
def dval (a : Nat) (l : List UInt8) : Nat := l.foldl dstep a
theorem dval_nil (a : Nat) : dval a [] = a := rfl
theorem dval_cons (a : Nat) (b : UInt8) (l : List UInt8) : dval a (b :: l) = dval (10 * a + (b.toNat - 48)) l := by unfold dval; rw [List.foldl_cons]; rfl
theorem AllDig.nil : AllDig [] := by intro b h; cases h
theorem AllDig.head {b : UInt8} {l : List UInt8} (h : AllDig (b :: l)) : IsDig b := h b (by simp)
theorem AllDig.tail {b : UInt8} {l : List UInt8} (h : AllDig (b :: l)) : AllDig l := fun c hc => h c (by simp [hc])
theorem AllDig.take {l : List UInt8} (h : AllDig l) (n : Nat) : AllDig (l.take n) := fun c hc => h c (List.mem_of_mem_take hc)
theorem AllDig.drop {l : List UInt8} (h : AllDig l) (n : Nat) : AllDig (l.drop n) := fun c hc => h c (List.mem_of_mem_drop hc)
theorem dval_append (a : Nat) (xs ys : List UInt8) : dval a (xs ++ ys) = dval (dval a xs) ys := by
  unfold dval; rw [List.foldl_append]
theorem dval_take_drop (a n : Nat) (l : List UInt8) : dval (dval a (l.take n)) (l.drop n) = dval a l := by
  rw [← dval_append, List.take_append_drop]
theorem dval_lin (a : Nat) (l : List UInt8) : dval a l = 10 ^ l.length * a + dval 0 l := by
  induction l generalizing a with
  | nil => rw [dval_nil, dval_nil, List.length_nil, Nat.pow_zero, Nat.one_mul, Nat.add_zero]
  | cons b bs ih =>
    rw [dval_cons, dval_cons, List.length_cons]
    rw [ih (10 * a + (b.toNat - 48)), ih (10 * 0 + (b.toNat - 48)), Nat.pow_succ, Nat.mul_add, Nat.mul_zero, Nat.zero_add, Nat.mul_assoc]
    omega
theorem dval_snoc (a : Nat) (l : List UInt8) (b : UInt8) : dval a (l ++ [b]) = 10 * dval a l + (b.toNat - 48) := by
  rw [dval_append, dval_cons, dval_nil]
theorem dval_lt {a k : Nat} {l : List UInt8} (h : AllDig l) (ha : a < 10 ^ k) : dval a l < 10 ^ (k + l.length) := by
  induction l generalizing a k with
  | nil => rw [dval_nil, List.length_nil, Nat.add_zero]; exact ha
  | cons b bs ih =>
    have hb := h.head
    unfold IsDig at hb
    have : 10 * a + (b.toNat - 48) < 10 ^ (k + 1) := by rw [Nat.pow_succ]; omega
    have := ih h.tail this
    rw [dval_cons, List.length_cons]
    rwa [show k + (bs.length + 1) = k + 1 + bs.length from by omega]
theorem dval_lt0 {l : List UInt8} (h : AllDig l) : dval 0 l < 10 ^ l.length := by
  have := dval_lt (a := 0) (k := 0) h (by decide)
  rwa [Nat.zero_add] at this
theorem ten_pw (n k : Nat) (h : n ≤ 9 * k) : 10 ^ n ≤ pw k := by
  have h1 : 10 ^ n ≤ 10 ^ (9 * k) := Nat.pow_le_pow_right (by decide) h
  have h2 : 10 ^ (9 * k) ≤ pw k := by
    rw [Nat.pow_mul]; unfold pw
    exact Nat.pow_le_pow_left (by decide) k
  exact Nat.le_trans h1 h2

/-- k limbs are multiplied and added to; c is the carry. -/
def Scale (xs zs : List Nat) (s c0 k c : Nat) : Prop := val (zs.take k) + pw k * c = s * val (xs.take k) + c0 ∧ (∀ j, k ≤ j → zs.getD j 0 = xs.getD j 0) ∧ zs.length = xs.length
theorem scale_zero (xs : List Nat) (s c0 : Nat) : Scale xs xs s c0 0 c0 := ⟨by simp [val, pw], fun _ _ => rfl, rfl⟩
theorem scale_step {xs zs : List Nat} {s c0 k c lo hi : Nat} (h : Scale xs zs s c0 k c) (hk : k < xs.length) (e : lo + 4294967296 * hi = c + xs.getD k 0 * s) : Scale xs (zs.set k lo) s c0 (k + 1) hi := by
  obtain ⟨h1, h2, h3⟩ := h
  refine ⟨?_, fun j hj => by rw [getD_set_ne _ _ _ _ (by omega)]; exact h2 j (by omega), by rw [List.length_set]; exact h3⟩
  rw [val_take_succ, take_set_lt, getD_set_self _ _ _ (by omega), val_take_succ, pw_succ]
  have e2 : pw k * lo + 4294967296 * pw k * hi = pw k * (lo + 4294967296 * hi) := by rw [Nat.mul_add, Nat.mul_comm 4294967296 (pw k), Nat.mul_assoc]
  have e3 : s * (val (xs.take k) + pw k * xs.getD k 0) = s * val (xs.take k) + pw k * (xs.getD k 0 * s) := by
    rw [Nat.mul_add, ← Nat.mul_assoc, Nat.mul_comm s (pw k), Nat.mul_assoc, Nat.mul_comm s (xs.getD k 0)]
  have e4 : pw k * (lo + 4294967296 * hi) = pw k * c + pw k * (xs.getD k 0 * s) := by rw [e, Nat.mul_add]
  rw [e3]
  omega
theorem scale_done {xs zs : List Nat} {s c0 c : Nat} (h : Scale xs zs s c0 xs.length c) (hU : s * val xs + c0 < pw xs.length) : val zs = s * val xs + c0 := by
  obtain ⟨h1, -, h3⟩ := h
  rw [List.take_of_length_le (by omega), List.take_of_length_le (by omega)] at h1
  rcases Nat.eq_zero_or_pos c with h0 | h0
  · subst h0; simpa using h1
  · have : pw xs.length * 1 ≤ pw xs.length * c := Nat.mul_le_mul_left _ h0
    omega
theorem scale_fits {s c x : Nat} (hs : s ≤ 1000000000) (hc : c < s) (hx : x < 4294967296) : c + x * s < 18446744073709551616 ∧ (c + x * s) / 4294967296 < s := by
  have h1 : x * s ≤ 4294967295 * s := Nat.mul_le_mul_right _ (by omega)
  refine ⟨by omega, ?_⟩
  apply Nat.div_lt_of_lt_mul
  omega
end NatM
