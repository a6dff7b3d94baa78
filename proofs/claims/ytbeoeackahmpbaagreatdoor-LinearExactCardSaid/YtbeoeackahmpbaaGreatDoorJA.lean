/- Plain facts on lists of 32-bit limbs: their value, their canonical form, and addition, subtraction and comparison limb by limb. No program is read here. | Plain facts on lists of 32-bit limbs: products limb by limb, and shifts up and down by any number of binary digits. No program is read here. | Plain facts on decimal digits: their value, that a number has one row of digits without zeros at the front, and what stays when the zeros are struck. No program is read here. | Plain facts on the number of binary digits of a number. No program is read here. | Plain facts on long division: a window of a list of limbs, a multiple taken from it, the guessed digit is right or too great by one, and the quotient digit by digit. No program is read here. | Plain facts on long division: one digit of the quotient taken out keeps the state, and the end of it. No program is read here. | Plain facts on long division: how it begins, and what the scaled numbers give. No program is read here. | Two numbers replaced by combinations of them, limb by limb. | Lehmer's leaps: quotients guessed from the leading digits. | Fractions of natural numbers with a sign, as rational numbers. No program is read here. | Fractions in lowest terms: what lowest, sums, comparisons and roundings come to. No program is read here. -/
import Derived.Lib.BitFns

namespace NatM

/-- The value of a list of limbs, the least first. -/
def val : List Nat → Nat
  | [] => 0
  | x :: xs => x + 4294967296 * val xs

/-- Every element is a limb. -/
def Limbs (xs : List Nat) : Prop := ∀ x ∈ xs, x < 4294967296

/-- The length of the canonical form. -/
def tlen : List Nat → Nat
  | [] => 0
  | x :: xs => if tlen xs = 0 then (if x = 0 then 0 else 1) else tlen xs + 1

/-- The canonical form. -/
def trim (xs : List Nat) : List Nat := xs.take (tlen xs)

def pw (k : Nat) : Nat := 4294967296 ^ k

theorem pw_zero : pw 0 = 1 := rfl
theorem pw_succ (k : Nat) : pw (k + 1) = 4294967296 * pw k := by unfold pw; rw [Nat.pow_succ, Nat.mul_comm]
theorem pw_pos (k : Nat) : 0 < pw k := Nat.pow_pos (by decide)
theorem pw_add (a b : Nat) : pw (a + b) = pw a * pw b := by unfold pw; exact Nat.pow_add _ _ _
theorem pw_le {a b : Nat} (h : a ≤ b) : pw a ≤ pw b := Nat.pow_le_pow_right (by decide) h
theorem pw_lt {a b : Nat} (h : a < b) : pw a < pw b := Nat.pow_lt_pow_right (by decide) h

theorem Limbs.nil : Limbs [] := by intro x h; cases h
theorem Limbs.cons {x : Nat} {xs : List Nat} (h : x < 4294967296) (hs : Limbs xs) : Limbs (x :: xs) := by
  intro y hy; rcases List.mem_cons.1 hy with rfl | hy
  · exact h
  · exact hs y hy
theorem Limbs.head {x : Nat} {xs : List Nat} (h : Limbs (x :: xs)) : x < 4294967296 := h x (by simp)
theorem Limbs.tail {x : Nat} {xs : List Nat} (h : Limbs (x :: xs)) : Limbs xs := fun y hy => h y (by simp [hy])
theorem Limbs.take {xs : List Nat} (h : Limbs xs) (n : Nat) : Limbs (xs.take n) := fun y hy => h y (List.mem_of_mem_take hy)
theorem Limbs.drop {xs : List Nat} (h : Limbs xs) (n : Nat) : Limbs (xs.drop n) := fun y hy => h y (List.mem_of_mem_drop hy)
theorem Limbs.append {xs ys : List Nat} (h : Limbs xs) (g : Limbs ys) : Limbs (xs ++ ys) := fun y hy => by
  rcases List.mem_append.1 hy with hy | hy
  · exact h y hy
  · exact g y hy
theorem Limbs.getD {xs : List Nat} (h : Limbs xs) (i : Nat) : xs.getD i 0 < 4294967296 := by
  by_cases hi : i < xs.length
  · have : xs.getD i 0 = xs[i] := by simp [List.getD, hi]
    rw [this]; exact h _ (List.getElem_mem hi)
  · have : xs.getD i 0 = 0 := by simp [List.getD, List.getElem?_eq_none (Nat.le_of_not_lt hi)]
    rw [this]; decide
theorem Limbs.set {xs : List Nat} (h : Limbs xs) (i y : Nat) (hy : y < 4294967296) : Limbs (xs.set i y) := fun z hz => by
  rcases List.mem_or_eq_of_mem_set hz with hz | rfl
  · exact h z hz
  · exact hy
theorem Limbs.replicate (n : Nat) : Limbs (List.replicate n 0) := fun y hy => by
  have := List.eq_of_mem_replicate hy; omega

theorem val_append (xs ys : List Nat) : val (xs ++ ys) = val xs + pw xs.length * val ys := by
  induction xs with
  | nil => simp [val, pw]
  | cons x xs ih => simp only [List.cons_append, val, ih, List.length_cons, pw_succ]; rw [Nat.mul_add, Nat.mul_assoc]; omega

theorem val_lt {xs : List Nat} (h : Limbs xs) : val xs < pw xs.length := by
  induction xs with
  | nil => simp [val, pw]
  | cons x xs ih =>
    have h1 := ih h.tail
    have h2 := h.head
    simp only [val, List.length_cons, pw_succ]; omega

theorem val_replicate (n : Nat) : val (List.replicate n 0) = 0 := by
  induction n with
  | zero => rfl
  | succ n ih => simp [List.replicate_succ, val, ih]

theorem val_eq_zero {xs : List Nat} : val xs = 0 ↔ tlen xs = 0 := by
  induction xs with
  | nil => simp [val, tlen]
  | cons x xs ih =>
    simp only [val, tlen]
    by_cases h : tlen xs = 0
    · have := ih.2 h
      simp only [h, if_true, this]
      by_cases hx : x = 0 <;> simp [hx]
    · have : val xs ≠ 0 := fun e => h (ih.1 e)
      simp only [h, if_false]
      constructor
      · intro e; omega
      · intro e; omega

theorem tlen_le (xs : List Nat) : tlen xs ≤ xs.length := by
  induction xs with
  | nil => simp [tlen]
  | cons x xs ih => simp only [tlen, List.length_cons]; split <;> (try split) <;> omega

theorem tlen_zero_getD {xs : List Nat} (h : tlen xs = 0) (i : Nat) : xs.getD i 0 = 0 := by
  induction xs generalizing i with
  | nil => simp
  | cons x xs ih =>
    simp only [tlen] at h
    by_cases h0 : tlen xs = 0
    · simp only [h0, if_true] at h
      by_cases hx : x = 0
      · cases i with
        | zero => simpa using hx
        | succ i => simpa using ih h0 i
      · simp [hx] at h
    · simp [h0] at h

/-- Behind the canonical length there are zeros only, and the last limb before it is not 0. -/
theorem tlen_above (xs : List Nat) (i : Nat) (h : tlen xs ≤ i) : xs.getD i 0 = 0 := by
  induction xs generalizing i with
  | nil => simp
  | cons x xs ih =>
    by_cases h0 : tlen xs = 0
    · cases i with
      | zero =>
        simp only [tlen, h0, if_true] at h
        by_cases hx : x = 0
        · simpa using hx
        · simp [hx] at h
      | succ i => simpa using tlen_zero_getD h0 i
    · simp only [tlen, h0, if_false] at h
      cases i with
      | zero => omega
      | succ i => simpa using ih i (by omega)

theorem tlen_top (xs : List Nat) (h : tlen xs ≠ 0) : xs.getD (tlen xs - 1) 0 ≠ 0 := by
  induction xs with
  | nil => simp [tlen] at h
  | cons x xs ih =>
    by_cases h0 : tlen xs = 0
    · simp only [tlen, h0, if_true] at h ⊢
      by_cases hx : x = 0
      · simp [hx] at h
      · simp [hx]
    · have := ih h0
      obtain ⟨k, hk⟩ : ∃ k, tlen xs = k + 1 := ⟨tlen xs - 1, by omega⟩
      simp only [tlen, hk] at this ⊢
      simpa using this

/-- The two facts pin the canonical length. -/
theorem tlen_eq (xs : List Nat) (n : Nat) (_hn : n ≤ xs.length) (h1 : ∀ i, n ≤ i → xs.getD i 0 = 0) (h2 : n ≠ 0 → xs.getD (n - 1) 0 ≠ 0) : tlen xs = n := by
  rcases Nat.lt_trichotomy (tlen xs) n with h | h | h
  · exact absurd (tlen_above xs (n - 1) (by omega)) (h2 (by omega))
  · exact h
  · exact absurd (h1 (tlen xs - 1) (by omega)) (tlen_top xs (by omega))

theorem val_trim (xs : List Nat) : val (trim xs) = val xs := by
  unfold trim
  induction xs with
  | nil => rfl
  | cons x xs ih =>
    by_cases h0 : tlen xs = 0
    · have hv := val_eq_zero.2 h0
      by_cases hx : x = 0
      · simp [tlen, h0, hx, val, hv]
      · simp [tlen, h0, hx, val, hv]
    · have : tlen (x :: xs) = tlen xs + 1 := by simp [tlen, h0]
      rw [this, List.take_succ_cons]
      simp only [val, ih]

theorem length_trim (xs : List Nat) : (trim xs).length = tlen xs := by
  unfold trim; rw [List.length_take]; have := tlen_le xs; omega

theorem getD_take (xs : List Nat) (n i : Nat) (h : i < n) : (xs.take n).getD i 0 = xs.getD i 0 := by
  simp [List.getD, h]

theorem tlen_trim (xs : List Nat) : tlen (trim xs) = tlen xs := by
  refine tlen_eq _ _ (Nat.le_of_eq (length_trim xs).symm) ?_ ?_
  · intro i hi
    have : (trim xs).length ≤ i := by rw [length_trim]; exact hi
    simp [List.getD, List.getElem?_eq_none this]
  · intro h
    unfold trim
    rw [getD_take _ _ _ (by omega)]
    exact tlen_top xs h

/-- Canonical: no zero at the end. -/
def Canon (xs : List Nat) : Prop := tlen xs = xs.length
theorem Canon.trim (xs : List Nat) : Canon (trim xs) := by unfold Canon; rw [tlen_trim, length_trim]
theorem Canon.nil : Canon [] := rfl

theorem pw_le_val {xs : List Nat} (h : tlen xs ≠ 0) : pw (tlen xs - 1) ≤ val xs := by
  induction xs with
  | nil => simp [tlen] at h
  | cons x xs ih =>
    by_cases h0 : tlen xs = 0
    · simp only [tlen, h0, if_true] at h ⊢
      by_cases hx : x = 0
      · simp [hx] at h
      · simp only [hx, if_false, val, pw]; simp; omega
    · have h1 := ih h0
      obtain ⟨k, hk⟩ : ∃ k, tlen xs = k + 1 := ⟨tlen xs - 1, by omega⟩
      simp only [tlen, hk, val] at h1 ⊢
      simp only [Nat.add_sub_cancel, Nat.succ_ne_zero, if_false] at h1 ⊢
      rw [pw_succ]; omega

theorem val_lt_tlen {xs : List Nat} (h : Limbs xs) : val xs < pw (tlen xs) := by
  have := val_lt (xs := trim xs) (h.take _)
  rw [val_trim, length_trim] at this
  exact this

theorem tlen_le_of_val {xs : List Nat} (n : Nat) (h : val xs < pw n) : tlen xs ≤ n := by
  by_cases h0 : tlen xs = 0
  · omega
  · have h1 := pw_le_val h0
    have h2 : pw (tlen xs - 1) < pw n := by omega
    have : ¬ n ≤ tlen xs - 1 := fun h3 => by have := pw_le h3; omega
    omega

theorem tlen_gt_of_val {xs : List Nat} (hl : Limbs xs) (n : Nat) (h : pw n ≤ val xs) : n < tlen xs := by
  have h1 := val_lt_tlen hl
  have h2 : pw n < pw (tlen xs) := by omega
  have : ¬ tlen xs ≤ n := fun h3 => by have := pw_le h3; omega
  omega

theorem tlen_gt_iff {xs : List Nat} (hl : Limbs xs) (n : Nat) : n < tlen xs ↔ pw n ≤ val xs := by
  constructor
  · intro h
    have h1 := pw_le_val (xs := xs) (by omega)
    have h2 : pw n ≤ pw (tlen xs - 1) := pw_le (by omega)
    omega
  · exact tlen_gt_of_val hl n

/-- Lists of limbs of one length with one value are equal. -/
theorem val_inj {xs ys : List Nat} (hx : Limbs xs) (hy : Limbs ys) (hl : xs.length = ys.length) (h : val xs = val ys) : xs = ys := by
  induction xs generalizing ys with
  | nil => cases ys with
    | nil => rfl
    | cons y ys => simp at hl
  | cons x xs ih => cases ys with
    | nil => simp at hl
    | cons y ys =>
      have h1 := hx.head
      have h2 := hy.head
      simp only [val] at h
      have e1 : x = y := by omega
      have e2 : val xs = val ys := by omega
      rw [e1, ih hx.tail hy.tail (by simpa using hl) e2]

theorem canon_inj {xs ys : List Nat} (hx : Limbs xs) (hy : Limbs ys) (cx : Canon xs) (cy : Canon ys) (h : val xs = val ys) : xs = ys := by
  refine val_inj hx hy ?_ h
  unfold Canon at cx cy
  rw [← cx, ← cy]
  have a1 := val_lt_tlen hx
  have a2 := val_lt_tlen hy
  have b1 := tlen_le_of_val (xs := xs) (tlen ys) (by omega)
  have b2 := tlen_le_of_val (xs := ys) (tlen xs) (by omega)
  omega

theorem val_take_drop (xs : List Nat) (k : Nat) (h : k ≤ xs.length) : val xs = val (xs.take k) + pw k * val (xs.drop k) := by
  conv => lhs; rw [← List.take_append_drop k xs]
  rw [val_append, List.length_take, Nat.min_eq_left h]

theorem val_take_succ (xs : List Nat) (k : Nat) : val (xs.take (k + 1)) = val (xs.take k) + pw k * xs.getD k 0 := by
  by_cases h : k < xs.length
  · rw [List.take_succ_eq_append_getElem h, val_append, List.length_take, Nat.min_eq_left (by omega)]
    simp [val, List.getD, h]
  · rw [List.take_of_length_le (by omega), List.take_of_length_le (by omega)]
    simp [List.getD, List.getElem?_eq_none (Nat.le_of_not_lt h)]

theorem val_set (xs : List Nat) (k y : Nat) (h : k < xs.length) : val (xs.set k y) + pw k * xs.getD k 0 = val xs + pw k * y := by
  induction xs generalizing k with
  | nil => simp at h
  | cons x xs ih =>
    cases k with
    | zero => simp [val, pw]; omega
    | succ k =>
      have := ih k (by simpa using h)
      simp only [List.set_cons_succ, val, pw_succ, List.getD_cons_succ] at this ⊢
      rw [Nat.mul_assoc, Nat.mul_assoc]
      omega

/-! Comparison -/
/-- Two values with one tail above i compare as their limbs at i do. -/
theorem lt_of_top {xs ys : List Nat} (hx : Limbs xs) (i : Nat) (h : xs.getD i 0 < ys.getD i 0) : val (xs.take (i + 1)) < val (ys.take (i + 1)) := by
  rw [val_take_succ, val_take_succ]
  have h1 : val (xs.take i) < pw i := by
    have a := val_lt (hx.take i)
    have b : pw (xs.take i).length ≤ pw i := pw_le (List.length_take_le _ _)
    omega
  have h2 : pw i * (xs.getD i 0 + 1) ≤ pw i * ys.getD i 0 := Nat.mul_le_mul_left _ h
  rw [Nat.mul_add] at h2
  omega

/-- The state of a comparison from the top: above i the two lists agree. -/
def Agree (xs ys : List Nat) (i : Nat) : Prop := xs.drop i = ys.drop i

theorem agree_top {xs ys : List Nat} (h : xs.length = ys.length) : Agree xs ys xs.length := by
  unfold Agree; rw [List.drop_of_length_le (Nat.le_refl _), List.drop_of_length_le (by omega)]
theorem agree_step {xs ys : List Nat} {i : Nat} (hl : xs.length = ys.length) (hi : i < xs.length) (h : Agree xs ys (i + 1)) (he : xs.getD i 0 = ys.getD i 0) : Agree xs ys i := by
  unfold Agree at h ⊢
  rw [List.drop_eq_getElem_cons hi, List.drop_eq_getElem_cons (by omega : i < ys.length), h]
  simp [List.getD, hi, (by omega : i < ys.length)] at he
  rw [he]
theorem agree_zero {xs ys : List Nat} (h : Agree xs ys 0) : xs = ys := by simpa [Agree] using h
theorem agree_lt {xs ys : List Nat} {i : Nat} (hx : Limbs xs) (hl : xs.length = ys.length) (hi : i < xs.length) (h : Agree xs ys (i + 1)) (hlt : xs.getD i 0 < ys.getD i 0) : val xs < val ys := by
  rw [val_take_drop xs (i + 1) (by omega), val_take_drop ys (i + 1) (by omega)]
  unfold Agree at h
  rw [h]
  have := lt_of_top hx i hlt
  omega
theorem len_lt {xs ys : List Nat} (hx : Limbs xs) (cy : Canon ys) (h : xs.length < ys.length) : val xs < val ys := by
  unfold Canon at cy
  have h1 := val_lt hx
  have h2 := pw_le_val (xs := ys) (by omega)
  have h3 : pw xs.length ≤ pw (tlen ys - 1) := pw_le (by omega)
  omega

/-! Sums and differences, limb by limb -/
def SumAt (xs ys zs : List Nat) (k c : Nat) : Prop := val (zs.take k) + pw k * c = val (xs.take k) + val (ys.take k)
theorem sum_zero (xs ys zs : List Nat) : SumAt xs ys zs 0 0 := by simp [SumAt, val]
theorem take_set_lt (zs : List Nat) (k s : Nat) : (zs.set k s).take k = zs.take k := by
  rw [List.take_set]
  exact List.set_eq_of_length_le (List.length_take_le _ _)
theorem getD_set_self (zs : List Nat) (k s : Nat) (h : k < zs.length) : (zs.set k s).getD k 0 = s := by simp [List.getD, h]
theorem sum_step {xs ys zs : List Nat} {k c s c' : Nat} (h : SumAt xs ys zs k c) (hk : k < zs.length) (e : s + 4294967296 * c' = xs.getD k 0 + ys.getD k 0 + c) : SumAt xs ys (zs.set k s) (k + 1) c' := by
  unfold SumAt at h ⊢
  rw [val_take_succ, val_take_succ, val_take_succ, take_set_lt, getD_set_self _ _ _ hk, pw_succ]
  have : pw k * (s + 4294967296 * c') = pw k * (xs.getD k 0 + ys.getD k 0 + c) := by rw [e]
  simp only [Nat.mul_add] at this
  have e2 : pw k * (4294967296 * c') = 4294967296 * pw k * c' := by rw [← Nat.mul_assoc, Nat.mul_comm (pw k)]
  omega
def DiffAt (xs ys zs : List Nat) (k c : Nat) : Prop := val (zs.take k) + val (ys.take k) = val (xs.take k) + pw k * c
theorem diff_zero (xs ys zs : List Nat) : DiffAt xs ys zs 0 0 := by simp [DiffAt, val]
theorem diff_step {xs ys zs : List Nat} {k c s c' : Nat} (h : DiffAt xs ys zs k c) (hk : k < zs.length) (e : s + ys.getD k 0 + c = xs.getD k 0 + 4294967296 * c') : DiffAt xs ys (zs.set k s) (k + 1) c' := by
  unfold DiffAt at h ⊢
  rw [val_take_succ, val_take_succ, val_take_succ, take_set_lt, getD_set_self _ _ _ hk, pw_succ]
  have : pw k * (s + ys.getD k 0 + c) = pw k * (xs.getD k 0 + 4294967296 * c') := by rw [e]
  simp only [Nat.mul_add] at this
  have e2 : pw k * (4294967296 * c') = 4294967296 * pw k * c' := by rw [← Nat.mul_assoc, Nat.mul_comm (pw k)]
  omega

/-! Reversing a list in place -/
def RevAt (bs ys : List Nat) (k : Nat) : Prop :=
  ys.length = bs.length ∧ ∀ i, i < bs.length → ys.getD i 0 = if i < k ∨ bs.length - k ≤ i then bs.getD (bs.length - 1 - i) 0 else bs.getD i 0
theorem revAt_zero (bs : List Nat) : RevAt bs bs 0 := ⟨rfl, fun i hi => by rw [if_neg (by omega)]⟩
theorem getD_set (zs : List Nat) (k i s : Nat) (h : k < zs.length) : (zs.set k s).getD i 0 = if i = k then s else zs.getD i 0 := by
  by_cases e : i = k
  · subst e; rw [if_pos rfl]; exact getD_set_self _ _ _ h
  · rw [if_neg e]
    simp [List.getD, Ne.symm e]
theorem revAt_step {bs ys : List Nat} {k j : Nat} (h : RevAt bs ys k) (hj : k + j + 1 = bs.length) (hkj : k < j) : RevAt bs ((ys.set k (ys.getD j 0)).set j (ys.getD k 0)) (k + 1) := by
  obtain ⟨hl, hv⟩ := h
  refine ⟨by simpa using hl, fun i hi => ?_⟩
  rw [getD_set _ _ _ _ (by simp; omega), getD_set _ _ _ _ (by omega)]
  by_cases e1 : i = j
  · rw [if_pos e1, hv k (by omega), if_neg (by omega), if_pos (by omega)]
    congr 1; omega
  · rw [if_neg e1]
    by_cases e2 : i = k
    · rw [if_pos e2, hv j (by omega), if_neg (by omega), if_pos (by omega)]
      congr 1; omega
    · rw [if_neg e2, hv i hi]
      by_cases c : i < k ∨ bs.length - k ≤ i
      · rw [if_pos c, if_pos (by omega)]
      · rw [if_neg c, if_neg (by omega)]
theorem revAt_done {bs ys : List Nat} {k : Nat} (h : RevAt bs ys k) (hk : bs.length ≤ 2 * k + 1) : ys = bs.reverse := by
  obtain ⟨hl, hv⟩ := h
  apply List.ext_getElem (by simpa using hl)
  intro i h1 h2
  have hi : i < bs.length := by omega
  have h3 := hv i hi
  have e1 : ys.getD i 0 = ys[i] := by simp [List.getD, h1]
  have e2 : bs.getD (bs.length - 1 - i) 0 = bs[bs.length - 1 - i]'(by omega) := by simp [List.getD, (by omega : bs.length - 1 - i < bs.length)]
  rw [List.getElem_reverse, ← e1, ← e2, h3]
  by_cases c : i < k ∨ bs.length - k ≤ i
  · rw [if_pos c]
  · rw [if_neg c]; congr 1; omega
theorem perm_set2 (ys : List Nat) (k j a b : Nat) (h : k ≠ j) : (ys.set k a).set j b = (ys.set j b).set k a := List.set_comm _ _ h

end NatM

namespace NatM

/-! Products -/
/-- Row i of a product, after j limbs of the second number. -/
def MulIn (zs0 ys zs : List Nat) (i x j c : Nat) : Prop :=
  zs.length = zs0.length ∧ val (zs.take (i + j)) + pw (i + j) * c = val (zs0.take (i + j)) + pw i * (x * val (ys.take j)) ∧ ∀ k, i + j ≤ k → zs.getD k 0 = zs0.getD k 0

theorem mulIn_zero (zs0 ys : List Nat) (i x : Nat) : MulIn zs0 ys zs0 i x 0 0 := by
  refine ⟨rfl, ?_, fun _ _ => rfl⟩
  simp [val]

theorem getD_set_ne (zs : List Nat) (k j s : Nat) (h : k ≠ j) : (zs.set k s).getD j 0 = zs.getD j 0 := by
  simp [List.getD, h]

theorem mulIn_step {zs0 ys zs : List Nat} {i x j c s c' : Nat} (h : MulIn zs0 ys zs i x j c) (hk : i + j < zs0.length) (e : s + 4294967296 * c' = x * ys.getD j 0 + zs.getD (i + j) 0 + c) : MulIn zs0 ys (zs.set (i + j) s) i x (j + 1) c' := by
  obtain ⟨hl, hv, ha⟩ := h
  refine ⟨by simpa using hl, ?_, ?_⟩
  · have ea : zs.getD (i + j) 0 = zs0.getD (i + j) 0 := ha _ (Nat.le_refl _)
    rw [← Nat.add_assoc, val_take_succ, val_take_succ, val_take_succ, take_set_lt, getD_set_self _ _ _ (by omega), pw_succ]
    rw [ea] at e
    have e1 : pw (i + j) * (s + 4294967296 * c') = pw (i + j) * (x * ys.getD j 0 + zs0.getD (i + j) 0 + c) := by rw [e]
    have e2 : pw (i + j) * (4294967296 * c') = 4294967296 * pw (i + j) * c' := by rw [← Nat.mul_assoc, Nat.mul_comm (pw (i + j))]
    have e3 : pw i * (x * (val (ys.take j) + pw j * ys.getD j 0)) = pw i * (x * val (ys.take j)) + pw (i + j) * (x * ys.getD j 0) := by
      rw [pw_add, Nat.mul_add, Nat.mul_add]
      congr 1
      simp only [Nat.mul_assoc, Nat.mul_left_comm]
    rw [e3]
    simp only [Nat.mul_add] at e1
    omega
  · intro k hk'
    rw [getD_set_ne _ _ _ _ (by omega)]
    exact ha k (by omega)

/-- A product after i rows. -/
def MulAt (xs ys zs : List Nat) (i : Nat) : Prop :=
  zs.length = xs.length + ys.length ∧ val (zs.take (i + ys.length)) = val (xs.take i) * val ys ∧ ∀ k, i + ys.length ≤ k → zs.getD k 0 = 0

theorem getD_replicate (n k : Nat) : (List.replicate n 0).getD k 0 = 0 := by
  simp only [List.getD, List.getElem?_replicate]; split <;> rfl

theorem mulAt_zero (xs ys : List Nat) : MulAt xs ys (List.replicate (xs.length + ys.length) 0) 0 := by
  refine ⟨by simp, ?_, fun k _ => getD_replicate _ _⟩
  rw [List.take_replicate, val_replicate]; simp [val]

theorem mulAt_step {xs ys zs zs' : List Nat} {i c : Nat} (h : MulAt xs ys zs i) (hi : i < xs.length) (g : MulIn zs ys zs' i (xs.getD i 0) ys.length c) : MulAt xs ys (zs'.set (i + ys.length) c) (i + 1) := by
  obtain ⟨hl, hv, ha⟩ := h
  obtain ⟨gl, gv, ga⟩ := g
  refine ⟨by simp [gl, hl], ?_, ?_⟩
  · rw [show i + 1 + ys.length = (i + ys.length) + 1 from by omega, val_take_succ, val_take_succ, take_set_lt, getD_set_self _ _ _ (by omega)]
    rw [List.take_length] at gv
    rw [gv, hv, Nat.add_mul, Nat.mul_assoc]
  · intro k hk
    rw [getD_set_ne _ _ _ _ (by omega), ga k (by omega)]
    exact ha k (by omega)

theorem mulAt_done {xs ys zs : List Nat} (h : MulAt xs ys zs xs.length) : val zs = val xs * val ys := by
  obtain ⟨hl, hv, _⟩ := h
  rw [List.take_length, ← hl, List.take_length] at hv
  exact hv

theorem mul_fits {x y z c : Nat} (hx : x < 4294967296) (hy : y < 4294967296) (hz : z < 4294967296) (hc : c < 4294967296) : x * y + z + c < 18446744073709551616 ∧ (x * y + z + c) / 4294967296 < 4294967296 := by
  have h1 : x * y ≤ 4294967295 * 4294967295 := Nat.mul_le_mul (by omega) (by omega)
  omega

/-! Shifts up -/
/-- The state of a shift up by 32 skip + t digits after i limbs. -/
def UpAt (xs zs : List Nat) (skip t i : Nat) : Prop :=
  val (zs.take (i + skip + 1)) = pw skip * (2 ^ t * val (xs.take i)) ∧ (zs.getD (i + skip) 0 < 2 ^ t) ∧ ∀ k, i + skip < k → zs.getD k 0 = 0

theorem upAt_zero (xs : List Nat) (skip t n : Nat) : UpAt xs (List.replicate n 0) skip t 0 := by
  refine ⟨?_, ?_, fun k _ => getD_replicate _ _⟩
  · rw [List.take_replicate, val_replicate]; simp [val]
  · rw [getD_replicate]; exact Nat.pow_pos (by decide)

theorem upAt_step {xs zs : List Nat} {skip t i : Nat} (h : UpAt xs zs skip t i) (hz : i + skip + 1 < zs.length) (_ht : t < 32) (hx : xs.getD i 0 < 4294967296) :
    UpAt xs ((zs.set (i + skip) (zs.getD (i + skip) 0 + (xs.getD i 0 * 2 ^ t) % 4294967296)).set (i + skip + 1) (xs.getD i 0 * 2 ^ t / 4294967296)) skip t (i + 1) := by
  obtain ⟨hv, hlow, ha⟩ := h
  have e : (i + 1 + skip) = i + skip + 1 := by omega
  refine ⟨?_, ?_, ?_⟩
  · rw [e, val_take_succ, take_set_lt, getD_set_self _ _ _ (by simpa using hz)]
    rw [val_take_succ, take_set_lt, getD_set_self _ _ _ (by omega)]
    rw [val_take_succ] at hv
    rw [val_take_succ, pw_succ]
    have e1 : pw (i + skip) * (xs.getD i 0 * 2 ^ t) = pw skip * (2 ^ t * (pw i * xs.getD i 0)) := by
      rw [pw_add]; simp only [Nat.mul_assoc, Nat.mul_comm]
    have e2 : pw (i + skip) * (xs.getD i 0 * 2 ^ t) = pw (i + skip) * (xs.getD i 0 * 2 ^ t % 4294967296) + 4294967296 * pw (i + skip) * (xs.getD i 0 * 2 ^ t / 4294967296) := by
      have := Nat.mod_add_div (xs.getD i 0 * 2 ^ t) 4294967296
      conv => lhs; rw [← this]
      rw [Nat.mul_add, ← Nat.mul_assoc, Nat.mul_comm (pw (i + skip)) 4294967296]
    rw [Nat.mul_add (2 ^ t), Nat.mul_add (pw skip), ← hv, ← e1, e2, Nat.mul_add]
    omega
  · rw [e, getD_set_self _ _ _ (by simpa using hz)]
    have h2 : 0 < 2 ^ t := Nat.pow_pos (by decide)
    exact Nat.div_lt_of_lt_mul (Nat.mul_lt_mul_of_pos_right hx h2)
  · intro k hk
    rw [getD_set_ne _ _ _ _ (by omega), getD_set_ne _ _ _ _ (by omega)]
    exact ha k (by omega)

theorem upAt_done {xs zs : List Nat} {skip t : Nat} (h : UpAt xs zs skip t xs.length) (hl : zs.length = xs.length + skip + 1) : val zs = val xs * 2 ^ (32 * skip + t) := by
  obtain ⟨hv, _⟩ := h
  rw [← hl, List.take_length, List.take_length] at hv
  rw [hv, Nat.pow_add, Nat.pow_mul]
  show pw skip * _ = val xs * (pw skip * 2 ^ t)
  simp only [Nat.mul_left_comm, Nat.mul_comm]

/-- Joining two disjoint parts of a limb bit by bit is adding them. -/
theorem or_low {a x t : Nat} (ha : a < 2 ^ t) (ht : t < 32) : (a ||| (x * 2 ^ t) % 4294967296) = a + (x * 2 ^ t) % 4294967296 := by
  have e : (x * 2 ^ t) % 4294967296 = (x % 2 ^ (32 - t)) * 2 ^ t := by
    have : (4294967296 : Nat) = 2 ^ (32 - t) * 2 ^ t := by rw [← Nat.pow_add, show 32 - t + t = 32 from by omega]
    rw [this, Nat.mul_mod_mul_right]
  rw [e, Nat.or_comm, ← Nat.shiftLeft_eq, ← Nat.shiftLeft_add_eq_or_of_lt ha, Nat.add_comm]

theorem low_fits {a x t : Nat} (ha : a < 2 ^ t) (ht : t < 32) : a + (x * 2 ^ t) % 4294967296 < 4294967296 := by
  have e : (x * 2 ^ t) % 4294967296 = (x % 2 ^ (32 - t)) * 2 ^ t := by
    have : (4294967296 : Nat) = 2 ^ (32 - t) * 2 ^ t := by rw [← Nat.pow_add, show 32 - t + t = 32 from by omega]
    rw [this, Nat.mul_mod_mul_right]
  have h1 : x % 2 ^ (32 - t) + 1 ≤ 2 ^ (32 - t) := Nat.mod_lt _ (Nat.pow_pos (by decide))
  have h2 : (x % 2 ^ (32 - t) + 1) * 2 ^ t ≤ 2 ^ (32 - t) * 2 ^ t := Nat.mul_le_mul_right _ h1
  have : (4294967296 : Nat) = 2 ^ (32 - t) * 2 ^ t := by rw [← Nat.pow_add, show 32 - t + t = 32 from by omega]
  rw [e]
  rw [Nat.add_mul] at h2
  omega

/-! Shifts down -/
/-- The limbs of a list moved down by t digits. -/
def shr (t : Nat) : List Nat → List Nat
  | [] => []
  | x :: xs => (x + 4294967296 * xs.headD 0) / 2 ^ t % 4294967296 :: shr t xs

theorem length_shr (t : Nat) (xs : List Nat) : (shr t xs).length = xs.length := by
  induction xs with
  | nil => rfl
  | cons x xs ih => simp [shr, ih]

theorem shr_limbs (t : Nat) (xs : List Nat) : Limbs (shr t xs) := by
  induction xs with
  | nil => exact Limbs.nil
  | cons x xs ih => exact Limbs.cons (Nat.mod_lt _ (by decide)) ih

theorem headD_mod (xs : List Nat) : ∃ q, val xs = xs.headD 0 + 4294967296 * q := by
  cases xs with
  | nil => exact ⟨0, rfl⟩
  | cons x xs => exact ⟨val xs, rfl⟩

theorem val_shr {t : Nat} {xs : List Nat} (ht : t < 32) (h : Limbs xs) : val (shr t xs) = val xs / 2 ^ t := by
  induction xs with
  | nil => simp [shr, val]
  | cons x xs ih =>
    obtain ⟨q, hq⟩ := headD_mod xs
    have hx := h.head
    have hB : (4294967296 : Nat) = 2 ^ t * 2 ^ (32 - t) := by rw [← Nat.pow_add, show t + (32 - t) = 32 from by omega]
    have hp : 0 < 2 ^ t := Nat.pow_pos (by decide)
    simp only [shr, val, ih h.tail]
    generalize xs.headD 0 = y at hq ⊢
    generalize val xs = W at hq ⊢
    have d1 : (x + 4294967296 * y) / 2 ^ t = x / 2 ^ t + 2 ^ (32 - t) * y := by
      rw [hB, Nat.mul_assoc, Nat.add_mul_div_left _ _ hp]
    have d2 : (x + 4294967296 * W) / 2 ^ t = x / 2 ^ t + 2 ^ (32 - t) * W := by
      rw [hB, Nat.mul_assoc, Nat.add_mul_div_left _ _ hp]
    rw [d1, d2]
    -- W = 2^t * (W / 2^t) + W % 2^t, and y ends as W does
    have m1 : y % 2 ^ t = W % 2 ^ t := by
      rw [hq, hB, Nat.mul_assoc, Nat.add_mul_mod_self_left]
    have small : x / 2 ^ t + 2 ^ (32 - t) * (y % 2 ^ t) < 4294967296 := by
      have a1 : x / 2 ^ t < 2 ^ (32 - t) := Nat.div_lt_of_lt_mul (by rw [← hB]; exact hx)
      have a2 : y % 2 ^ t + 1 ≤ 2 ^ t := Nat.mod_lt _ hp
      have a3 : 2 ^ (32 - t) * (y % 2 ^ t + 1) ≤ 2 ^ (32 - t) * 2 ^ t := Nat.mul_le_mul_left _ a2
      rw [Nat.mul_comm (2 ^ (32 - t)) (2 ^ t), ← hB, Nat.mul_add] at a3
      omega
    have e1 : (x / 2 ^ t + 2 ^ (32 - t) * y) % 4294967296 = x / 2 ^ t + 2 ^ (32 - t) * (y % 2 ^ t) := by
      conv => lhs; rw [← Nat.mod_add_div y (2 ^ t)]
      rw [Nat.mul_add, ← Nat.mul_assoc, Nat.mul_comm (2 ^ (32 - t)) (2 ^ t), ← hB, ← Nat.add_assoc, Nat.add_mul_mod_self_left]
      exact Nat.mod_eq_of_lt small
    rw [e1, m1]
    have e2 : 2 ^ (32 - t) * W = 2 ^ (32 - t) * (W % 2 ^ t) + 4294967296 * (W / 2 ^ t) := by
      conv => lhs; rw [← Nat.mod_add_div W (2 ^ t)]
      rw [Nat.mul_add, ← Nat.mul_assoc, Nat.mul_comm (2 ^ (32 - t)) (2 ^ t), ← hB]
    omega

theorem shr_getD (t : Nat) (xs : List Nat) (i : Nat) (h : i < xs.length) : (shr t xs).getD i 0 = (xs.getD i 0 + 4294967296 * xs.getD (i + 1) 0) / 2 ^ t % 4294967296 := by
  induction xs generalizing i with
  | nil => simp at h
  | cons x xs ih =>
    cases i with
    | zero => cases xs <;> simp [shr]
    | succ i =>
      have := ih i (by simpa using h)
      simpa [shr] using this

theorem val_drop_div {xs : List Nat} (h : Limbs xs) (k : Nat) (hk : k ≤ xs.length) : val (xs.drop k) = val xs / pw k := by
  have h1 := val_take_drop xs k hk
  have h2 : val (xs.take k) < pw k := by
    have := val_lt (h.take k)
    rwa [List.length_take, Nat.min_eq_left hk] at this
  rw [h1, Nat.add_mul_div_left _ _ (pw_pos k), Nat.div_eq_of_lt h2, Nat.zero_add]

/-- The limbs of a shift down by 32 skip + t digits. -/
theorem val_down {xs : List Nat} {skip t : Nat} (h : Limbs xs) (hk : skip ≤ xs.length) (ht : t < 32) : val (shr t (xs.drop skip)) = val xs / 2 ^ (32 * skip + t) := by
  rw [val_shr ht (h.drop _), val_drop_div h _ hk, Nat.div_div_eq_div_mul, Nat.pow_add, Nat.pow_mul]
  rfl

/-! Division by one limb, from the top -/
/-- The state of the division of the first m limbs of zs0 by d when the limbs from k on are done. -/
def DivAt (zs0 zs : List Nat) (m d k r : Nat) : Prop :=
  zs.length = zs0.length ∧ r < d ∧ val ((zs0.take m).drop k) = d * val ((zs.take m).drop k) + r ∧ (∀ i, i < k → zs.getD i 0 = zs0.getD i 0) ∧ zs.drop m = zs0.drop m

theorem divAt_top (zs : List Nat) (m d : Nat) (hd : 0 < d) : DivAt zs zs m d m 0 := by
  refine ⟨rfl, hd, ?_, fun _ _ => rfl, rfl⟩
  rw [List.drop_of_length_le (List.length_take_le _ _)]
  simp [val]

theorem drop_take_cons (zs : List Nat) (m j : Nat) (hj : j < m) (hm : m ≤ zs.length) : (zs.take m).drop j = zs.getD j 0 :: (zs.take m).drop (j + 1) := by
  have hl : j < (zs.take m).length := by rw [List.length_take]; omega
  rw [List.drop_eq_getElem_cons hl]
  congr 1
  rw [List.getElem_take]
  simp [List.getD, (by omega : j < zs.length)]

theorem take_drop_set (zs : List Nat) (m j q : Nat) : ((zs.set j q).take m).drop (j + 1) = (zs.take m).drop (j + 1) := by
  rw [List.take_set, List.drop_set]
  rw [if_pos (by omega)]

theorem divAt_step {zs0 zs : List Nat} {m d j r q r' : Nat} (h : DivAt zs0 zs m d (j + 1) r) (hj : j < m) (hm : m ≤ zs0.length) (hr : r' < d) (e : r * 4294967296 + zs0.getD j 0 = d * q + r') : DivAt zs0 (zs.set j q) m d j r' := by
  obtain ⟨hl, _, hv, ha, ht⟩ := h
  refine ⟨by simpa using hl, hr, ?_, ?_, ?_⟩
  · rw [drop_take_cons zs0 m j hj hm, drop_take_cons (zs.set j q) m j hj (by simpa [hl] using hm), take_drop_set, getD_set_self _ _ _ (by omega)]
    simp only [val]
    rw [hv, Nat.mul_add, Nat.mul_add]
    have e2 : d * (4294967296 * val (List.drop (j + 1) (List.take m zs))) = 4294967296 * (d * val (List.drop (j + 1) (List.take m zs))) := by rw [Nat.mul_left_comm]
    omega
  · intro i hi
    rw [getD_set_ne _ _ _ _ (by omega)]
    exact ha i (by omega)
  · rw [List.drop_set, if_pos hj]; exact ht

theorem divAt_done {zs0 zs : List Nat} {m d r : Nat} (h : DivAt zs0 zs m d 0 r) : val (zs.take m) = val (zs0.take m) / d ∧ r = val (zs0.take m) % d := by
  obtain ⟨_, hr, hv, _, _⟩ := h
  simp only [List.drop_zero] at hv
  rw [hv]
  have hd : 0 < d := by omega
  constructor
  · rw [Nat.mul_add_div hd, Nat.div_eq_of_lt hr, Nat.add_zero]
  · rw [Nat.mul_add_mod, Nat.mod_eq_of_lt hr]

end NatM

namespace NatM

/-- The value of a list of decimal digits, the least first. -/
def val10 : List Nat → Nat
  | [] => 0
  | x :: xs => x + 10 * val10 xs
def Digits (ds : List Nat) : Prop := ∀ d ∈ ds, d < 10
theorem Digits.nil : Digits [] := by intro d h; cases h
theorem Digits.head {x : Nat} {xs : List Nat} (h : Digits (x :: xs)) : x < 10 := h x (by simp)
theorem Digits.tail {x : Nat} {xs : List Nat} (h : Digits (x :: xs)) : Digits xs := fun y hy => h y (by simp [hy])
theorem Digits.snoc {xs : List Nat} {x : Nat} (h : Digits xs) (hx : x < 10) : Digits (xs ++ [x]) := fun y hy => by
  rcases List.mem_append.1 hy with hy | hy
  · exact h y hy
  · simp at hy; omega
theorem Digits.take {xs : List Nat} (h : Digits xs) (n : Nat) : Digits (xs.take n) := fun y hy => h y (List.mem_of_mem_take hy)

theorem val10_snoc (xs : List Nat) (x : Nat) : val10 (xs ++ [x]) = val10 xs + 10 ^ xs.length * x := by
  induction xs with
  | nil => simp [val10]
  | cons y ys ih =>
    simp only [List.cons_append, val10, ih, List.length_cons]
    rw [Nat.mul_add, ← Nat.mul_assoc, Nat.pow_succ, Nat.mul_comm (10 ^ ys.length) 10]; omega

theorem val10_inj {xs ys : List Nat} (hx : Digits xs) (hy : Digits ys) (cx : Canon xs) (cy : Canon ys) (h : val10 xs = val10 ys) : xs = ys := by
  induction xs generalizing ys with
  | nil =>
    cases ys with
    | nil => rfl
    | cons y ys =>
      exfalso
      simp only [val10] at h
      have z : ∀ zs : List Nat, val10 zs = 0 → tlen zs = 0 := by
        intro zs
        induction zs with
        | nil => intro _; rfl
        | cons a as ih =>
          intro h0
          simp only [val10] at h0
          have h1 := ih (by omega)
          have h2 : a = 0 := by omega
          simp [tlen, h1, h2]
      have := z (y :: ys) (by simp only [val10]; omega)
      unfold Canon at cy
      rw [this] at cy
      simp at cy
  | cons x xs ih =>
    have tail : ∀ (a : Nat) (as : List Nat), Canon (a :: as) → Canon as := by
      intro a as hc
      unfold Canon at *
      simp only [tlen, List.length_cons] at hc
      by_cases h0 : tlen as = 0
      · simp only [h0, if_true] at hc
        by_cases ha : a = 0
        · simp [ha] at hc
        · simp only [ha, if_false] at hc; omega
      · simp only [h0, if_false] at hc; omega
    cases ys with
    | nil =>
      exfalso
      have z : ∀ zs : List Nat, val10 zs = 0 → tlen zs = 0 := by
        intro zs
        induction zs with
        | nil => intro _; rfl
        | cons a as ih =>
          intro h0
          simp only [val10] at h0
          have h1 := ih (by omega)
          have h2 : a = 0 := by omega
          simp [tlen, h1, h2]
      have := z (x :: xs) (by rw [h]; rfl)
      unfold Canon at cx
      rw [this] at cx
      simp at cx
    | cons y ys =>
      have h1 := hx.head
      have h2 := hy.head
      simp only [val10] at h
      have e1 : x = y := by omega
      have e2 : val10 xs = val10 ys := by omega
      rw [e1, ih hx.tail hy.tail (tail _ _ cx) (tail _ _ cy) e2]

theorem val10_trim (xs : List Nat) : val10 (trim xs) = val10 xs := by
  unfold trim
  induction xs with
  | nil => rfl
  | cons x xs ih =>
    by_cases h0 : tlen xs = 0
    · have hv : val10 xs = 0 := by rw [← ih, h0]; rfl
      by_cases hx : x = 0
      · simp [tlen, h0, hx, val10, hv]
      · simp [tlen, h0, hx, val10, hv]
    · have : tlen (x :: xs) = tlen xs + 1 := by simp [tlen, h0]
      rw [this, List.take_succ_cons]
      simp only [val10, ih]

/-- The character of a digit. -/
def chr (d : Nat) : UInt8 := UInt8.ofNat (48 + d)
theorem chr_zero {d : Nat} (h : d < 10) : (chr d == 48) = decide (d = 0) := by
  have : ∀ d : Fin 10, (chr d.1 == 48) = decide (d.1 = 0) := by decide
  exact this ⟨d, h⟩

/-- Striking the zeros at the front of the text strikes the zeros at the end of the digits. -/
theorem strike (ds : List Nat) (h : Digits ds) : (ds.reverse.map chr).dropWhile (· == 48) = (trim ds).reverse.map chr := by
  induction ds with
  | nil => rfl
  | cons x xs ih =>
    have ih := ih h.tail
    have hx := chr_zero h.head
    rw [List.reverse_cons, List.map_append, List.dropWhile_append, ih]
    unfold trim at *
    by_cases h0 : tlen xs = 0
    · by_cases hx0 : x = 0
      · subst hx0; simp [h0, tlen, List.dropWhile_cons]; decide
      · have : (chr x == 48) = false := by rw [hx]; simp [hx0]
        simp [h0, tlen, hx0, this]
    · have h1 : 0 < xs.length := by have := tlen_le xs; omega
      have : (List.map chr (List.take (tlen xs) xs).reverse).isEmpty = false := by
        cases xs with
        | nil => simp at h1
        | cons a as => simp; omega
      rw [this]
      simp [tlen, h0, List.take_succ_cons]

/-- s is the text of the number N. -/
def FmtIs (s : ByteArray) (N : Nat) : Prop :=
  (N = 0 ∧ s = ⟨#[48]⟩) ∨ (0 < N ∧ ∃ ds, Digits ds ∧ Canon ds ∧ val10 ds = N ∧ s = ⟨(ds.reverse.map chr).toArray⟩)
theorem FmtIs.uniq {s t : ByteArray} {N : Nat} (h : FmtIs s N) (g : FmtIs t N) : s = t := by
  rcases h with ⟨h0, rfl⟩ | ⟨h0, ds, h1, h2, h3, rfl⟩
  · rcases g with ⟨_, rfl⟩ | ⟨g0, _⟩
    · rfl
    · omega
  · rcases g with ⟨g0, rfl⟩ | ⟨g0, es, g1, g2, g3, rfl⟩
    · omega
    · rw [val10_inj h1 g1 h2 g2 (h3.trans g3.symm)]

theorem pw_two (n : Nat) : pw n = 2 ^ (32 * n) := by
  unfold pw
  rw [show (4294967296 : Nat) = 2 ^ 32 from rfl, ← Nat.pow_mul]
theorem ten_bound {k N L : Nat} (h : 10 ^ k ≤ N) (hN : N < pw L) : k < 32 * L := by
  rcases Nat.lt_or_ge k (32 * L) with h1 | h1
  · exact h1
  · exfalso
    have h2 : 2 ^ (32 * L) ≤ 2 ^ k := Nat.pow_le_pow_right (by decide) h1
    have h3 : 2 ^ k ≤ 10 ^ k := Nat.pow_le_pow_left (by decide) k
    rw [pw_two] at hN
    omega
end NatM

namespace NatM

/-- The number of binary digits. -/
def nb (n : Nat) : Nat := if n = 0 then 0 else n.log2 + 1
theorem nb_zero : nb 0 = 0 := rfl
theorem lt_nb (n : Nat) : n < 2 ^ nb n := by
  unfold nb
  split
  · subst_vars; decide
  · exact Nat.lt_log2_self
theorem nb_le {n : Nat} (h : n ≠ 0) : 2 ^ (nb n - 1) ≤ n := by
  unfold nb
  rw [if_neg h]
  simpa using Nat.log2_self_le h
theorem nb_pos {n : Nat} (h : n ≠ 0) : 0 < nb n := by unfold nb; rw [if_neg h]; omega
theorem nb_eq_zero {n : Nat} : nb n = 0 ↔ n = 0 := by
  unfold nb
  constructor
  · intro h
    by_cases h0 : n = 0
    · exact h0
    · rw [if_neg h0] at h; omega
  · intro h; rw [if_pos h]
theorem pow_lt_inv {a b : Nat} (h : 2 ^ a < 2 ^ b) : a < b := by
  rcases Nat.lt_or_ge a b with h1 | h1
  · exact h1
  · have := Nat.pow_le_pow_right (n := 2) (by decide) h1
    omega
theorem nb_le_of_lt {n k : Nat} (h : n < 2 ^ k) : nb n ≤ k := by
  by_cases h0 : n = 0
  · subst h0; simp [nb]
  · have h1 := nb_le h0
    have h2 : nb n - 1 < k := pow_lt_inv (by omega)
    omega
theorem lt_nb_of_le {n k : Nat} (h : 2 ^ k ≤ n) : k < nb n := by
  have h1 := lt_nb n
  exact pow_lt_inv (by omega)
theorem nb_eq {n k : Nat} (h1 : n < 2 ^ k) (h2 : k ≠ 0 → 2 ^ (k - 1) ≤ n) : nb n = k := by
  have h3 := nb_le_of_lt h1
  by_cases h0 : k = 0
  · omega
  · have h4 := lt_nb_of_le (h2 h0)
    omega
theorem nb_half {n : Nat} (h : n ≠ 0) : nb n = nb (n / 2) + 1 := by
  refine nb_eq ?_ ?_
  · have := lt_nb (n / 2)
    rw [Nat.pow_succ]; omega
  · intro _
    rw [Nat.add_sub_cancel]
    by_cases h0 : n / 2 = 0
    · rw [h0, nb_zero]
      show 1 ≤ n
      omega
    · have h1 := nb_le h0
      have h2 := nb_pos h0
      obtain ⟨k, hk⟩ : ∃ k, nb (n / 2) = k + 1 := ⟨nb (n / 2) - 1, by omega⟩
      rw [hk] at h1 ⊢
      rw [Nat.add_sub_cancel] at h1
      rw [Nat.pow_succ]; omega
theorem aux_nb (f : Nat) : ∀ x, x < 2 ^ f → Go.Lib.bitLenAux f x = nb x := by
  induction f with
  | zero => intro x h; obtain rfl : x = 0 := by simpa using h
            rfl
  | succ f ih =>
    intro x h
    unfold Go.Lib.bitLenAux
    by_cases h0 : x = 0
    · subst h0; rfl
    · rw [if_neg h0, ih (x / 2) (by rw [Nat.pow_succ] at h; omega), nb_half h0]; omega
theorem bitLen_nb (x : Nat) (h : x < 2 ^ 64) : Go.Lib.bitLen x = nb x := aux_nb 64 x h
theorem nb_limb {x : Nat} (h : x < 4294967296) : nb x ≤ 32 := nb_le_of_lt (k := 32) h

/-- The number of digits of a list of limbs. -/
theorem nb_val {xs : List Nat} (hx : Limbs xs) (h : tlen xs ≠ 0) : nb (val xs) = 32 * (tlen xs - 1) + nb (xs.getD (tlen xs - 1) 0) := by
  obtain ⟨t, ht⟩ : ∃ t, tlen xs = t + 1 := ⟨tlen xs - 1, by omega⟩
  have htop := tlen_top xs h
  rw [ht] at htop ⊢
  rw [Nat.add_sub_cancel] at htop ⊢
  have hv : val xs = val (xs.take t) + pw t * xs.getD t 0 := by
    rw [← val_trim xs, ← val_take_succ]; unfold trim; rw [ht]
  have h1 : val (xs.take t) < pw t := by
    have a := val_lt (hx.take t)
    have b : pw (xs.take t).length ≤ pw t := pw_le (List.length_take_le _ _)
    omega
  have hp : pw t = 2 ^ (32 * t) := pw_two t
  refine nb_eq ?_ ?_
  · rw [hv, Nat.pow_add, ← hp]
    have h2 := lt_nb (xs.getD t 0)
    have h3 : pw t * (xs.getD t 0 + 1) ≤ pw t * 2 ^ nb (xs.getD t 0) := Nat.mul_le_mul_left _ h2
    rw [Nat.mul_add] at h3
    omega
  · intro _
    have h2 := nb_le htop
    have h3 := nb_pos htop
    rw [Nat.add_sub_assoc (by omega), Nat.pow_add, ← hp, hv]
    have := Nat.mul_le_mul_left (pw t) h2
    omega

/-- Shifting and the number of digits. -/
theorem nb_shift {n k : Nat} (h : n ≠ 0) : nb (n * 2 ^ k) = nb n + k := by
  refine nb_eq ?_ ?_
  · rw [Nat.pow_add]; exact Nat.mul_lt_mul_of_pos_right (lt_nb n) (Nat.pow_pos (by decide))
  · intro _
    have h2 := nb_pos h
    rw [show nb n + k - 1 = (nb n - 1) + k from by omega, Nat.pow_add]
    exact Nat.mul_le_mul_right _ (nb_le h)
theorem nb_pow (k : Nat) : nb (2 ^ k) = k + 1 := by
  have := nb_shift (n := 1) (k := k) (by decide)
  rw [Nat.one_mul] at this
  rw [this]
  have : nb 1 = 1 := by decide
  omega
theorem nb_lt_pw {n k : Nat} : n < pw k ↔ nb n ≤ 32 * k := by
  rw [pw_two]
  constructor
  · exact nb_le_of_lt
  · intro h
    exact Nat.lt_of_lt_of_le (lt_nb n) (Nat.pow_le_pow_right (by decide) h)
/-- A shift down by all digits or more leaves nothing. -/
theorem shift_out {n k : Nat} (h : nb n ≤ k) : n / 2 ^ k = 0 := by
  apply Nat.div_eq_of_lt
  exact Nat.lt_of_lt_of_le (lt_nb n) (Nat.pow_le_pow_right (by decide) h)
end NatM

namespace NatM

/-! A window -/
def put (zs : List Nat) (o : Nat) (ws : List Nat) : List Nat := zs.take o ++ (ws ++ zs.drop (o + ws.length))
theorem put_length {zs ws : List Nat} {o : Nat} (h : o + ws.length ≤ zs.length) : (put zs o ws).length = zs.length := by
  unfold put
  simp only [List.length_append, List.length_take, List.length_drop]; omega
theorem put_getD {zs ws : List Nat} {o i : Nat} (h : o + ws.length ≤ zs.length) (hi : i < ws.length) : (put zs o ws).getD (o + i) 0 = ws.getD i 0 := by
  unfold put
  simp only [List.getD]
  rw [List.getElem?_append_right (by rw [List.length_take]; omega), List.length_take, Nat.min_eq_left (by omega), Nat.add_sub_cancel_left, List.getElem?_append_left hi]
theorem put_set {zs ws : List Nat} {o i s : Nat} (h : o + ws.length ≤ zs.length) (hi : i < ws.length) : (put zs o ws).set (o + i) s = put zs o (ws.set i s) := by
  unfold put
  rw [List.set_append_right _ _ (by rw [List.length_take]; omega), List.length_take, Nat.min_eq_left (by omega), Nat.add_sub_cancel_left, List.set_append_left _ _ hi, List.length_set]
theorem put_self {zs : List Nat} {o m : Nat} (h : o + m ≤ zs.length) : put zs o ((zs.drop o).take m) = zs := by
  unfold put
  have e : ((zs.drop o).take m).length = m := by simp; omega
  rw [e]
  have h2 : (zs.drop o).drop m = zs.drop (o + m) := by rw [List.drop_drop]
  rw [← h2, List.take_append_drop, List.take_append_drop]
theorem window_length {zs : List Nat} {o m : Nat} (h : o + m ≤ zs.length) : ((zs.drop o).take m).length = m := by simp; omega
theorem put_limbs {zs ws : List Nat} {o : Nat} (h : Limbs zs) (g : Limbs ws) : Limbs (put zs o ws) := by
  unfold put; exact (h.take _).append (g.append (h.drop _))
theorem put_put {zs ws us : List Nat} {o : Nat} (h : o + ws.length ≤ zs.length) (e : us.length = ws.length) : put (put zs o ws) o us = put zs o us := by
  unfold put
  have h1 : (zs.take o).length = o := by rw [List.length_take]; omega
  rw [List.take_append_of_le_length (by omega), List.take_of_length_le (by omega)]
  congr 2
  rw [List.drop_append, List.drop_append]
  rw [List.drop_of_length_le (by rw [h1]; omega), List.drop_of_length_le (by rw [h1]; omega), h1, e]
  simp only [Nat.add_sub_cancel_left, Nat.sub_self, List.drop_zero, List.nil_append]

/-! A multiple taken out -/
def SubMul (ws0 ds ws : List Nat) (q i b c : Nat) : Prop :=
  ws.length = ws0.length ∧ val (ws.take i) + q * val (ds.take i) = val (ws0.take i) + pw i * (b + c) ∧ ∀ k, i ≤ k → ws.getD k 0 = ws0.getD k 0
theorem subMul_zero (ws ds : List Nat) (q : Nat) : SubMul ws ds ws q 0 0 0 := ⟨rfl, by simp [val], fun _ _ => rfl⟩
theorem subMul_step {ws0 ds ws : List Nat} {q i b c s b' c' low : Nat} (h : SubMul ws0 ds ws q i b c) (hi : i < ws0.length) (e1 : low + 4294967296 * c' = c + q * ds.getD i 0) (e2 : s + low + b = ws.getD i 0 + 4294967296 * b') :
    SubMul ws0 ds (ws.set i s) q (i + 1) b' c' := by
  obtain ⟨hl, hv, ha⟩ := h
  refine ⟨by simpa using hl, ?_, fun k hk => by rw [getD_set_ne _ _ _ _ (by omega)]; exact ha k (by omega)⟩
  have e3 := ha i (Nat.le_refl _)
  rw [e3] at e2
  rw [val_take_succ, val_take_succ, val_take_succ, take_set_lt, getD_set_self _ _ _ (by omega), pw_succ]
  have e4 : pw i * (s + q * ds.getD i 0 + (b + c)) = pw i * (ws0.getD i 0 + 4294967296 * (b' + c')) := by
    congr 1; omega
  have e5 : pw i * (4294967296 * (b' + c')) = 4294967296 * pw i * (b' + c') := by rw [← Nat.mul_assoc, Nat.mul_comm (pw i)]
  have e6 : q * (pw i * ds.getD i 0) = pw i * (q * ds.getD i 0) := Nat.mul_left_comm _ _ _
  rw [Nat.mul_add (pw i) (s + q * ds.getD i 0), Nat.mul_add (pw i) s, Nat.mul_add (pw i) (ws0.getD i 0), e5] at e4
  rw [Nat.mul_add q, e6]
  omega
/-- The last limb. -/
theorem subMul_last {ws0 ds ws : List Nat} {q n b c s b' : Nat} (h : SubMul ws0 ds ws q n b c) (hn : ws0.length = n + 1) (e : s + c + b = ws.getD n 0 + 4294967296 * b') :
    (ws.set n s).length = n + 1 ∧ val (ws.set n s) + q * val (ds.take n) = val ws0 + pw (n + 1) * b' := by
  obtain ⟨hl, hv, ha⟩ := h
  have hlen : (ws.set n s).length = n + 1 := by simp [hl, hn]
  refine ⟨hlen, ?_⟩
  have e3 := ha n (Nat.le_refl _)
  rw [e3] at e
  have t1 : val (ws.set n s) = val (ws.take n) + pw n * s := by
    have : (ws.set n s).take (n + 1) = ws.set n s := List.take_of_length_le (by omega)
    rw [← this, val_take_succ, take_set_lt, getD_set_self _ _ _ (by omega)]
  have t2 : val ws0 = val (ws0.take n) + pw n * ws0.getD n 0 := by
    have : ws0.take (n + 1) = ws0 := List.take_of_length_le (by omega)
    rw [← val_take_succ, this]
  rw [t1, t2, pw_succ]
  have e4 : pw n * (s + (b + c)) = pw n * (ws0.getD n 0 + 4294967296 * b') := by congr 1; omega
  have e5 : pw n * (4294967296 * b') = 4294967296 * pw n * b' := by rw [← Nat.mul_assoc, Nat.mul_comm (pw n)]
  rw [Nat.mul_add (pw n) s, Nat.mul_add (pw n) (ws0.getD n 0), e5] at e4
  omega

/-! The divisor added back -/
def AddAt (ws0 ds ws : List Nat) (i c : Nat) : Prop :=
  ws.length = ws0.length ∧ val (ws.take i) + pw i * c = val (ws0.take i) + val (ds.take i) ∧ ∀ k, i ≤ k → ws.getD k 0 = ws0.getD k 0
theorem addAt_zero (ws ds : List Nat) : AddAt ws ds ws 0 0 := ⟨rfl, by simp [val], fun _ _ => rfl⟩
theorem addAt_step {ws0 ds ws : List Nat} {i c s c' : Nat} (h : AddAt ws0 ds ws i c) (hi : i < ws0.length) (e : s + 4294967296 * c' = ws.getD i 0 + ds.getD i 0 + c) : AddAt ws0 ds (ws.set i s) (i + 1) c' := by
  obtain ⟨hl, hv, ha⟩ := h
  refine ⟨by simpa using hl, ?_, fun k hk => by rw [getD_set_ne _ _ _ _ (by omega)]; exact ha k (by omega)⟩
  rw [ha i (Nat.le_refl _)] at e
  rw [val_take_succ, val_take_succ, val_take_succ, take_set_lt, getD_set_self _ _ _ (by omega), pw_succ]
  have e4 : pw i * (s + 4294967296 * c') = pw i * (ws0.getD i 0 + ds.getD i 0 + c) := by rw [e]
  have e5 : pw i * (4294967296 * c') = 4294967296 * pw i * c' := by rw [← Nat.mul_assoc, Nat.mul_comm (pw i)]
  simp only [Nat.mul_add] at e4
  omega
theorem addAt_last {ws0 ds ws : List Nat} {n c : Nat} (h : AddAt ws0 ds ws n c) (hn : ws0.length = n + 1) :
    (ws.set n ((ws.getD n 0 + c) % 4294967296)).length = n + 1 ∧ ∃ k, val (ws.set n ((ws.getD n 0 + c) % 4294967296)) + pw (n + 1) * k = val ws0 + val (ds.take n) := by
  obtain ⟨hl, hv, ha⟩ := h
  have hlen : (ws.set n ((ws.getD n 0 + c) % 4294967296)).length = n + 1 := by simp [hl, hn]
  refine ⟨hlen, (ws.getD n 0 + c) / 4294967296, ?_⟩
  have t1 : val (ws.set n ((ws.getD n 0 + c) % 4294967296)) = val (ws.take n) + pw n * ((ws.getD n 0 + c) % 4294967296) := by
    have : (ws.set n ((ws.getD n 0 + c) % 4294967296)).take (n + 1) = ws.set n ((ws.getD n 0 + c) % 4294967296) := List.take_of_length_le (by omega)
    rw [← this, val_take_succ, take_set_lt, getD_set_self _ _ _ (by omega)]
  have t2 : val ws0 = val (ws0.take n) + pw n * ws0.getD n 0 := by
    have : ws0.take (n + 1) = ws0 := List.take_of_length_le (by omega)
    rw [← val_take_succ, this]
  rw [t1, t2, pw_succ, ha n (Nat.le_refl _)]
  have e4 : pw n * ((ws0.getD n 0 + c) % 4294967296 + 4294967296 * ((ws0.getD n 0 + c) / 4294967296)) = pw n * (ws0.getD n 0 + c) := by rw [Nat.mod_add_div]
  have e5 : pw n * (4294967296 * ((ws0.getD n 0 + c) / 4294967296)) = 4294967296 * pw n * ((ws0.getD n 0 + c) / 4294967296) := by rw [← Nat.mul_assoc, Nat.mul_comm (pw n)]
  rw [Nat.mul_add, Nat.mul_add, e5] at e4
  omega

/-! The guessed digit -/
def guessOf (w2 w1 w0 d1 d0 : Nat) : Nat := min (((w2 * 4294967296 + w1) * 4294967296 + w0) / (d1 * 4294967296 + d0)) 4294967295
theorem knuth {P wl W3 dl D2 : Nat} (hw : wl < P) (hd : dl < P) (hD : 4294967296 ≤ D2) (hlt : wl + P * W3 < 4294967296 * (dl + P * D2)) :
    (wl + P * W3) / (dl + P * D2) ≤ min (W3 / D2) 4294967295 ∧ min (W3 / D2) 4294967295 ≤ (wl + P * W3) / (dl + P * D2) + 1 := by
  have hPpos : 0 < P := by omega
  have hDpos : 0 < dl + P * D2 := by have : 0 < P * D2 := Nat.mul_pos hPpos (by omega); omega
  obtain ⟨q, hq⟩ : ∃ q, q = (wl + P * W3) / (dl + P * D2) := ⟨_, rfl⟩
  rw [← hq]
  have hqD : q * (dl + P * D2) ≤ wl + P * W3 := by rw [hq]; exact Nat.div_mul_le_self _ _
  have hqB : q < 4294967296 := by rw [hq]; exact Nat.div_lt_of_lt_mul (by rw [Nat.mul_comm (dl + P * D2)]; exact hlt)
  have hqd : q * D2 ≤ W3 := by
    have h1 : P * (q * D2) ≤ q * (dl + P * D2) := by
      rw [Nat.mul_add, ← Nat.mul_assoc q P D2, Nat.mul_comm q P, Nat.mul_assoc]; omega
    have h2 : P * (q * D2) < P * (W3 + 1) := by rw [Nat.mul_add]; omega
    have := Nat.lt_of_mul_lt_mul_left h2
    omega
  constructor
  · refine Nat.le_min.2 ⟨(Nat.le_div_iff_mul_le (by omega)).2 hqd, by omega⟩
  · obtain ⟨g, hg⟩ : ∃ g, g = min (W3 / D2) 4294967295 := ⟨_, rfl⟩
    rw [← hg]
    have hgB : g ≤ 4294967295 := by rw [hg]; exact Nat.min_le_right _ _
    have hgd : g * D2 ≤ W3 := by
      have : g ≤ W3 / D2 := by rw [hg]; exact Nat.min_le_left _ _
      exact (Nat.le_div_iff_mul_le (by omega)).1 this
    rcases Nat.eq_zero_or_pos g with h0 | h0
    · omega
    · have h1 : g * (dl + P * D2) ≤ g * dl + P * W3 := by
        rw [Nat.mul_add, ← Nat.mul_assoc g P D2, Nat.mul_comm g P, Nat.mul_assoc]
        have := Nat.mul_le_mul_left P hgd
        omega
      have h2 : g * dl ≤ P * D2 := by
        have a : g * dl ≤ 4294967296 * P := Nat.mul_le_mul (by omega) (by omega)
        have b : P * 4294967296 ≤ P * D2 := Nat.mul_le_mul_left _ hD
        omega
      have h3 : (g - 1) * (dl + P * D2) ≤ wl + P * W3 := by
        rw [Nat.sub_mul, Nat.one_mul]; omega
      have h4 : g - 1 ≤ q := by rw [hq]; exact (Nat.le_div_iff_mul_le hDpos).2 h3
      omega

theorem two_limbs (v P a b : Nat) : v + P * a + 4294967296 * P * b = v + P * (b * 4294967296 + a) := by
  have e1 : 4294967296 * P * b = P * (b * 4294967296) := by simp only [Nat.mul_comm, Nat.mul_left_comm]
  rw [e1, Nat.mul_add]; omega
theorem three_limbs (v P a b c : Nat) : v + P * a + 4294967296 * P * b + 4294967296 * (4294967296 * P) * c = v + P * ((c * 4294967296 + b) * 4294967296 + a) := by
  have e1 : 4294967296 * P * b = P * (b * 4294967296) := by simp only [Nat.mul_comm, Nat.mul_left_comm]
  have e2 : 4294967296 * (4294967296 * P) * c = P * (c * 4294967296 * 4294967296) := by simp only [Nat.mul_comm, Nat.mul_left_comm]
  rw [e1, e2, Nat.add_mul, Nat.mul_add, Nat.mul_add]; omega

/-- The three leading limbs of a window, the two of a divisor. -/
theorem guess_near {ws ds : List Nat} {n : Nat} (hw : Limbs ws) (hd : Limbs ds) (hn : 2 ≤ n) (hl : ws.length = n + 1) (hld : n ≤ ds.length) (htop : ds.getD (n - 1) 0 ≠ 0) (hlt : val ws < 4294967296 * val (ds.take n)) :
    val ws / val (ds.take n) ≤ guessOf (ws.getD n 0) (ws.getD (n - 1) 0) (ws.getD (n - 2) 0) (ds.getD (n - 1) 0) (ds.getD (n - 2) 0) ∧
    guessOf (ws.getD n 0) (ws.getD (n - 1) 0) (ws.getD (n - 2) 0) (ds.getD (n - 1) 0) (ds.getD (n - 2) 0) ≤ val ws / val (ds.take n) + 1 := by
  obtain ⟨m, rfl⟩ : ∃ m, n = m + 2 := ⟨n - 2, by omega⟩
  simp only [Nat.add_sub_cancel, show m + 2 - 1 = m + 1 from by omega] at htop ⊢
  have tw : val ws = val (ws.take m) + pw m * ((ws.getD (m + 2) 0 * 4294967296 + ws.getD (m + 1) 0) * 4294967296 + ws.getD m 0) := by
    have : ws.take (m + 2 + 1) = ws := List.take_of_length_le (by omega)
    conv => lhs; rw [← this]
    rw [val_take_succ, val_take_succ, val_take_succ, show pw (m + 2) = 4294967296 * pw (m + 1) from pw_succ (m + 1), show pw (m + 1) = 4294967296 * pw m from pw_succ m]
    exact three_limbs _ _ _ _ _
  have td : val (ds.take (m + 2)) = val (ds.take m) + pw m * (ds.getD (m + 1) 0 * 4294967296 + ds.getD m 0) := by
    rw [val_take_succ, val_take_succ, show pw (m + 1) = 4294967296 * pw m from pw_succ m]
    exact two_limbs _ _ _ _
  have bw : val (ws.take m) < pw m := by
    have a := val_lt (hw.take m)
    rw [List.length_take, Nat.min_eq_left (by omega)] at a
    exact a
  have bd : val (ds.take m) < pw m := by
    have a := val_lt (hd.take m)
    rw [List.length_take, Nat.min_eq_left (by omega)] at a
    exact a
  unfold guessOf
  rw [tw, td] at hlt ⊢
  exact knuth bw bd (by omega) hlt

/-! The quotient digit by digit, from the top -/
def LongDiv (A0 D : Nat) (zs qs : List Nat) (i : Nat) : Prop := A0 = val zs + pw i * (val (qs.drop i) * D) ∧ val zs < pw i * D
theorem longDiv_window {zs : List Nat} {D j n : Nat} (hD : D < pw n) (hl : j + (n + 1) ≤ zs.length) (h : val zs < pw (j + 1) * D) :
    val zs = val (zs.take j) + pw j * val ((zs.drop j).take (n + 1)) ∧ val ((zs.drop j).take (n + 1)) < 4294967296 * D := by
  have h1 : val zs < pw (j + (n + 1)) := by
    have a : pw (j + 1) * D < pw (j + 1) * pw n := Nat.mul_lt_mul_of_pos_left hD (pw_pos _)
    rw [← pw_add] at a
    rw [show j + (n + 1) = j + 1 + n from by omega]; omega
  have h2 : val zs = val (zs.take (j + (n + 1))) := by
    have a := val_take_drop zs (j + (n + 1)) hl
    rcases Nat.eq_zero_or_pos (val (zs.drop (j + (n + 1)))) with b | b
    · rw [a, b]; omega
    · have c : pw (j + (n + 1)) * 1 ≤ pw (j + (n + 1)) * val (zs.drop (j + (n + 1))) := Nat.mul_le_mul_left _ b
      omega
  have h3 : zs.take (j + (n + 1)) = zs.take j ++ (zs.drop j).take (n + 1) := by rw [List.take_add]
  have h4 : val zs = val (zs.take j) + pw j * val ((zs.drop j).take (n + 1)) := by
    rw [h2, h3, val_append, List.length_take, Nat.min_eq_left (by omega)]
  refine ⟨h4, ?_⟩
  rw [pw_succ] at h
  have h5 : pw j * val ((zs.drop j).take (n + 1)) < pw j * (4294967296 * D) := by
    have e5 : pw j * (4294967296 * D) = 4294967296 * pw j * D := by simp only [Nat.mul_assoc, Nat.mul_left_comm]
    rw [e5]; omega
  exact Nat.lt_of_mul_lt_mul_left h5
theorem ld_arith {A0 vz P vt vw W q D Q : Nat} (h1 : A0 = vz + 4294967296 * P * (Q * D)) (h3 : vz = vt + P * W) (e : vw + q * D = W) : A0 = vt + P * vw + P * ((q + 4294967296 * Q) * D) := by
  rw [h1, h3, ← e, Nat.add_mul, Nat.mul_add P vw, Nat.mul_add P (q * D)]
  have a1 : 4294967296 * P * (Q * D) = P * (4294967296 * Q * D) := by simp only [Nat.mul_assoc, Nat.mul_left_comm]
  rw [a1]; omega
theorem ld_less {vt P vw D : Nat} (h1 : vt < P) (h2 : vw < D) : vt + P * vw < P * D := by
  have a : P * (vw + 1) ≤ P * D := Nat.mul_le_mul_left _ h2
  rw [Nat.mul_add] at a; omega
theorem drop_set_cons {qs : List Nat} {j q : Nat} (hq : j < qs.length) : val ((qs.set j q).drop j) = q + 4294967296 * val (qs.drop (j + 1)) := by
  rw [List.drop_eq_getElem_cons (by simpa using hq : j < (qs.set j q).length), List.getElem_set_self, List.drop_set_of_lt (by omega)]
  rfl
end NatM

namespace NatM
theorem longDiv_step {A0 D j n q : Nat} {zs qs ws : List Nat} (h : LongDiv A0 D zs qs (j + 1)) (hz : Limbs zs) (hD : D < pw n) (hl : j + (n + 1) ≤ zs.length) (hq : j < qs.length) (hwl : ws.length = n + 1)
    (e : val ws + q * D = val ((zs.drop j).take (n + 1))) (hlt : val ws < D) : LongDiv A0 D (put zs j ws) (qs.set j q) j := by
  obtain ⟨h1, h2⟩ := h
  obtain ⟨h3, _⟩ := longDiv_window hD hl h2
  have h4 : val (zs.take j) < pw j := by
    have a := val_lt (hz.take j)
    rwa [List.length_take, Nat.min_eq_left (by omega)] at a
  have hup : val (zs.drop (j + (n + 1))) = 0 := by
    have a := val_take_drop zs (j + (n + 1)) hl
    rw [List.take_add, val_append, List.length_take, Nat.min_eq_left (by omega)] at a
    rcases Nat.eq_zero_or_pos (val (zs.drop (j + (n + 1)))) with b | b
    · exact b
    · have c : 0 < pw (j + (n + 1)) * val (zs.drop (j + (n + 1))) := Nat.mul_pos (pw_pos _) b
      omega
  have h5 : val (put zs j ws) = val (zs.take j) + pw j * val ws := by
    unfold put
    rw [val_append, val_append, List.length_take, Nat.min_eq_left (by omega), hwl, hup, Nat.mul_zero, Nat.add_zero]
  rw [pw_succ] at h1
  unfold LongDiv
  rw [h5, drop_set_cons hq]
  exact ⟨ld_arith h1 h3 e, ld_less h4 hlt⟩
theorem longDiv_done {A0 D : Nat} {zs qs : List Nat} (h : LongDiv A0 D zs qs 0) : val qs = A0 / D ∧ val zs = A0 % D := by
  obtain ⟨h1, h2⟩ := h
  simp only [pw, Nat.pow_zero, Nat.one_mul, List.drop_zero] at h1 h2
  have hD : 0 < D := by omega
  constructor
  · rw [h1, Nat.add_mul_div_right _ _ hD, Nat.div_eq_of_lt h2, Nat.zero_add]
  · rw [h1, Nat.add_mul_mod_self_right, Nat.mod_eq_of_lt h2]
end NatM

namespace NatM

/-- The divisor moved up until its first digit is the first of a limb. -/
theorem normal {ys : List Nat} {m up : Nat} (hy : Limbs ys) (hc : Canon ys) (hl : ys.length = m + 2) (hup : up = 32 - nb (ys.getD (m + 1) 0)) :
    up ≤ 31 ∧ val ys * 2 ^ up < pw (m + 2) ∧ 2147483648 * pw (m + 1) ≤ val ys * 2 ^ up := by
  unfold Canon at hc
  have ht : tlen ys = m + 2 := by omega
  have htop := tlen_top ys (by omega)
  rw [ht, show m + 2 - 1 = m + 1 from by omega] at htop
  have h1 := nb_pos htop
  have h2 := nb_limb (hy.getD (m + 1))
  have h3 := nb_val hy (by omega)
  rw [ht, show m + 2 - 1 = m + 1 from by omega] at h3
  have hne : val ys ≠ 0 := by
    intro e
    have := val_eq_zero.1 e
    omega
  have h4 : nb (val ys * 2 ^ up) = 32 * (m + 2) := by rw [nb_shift hne, h3]; omega
  have hne2 : val ys * 2 ^ up ≠ 0 := Nat.mul_ne_zero hne (Nat.pos_iff_ne_zero.1 (Nat.pow_pos (by decide)))
  refine ⟨by omega, ?_, ?_⟩
  · rw [pw_two, ← h4]; exact lt_nb _
  · have h5 := nb_le hne2
    rw [h4] at h5
    have h6 : 2 ^ (32 * (m + 2) - 1) = 2147483648 * pw (m + 1) := by
      rw [pw_two, show 32 * (m + 2) - 1 = 31 + 32 * (m + 1) from by omega, Nat.pow_add]
    rw [h6] at h5; exact h5

theorem longDiv_start {A D up la k m : Nat} {zs : List Nat} (hz : val zs = A * 2 ^ up) (hA : A < pw la) (hup : up ≤ 31) (hD : 2147483648 * pw (m + 1) ≤ D) (hk : la = k + (m + 1)) : LongDiv (A * 2 ^ up) D zs (List.replicate k 0) k := by
  refine ⟨?_, ?_⟩
  · rw [List.drop_of_length_le (by simp), hz]; simp [val]
  · rw [hz]
    have h1 : A * 2 ^ up < pw la * 2 ^ up := Nat.mul_lt_mul_of_pos_right hA (Nat.pow_pos (by decide))
    have h2 : pw la * 2 ^ up ≤ pw la * 2147483648 := Nat.mul_le_mul_left _ (Nat.pow_le_pow_right (n := 2) (by decide) hup)
    have h3 : pw la * 2147483648 = pw k * (2147483648 * pw (m + 1)) := by rw [hk, pw_add]; simp only [Nat.mul_assoc, Nat.mul_comm]
    have h4 : pw k * (2147483648 * pw (m + 1)) ≤ pw k * D := Nat.mul_le_mul_left _ hD
    omega

theorem scaled_quo (A B up : Nat) : A * 2 ^ up / (B * 2 ^ up) = A / B := Nat.mul_div_mul_right A B (Nat.pow_pos (by decide))
theorem scaled_rem (A B up : Nat) : A * 2 ^ up % (B * 2 ^ up) / 2 ^ up = A % B := by
  rw [Nat.mul_mod_mul_right, Nat.mul_div_cancel _ (Nat.pow_pos (by decide))]
end NatM

namespace NatM

/-- The factors of a combination are short and of opposite signs. -/
def Fac (a b : Int) : Prop := -2147483648 < a ∧ a < 2147483648 ∧ -2147483648 < b ∧ b < 2147483648 ∧ (0 ≤ a ∧ b ≤ 0 ∨ a ≤ 0 ∧ 0 ≤ b)
theorem prod_bound {a : Int} {p : Nat} (h : -2147483648 < a) (h' : a < 2147483648) (hp : p < 4294967296) :
    -9223372030412324865 ≤ a * p ∧ a * p ≤ 9223372030412324865 ∧ (0 ≤ a → 0 ≤ a * p) ∧ (a ≤ 0 → a * p ≤ 0) := by
  have h0 : (0 : Int) ≤ p := Int.natCast_nonneg p
  have h1 : a * p ≤ 2147483647 * p := Int.mul_le_mul_of_nonneg_right (by omega) h0
  have h2 : -2147483647 * (p : Int) ≤ a * p := Int.mul_le_mul_of_nonneg_right (by omega) h0
  refine ⟨by omega, by omega, fun h => Int.mul_nonneg h h0, fun h => Int.mul_nonpos_of_nonpos_of_nonneg h h0⟩
theorem fac_sum {a b : Int} (h : Fac a b) {p q : Nat} (hp : p < 4294967296) (hq : q < 4294967296) :
    -9223372030412324865 ≤ a * p ∧ a * p ≤ 9223372030412324865 ∧ -9223372030412324865 ≤ b * q ∧ b * q ≤ 9223372030412324865 ∧ -9223372030412324865 ≤ a * p + b * q ∧ a * p + b * q ≤ 9223372030412324865 := by
  obtain ⟨h1, h2, h3, h4, hs⟩ := h
  have ha := prod_bound h1 h2 hp
  have hb := prod_bound h3 h4 hq
  rcases hs with ⟨g1, g2⟩ | ⟨g1, g2⟩
  · have := ha.2.2.1 g1; have := hb.2.2.2 g2; omega
  · have := ha.2.2.2 g1; have := hb.2.2.1 g2; omega

def Comb (xs ys : List Nat) (a b : Int) (k : Nat) (zs : List Nat) (x : Int) : Prop :=
  a * val (xs.take k) + b * val (ys.take k) = val (zs.take k) + pw k * x
theorem comb_zero (xs ys zs : List Nat) (a b : Int) : Comb xs ys a b 0 zs 0 := by simp [Comb, val]
theorem take_set_succ {zs : List Nat} {k s : Nat} (h : k < zs.length) : val ((zs.set k s).take (k + 1)) = val (zs.take k) + pw k * s := by
  rw [val_take_succ, take_set_lt, getD_set_self _ _ _ h]
theorem comb_step {xs ys zs : List Nat} {a b x e hi : Int} {k lo : Nat} (h : Comb xs ys a b k zs x) (hk : k < zs.length)
    (he : x + (a * xs.getD k 0 + b * ys.getD k 0) = e) (hs : e = lo + 4294967296 * hi) : Comb xs ys a b (k + 1) (zs.set k lo) hi := by
  unfold Comb at h ⊢
  have hp : (pw (k + 1) : Int) = 4294967296 * pw k := by have := pw_succ k; omega
  rw [take_set_succ hk, val_take_succ, val_take_succ, hp]
  simp only [Int.natCast_add, Int.natCast_mul]
  obtain ⟨P, hP⟩ : ∃ P : Int, P = pw k := ⟨_, rfl⟩
  obtain ⟨X, hX⟩ : ∃ X : Int, X = xs.getD k 0 := ⟨_, rfl⟩
  obtain ⟨Y, hY⟩ : ∃ Y : Int, Y = ys.getD k 0 := ⟨_, rfl⟩
  rw [← hP] at h ⊢
  rw [← hX, ← hY] at he ⊢
  have e2 : a * X + b * Y = lo + 4294967296 * hi - x := by omega
  have e1 : a * (val (xs.take k) + P * X) + b * (val (ys.take k) + P * Y) = (a * val (xs.take k) + b * val (ys.take k)) + P * (a * X + b * Y) := by grind
  rw [e1, h, e2]
  grind
theorem comb_done {xs ys zs : List Nat} {a b x : Int} {n U : Nat} (h : Comb xs ys a b n zs x) (hzl : Limbs zs) (hz : n ≤ zs.length) (hx : n ≤ xs.length) (hy : ys.length = n) (hU : (U : Int) = a * val xs + b * val ys) (hb : U < pw n) : val (zs.take n) = U := by
  unfold Comb at h
  have hv : val (zs.take n) < pw n := by
    have := val_lt (hzl.take n)
    rwa [List.length_take, Nat.min_eq_left hz] at this
  rw [List.take_of_length_le (l := ys) (by omega)] at h
  have hA := val_take_drop xs n hx
  have e : (U : Int) = val (zs.take n) + pw n * (x + a * val (xs.drop n)) := by
    rw [hU, hA]
    simp only [Int.natCast_add, Int.natCast_mul]
    have : a * (val (xs.take n) + pw n * (val (xs.drop n) : Int)) + b * val ys = (a * val (xs.take n) + b * val ys) + pw n * (a * val (xs.drop n)) := by grind
    rw [this, h]; grind
  obtain ⟨t, ht⟩ : ∃ t, t = x + a * val (xs.drop n) := ⟨_, rfl⟩
  rw [← ht] at e
  have e1 : (U : Int) % pw n = (val (zs.take n) : Int) % pw n := by rw [e, Int.add_mul_emod_self_left]
  rw [Int.emod_eq_of_lt (by omega) (by omega), Int.emod_eq_of_lt (by omega) (by omega)] at e1
  omega
end NatM

namespace NatM

def sg (e : Bool) : Int := if e then 1 else -1
theorem sg_not (e : Bool) : sg (!e) = - sg e := by cases e <;> rfl

/-- Where Euclid's algorithm stands: p, q, r, t are the factors' sizes, x, y what the leading digits give, U, V the true numbers. -/
structure Leap (A B X0 Y0 : Nat) (e : Bool) (p q r t x y U V : Nat) : Prop where
  size : X0 = t * x + q * y
  rt : r ≤ t
  tp : 0 < t
  pq : p ≤ q ∨ (p = 1 ∧ q = 0 ∧ r = 0 ∧ t = 1)
  ord : y ≤ x
  hx : (x : Int) = sg e * (p * X0 - q * Y0)
  hy : (y : Int) = sg e * (t * Y0 - r * X0)
  hU : (U : Int) = sg e * (p * A - q * B)
  hV : (V : Int) = sg e * (t * B - r * A)
  gcd : Nat.gcd U V = Nat.gcd A B
  le : V ≤ B

theorem Leap.start {A B X0 Y0 : Nat} (h : Y0 ≤ X0) : Leap A B X0 Y0 true 1 0 0 1 X0 Y0 A B :=
  ⟨by omega, by omega, by omega, .inr ⟨rfl, rfl, rfl, rfl⟩, h, by simp [sg], by simp [sg], by simp [sg], by simp [sg], rfl, Nat.le_refl _⟩

theorem Leap.size' {A B X0 Y0 : Nat} {e : Bool} {p q r t x y U V : Nat} (h : Leap A B X0 Y0 e p q r t x y U V) : X0 = (q + x / y * t) * y + t * (x % y) := by
  have h1 := Nat.div_add_mod x y
  have h2 := h.size
  obtain ⟨k, hk⟩ : ∃ k, k = x / y := ⟨_, rfl⟩
  obtain ⟨m, hm⟩ : ∃ m, m = x % y := ⟨_, rfl⟩
  rw [← hk, ← hm] at h1 ⊢
  subst h1
  grind

theorem Leap.fac {A B X0 Y0 : Nat} {e : Bool} {p q r t x y U V : Nat} (h : Leap A B X0 Y0 e p q r t x y U V) (hy0 : 0 < y) :
    p + x / y * r ≤ q + x / y * t ∧ 1 ≤ x / y ∧ t ≤ q + x / y * t := by
  have hk : 1 ≤ x / y := (Nat.le_div_iff_mul_le hy0).2 (by have := h.ord; omega)
  have h1 : x / y * r ≤ x / y * t := Nat.mul_le_mul_left _ h.rt
  have h2 : 1 * t ≤ x / y * t := Nat.mul_le_mul_right _ hk
  refine ⟨?_, hk, by omega⟩
  rcases h.pq with g | ⟨rfl, rfl, rfl, rfl⟩
  · omega
  · omega

/-- No factor is too great to be computed. -/
theorem Leap.bound {A B X0 Y0 : Nat} {e : Bool} {p q r t x y U V : Nat} (h : Leap A B X0 Y0 e p q r t x y U V) (hy0 : 0 < y) :
    q + x / y * t ≤ X0 := by
  have h1 := h.size'
  have h2 : (q + x / y * t) * 1 ≤ (q + x / y * t) * y := Nat.mul_le_mul_left _ hy0
  omega

theorem Leap.step {A B X0 Y0 : Nat} {e : Bool} {p q r t x y U V S α β : Nat} (h : Leap A B X0 Y0 e p q r t x y U V) (hA : A = X0 * S + α) (hB : B = Y0 * S + β) (hα : α < S) (hβ : β < S) (hy0 : 0 < y)
    (c1 : q + x / y * t ≤ x % y) (c2 : t + (q + x / y * t) ≤ y - x % y) :
    ∃ V', V' < V ∧ Leap A B X0 Y0 (!e) r t (p + x / y * r) (q + x / y * t) y (x % y) V V' := by
  have hs := h.size'
  have hf := h.fac hy0
  have hm : x % y < y := Nat.mod_lt _ hy0
  have hdm := Nat.div_add_mod x y
  obtain ⟨k, hk⟩ : ∃ k, k = x / y := ⟨_, rfl⟩
  obtain ⟨m, hme⟩ : ∃ m, m = x % y := ⟨_, rfl⟩
  rw [← hk, ← hme] at hs c1 c2 hdm ⊢
  rw [← hk] at hf
  rw [← hme] at hm
  obtain ⟨r', hr'⟩ : ∃ r', r' = p + k * r := ⟨_, rfl⟩
  obtain ⟨t', ht'⟩ : ∃ t', t' = q + k * t := ⟨_, rfl⟩
  rw [← ht'] at hs c1 c2
  rw [← hr', ← ht'] at hf ⊢
  have ir : (r' : Int) = p + k * r := by rw [hr']; simp
  have it : (t' : Int) = q + k * t := by rw [ht']; simp
  have im : (m : Int) = x - k * y := by
    have : (y : Int) * k + m = x := by exact_mod_cast hdm
    rw [← this]; grind
  have hm' : (m : Int) = sg (!e) * (t' * Y0 - r' * X0) := by
    rw [sg_not, im, ir, it, h.hx, h.hy]; grind
  -- what is left of U
  obtain ⟨W, hW⟩ : ∃ W : Int, W = U - k * V := ⟨_, rfl⟩
  have hW' : W = sg (!e) * (t' * B - r' * A) := by
    rw [sg_not, hW, ir, it, h.hU, h.hV]; grind
  have iA : (A : Int) = X0 * S + α := by rw [hA]; simp
  have iB : (B : Int) = Y0 * S + β := by rw [hB]; simp
  have hWm : W = m * S + sg (!e) * (t' * β - r' * α) := by
    rw [hW', hm', iA, iB]; grind
  have hVy : (V : Int) = y * S + sg e * (t * β - r * α) := by
    rw [h.hV, h.hy, iA, iB]; grind
  have tβ : t' * β ≤ t' * S := Nat.mul_le_mul_left _ (by omega)
  have rα : r' * α ≤ t' * S := Nat.le_trans (Nat.mul_le_mul_right _ hf.1) (Nat.mul_le_mul_left _ (by omega))
  have mS : t' * S ≤ m * S := Nat.mul_le_mul_right _ c1
  have W0 : 0 ≤ W := by
    rw [hWm]
    have a1 : (t' : Int) * β ≤ t' * S := by exact_mod_cast tβ
    have a2 : (r' : Int) * α ≤ t' * S := by exact_mod_cast rα
    have a3 : (t' : Int) * S ≤ m * S := by exact_mod_cast mS
    have a4 : (0 : Int) ≤ (t' : Int) * β := by exact_mod_cast Nat.zero_le (t' * β)
    have a5 : (0 : Int) ≤ (r' : Int) * α := by exact_mod_cast Nat.zero_le (r' * α)
    cases e <;> simp only [sg, Bool.not_true, Bool.not_false, if_true, if_false, Bool.false_eq_true] <;> omega
  have hlt : W < V := by
    rw [hWm, hVy]
    have b1 : (t + t') * S ≤ (y - m) * S := Nat.mul_le_mul_right _ c2
    have b2 : (y - m) * S = y * S - m * S := Nat.sub_mul _ _ _
    have b3 : m * S ≤ y * S := Nat.mul_le_mul_right _ (by omega)
    have b4 : (t + t') * β < (t + t') * S := Nat.mul_lt_mul_of_pos_left hβ (by have := h.tp; omega)
    have b5 : (r + r') * α ≤ (t + t') * α := Nat.mul_le_mul_right _ (by have := h.rt; omega)
    have b6 : (t + t') * α < (t + t') * S := Nat.mul_lt_mul_of_pos_left hα (by have := h.tp; omega)
    rw [Nat.add_mul] at b1 b4 b5 b6
    rw [Nat.add_mul] at b4 b5 b6
    have c1 : (t : Int) * S + t' * S + m * S ≤ y * S := by exact_mod_cast (by omega : t * S + t' * S + m * S ≤ y * S)
    have c4 : (t : Int) * β + t' * β < t * S + t' * S := by exact_mod_cast b4
    have c5 : (r : Int) * α + r' * α < t * S + t' * S := by exact_mod_cast (by omega : r * α + r' * α < t * S + t' * S)
    have d1 : (0 : Int) ≤ (t : Int) * β := by exact_mod_cast Nat.zero_le (t * β)
    have d2 : (0 : Int) ≤ (t' : Int) * β := by exact_mod_cast Nat.zero_le (t' * β)
    have d3 : (0 : Int) ≤ (r : Int) * α := by exact_mod_cast Nat.zero_le (r * α)
    have d4 : (0 : Int) ≤ (r' : Int) * α := by exact_mod_cast Nat.zero_le (r' * α)
    cases e <;> simp only [sg, Bool.not_true, Bool.not_false, if_true, if_false, Bool.false_eq_true] <;> omega
  obtain ⟨V', rfl⟩ : ∃ V' : Nat, W = V' := ⟨W.toNat, by omega⟩
  have hUV : U = V' + k * V := by
    have : (U : Int) = V' + k * V := by omega
    exact_mod_cast this
  refine ⟨V', by omega, ?_⟩
  refine ⟨hs, hf.1, by have := h.tp; omega, .inl h.rt, by omega, ?_, hm', ?_, hW', ?_, by have := h.le; omega⟩
  · rw [sg_not, h.hy]; grind
  · rw [sg_not, h.hV]; grind
  · rw [← h.gcd, hUV, Nat.gcd_comm V V', Nat.gcd_add_mul_right_left]

/-- The factors of a leap that was taken are short. -/
theorem Leap.short {A B X0 Y0 : Nat} {e : Bool} {p q r t x y U V : Nat} (h : Leap A B X0 Y0 e p q r t x y U V) (hX : X0 < 2 ^ 62) (h1 : t ≤ y) : t < 2147483648 := by
  rcases Nat.lt_or_ge t 2147483648 with g | g
  · exact g
  · have h2 : 2147483648 * 2147483648 ≤ t * x := Nat.mul_le_mul g (by have := h.ord; omega)
    have := h.size
    omega
end NatM

namespace NatM

/-- A natural number with a sign. -/
def sgq (neg : Bool) (N : Nat) : Int := if neg then -(N : Int) else N
/-- The value of a fraction. -/
def frac (neg : Bool) (N D : Nat) : Rat := mkRat (sgq neg N) D
theorem sgq_abs (neg : Bool) (N : Nat) : (sgq neg N).natAbs = N := by cases neg <;> simp [sgq]
theorem sgq_zero (neg : Bool) : sgq neg 0 = 0 := by cases neg <;> simp [sgq]
theorem sgq_not (neg : Bool) (N : Nat) : sgq (!neg) N = -sgq neg N := by cases neg <;> simp [sgq]
theorem sgq_div {neg : Bool} {N g : Nat} (h : g ∣ N) : sgq neg N / (g : Int) = sgq neg (N / g) := by
  obtain ⟨k, rfl⟩ := h
  rcases Nat.eq_zero_or_pos g with h0 | h0
  · subst h0; simp [sgq]
  · rw [Nat.mul_div_cancel_left _ h0]
    have hg : (g : Int) ≠ 0 := by omega
    cases neg
    · simp only [sgq, Int.natCast_mul, Bool.false_eq_true, if_false]
      exact Int.mul_ediv_cancel_left _ hg
    · simp only [sgq, Int.natCast_mul, if_true]
      rw [← Int.mul_neg]
      exact Int.mul_ediv_cancel_left _ hg
theorem frac_num {neg : Bool} {N D : Nat} (hD : D ≠ 0) : (frac neg N D).num = sgq neg (N / Nat.gcd N D) := by
  unfold frac
  rw [Rat.num_mkRat, if_neg hD, sgq_abs, Nat.gcd_comm]
  exact sgq_div (Nat.gcd_dvd_left N D)
theorem frac_den {neg : Bool} {N D : Nat} (hD : D ≠ 0) : (frac neg N D).den = D / Nat.gcd N D := by
  unfold frac
  rw [Rat.den_mkRat, if_neg hD, sgq_abs, Nat.gcd_comm]
theorem frac_abs {neg : Bool} {N D : Nat} (hD : D ≠ 0) : (frac neg N D).num.natAbs = N / Nat.gcd N D := by rw [frac_num hD, sgq_abs]
theorem frac_zero (neg : Bool) (D : Nat) : frac neg 0 D = 0 := by unfold frac; rw [sgq_zero, Rat.zero_mkRat]
theorem frac_eq_zero {neg : Bool} {N D : Nat} (hD : D ≠ 0) : frac neg N D = 0 ↔ N = 0 := by
  unfold frac
  rw [Rat.mkRat_eq_zero hD]
  constructor
  · intro h; rw [← sgq_abs neg N, h]; rfl
  · rintro rfl; exact sgq_zero _
theorem frac_sign {neg : Bool} {N D : Nat} (hD : D ≠ 0) (hN : N ≠ 0) : decide ((frac neg N D).num < 0) = neg := by
  rw [frac_num hD]
  have hg : 0 < N / Nat.gcd N D := Nat.div_pos (Nat.gcd_le_left _ (Nat.pos_of_ne_zero hN)) (Nat.gcd_pos_of_pos_left _ (Nat.pos_of_ne_zero hN))
  cases neg
  · simp only [sgq, Bool.false_eq_true, if_false, decide_eq_false_iff_not]; omega
  · simp only [sgq, if_true, decide_eq_true_eq]; omega
theorem frac_scale {neg : Bool} {N D k : Nat} (hk : k ≠ 0) : frac neg (N * k) (D * k) = frac neg N D := by
  unfold frac
  have : sgq neg (N * k) = sgq neg N * (k : Int) := by cases neg <;> simp [sgq, Int.neg_mul]
  rw [this, Rat.mkRat_mul_right hk]
theorem frac_not (neg : Bool) (N D : Nat) : frac (!neg) N D = -frac neg N D := by
  unfold frac; rw [sgq_not, Rat.neg_mkRat]
theorem sgq_mul (m n : Bool) (N M : Nat) : sgq (m != n) (N * M) = sgq m N * sgq n M := by
  cases m <;> cases n <;> simp [sgq, Int.neg_mul, Int.mul_neg]
theorem frac_mul (m n : Bool) (N D M E : Nat) : frac m N D * frac n M E = frac (m != n) (N * M) (D * E) := by
  unfold frac; rw [Rat.mkRat_mul_mkRat, sgq_mul]
theorem frac_inv {m : Bool} {N D : Nat} (hN : N ≠ 0) (hD : D ≠ 0) : (frac m N D)⁻¹ = frac m D N := by
  apply Rat.inv_eq_of_mul_eq_one
  rw [frac_mul, Nat.mul_comm D N]
  have : (m != m) = false := by cases m <;> rfl
  rw [this]
  have h := frac_scale (neg := false) (N := 1) (D := 1) (k := N * D) (Nat.mul_ne_zero hN hD)
  rw [Nat.one_mul] at h
  rw [h]; rfl
theorem frac_quo {m n : Bool} {N D M E : Nat} (hM : M ≠ 0) (hE : E ≠ 0) : frac m N D / frac n M E = frac (m != n) (N * E) (D * M) := by
  rw [Rat.div_def, frac_inv hM hE, frac_mul]
theorem frac_add {m n : Bool} {N D M E : Nat} (hD : D ≠ 0) (hE : E ≠ 0) : frac m N D + frac n M E = mkRat (sgq m N * E + sgq n M * D) (D * E) := by
  unfold frac; rw [Rat.mkRat_add_mkRat _ _ hD hE]
/-- The three ways of a sum, over a common denominator. -/
theorem sgq_add_same (m : Bool) (N M : Nat) : sgq m N + sgq m M = sgq m (N + M) := by
  cases m <;> simp [sgq] <;> omega
theorem sgq_add_ge {m n : Bool} {N M : Nat} (h : m ≠ n) (hNM : M ≤ N) : sgq m N + sgq n M = sgq m (N - M) := by
  cases m <;> cases n <;> simp [sgq] at h ⊢ <;> omega
theorem sgq_add_lt {m n : Bool} {N M : Nat} (h : m ≠ n) (hNM : N ≤ M) : sgq m N + sgq n M = sgq n (M - N) := by
  cases m <;> cases n <;> simp [sgq] at h ⊢ <;> omega
theorem sgq_mul_nat (m : Bool) (N k : Nat) : sgq m N * (k : Int) = sgq m (N * k) := by cases m <;> simp [sgq, Int.neg_mul]
theorem frac_add_same {m : Bool} {N D M E : Nat} (hD : D ≠ 0) (hE : E ≠ 0) : frac m N D + frac m M E = frac m (N * E + M * D) (D * E) := by
  rw [frac_add hD hE, sgq_mul_nat, sgq_mul_nat, sgq_add_same]; rfl
theorem frac_add_ge {m n : Bool} {N D M E : Nat} (hD : D ≠ 0) (hE : E ≠ 0) (h : m ≠ n) (hl : M * D ≤ N * E) : frac m N D + frac n M E = frac m (N * E - M * D) (D * E) := by
  rw [frac_add hD hE, sgq_mul_nat, sgq_mul_nat, sgq_add_ge h hl]; rfl
theorem frac_add_lt {m n : Bool} {N D M E : Nat} (hD : D ≠ 0) (hE : E ≠ 0) (h : m ≠ n) (hl : N * E ≤ M * D) : frac m N D + frac n M E = frac n (M * D - N * E) (D * E) := by
  rw [frac_add hD hE, sgq_mul_nat, sgq_mul_nat, sgq_add_lt h hl]; rfl
theorem frac_add_den {m : Bool} {N M D : Nat} (hD : D ≠ 0) : frac m N D + frac m M D = frac m (N + M) D := by
  rw [frac_add_same hD hD, ← Nat.add_mul, frac_scale hD]
theorem frac_lt {m n : Bool} {N D M E : Nat} (hD : D ≠ 0) (hE : E ≠ 0) : frac m N D < frac n M E ↔ sgq m N * E < sgq n M * D := by
  unfold frac
  rw [Rat.mkRat_eq_div, Rat.mkRat_eq_div]
  have hD' : (0 : Rat) < (D : Rat) := Rat.natCast_pos.2 (Nat.pos_of_ne_zero hD)
  have hE' : (0 : Rat) < (E : Rat) := Rat.natCast_pos.2 (Nat.pos_of_ne_zero hE)
  rw [Rat.div_lt_iff hD']
  have e : ((sgq n M : Int) : Rat) / (E : Rat) * (D : Rat) = ((sgq n M * (D : Int) : Int) : Rat) / (E : Rat) := by
    rw [Rat.intCast_mul, Rat.intCast_natCast, Rat.div_def, Rat.div_def, Rat.mul_assoc, Rat.mul_assoc, Rat.mul_comm ((E : Rat)⁻¹)]
  rw [e, Rat.lt_div_iff hE', ← Rat.intCast_natCast, ← Rat.intCast_mul, Rat.intCast_lt_intCast]
theorem frac_eq {m n : Bool} {N D M E : Nat} (hD : D ≠ 0) (hE : E ≠ 0) : frac m N D = frac n M E ↔ sgq m N * E = sgq n M * D := by
  unfold frac; exact Rat.mkRat_eq_iff hD hE
theorem frac_self (q : Rat) : frac (decide (q.num < 0)) q.num.natAbs q.den = q := by
  unfold frac
  have : sgq (decide (q.num < 0)) q.num.natAbs = q.num := by
    by_cases h : q.num < 0
    · simp only [sgq, h, decide_true, if_true]; omega
    · simp only [sgq, h, decide_false, Bool.false_eq_true, if_false]; omega
  rw [this, Rat.mkRat_self]
/-- The parts of q are short. -/
def Fits (k : Nat) (q : Rat) : Prop := q.num.natAbs < pw k ∧ q.den < pw k
end NatM

namespace NatM

/-- The parts of a fraction in lowest terms: sign, numerator, denominator. -/
def can (q : Rat) : Bool × Nat × Nat := (decide (q.num < 0), q.num.natAbs, q.den)
/-- A result: the parts, or an error number. -/
def fitQ (q : Rat) : (Bool × Nat × Nat) × Nat := if pw 128 ≤ q.num.natAbs ∨ pw 128 ≤ q.den then ((false, 0, 0), 2) else (can q, 0)

theorem can_zero (neg : Bool) (D : Nat) : can (frac neg 0 D) = (false, 0, 1) := by rw [frac_zero]; rfl
theorem can_frac {neg : Bool} {N D : Nat} (hN : N ≠ 0) (hD : D ≠ 0) : can (frac neg N D) = (neg, N / Nat.gcd N D, D / Nat.gcd N D) := by
  unfold can
  rw [frac_sign hD hN, frac_abs hD, frac_den hD]
theorem can_inj {p q : Rat} (h : can p = can q) : p = q := by
  rw [← frac_self p, ← frac_self q]
  unfold can at h
  simp only [Prod.mk.injEq] at h
  rw [h.1, h.2.1, h.2.2]
theorem fitQ_zero (neg : Bool) (D : Nat) : fitQ (frac neg 0 D) = ((false, 0, 1), 0) := by
  rw [frac_zero]
  unfold fitQ
  have h1 : pw 1 = 4294967296 := by decide
  have h2 : pw 1 ≤ pw 128 := pw_le (by decide)
  rw [if_neg (by simp only [Rat.zero_num, Rat.zero_den, Int.natAbs_zero]; omega)]
  rfl
theorem fitQ_frac {neg : Bool} {N D X Y : Nat} (hN : N ≠ 0) (hD : D ≠ 0) (hX : N / Nat.gcd N D = X) (hY : D / Nat.gcd N D = Y) :
    fitQ (frac neg N D) = if pw 128 ≤ X ∨ pw 128 ≤ Y then ((false, 0, 0), 2) else ((neg, X, Y), 0) := by
  unfold fitQ
  rw [can_frac hN hD, frac_abs hD, frac_den hD, hX, hY]

/-- 2 divides A just z times. -/
def Tz (A z : Nat) : Prop := ∃ u, A = 2 ^ z * (2 * u + 1)
theorem Tz.ne {A z : Nat} (h : Tz A z) : A ≠ 0 := by
  obtain ⟨u, rfl⟩ := h
  exact Nat.mul_ne_zero (Nat.pos_iff_ne_zero.1 (Nat.two_pow_pos z)) (by omega)
theorem Tz.div {A z k : Nat} (h : Tz A z) (hk : k ≤ z) : 2 ^ k * (A / 2 ^ k) = A ∧ Tz (A / 2 ^ k) (z - k) := by
  obtain ⟨u, rfl⟩ := h
  obtain ⟨d, rfl⟩ : ∃ d, z = k + d := ⟨z - k, by omega⟩
  have e : 2 ^ (k + d) * (2 * u + 1) = 2 ^ k * (2 ^ d * (2 * u + 1)) := by rw [Nat.pow_add, Nat.mul_assoc]
  rw [e, Nat.mul_div_cancel_left _ (Nat.two_pow_pos k), Nat.add_sub_cancel_left]
  exact ⟨rfl, u, rfl⟩
theorem Tz.pow {A z : Nat} (h : Tz A z) (hz : nb A ≤ z + 1) : A = 2 ^ z := by
  obtain ⟨u, rfl⟩ := h
  have h1 := lt_nb (2 ^ z * (2 * u + 1))
  have h2 : 2 ^ nb (2 ^ z * (2 * u + 1)) ≤ 2 ^ (z + 1) := Nat.pow_le_pow_right (by decide) hz
  rw [Nat.pow_succ] at h2
  have h3 : 2 ^ z * (2 * u + 1) < 2 ^ z * 2 := by omega
  have h4 : 2 * u + 1 < 2 := Nat.lt_of_mul_lt_mul_left h3
  have h5 : u = 0 := by omega
  rw [h5, Nat.mul_zero, Nat.zero_add, Nat.mul_one]
theorem Tz.le {A z : Nat} (h : Tz A z) : z + 1 ≤ nb A := by
  obtain ⟨u, rfl⟩ := h
  refine lt_nb_of_le ?_
  exact Nat.le_mul_of_pos_right _ (by omega)
theorem odd_coprime (j u : Nat) : Nat.gcd (2 ^ j) (2 * u + 1) = 1 := by
  refine Nat.Coprime.pow_left j ?_
  show Nat.gcd 2 (2 * u + 1) = 1
  rw [Nat.gcd_mul_left_add_right]
  rfl
/-- A power of two and a number, one of them odd, have no common factor. -/
theorem pow_coprime {A B za zb : Nat} (hB : Tz B zb) (h0 : za = 0 ∨ zb = 0) (hp : A = 2 ^ za) : Nat.gcd A B = 1 := by
  rcases h0 with h | h
  · rw [hp, h]; simp
  · obtain ⟨u, rfl⟩ := hB
    rw [hp, h, Nat.pow_zero, Nat.one_mul]
    exact odd_coprime _ _
/-- Common factors 2 may be taken out first. -/
theorem gcd_out {A B k A' B' : Nat} (hA : 2 ^ k * A' = A) (hB : 2 ^ k * B' = B) : A / Nat.gcd A B = A' / Nat.gcd A' B' ∧ B / Nat.gcd A B = B' / Nat.gcd A' B' := by
  rw [← hA, ← hB, Nat.gcd_mul_left, Nat.mul_div_mul_left _ _ (Nat.two_pow_pos k), Nat.mul_div_mul_left _ _ (Nat.two_pow_pos k)]
  exact ⟨rfl, rfl⟩

theorem val_take_zeros {xs : List Nat} {i : Nat} (h0 : ∀ j, j < i → xs.getD j 0 = 0) : val (xs.take i) = 0 := by
  induction i with
  | zero => rfl
  | succ i ih => rw [val_take_succ, ih fun j hj => h0 j (by omega), h0 i (by omega), Nat.mul_zero]
theorem two_split {T Q P V u : Nat} (h32 : 4294967296 = T * (2 * Q)) : P * (T * (2 * u + 1)) + 4294967296 * P * V = P * T * (2 * (u + Q * V) + 1) := by
  rw [h32]; grind
/-- Zero limbs ahead of one that is not 0. -/
theorem tz_limbs {xs : List Nat} {i x t u : Nat} (hi : i < xs.length) (h0 : ∀ j, j < i → xs.getD j 0 = 0) (hxe : x = xs.getD i 0) (hxt : x = 2 ^ t * (2 * u + 1)) (ht : t < 32) : Tz (val xs) (32 * i + t) := by
  have e1 : val xs = val (xs.take (i + 1)) + pw (i + 1) * val (xs.drop (i + 1)) := val_take_drop xs (i + 1) hi
  rw [val_take_succ, val_take_zeros h0, ← hxe, Nat.zero_add, pw_succ, hxt, pw_two i] at e1
  refine ⟨u + 2 ^ (31 - t) * val (xs.drop (i + 1)), ?_⟩
  have h32 : 4294967296 = 2 ^ t * (2 * 2 ^ (31 - t)) := by
    rw [← Nat.pow_succ', ← Nat.pow_add, show t + (31 - t + 1) = 32 by omega]
  rw [e1, Nat.pow_add]
  exact two_split h32

/-! Sums over a common denominator. -/
theorem frac_same {m : Bool} {N D a den : Nat} (hD : D ≠ 0) (hd : den ≠ 0) (h : N * den = a * D) : frac m N D = frac m a den := by
  rw [frac_eq hD hd, sgq_mul_nat, sgq_mul_nat, h]
theorem frac_add_com {m n : Bool} {a b den : Nat} (hd : den ≠ 0) : frac m a den + frac n b den = mkRat (sgq m a + sgq n b) den := by
  rw [frac_add hd hd, ← Int.add_mul, Rat.mkRat_mul_right hd]
theorem sum_same {m : Bool} {a b den : Nat} (hd : den ≠ 0) : frac m a den + frac m b den = frac m (a + b) den := by
  rw [frac_add_com hd, sgq_add_same]; rfl
theorem sum_ge {m n : Bool} {a b den : Nat} (hd : den ≠ 0) (h : m ≠ n) (hl : b ≤ a) : frac m a den + frac n b den = frac m (a - b) den := by
  rw [frac_add_com hd, sgq_add_ge h hl]; rfl
theorem sum_lt {m n : Bool} {a b den : Nat} (hd : den ≠ 0) (h : m ≠ n) (hl : a ≤ b) : frac m a den + frac n b den = frac n (b - a) den := by
  rw [frac_add_com hd, sgq_add_lt h hl]; rfl

/-! Comparisons. -/
def cmpQ (p q : Rat) : Int := if p < q then -1 else if p = q then 0 else 1
theorem cmpQ_lt {p q : Rat} (h : p < q) : cmpQ p q = -1 := by unfold cmpQ; rw [if_pos h]
theorem cmpQ_eq {p q : Rat} (h : p = q) : cmpQ p q = 0 := by unfold cmpQ; rw [if_neg (by rw [h]; exact Rat.lt_irrefl), if_pos h]
theorem cmpQ_gt {p q : Rat} (h : q < p) : cmpQ p q = 1 := by
  unfold cmpQ
  rw [if_neg (Rat.not_lt.2 (Rat.le_of_lt h)), if_neg (Rat.ne_of_gt h)]
theorem cmpQ_frac {m n : Bool} {a b den : Nat} (hd : den ≠ 0) : cmpQ (frac m a den) (frac n b den) = if sgq m a < sgq n b then -1 else if sgq m a = sgq n b then 0 else 1 := by
  have hd' : (0 : Int) < (den : Int) := by omega
  have h1 : frac m a den < frac n b den ↔ sgq m a < sgq n b := by
    rw [frac_lt hd hd]; exact Int.mul_lt_mul_right hd'
  have h2 : frac m a den = frac n b den ↔ sgq m a = sgq n b := by
    rw [frac_eq hd hd]; exact ⟨fun h => Int.eq_of_mul_eq_mul_right (by omega) h, fun h => by rw [h]⟩
  unfold cmpQ
  simp only [h1, h2]
def signQ (q : Rat) : Int := cmpQ q 0
theorem signQ_frac {m : Bool} {N D : Nat} (hD : D ≠ 0) : signQ (frac m N D) = if N = 0 then 0 else if m then -1 else 1 := by
  unfold signQ
  rw [← frac_zero false D, cmpQ_frac hD]
  cases m <;> simp [sgq] <;> split <;> first | omega | (split <;> omega) | simp_all
end NatM
