/- Plain facts on lists of 32-bit limbs: their value, their canonical form, and addition, subtraction and comparison limb by limb. No program is read here. -/
namespace NatM

/-- The value of a list of limbs, the least first. -/
def val : List Nat → Nat
  | [] => 0
  | x :: xs => x + 4294967296 * val xs

/-- Every element is a limb. -/
def Limbs (xs : List Nat) : Prop := ∀ x ∈ xs, x < 4294967296

/-- The length of the canonical form. -/
def tlen : List Nat → Nat
  | [] => 0
  | x :: xs => if tlen xs = 0 then (if x = 0 then 0 else 1) else tlen xs + 1

/-- The canonical form. -/
def trim (xs : List Nat) : List Nat := xs.take (tlen xs)

def pw (k : Nat) : Nat := 4294967296 ^ k

theorem pw_zero : pw 0 = 1 := rfl
theorem pw_succ (k : Nat) : pw (k + 1) = 4294967296 * pw k := by unfold pw; rw [Nat.pow_succ, Nat.mul_comm]
theorem pw_pos (k : Nat) : 0 < pw k := Nat.pow_pos (by decide)
theorem pw_add (a b : Nat) : pw (a + b) = pw a * pw b := by unfold pw; exact Nat.pow_add _ _ _
theorem pw_le {a b : Nat} (h : a ≤ b) : pw a ≤ pw b := Nat.pow_le_pow_right (by decide) h
theorem pw_lt {a b : Nat} (h : a < b) : pw a < pw b := Nat.pow_lt_pow_right (by decide) h

theorem Limbs.nil : Limbs [] := by intro x h; cases h
theorem Limbs.cons {x : Nat} {xs : List Nat} (h : x < 4294967296) (hs : Limbs xs) : Limbs (x :: xs) := by
  intro y hy; rcases List.mem_cons.1 hy with rfl | hy
  · exact h
  · exact hs y hy
theorem Limbs.head {x : Nat} {xs : List Nat} (h : Limbs (x :: xs)) : x < 4294967296 := h x (by simp)
theorem Limbs.tail {x : Nat} {xs : List Nat} (h : Limbs (x :: xs)) : Limbs xs := fun y hy => h y (by simp [hy])
theorem Limbs.take {xs : List Nat} (h : Limbs xs) (n : Nat) : Limbs (xs.take n) := fun y hy => h y (List.mem_of_mem_take hy)
theorem Limbs.drop {xs : List Nat} (h : Limbs xs) (n : Nat) : Limbs (xs.drop n) := fun y hy => h y (List.mem_of_mem_drop hy)
theorem Limbs.append {xs ys : List Nat} (h : Limbs xs) (g : Limbs ys) : Limbs (xs ++ ys) := fun y hy => by
  rcases List.mem_append.1 hy with hy | hy
  · exact h y hy
  · exact g y hy
theorem Limbs.getD {xs : List Nat} (h : Limbs xs) (i : Nat) : xs.getD i 0 < 4294967296 := by
  by_cases hi : i < xs.length
  · have : xs.getD i 0 = xs[i] := by simp [List.getD, hi]
    rw [this]; exact h _ (List.getElem_mem hi)
  · have : xs.getD i 0 = 0 := by simp [List.getD, List.getElem?_eq_none (Nat.le_of_not_lt hi)]
    rw [this]; decide
theorem Limbs.set {xs : List Nat} (h : Limbs xs) (i y : Nat) (hy : y < 4294967296) : Limbs (xs.set i y) := fun z hz => by
  rcases List.mem_or_eq_of_mem_set hz with hz | rfl
  · exact h z hz
  · exact hy
theorem Limbs.replicate (n : Nat) : Limbs (List.replicate n 0) := fun y hy => by
  have := List.eq_of_mem_replicate hy; omega

theorem val_append (xs ys : List Nat) : val (xs ++ ys) = val xs + pw xs.length * val ys := by
  induction xs with
  | nil => simp [val, pw]
  | cons x xs ih => simp only [List.cons_append, val, ih, List.length_cons, pw_succ]; rw [Nat.mul_add, Nat.mul_assoc]; omega

theorem val_lt {xs : List Nat} (h : Limbs xs) : val xs < pw xs.length := by
  induction xs with
  | nil => simp [val, pw]
  | cons x xs ih =>
    have h1 := ih h.tail
    have h2 := h.head
    simp only [val, List.length_cons, pw_succ]; omega

theorem val_replicate (n : Nat) : val (List.replicate n 0) = 0 := by
  induction n with
  | zero => rfl
  | succ n ih => simp [List.replicate_succ, val, ih]

theorem val_eq_zero {xs : List Nat} : val xs = 0 ↔ tlen xs = 0 := by
  induction xs with
  | nil => simp [val, tlen]
  | cons x xs ih =>
    simp only [val, tlen]
    by_cases h : tlen xs = 0
    · have := ih.2 h
      simp only [h, if_true, this]
      by_cases hx : x = 0 <;> simp [hx]
    · have : val xs ≠ 0 := fun e => h (ih.1 e)
      simp only [h, if_false]
      constructor
      · intro e; omega
      · intro e; omega

theorem tlen_le (xs : List Nat) : tlen xs ≤ xs.length := by
  induction xs with
  | nil => simp [tlen]
  | cons x xs ih => simp only [tlen, List.length_cons]; split <;> (try split) <;> omega

theorem tlen_zero_getD {xs : List Nat} (h : tlen xs = 0) (i : Nat) : xs.getD i 0 = 0 := by
  induction xs generalizing i with
  | nil => simp
  | cons x xs ih =>
    simp only [tlen] at h
    by_cases h0 : tlen xs = 0
    · simp only [h0, if_true] at h
      by_cases hx : x = 0
      · cases i with
        | zero => simpa using hx
        | succ i => simpa using ih h0 i
      · simp [hx] at h
    · simp [h0] at h

/-- Behind the canonical length there are zeros only, and the last limb before it is not 0. -/
theorem tlen_above (xs : List Nat) (i : Nat) (h : tlen xs ≤ i) : xs.getD i 0 = 0 := by
  induction xs generalizing i with
  | nil => simp
  | cons x xs ih =>
    by_cases h0 : tlen xs = 0
    · cases i with
      | zero =>
        simp only [tlen, h0, if_true] at h
        by_cases hx : x = 0
        · simpa using hx
        · simp [hx] at h
      | succ i => simpa using tlen_zero_getD h0 i
    · simp only [tlen, h0, if_false] at h
      cases i with
      | zero => omega
      | succ i => simpa using ih i (by omega)

theorem tlen_top (xs : List Nat) (h : tlen xs ≠ 0) : xs.getD (tlen xs - 1) 0 ≠ 0 := by
  induction xs with
  | nil => simp [tlen] at h
  | cons x xs ih =>
    by_cases h0 : tlen xs = 0
    · simp only [tlen, h0, if_true] at h ⊢
      by_cases hx : x = 0
      · simp [hx] at h
      · simp [hx]
    · have := ih h0
      obtain ⟨k, hk⟩ : ∃ k, tlen xs = k + 1 := ⟨tlen xs - 1, by omega⟩
      simp only [tlen, hk] at this ⊢
      simpa using this

/-- The two facts pin the canonical length. -/
theorem tlen_eq (xs : List Nat) (n : Nat) (_hn : n ≤ xs.length) (h1 : ∀ i, n ≤ i → xs.getD i 0 = 0) (h2 : n ≠ 0 → xs.getD (n - 1) 0 ≠ 0) : tlen xs = n := by
  rcases Nat.lt_trichotomy (tlen xs) n with h | h | h
  · exact absurd (tlen_above xs (n - 1) (by omega)) (h2 (by omega))
  · exact h
  · exact absurd (h1 (tlen xs - 1) (by omega)) (tlen_top xs (by omega))

theorem val_trim (xs : List Nat) : val (trim xs) = val xs := by
  unfold trim
  induction xs with
  | nil => rfl
  | cons x xs ih =>
    by_cases h0 : tlen xs = 0
    · have hv := val_eq_zero.2 h0
      by_cases hx : x = 0
      · simp [tlen, h0, hx, val, hv]
      · simp [tlen, h0, hx, val, hv]
    · have : tlen (x :: xs) = tlen xs + 1 := by simp [tlen, h0]
      rw [this, List.take_succ_cons]
      simp only [val, ih]

theorem length_trim (xs : List Nat) : (trim xs).length = tlen xs := by
  unfold trim; rw [List.length_take]; have := tlen_le xs; omega

theorem getD_take (xs : List Nat) (n i : Nat) (h : i < n) : (xs.take n).getD i 0 = xs.getD i 0 := by
  simp [List.getD, h]

theorem tlen_trim (xs : List Nat) : tlen (trim xs) = tlen xs := by
  refine tlen_eq _ _ (Nat.le_of_eq (length_trim xs).symm) ?_ ?_
  · intro i hi
    have : (trim xs).length ≤ i := by rw [length_trim]; exact hi
    simp [List.getD, List.getElem?_eq_none this]
  · intro h
    unfold trim
    rw [getD_take _ _ _ (by omega)]
    exact tlen_top xs h

/-- Canonical: no zero at the end. -/
def Canon (xs : List Nat) : Prop := tlen xs = xs.length
theorem Canon.trim (xs : List Nat) : Canon (trim xs) := by unfold Canon; rw [tlen_trim, length_trim]
theorem Canon.nil : Canon [] := rfl

theorem pw_le_val {xs : List Nat} (h : tlen xs ≠ 0) : pw (tlen xs - 1) ≤ val xs := by
  induction xs with
  | nil => simp [tlen] at h
  | cons x xs ih =>
    by_cases h0 : tlen xs = 0
    · simp only [tlen, h0, if_true] at h ⊢
      by_cases hx : x = 0
      · simp [hx] at h
      · simp only [hx, if_false, val, pw]; simp; omega
    · have h1 := ih h0
      obtain ⟨k, hk⟩ : ∃ k, tlen xs = k + 1 := ⟨tlen xs - 1, by omega⟩
      simp only [tlen, hk, val] at h1 ⊢
      simp only [Nat.add_sub_cancel, Nat.succ_ne_zero, if_false] at h1 ⊢
      rw [pw_succ]; omega

theorem val_lt_tlen {xs : List Nat} (h : Limbs xs) : val xs < pw (tlen xs) := by
  have := val_lt (xs := trim xs) (h.take _)
  rw [val_trim, length_trim] at this
  exact this

theorem tlen_le_of_val {xs : List Nat} (n : Nat) (h : val xs < pw n) : tlen xs ≤ n := by
  by_cases h0 : tlen xs = 0
  · omega
  · have h1 := pw_le_val h0
    have h2 : pw (tlen xs - 1) < pw n := by omega
    have : ¬ n ≤ tlen xs - 1 := fun h3 => by have := pw_le h3; omega
    omega

theorem tlen_gt_of_val {xs : List Nat} (hl : Limbs xs) (n : Nat) (h : pw n ≤ val xs) : n < tlen xs := by
  have h1 := val_lt_tlen hl
  have h2 : pw n < pw (tlen xs) := by omega
  have : ¬ tlen xs ≤ n := fun h3 => by have := pw_le h3; omega
  omega

theorem tlen_gt_iff {xs : List Nat} (hl : Limbs xs) (n : Nat) : n < tlen xs ↔ pw n ≤ val xs := by
  constructor
  · intro h
    have h1 := pw_le_val (xs := xs) (by omega)
    have h2 : pw n ≤ pw (tlen xs - 1) := pw_le (by omega)
    omega
  · exact tlen_gt_of_val hl n

/-- Lists of limbs of one length with one value are equal. -/
theorem val_inj {xs ys : List Nat} (hx : Limbs xs) (hy : Limbs ys) (hl : xs.length = ys.length) (h : val xs = val ys) : xs = ys := by
  induction xs generalizing ys with
  | nil => cases ys with
    | nil => rfl
    | cons y ys => simp at hl
  | cons x xs ih => cases ys with
    | nil => simp at hl
    | cons y ys =>
      have h1 := hx.head
      have h2 := hy.head
      simp only [val] at h
      have e1 : x = y := by omega
      have e2 : val xs = val ys := by omega
      rw [e1, ih hx.tail hy.tail (by simpa using hl) e2]

theorem canon_inj {xs ys : List Nat} (hx : Limbs xs) (hy : Limbs ys) (cx : Canon xs) (cy : Canon ys) (h : val xs = val ys) : xs = ys := by
  refine val_inj hx hy ?_ h
  unfold Canon at cx cy
  rw [← cx, ← cy]
  have a1 := val_lt_tlen hx
  have a2 := val_lt_tlen hy
  have b1 := tlen_le_of_val (xs := xs) (tlen ys) (by omega)
  have b2 := tlen_le_of_val (xs := ys) (tlen xs) (by omega)
  omega

theorem val_take_drop (xs : List Nat) (k : Nat) (h : k ≤ xs.length) : val xs = val (xs.take k) + pw k * val (xs.drop k) := by
  conv => lhs; rw [← List.take_append_drop k xs]
  rw [val_append, List.length_take, Nat.min_eq_left h]

theorem val_take_succ (xs : List Nat) (k : Nat) : val (xs.take (k + 1)) = val (xs.take k) + pw k * xs.getD k 0 := by
  by_cases h : k < xs.length
  · rw [List.take_succ_eq_append_getElem h, val_append, List.length_take, Nat.min_eq_left (by omega)]
    simp [val, List.getD, h]
  · rw [List.take_of_length_le (by omega), List.take_of_length_le (by omega)]
    simp [List.getD, List.getElem?_eq_none (Nat.le_of_not_lt h)]

theorem val_set (xs : List Nat) (k y : Nat) (h : k < xs.length) : val (xs.set k y) + pw k * xs.getD k 0 = val xs + pw k * y := by
  induction xs generalizing k with
  | nil => simp at h
  | cons x xs ih =>
    cases k with
    | zero => simp [val, pw]; omega
    | succ k =>
      have := ih k (by simpa using h)
      simp only [List.set_cons_succ, val, pw_succ, List.getD_cons_succ] at this ⊢
      rw [Nat.mul_assoc, Nat.mul_assoc]
      omega

/-! Comparison -/
/-- Two values with one tail above i compare as their limbs at i do. -/
theorem lt_of_top {xs ys : List Nat} (hx : Limbs xs) (i : Nat) (h : xs.getD i 0 < ys.getD i 0) : val (xs.take (i + 1)) < val (ys.take (i + 1)) := by
  rw [val_take_succ, val_take_succ]
  have h1 : val (xs.take i) < pw i := by
    have a := val_lt (hx.take i)
    have b : pw (xs.take i).length ≤ pw i := pw_le (List.length_take_le _ _)
    omega
  have h2 : pw i * (xs.getD i 0 + 1) ≤ pw i * ys.getD i 0 := Nat.mul_le_mul_left _ h
  rw [Nat.mul_add] at h2
  omega

/-- The state of a comparison from the top: above i the two lists agree. -/
def Agree (xs ys : List Nat) (i : Nat) : Prop := xs.drop i = ys.drop i

theorem agree_top {xs ys : List Nat} (h : xs.length = ys.length) : Agree xs ys xs.length := by
  unfold Agree; rw [List.drop_of_length_le (Nat.le_refl _), List.drop_of_length_le (by omega)]
theorem agree_step {xs ys : List Nat} {i : Nat} (hl : xs.length = ys.length) (hi : i < xs.length) (h : Agree xs ys (i + 1)) (he : xs.getD i 0 = ys.getD i 0) : Agree xs ys i := by
  unfold Agree at h ⊢
  rw [List.drop_eq_getElem_cons hi, List.drop_eq_getElem_cons (by omega : i < ys.length), h]
  simp [List.getD, hi, (by omega : i < ys.length)] at he
  rw [he]
theorem agree_zero {xs ys : List Nat} (h : Agree xs ys 0) : xs = ys := by simpa [Agree] using h
theorem agree_lt {xs ys : List Nat} {i : Nat} (hx : Limbs xs) (hl : xs.length = ys.length) (hi : i < xs.length) (h : Agree xs ys (i + 1)) (hlt : xs.getD i 0 < ys.getD i 0) : val xs < val ys := by
  rw [val_take_drop xs (i + 1) (by omega), val_take_drop ys (i + 1) (by omega)]
  unfold Agree at h
  rw [h]
  have := lt_of_top hx i hlt
  omega
theorem len_lt {xs ys : List Nat} (hx : Limbs xs) (cy : Canon ys) (h : xs.length < ys.length) : val xs < val ys := by
  unfold Canon at cy
  have h1 := val_lt hx
  have h2 := pw_le_val (xs := ys) (by omega)
  have h3 : pw xs.length ≤ pw (tlen ys - 1) := pw_le (by omega)
  omega

/-! Sums and differences, limb by limb -/
def SumAt (xs ys zs : List Nat) (k c : Nat) : Prop := val (zs.take k) + pw k * c = val (xs.take k) + val (ys.take k)
theorem sum_zero (xs ys zs : List Nat) : SumAt xs ys zs 0 0 := by simp [SumAt, val]
theorem take_set_lt (zs : List Nat) (k s : Nat) : (zs.set k s).take k = zs.take k := by
  rw [List.take_set]
  exact List.set_eq_of_length_le (List.length_take_le _ _)
theorem getD_set_self (zs : List Nat) (k s : Nat) (h : k < zs.length) : (zs.set k s).getD k 0 = s := by simp [List.getD, h]
theorem sum_step {xs ys zs : List Nat} {k c s c' : Nat} (h : SumAt xs ys zs k c) (hk : k < zs.length) (e : s + 4294967296 * c' = xs.getD k 0 + ys.getD k 0 + c) : SumAt xs ys (zs.set k s) (k + 1) c' := by
  unfold SumAt at h ⊢
  rw [val_take_succ, val_take_succ, val_take_succ, take_set_lt, getD_set_self _ _ _ hk, pw_succ]
  have : pw k * (s + 4294967296 * c') = pw k * (xs.getD k 0 + ys.getD k 0 + c) := by rw [e]
  simp only [Nat.mul_add] at this
  have e2 : pw k * (4294967296 * c') = 4294967296 * pw k * c' := by rw [← Nat.mul_assoc, Nat.mul_comm (pw k)]
  omega
def DiffAt (xs ys zs : List Nat) (k c : Nat) : Prop := val (zs.take k) + val (ys.take k) = val (xs.take k) + pw k * c
theorem diff_zero (xs ys zs : List Nat) : DiffAt xs ys zs 0 0 := by simp [DiffAt, val]
theorem diff_step {xs ys zs : List Nat} {k c s c' : Nat} (h : DiffAt xs ys zs k c) (hk : k < zs.length) (e : s + ys.getD k 0 + c = xs.getD k 0 + 4294967296 * c') : DiffAt xs ys (zs.set k s) (k + 1) c' := by
  unfold DiffAt at h ⊢
  rw [val_take_succ, val_take_succ, val_take_succ, take_set_lt, getD_set_self _ _ _ hk, pw_succ]
  have : pw k * (s + ys.getD k 0 + c) = pw k * (xs.getD k 0 + 4294967296 * c') := by rw [e]
  simp only [Nat.mul_add] at this
  have e2 : pw k * (4294967296 * c') = 4294967296 * pw k * c' := by rw [← Nat.mul_assoc, Nat.mul_comm (pw k)]
  omega

/-! Reversing a list in place -/
def RevAt (bs ys : List Nat) (k : Nat) : Prop :=
  ys.length = bs.length ∧ ∀ i, i < bs.length → ys.getD i 0 = if i < k ∨ bs.length - k ≤ i then bs.getD (bs.length - 1 - i) 0 else bs.getD i 0
theorem revAt_zero (bs : List Nat) : RevAt bs bs 0 := ⟨rfl, fun i hi => by rw [if_neg (by omega)]⟩
theorem getD_set (zs : List Nat) (k i s : Nat) (h : k < zs.length) : (zs.set k s).getD i 0 = if i = k then s else zs.getD i 0 := by
  by_cases e : i = k
  · subst e; rw [if_pos rfl]; exact getD_set_self _ _ _ h
  · rw [if_neg e]
    simp [List.getD, Ne.symm e]
theorem revAt_step {bs ys : List Nat} {k j : Nat} (h : RevAt bs ys k) (hj : k + j + 1 = bs.length) (hkj : k < j) : RevAt bs ((ys.set k (ys.getD j 0)).set j (ys.getD k 0)) (k + 1) := by
  obtain ⟨hl, hv⟩ := h
  refine ⟨by simpa using hl, fun i hi => ?_⟩
  rw [getD_set _ _ _ _ (by simp; omega), getD_set _ _ _ _ (by omega)]
  by_cases e1 : i = j
  · rw [if_pos e1, hv k (by omega), if_neg (by omega), if_pos (by omega)]
    congr 1; omega
  · rw [if_neg e1]
    by_cases e2 : i = k
    · rw [if_pos e2, hv j (by omega), if_neg (by omega), if_pos (by omega)]
      congr 1; omega
    · rw [if_neg e2, hv i hi]
      by_cases c : i < k ∨ bs.length - k ≤ i
      · rw [if_pos c, if_pos (by omega)]
      · rw [if_neg c, if_neg (by omega)]
theorem revAt_done {bs ys : List Nat} {k : Nat} (h : RevAt bs ys k) (hk : bs.length ≤ 2 * k + 1) : ys = bs.reverse := by
  obtain ⟨hl, hv⟩ := h
  apply List.ext_getElem (by simpa using hl)
  intro i h1 h2
  have hi : i < bs.length := by omega
  have h3 := hv i hi
  have e1 : ys.getD i 0 = ys[i] := by simp [List.getD, h1]
  have e2 : bs.getD (bs.length - 1 - i) 0 = bs[bs.length - 1 - i]'(by omega) := by simp [List.getD, (by omega : bs.length - 1 - i < bs.length)]
  rw [List.getElem_reverse, ← e1, ← e2, h3]
  by_cases c : i < k ∨ bs.length - k ≤ i
  · rw [if_pos c]
  · rw [if_neg c]; congr 1; omega
theorem perm_set2 (ys : List Nat) (k j a b : Nat) (h : k ≠ j) : (ys.set k a).set j b = (ys.set j b).set k a := List.set_comm _ _ h

end NatM
