/- Plain facts on decimal digits: their value, that a number has one row of digits without zeros at the front, and what stays when the zeros are struck. No program is read here. -/
import Derived.Test.YtifpfoeecnkhoaaDoorPn
namespace NatM

/-- The value of a list of decimal digits, the least first. -/
def val10 : List Nat → Nat
  | [] => 0
  | x :: xs => x + 10 * val10 xs
def Digits (ds : List Nat) : Prop := ∀ d ∈ ds, d < 10
theorem Digits.nil : Digits [] := by intro d h; cases h
theorem Digits.head {x : Nat} {xs : List Nat} (h : Digits (x :: xs)) : x < 10 := h x (by simp)
theorem Digits.tail {x : Nat} {xs : List Nat} (h : Digits (x :: xs)) : Digits xs := fun y hy => h y (by simp [hy])
theorem Digits.snoc {xs : List Nat} {x : Nat} (h : Digits xs) (hx : x < 10) : Digits (xs ++ [x]) := fun y hy => by
  rcases List.mem_append.1 hy with hy | hy
  · exact h y hy
  · simp at hy; omega
theorem Digits.take {xs : List Nat} (h : Digits xs) (n : Nat) : Digits (xs.take n) := fun y hy => h y (List.mem_of_mem_take hy)

theorem val10_snoc (xs : List Nat) (x : Nat) : val10 (xs ++ [x]) = val10 xs + 10 ^ xs.length * x := by
  induction xs with
  | nil => simp [val10]
  | cons y ys ih =>
    simp only [List.cons_append, val10, ih, List.length_cons]
    rw [Nat.mul_add, ← Nat.mul_assoc, Nat.pow_succ, Nat.mul_comm (10 ^ ys.length) 10]; omega

theorem val10_inj {xs ys : List Nat} (hx : Digits xs) (hy : Digits ys) (cx : Canon xs) (cy : Canon ys) (h : val10 xs = val10 ys) : xs = ys := by
  induction xs generalizing ys with
  | nil =>
    cases ys with
    | nil => rfl
    | cons y ys =>
      exfalso
      simp only [val10] at h
      have z : ∀ zs : List Nat, val10 zs = 0 → tlen zs = 0 := by
        intro zs
        induction zs with
        | nil => intro _; rfl
        | cons a as ih =>
          intro h0
          simp only [val10] at h0
          have h1 := ih (by omega)
          have h2 : a = 0 := by omega
          simp [tlen, h1, h2]
      have := z (y :: ys) (by simp only [val10]; omega)
      unfold Canon at cy
      rw [this] at cy
      simp at cy
  | cons x xs ih =>
    have tail : ∀ (a : Nat) (as : List Nat), Canon (a :: as) → Canon as := by
      intro a as hc
      unfold Canon at *
      simp only [tlen, List.length_cons] at hc
      by_cases h0 : tlen as = 0
      · simp only [h0, if_true] at hc
        by_cases ha : a = 0
        · simp [ha] at hc
        · simp only [ha, if_false] at hc; omega
      · simp only [h0, if_false] at hc; omega
    cases ys with
    | nil =>
      exfalso
      have z : ∀ zs : List Nat, val10 zs = 0 → tlen zs = 0 := by
        intro zs
        induction zs with
        | nil => intro _; rfl
        | cons a as ih =>
          intro h0
          simp only [val10] at h0
          have h1 := ih (by omega)
          have h2 : a = 0 := by omega
          simp [tlen, h1, h2]
      have := z (x :: xs) (by rw [h]; rfl)
      unfold Canon at cx
      rw [this] at cx
      simp at cx
    | cons y ys =>
      have h1 := hx.head
      have h2 := hy.head
      simp only [val10] at h
      have e1 : x = y := by omega
      have e2 : val10 xs = val10 ys := by omega
      rw [e1, ih hx.tail hy.tail (tail _ _ cx) (tail _ _ cy) e2]

theorem val10_trim (xs : List Nat) : val10 (trim xs) = val10 xs := by
  unfold trim
  induction xs with
  | nil => rfl
  | cons x xs ih =>
    by_cases h0 : tlen xs = 0
    · have hv : val10 xs = 0 := by rw [← ih, h0]; rfl
      by_cases hx : x = 0
      · simp [tlen, h0, hx, val10, hv]
      · simp [tlen, h0, hx, val10, hv]
    · have : tlen (x :: xs) = tlen xs + 1 := by simp [tlen, h0]
      rw [this, List.take_succ_cons]
      simp only [val10, ih]

/-- The character of a digit. -/
def chr (d : Nat) : UInt8 := UInt8.ofNat (48 + d)
theorem chr_zero {d : Nat} (h : d < 10) : (chr d == 48) = decide (d = 0) := by
  have : ∀ d : Fin 10, (chr d.1 == 48) = decide (d.1 = 0) := by decide
  exact this ⟨d, h⟩

/-- Striking the zeros at the front of the text strikes the zeros at the end of the digits. -/
theorem strike (ds : List Nat) (h : Digits ds) : (ds.reverse.map chr).dropWhile (· == 48) = (trim ds).reverse.map chr := by
  induction ds with
  | nil => rfl
  | cons x xs ih =>
    have ih := ih h.tail
    have hx := chr_zero h.head
    rw [List.reverse_cons, List.map_append, List.dropWhile_append, ih]
    unfold trim at *
    by_cases h0 : tlen xs = 0
    · by_cases hx0 : x = 0
      · subst hx0; simp [h0, tlen, List.dropWhile_cons]; decide
      · have : (chr x == 48) = false := by rw [hx]; simp [hx0]
        simp [h0, tlen, hx0, this]
    · have h1 : 0 < xs.length := by have := tlen_le xs; omega
      have : (List.map chr (List.take (tlen xs) xs).reverse).isEmpty = false := by
        cases xs with
        | nil => simp at h1
        | cons a as => simp; omega
      rw [this]
      simp [tlen, h0, List.take_succ_cons]

/-- s is the text of the number N. -/
def FmtIs (s : ByteArray) (N : Nat) : Prop :=
  (N = 0 ∧ s = ⟨#[48]⟩) ∨ (0 < N ∧ ∃ ds, Digits ds ∧ Canon ds ∧ val10 ds = N ∧ s = ⟨(ds.reverse.map chr).toArray⟩)
theorem FmtIs.uniq {s t : ByteArray} {N : Nat} (h : FmtIs s N) (g : FmtIs t N) : s = t := by
  rcases h with ⟨h0, rfl⟩ | ⟨h0, ds, h1, h2, h3, rfl⟩
  · rcases g with ⟨_, rfl⟩ | ⟨g0, _⟩
    · rfl
    · omega
  · rcases g with ⟨g0, rfl⟩ | ⟨g0, es, g1, g2, g3, rfl⟩
    · omega
    · rw [val10_inj h1 g1 h2 g2 (h3.trans g3.symm)]

theorem pw_two (n : Nat) : pw n = 2 ^ (32 * n) := by
  unfold pw
  rw [show (4294967296 : Nat) = 2 ^ 32 from rfl, ← Nat.pow_mul]
theorem ten_bound {k N L : Nat} (h : 10 ^ k ≤ N) (hN : N < pw L) : k < 32 * L := by
  rcases Nat.lt_or_ge k (32 * L) with h1 | h1
  · exact h1
  · exfalso
    have h2 : 2 ^ (32 * L) ≤ 2 ^ k := Nat.pow_le_pow_right (by decide) h1
    have h3 : 2 ^ k ≤ 10 ^ k := Nat.pow_le_pow_left (by decide) k
    rw [pw_two] at hN
    omega
end NatM
