/- Plain facts on the field of 256 elements: bytes as numbers below 256, their products modulo x^8 + x^4 + x^3 + x^2 + 1, powers and logarithms. No program is read here. -/
namespace GfM

/-- The product of an element and 2, the polynomial x. -/
def dbl (a : Nat) : Nat := if a < 128 then 2 * a else (2 * a - 256) ^^^ 29
/-- The sum of the multiples of a for the lowest k bits of b. -/
def ml : Nat → Nat → Nat → Nat
  | 0, _, _ => 0
  | k + 1, a, b => (if b % 2 = 1 then a else 0) ^^^ ml k (dbl a) (b / 2)
/-- The product. -/
def gm (a b : Nat) : Nat := ml 8 a b
/-- The power n of a. -/
def pw (a : Nat) : Nat → Nat
  | 0 => 1
  | n + 1 => gm (pw a n) a
/-- The power n of 2, by doubling. -/
def ex : Nat → Nat
  | 0 => 1
  | n + 1 => dbl (ex n)

theorem xor_self (a : Nat) : a ^^^ a = 0 := Nat.xor_self a
theorem xor4 (p q r s : Nat) : (p ^^^ q) ^^^ (r ^^^ s) = (p ^^^ r) ^^^ (q ^^^ s) := by
  rw [Nat.xor_assoc, Nat.xor_assoc, ← Nat.xor_assoc q, Nat.xor_comm q r, Nat.xor_assoc r]
theorem xor_lt {a b : Nat} (ha : a < 256) (hb : b < 256) : a ^^^ b < 256 := Nat.xor_lt_two_pow (n := 8) ha hb

theorem dbl_lt' : ∀ a < 256, dbl a < 256 := by decide +kernel
theorem dbl_lt {a : Nat} (h : a < 256) : dbl a < 256 := dbl_lt' a h
theorem dbl_bits' : ∀ a < 256, dbl a = (a <<< 1) ^^^ (if a.testBit 7 then 285 else 0) := by decide +kernel
theorem dbl_xor {a b : Nat} (ha : a < 256) (hb : b < 256) : dbl (a ^^^ b) = dbl a ^^^ dbl b := by
  rw [dbl_bits' _ (xor_lt ha hb), dbl_bits' _ ha, dbl_bits' _ hb, Nat.shiftLeft_xor_distrib, Nat.testBit_xor, xor4]
  congr 1
  cases a.testBit 7 <;> cases b.testBit 7 <;> simp
theorem dbl_zero : dbl 0 = 0 := rfl

theorem ml_lt {k a b : Nat} (h : a < 256) : ml k a b < 256 := by
  induction k generalizing a b with
  | zero => simp [ml]
  | succ k ih =>
    rw [ml]
    refine xor_lt ?_ (ih (dbl_lt h))
    split
    · exact h
    · decide
theorem gm_lt {a b : Nat} (h : a < 256) : gm a b < 256 := ml_lt h
theorem ml_zero_l (k b : Nat) : ml k 0 b = 0 := by
  induction k generalizing b with
  | zero => rfl
  | succ k ih => rw [ml, dbl_zero, ih]; split <;> rfl
theorem ml_zero_r (k a : Nat) : ml k a 0 = 0 := by
  induction k generalizing a with
  | zero => rfl
  | succ k ih => rw [ml, Nat.zero_div, ih, if_neg (by decide)]; rfl
theorem mod2_xor (b c : Nat) : (b ^^^ c) % 2 = (b % 2) ^^^ (c % 2) := by
  have := Nat.xor_mod_two_pow (a := b) (b := c) (n := 1)
  simpa using this
theorem div2_xor (b c : Nat) : (b ^^^ c) / 2 = (b / 2) ^^^ (c / 2) := by
  have := Nat.shiftRight_xor_distrib (a := b) (b := c) (i := 1)
  simpa [Nat.shiftRight_eq_div_pow] using this
theorem ml_xor_r (k a b c : Nat) : ml k a (b ^^^ c) = ml k a b ^^^ ml k a c := by
  induction k generalizing a b c with
  | zero => simp [ml]
  | succ k ih =>
    rw [ml, ml, ml, div2_xor, ih, xor4, mod2_xor]
    congr 1
    rcases Nat.mod_two_eq_zero_or_one b with h | h <;> rcases Nat.mod_two_eq_zero_or_one c with h' | h' <;> simp [h, h']
theorem ml_xor_l (k : Nat) {a c : Nat} (b : Nat) (ha : a < 256) (hc : c < 256) : ml k (a ^^^ c) b = ml k a b ^^^ ml k c b := by
  induction k generalizing a b c with
  | zero => simp [ml]
  | succ k ih =>
    rw [ml, ml, ml, dbl_xor ha hc, ih _ (dbl_lt ha) (dbl_lt hc), xor4]
    congr 1
    split <;> simp
theorem gm_zero_l (b : Nat) : gm 0 b = 0 := ml_zero_l 8 b
theorem gm_zero_r (a : Nat) : gm a 0 = 0 := ml_zero_r 8 a
theorem gm_xor_r (a b c : Nat) : gm a (b ^^^ c) = gm a b ^^^ gm a c := ml_xor_r 8 a b c
theorem gm_xor_l {a c : Nat} (b : Nat) (ha : a < 256) (hc : c < 256) : gm (a ^^^ c) b = gm a b ^^^ gm c b := ml_xor_l 8 b ha hc

/-- What holds of 0, of the powers of two and of sums holds of all elements. -/
theorem parts' : ∀ a < 256, a = (if a.testBit 0 then 1 else 0) ^^^ ((if a.testBit 1 then 2 else 0) ^^^ ((if a.testBit 2 then 4 else 0) ^^^ ((if a.testBit 3 then 8 else 0) ^^^ ((if a.testBit 4 then 16 else 0) ^^^ ((if a.testBit 5 then 32 else 0) ^^^ ((if a.testBit 6 then 64 else 0) ^^^ (if a.testBit 7 then 128 else 0))))))) := by decide +kernel
theorem byte_ind (P : Nat → Prop) (h0 : P 0) (hx : ∀ a b, a < 256 → b < 256 → P a → P b → P (a ^^^ b)) (hb : ∀ i < 8, P (2 ^ i)) (a : Nat) (ha : a < 256) : P a := by
  have hi : ∀ (c : Bool) (i : Nat), i < 8 → P (if c then 2 ^ i else 0) ∧ (if c then 2 ^ i else 0) < 256 := by
    intro c i h
    cases c
    · exact ⟨h0, by simp⟩
    · exact ⟨hb i h, by simpa using Nat.pow_lt_pow_right (a := 2) (by decide) h⟩
  have st : ∀ {p q : Nat}, P p ∧ p < 256 → P q ∧ q < 256 → P (p ^^^ q) ∧ p ^^^ q < 256 := fun h k => ⟨hx _ _ h.2 k.2 h.1 k.1, xor_lt h.2 k.2⟩
  rw [parts' a ha]
  exact (st (hi _ 0 (by decide)) (st (hi _ 1 (by decide)) (st (hi _ 2 (by decide)) (st (hi _ 3 (by decide)) (st (hi _ 4 (by decide)) (st (hi _ 5 (by decide)) (st (hi _ 6 (by decide)) (hi _ 7 (by decide))))))))).1

theorem comm' : ∀ i < 8, ∀ j < 8, gm (2 ^ i) (2 ^ j) = gm (2 ^ j) (2 ^ i) := by decide +kernel
theorem two_lt {i : Nat} (h : i < 8) : 2 ^ i < 256 := Nat.pow_lt_pow_right (a := 2) (by decide) h
theorem gm_comm {a b : Nat} (ha : a < 256) (hb : b < 256) : gm a b = gm b a := by
  refine byte_ind (fun a => gm a b = gm b a) ?_ ?_ ?_ a ha
  · simp only [gm_zero_l, gm_zero_r]
  · intro x y hx hy h k
    show gm (x ^^^ y) b = gm b (x ^^^ y)
    rw [gm_xor_l b hx hy, gm_xor_r]; exact congr (congrArg _ h) k
  · intro i hi
    refine byte_ind (fun b => gm (2 ^ i) b = gm b (2 ^ i)) ?_ ?_ ?_ b hb
    · simp only [gm_zero_l, gm_zero_r]
    · intro x y hx hy h k
      show gm (2 ^ i) (x ^^^ y) = gm (x ^^^ y) (2 ^ i)
      rw [gm_xor_l _ hx hy, gm_xor_r]; exact congr (congrArg _ h) k
    · intro j hj; exact comm' i hi j hj
theorem assoc' : ∀ i < 8, ∀ j < 8, ∀ k < 8, gm (gm (2 ^ i) (2 ^ j)) (2 ^ k) = gm (2 ^ i) (gm (2 ^ j) (2 ^ k)) := by decide +kernel
theorem gm_assoc {a b c : Nat} (ha : a < 256) (hb : b < 256) (hc : c < 256) : gm (gm a b) c = gm a (gm b c) := by
  refine byte_ind (fun a => gm (gm a b) c = gm a (gm b c)) ?_ ?_ ?_ a ha
  · simp only [gm_zero_l]
  · intro x y hx hy h k
    show gm (gm (x ^^^ y) b) c = gm (x ^^^ y) (gm b c)
    rw [gm_xor_l b hx hy, gm_xor_l c (gm_lt hx) (gm_lt hy), gm_xor_l _ hx hy]; exact congr (congrArg _ h) k
  · intro i hi
    refine byte_ind (fun b => gm (gm (2 ^ i) b) c = gm (2 ^ i) (gm b c)) ?_ ?_ ?_ b hb
    · simp only [gm_zero_l, gm_zero_r]
    · intro x y hx hy h k
      show gm (gm (2 ^ i) (x ^^^ y)) c = gm (2 ^ i) (gm (x ^^^ y) c)
      rw [gm_xor_l c hx hy, gm_xor_r, gm_xor_r, gm_xor_l c (gm_lt (two_lt hi)) (gm_lt (two_lt hi))]; exact congr (congrArg _ h) k
    · intro j hj
      refine byte_ind (fun c => gm (gm (2 ^ i) (2 ^ j)) c = gm (2 ^ i) (gm (2 ^ j) c)) ?_ ?_ ?_ c hc
      · simp only [gm_zero_r]
      · intro x y hx hy h k
        show gm (gm (2 ^ i) (2 ^ j)) (x ^^^ y) = gm (2 ^ i) (gm (2 ^ j) (x ^^^ y))
        rw [gm_xor_r, gm_xor_r, gm_xor_r]; exact congr (congrArg _ h) k
      · intro k hk; exact assoc' i hi j hj k hk
theorem gm_one_r' : ∀ a < 256, gm a 1 = a := by decide +kernel
theorem gm_one_r {a : Nat} (h : a < 256) : gm a 1 = a := gm_one_r' a h
theorem gm_one_l {a : Nat} (h : a < 256) : gm 1 a = a := by rw [gm_comm (by decide) h, gm_one_r h]
theorem gm_two' : ∀ a < 256, gm a 2 = dbl a := by decide +kernel

/- Powers. -/
theorem pw_lt {a n : Nat} : pw a n < 256 := by
  induction n with
  | zero => show 1 < 256; decide
  | succ n ih => exact gm_lt ih
theorem pw_one {a : Nat} (h : a < 256) : pw a 1 = a := by show gm 1 a = a; exact gm_one_l h
theorem pw_add {a : Nat} (h : a < 256) (m n : Nat) : pw a (m + n) = gm (pw a m) (pw a n) := by
  induction n with
  | zero => rw [Nat.add_zero]; show _ = gm (pw a m) 1; rw [gm_one_r pw_lt]
  | succ n ih => rw [← Nat.add_assoc]; show gm (pw a (m + n)) a = gm (pw a m) (gm (pw a n) a); rw [ih, gm_assoc pw_lt pw_lt h]
theorem pw_sq {a : Nat} (h : a < 256) (n : Nat) : pw (gm a a) n = pw a (2 * n) := by
  induction n with
  | zero => rfl
  | succ n ih =>
    show gm (pw (gm a a) n) (gm a a) = pw a (2 * n + 2)
    rw [ih, pw_add h (2 * n) 2]
    show _ = gm _ (gm (gm 1 a) a)
    rw [gm_one_l h]
def sq (a : Nat) : Nat := gm a a
def all255 (a : Nat) : Nat := gm a (gm (sq a) (gm (sq (sq a)) (gm (sq (sq (sq a))) (gm (sq (sq (sq (sq a)))) (gm (sq (sq (sq (sq (sq a))))) (gm (sq (sq (sq (sq (sq (sq a)))))) (sq (sq (sq (sq (sq (sq (sq a)))))))))))))
theorem all255' : ∀ a < 256, a ≠ 0 → all255 a = 1 := by decide +kernel
theorem pw_sq_n {a : Nat} (h : a < 256) (n : Nat) : sq (pw a n) = pw a (2 * n) := by unfold sq; rw [← pw_add h, Nat.two_mul]
theorem pw_255 {a : Nat} (h : a < 256) (h0 : a ≠ 0) : pw a 255 = 1 := by
  rw [← all255' a h h0]
  have e1 : a = pw a 1 := (pw_one h).symm
  have e2 : sq a = pw a 2 := by
    show gm a a = gm (gm 1 a) a
    rw [gm_one_l h]
  unfold all255
  rw [e2, pw_sq_n h, pw_sq_n h, pw_sq_n h, pw_sq_n h, pw_sq_n h, pw_sq_n h]
  conv => rhs; rw [← pw_add h, ← pw_add h, ← pw_add h, ← pw_add h, ← pw_add h, ← pw_add h]; arg 1; rw [e1]
  rw [← pw_add h]
theorem pw_mul255 {a : Nat} (h : a < 256) (h0 : a ≠ 0) (k : Nat) : pw a (255 * k) = 1 := by
  induction k with
  | zero => rfl
  | succ k ih => rw [Nat.mul_succ, pw_add h, ih, pw_255 h h0]; rfl
theorem pw_mod {a : Nat} (h : a < 256) (h0 : a ≠ 0) (n : Nat) : pw a (n % 255) = pw a n := by
  conv => rhs; rw [← Nat.div_add_mod n 255, pw_add h, pw_mul255 h h0, gm_one_l pw_lt]
theorem gm_inv {a : Nat} (h : a < 256) (h0 : a ≠ 0) : gm (pw a 254) a = 1 := by
  show pw a 255 = 1; exact pw_255 h h0
theorem gm_ne {a b : Nat} (ha : a < 256) (hb : b < 256) (h0 : a ≠ 0) (k0 : b ≠ 0) : gm a b ≠ 0 := by
  intro e
  have : gm (pw a 254) (gm a b) = b := by rw [← gm_assoc pw_lt ha hb, gm_inv ha h0, gm_one_l hb]
  rw [e, gm_zero_r] at this
  exact k0 this.symm

/-- The power n of a, for an integer n. -/
def pz (a : Nat) (n : Int) : Nat := if n = 0 then 1 else if a = 0 then 0 else pw a (n % 255).toNat
/-- The inverse. -/
def iv (a : Nat) : Nat := if a = 0 then 0 else pw a 254
theorem iv_lt (a : Nat) : iv a < 256 := by unfold iv; split; decide; exact pw_lt
theorem pz_lt {a : Nat} {n : Int} : pz a n < 256 := by
  unfold pz; split
  · decide
  · split
    · decide
    · exact pw_lt
theorem pz_of {a : Nat} (h0 : a ≠ 0) (n : Int) : pz a n = pw a (n % 255).toNat := by
  unfold pz; rw [if_neg h0]; split
  · subst_vars; rfl
  · rfl
theorem pz_add {a : Nat} (h : a < 256) (h0 : a ≠ 0) (m n : Int) : pz a (m + n) = gm (pz a m) (pz a n) := by
  rw [pz_of h0, pz_of h0, pz_of h0, ← pw_add h, ← pw_mod h h0 (_ + _)]
  congr 1
  omega
theorem pz_255 {a : Nat} (h0 : a ≠ 0) (m : Int) : pz a (m + 255) = pz a m := by
  rw [pz_of h0, pz_of h0]
  congr 2
  omega
theorem pz_neg1 {a : Nat} (h0 : a ≠ 0) : pz a (-1) = iv a := by rw [pz_of h0, iv, if_neg h0]; rfl

/- Logarithms. -/
theorem ex_pw (n : Nat) : ex n = pw 2 n := by
  induction n with
  | zero => rfl
  | succ n ih => show dbl (ex n) = gm (pw 2 n) 2; rw [ih, gm_two' _ pw_lt]
theorem ex_lt {n : Nat} : ex n < 256 := by rw [ex_pw]; exact pw_lt
def find : Nat → Nat → Nat → Nat → Nat
  | 0, _, n, _ => n
  | k + 1, p, n, a => if p = a then n else find k (dbl p) (n + 1) a
/-- The logarithm of a, to the base 2. -/
def lg (a : Nat) : Nat := find 255 1 0 a
theorem lg' : ∀ a < 256, a ≠ 0 → lg a < 255 ∧ ex (lg a) = a := by decide +kernel
theorem lg_ex' : ∀ n < 255, lg (ex n) = n ∧ ex n ≠ 0 := by decide +kernel
theorem lg_lt {a : Nat} (h : a < 256) (h0 : a ≠ 0) : lg a < 255 := (lg' a h h0).1
theorem pw_lg {a : Nat} (h : a < 256) (h0 : a ≠ 0) : pw 2 (lg a) = a := by rw [← ex_pw]; exact (lg' a h h0).2
theorem lg_mul {a b : Nat} (ha : a < 256) (hb : b < 256) (h0 : a ≠ 0) (k0 : b ≠ 0) : lg (gm a b) = (lg a + lg b) % 255 := by
  conv => lhs; rw [← pw_lg ha h0, ← pw_lg hb k0, ← pw_add (by decide), ← pw_mod (by decide) (by decide), ← ex_pw]
  exact (lg_ex' _ (Nat.mod_lt _ (by decide))).1
end GfM
