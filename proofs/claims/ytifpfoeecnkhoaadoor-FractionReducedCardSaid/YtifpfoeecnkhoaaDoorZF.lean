/- The guard of the laws of layer 2: is a fraction too long to be looked at?
(With the texts that are joined here: Results and errors, in one form. | The shape of a canonical row. | The reference's divide for all divisors, and its Div. | The reference's Gcd. | The reference's Shift. | The operations of package natural, with their errors, answer what the reference answers. | Numbers as the callers of package natural hold them. | Every operation on numbers, of package natural and of the reference, by one answer; the premises are hidden. | Fractions of natural numbers with a sign, as rational numbers. No program is read here. | Fractions in lowest terms: what lowest, sums, comparisons and roundings come to. No program is read here. | Package fraction on numbers: isZero, zerosAtEnd, isPowerOfTwo, plus, minus, times, shift, withoutCommonFactor. | Package fraction on numbers: isZero, plus, minus, times, shift. | Package fraction on numbers: withoutCommonFactor. | Fractions as values and in memory. | Package fraction: lowest. | Package fraction: Valid, sign, sameDenominator. | Package fraction: numerators and commonDenominator. | Sums, products and quotients of fractions: what is computed over a common denominator. No program is walked here. | Package fraction: Add. | Package fraction: Mul and Quo. | Package fraction: Reduce, Make and Sub. | Package fraction: Cmp. | The reference of layer 2: lowest, Make, Valid; the comparison of fractions. | The reference of layer 2: Make, Valid; the comparison of fractions. | Package fraction: Format. | The sanity check of the laws of layer 2.) -/
import Derived.Test.YtifpfoeecnkhoaaDoorR5
import Derived.Test.YtifpfoeecnkhoaaDoorR7
import Derived.Test.YtifpfoeecnkhoaaDoorR11
import Derived.Deep.LoopGhost
import Derived.Test.YtifpfoeecnkhoaaDoorW23
import Derived.Test.YtifpfoeecnkhoaaDoorA2
import Derived.Test.YtifpfoeecnkhoaaDoorPm
import Derived.Test.YtifpfoeecnkhoaaDoorPg
import Derived.Shelf.Spec.TrailingZeros
import Derived.Test.YtifpfoeecnkhoaaDoorA3
import Derived.Deep.RegionHeld3
import Derived.Laws.Concat
import Derived.Test.YtifpfoeecnkhoaaDoorW9

namespace Go.Proofs.YtifpfoeecnkhoaaDoor
open Go.RowKit NatM Go.Proofs.YtifpfoeecnkhoaaDoor.Api

theorem okP_res {w : World} {N : Nat} {e : Ending} {w' : World} (h : OkP w N e w') : ResP w (N, 0) e w' := by
  obtain ⟨v, rfl, h1, h2⟩ := h
  exact ⟨v, rfl, h1, h2⟩
theorem errP_res {w : World} {k : Nat} {e : Ending} {w' : World} (h : ErrP w (k : Nat) e w') : ResP w (0, k) e w' := by
  obtain ⟨rfl, h2⟩ := h
  exact ⟨_, rfl, Num.nil _, h2⟩
end Go.Proofs.YtifpfoeecnkhoaaDoor

namespace Go.Proofs.YtifpfoeecnkhoaaDoor
open Go.RowKit NatM Go.Proofs.YtifpfoeecnkhoaaDoor.Api

theorem num_shape {w : World} {v : Value} {N k : Nat} (h : Num w v N) (hN : N < pw k) : ∃ ao n c, v = .slice ao n c ∧ n ≤ k ∧ (n = 0 ↔ N = 0) := by
  obtain ⟨zs, ⟨ao, n, c, rfl, hl, -⟩, hc, e, l⟩ := num_reads h hN
  refine ⟨ao, n, c, rfl, by omega, ?_⟩
  unfold Canon at hc
  rw [← e, val_eq_zero]; omega
theorem num_nil {w : World} {v : Value} (h : Num w v 0) : ∃ ao c, v = .slice ao 0 c := by
  obtain ⟨ao, n, c, rfl, hn, -⟩ := num_shape (k := 0) h (by decide)
  obtain rfl : n = 0 := by omega
  exact ⟨_, _, rfl⟩
end Go.Proofs.YtifpfoeecnkhoaaDoor

namespace Go.Proofs.YtifpfoeecnkhoaaDoor
open Go.RowKit NatM Go.Proofs.YtifpfoeecnkhoaaDoor.Api
/-- Two results and an error number: with an error both are 0. -/
def ResP2 (w : World) (p : Nat × Nat × Nat) (e : Ending) (w' : World) : Prop := ∃ v u, e = .returned (.tuple #[v, u, .int .i64 (p.2.2 : Nat)]) ∧ Num w' v p.1 ∧ Num w' u p.2.1 ∧ Add w w'
def divS (A B : Nat) : Nat × Nat × Nat := if pw 512 ≤ A ∨ pw 512 ≤ B then (0, 0, 2) else if B = 0 then (0, 0, 3) else (A / B, A % B, 0)
end Go.Proofs.YtifpfoeecnkhoaaDoor

namespace Go.Proofs.YtifpfoeecnkhoaaDoor
open Go.RowKit NatM Go.Proofs.YtifpfoeecnkhoaaDoor.Api

def gcdS (A B : Nat) : Nat × Nat := if pw 512 ≤ A ∨ pw 512 ≤ B then (0, 2) else (Nat.gcd A B, 0)
/-- What the loop of Gcd keeps. -/
def GSt (w : World) (G R : Nat) (x y : Value) (wr : World) : Prop := ∃ X, Num wr x X ∧ Num wr y R ∧ X < pw 512 ∧ R < pw 512 ∧ Nat.gcd X R = G ∧ Add w wr
end Go.Proofs.YtifpfoeecnkhoaaDoor

namespace Go.Proofs.YtifpfoeecnkhoaaDoor
open Go.RowKit NatM Go.Proofs.YtifpfoeecnkhoaaDoor.Api

def shiftS (A : Nat) (n : Int) : Nat × Nat :=
  if pw 512 ≤ A then (0, 2) else if A = 0 ∨ n < -16384 then (0, 0) else if n < 0 then (A / 2 ^ (-n).toNat, 0) else if 16384 < n then (0, 2) else if pw 512 ≤ A * 2 ^ n.toNat then (0, 2) else (A * 2 ^ n.toNat, 0)
end Go.Proofs.YtifpfoeecnkhoaaDoor

namespace Go.Proofs.YtifpfoeecnkhoaaDoor
open Go.RowKit NatM Go.Proofs.YtifpfoeecnkhoaaDoor.Api

theorem natAdd_any (va vb : Value) (xs ys : List Nat) (w : World) (ha : Reads w va xs) (hb : Reads w vb ys) (hs : xs.length ≤ 100000) (hs' : ys.length ≤ 100000) :
    Calls Tryd.prog 36 #[va, vb] w (ResP w (addS (val xs) (val ys))) := by
  by_cases h : val xs + val ys < pw 512
  · unfold addS; rw [if_pos h]
    exact (add_ok va vb xs ys w ha hb (by omega) (by omega) h).mono fun e w' g => okP_res g
  · unfold addS; rw [if_neg h]
    exact (add_big va vb xs ys w ha hb (by omega) (by omega) (by omega)).mono fun e w' g => errP_res (k := 2) g
theorem natSub_any (va vb : Value) (xs ys : List Nat) (w : World) (ha : Reads w va xs) (hb : Reads w vb ys) (hs : xs.length ≤ 100000) (_hs' : ys.length ≤ 100000) :
    Calls Tryd.prog 39 #[va, vb] w (ResP w (subS (val xs) (val ys))) := by
  unfold subS
  by_cases h : pw 512 ≤ val xs ∨ pw 512 ≤ val ys
  · rw [if_pos h]
    exact (sub_big va vb xs ys w ha hb h).mono fun e w' g => errP_res (k := 2) g
  · rw [if_neg h]
    by_cases hl : val xs < val ys
    · rw [if_pos hl]
      exact (sub_neg va vb xs ys w ha hb (by omega) (by omega) hl).mono fun e w' g => errP_res (k := 4) g
    · rw [if_neg hl]
      exact (sub_ok va vb xs ys w ha hb (by omega) (by omega) (by omega) (by omega)).mono fun e w' g => okP_res g
theorem natMul_any (va vb : Value) (xs ys : List Nat) (w : World) (ha : Reads w va xs) (hb : Reads w vb ys) (hs : xs.length ≤ 100000) (hs' : ys.length ≤ 100000) :
    Calls Tryd.prog 40 #[va, vb] w (ResP w (mulS (val xs) (val ys))) := by
  unfold mulS
  by_cases h : pw 512 ≤ val xs ∨ pw 512 ≤ val ys
  · rw [if_pos (by omega)]
    exact (mul_big va vb xs ys w ha hb h).mono fun e w' g => errP_res (k := 2) g
  · obtain ⟨N, hN⟩ : ∃ N, N = val xs * val ys := ⟨_, rfl⟩
    by_cases hl : pw 512 ≤ val xs * val ys
    · rw [if_pos (.inr (.inr hl))]
      exact (mul_over va vb xs ys w ha hb (by omega) (by omega) (by omega) (by omega) hl).mono fun e w' g => errP_res (k := 2) g
    · rw [if_neg (by rw [← hN] at hl ⊢; omega)]
      exact (mul_ok va vb xs ys w ha hb (by omega) (by omega) (by omega) (by omega) (by rw [← hN] at hl ⊢; omega)).mono fun e w' g => okP_res g
theorem natDiv_any (va vb : Value) (xs ys : List Nat) (w : World) (ha : Reads w va xs) (hb : Reads w vb ys) (hs : xs.length ≤ 100000) (hs' : ys.length ≤ 100000) :
    Calls Tryd.prog 52 #[va, vb] w (ResP2 w (divS (val xs) (val ys))) := by
  unfold divS
  by_cases h : pw 512 ≤ val xs ∨ pw 512 ≤ val ys
  · rw [if_pos h]
    refine (div_big va vb xs ys w ha hb h).mono ?_
    rintro e w' ⟨rfl, g⟩
    exact ⟨_, _, rfl, Num.nil _, Num.nil _, g⟩
  · rw [if_neg h]
    by_cases h0 : val ys = 0
    · rw [if_pos h0]
      refine (div_zero va vb xs ys w ha hb (by omega) h0).mono ?_
      rintro e w' ⟨rfl, g⟩
      exact ⟨_, _, rfl, Num.nil _, Num.nil _, g⟩
    · rw [if_neg h0]
      refine (div_ok va vb xs ys w ha hb (by omega) (by omega) (by omega) (by omega) h0).mono ?_
      rintro e w' ⟨vq, vr, rfl, g1, g2, g3⟩
      exact ⟨_, _, rfl, g1, g2, g3⟩
theorem natGcd_any (va vb : Value) (xs ys : List Nat) (w : World) (ha : Reads w va xs) (hb : Reads w vb ys) (hs : xs.length ≤ 100000) (hs' : ys.length ≤ 100000) :
    Calls Tryd.prog 51 #[va, vb] w (ResP w (gcdS (val xs) (val ys))) := by
  unfold gcdS
  by_cases h : pw 512 ≤ val xs ∨ pw 512 ≤ val ys
  · rw [if_pos h]
    exact (gcd_big va vb xs ys w ha hb h).mono fun e w' g => errP_res (k := 2) g
  · rw [if_neg h]
    exact (gcd_ok va vb xs ys w ha hb (by omega) (by omega) (by omega) (by omega)).mono fun e w' g => okP_res g
theorem natShift_any (va : Value) (xs : List Nat) (n : Int) (w : World) (ha : Reads w va xs) (hs : xs.length ≤ 100000) :
    Calls Tryd.prog 63 #[va, .int .i64 n] w (ResP w (shiftS (val xs) n)) := by
  unfold shiftS
  by_cases hA : pw 512 ≤ val xs
  · rw [if_pos hA]
    exact (shift_big va xs n w ha (by omega) hA).mono fun e w' g => errP_res (k := 2) g
  · rw [if_neg hA]
    have hA' : val xs < pw 512 := by omega
    have hnb : nb (val xs) ≤ 16384 := nb_lt_pw.1 hA'
    by_cases h0 : val xs = 0 ∨ n < -16384
    · rw [if_pos h0]
      have hz : nb (val xs) = 0 ∨ n ≤ -(nb (val xs) : Int) := by
        rcases h0 with h | h
        · exact .inl (nb_eq_zero.2 h)
        · exact .inr (by omega)
      exact (shift_zero va xs n w ha (by omega) hA' hz).mono fun e w' g => okP_res g
    · rw [if_neg h0]
      have hnz : nb (val xs) ≠ 0 := fun e => h0 (.inl (nb_eq_zero.1 e))
      have hvz : val xs ≠ 0 := fun e => h0 (.inl e)
      by_cases hneg : n < 0
      · rw [if_pos hneg]
        obtain ⟨k, hk⟩ : ∃ k : Nat, -n = (k : Int) := ⟨(-n).toNat, by omega⟩
        rw [hk, Int.toNat_natCast]
        obtain rfl : n = -(k : Int) := by omega
        rcases Nat.lt_or_ge k (nb (val xs)) with h | h
        · exact (shift_down va xs k w ha (by omega) hA' (by omega) h).mono fun e w' g => okP_res g
        · rw [shift_out h]
          exact (shift_zero va xs _ w ha (by omega) hA' (.inr (by omega))).mono fun e w' g => okP_res g
      · rw [if_neg hneg]
        obtain ⟨k, rfl⟩ : ∃ k : Nat, n = (k : Int) := ⟨n.toNat, by omega⟩
        rw [Int.toNat_natCast]
        have hsh : val xs * 2 ^ k < pw 512 ↔ nb (val xs) + k ≤ 16384 := by rw [nb_lt_pw, nb_shift hvz]
        obtain ⟨N, hN⟩ : ∃ N, N = val xs * 2 ^ k := ⟨_, rfl⟩
        rw [← hN] at hsh ⊢
        rcases Nat.lt_or_ge 16384 (nb (val xs) + k) with h | h
        · have hb : pw 512 ≤ N := by
            rcases Nat.lt_or_ge N (pw 512) with h2 | h2
            · have := hsh.1 h2; omega
            · exact h2
          rw [show (if (16384 : Int) < (k : Int) then ((0, 2) : Nat × Nat) else if pw 512 ≤ N then (0, 2) else (N, 0)) = (0, 2) from by
            rw [if_pos hb]; exact ite_self _]
          exact (shift_over va xs k w ha (by omega) hA' hnz (by omega)).mono fun e w' g => errP_res (k := 2) g
        · have hb := hsh.2 h
          rw [if_neg (by omega), if_neg (by omega), hN]
          exact (shift_up va xs k w ha (by omega) hA' hnz h).mono fun e w' g => okP_res g
end Go.Proofs.YtifpfoeecnkhoaaDoor

namespace Go.Proofs.YtifpfoeecnkhoaaDoor.Api
open Go.Proofs.YtifpfoeecnkhoaaDoor Go.RowKit NatM

/-- v reads in w as a list of limbs with the value N, and is not monstrously long. -/
def Nv (w : World) (v : Value) (N : Nat) : Prop := ∃ xs, Reads w v xs ∧ val xs = N ∧ xs.length ≤ 100000
theorem Nv.mono {w w' : World} {v : Value} {N : Nat} (h : Nv w v N) (hb : Add w w') : Nv w' v N := by
  obtain ⟨xs, h1, h2, h3⟩ := h; exact ⟨xs, h1.mono hb, h2, h3⟩
theorem Nv.nu {w : World} {v : Value} {N : Nat} (h : Nv w v N) : Nu w v N := by
  obtain ⟨xs, h1, h2, h3⟩ := h; exact ⟨xs, h1, h2, by omega⟩
theorem num_nv {w : World} {v : Value} {N : Nat} (h : Num w v N) (hN : N < pw 1000) : Nv w v N := by
  obtain ⟨zs, h1, h2, h3⟩ := h
  refine ⟨zs, h1, h3, ?_⟩
  have : tlen zs ≤ 1000 := tlen_le_of_val 1000 (by rw [h3]; exact hN)
  unfold Canon at h2; omega
theorem Nv.nil (w : World) : Nv w (.slice none 0 0) 0 := ⟨[], Reads.nil w, rfl, by decide⟩
end Go.Proofs.YtifpfoeecnkhoaaDoor.Api

namespace Go.Proofs.YtifpfoeecnkhoaaDoor.Api
open Go.Proofs.YtifpfoeecnkhoaaDoor Go.RowKit NatM

theorem natAddX (p : Nat × Nat) {va vb : Value} {A B : Nat} {w : World} (ha : Nv w va A) (hb : Nv w vb B) (h : Hid (addS A B = p)) : Calls Tryd.prog 36 #[va, vb] w (ResP w p) := by
  obtain ⟨xs, r, rfl, l⟩ := ha
  obtain ⟨ys, r', rfl, l'⟩ := hb
  have := h.out
  subst this
  exact natAdd_any va vb xs ys w r r' l l'
theorem natSubX (p : Nat × Nat) {va vb : Value} {A B : Nat} {w : World} (ha : Nv w va A) (hb : Nv w vb B) (h : Hid (subS A B = p)) : Calls Tryd.prog 39 #[va, vb] w (ResP w p) := by
  obtain ⟨xs, r, rfl, l⟩ := ha
  obtain ⟨ys, r', rfl, l'⟩ := hb
  have := h.out
  subst this
  exact natSub_any va vb xs ys w r r' l l'
theorem natMulX (p : Nat × Nat) {va vb : Value} {A B : Nat} {w : World} (ha : Nv w va A) (hb : Nv w vb B) (h : Hid (mulS A B = p)) : Calls Tryd.prog 40 #[va, vb] w (ResP w p) := by
  obtain ⟨xs, r, rfl, l⟩ := ha
  obtain ⟨ys, r', rfl, l'⟩ := hb
  have := h.out
  subst this
  exact natMul_any va vb xs ys w r r' l l'
theorem refMulX (p : Nat × Nat) {va vb : Value} {A B : Nat} {w : World} (ha : Nv w va A) (hb : Nv w vb B) (h : Hid (mulS A B = p)) : Calls Tryd.prog 7 #[va, vb] w (ResP w p) := by
  obtain ⟨xs, r, rfl, l⟩ := ha
  obtain ⟨ys, r', rfl, l'⟩ := hb
  have := h.out
  subst this
  exact refMul_any va vb xs ys w r r' l l'
theorem natDivX (p : Nat × Nat × Nat) {va vb : Value} {A B : Nat} {w : World} (ha : Nv w va A) (hb : Nv w vb B) (h : Hid (divS A B = p)) : Calls Tryd.prog 52 #[va, vb] w (ResP2 w p) := by
  obtain ⟨xs, r, rfl, l⟩ := ha
  obtain ⟨ys, r', rfl, l'⟩ := hb
  have := h.out
  subst this
  exact natDiv_any va vb xs ys w r r' l l'
theorem natGcdX (p : Nat × Nat) {va vb : Value} {A B : Nat} {w : World} (ha : Nv w va A) (hb : Nv w vb B) (h : Hid (gcdS A B = p)) : Calls Tryd.prog 51 #[va, vb] w (ResP w p) := by
  obtain ⟨xs, r, rfl, l⟩ := ha
  obtain ⟨ys, r', rfl, l'⟩ := hb
  have := h.out
  subst this
  exact natGcd_any va vb xs ys w r r' l l'
theorem natShiftX (p : Nat × Nat) {va : Value} {A : Nat} {n : Int} {w : World} (ha : Nv w va A) (h : Hid (shiftS A n = p)) : Calls Tryd.prog 63 #[va, .int .i64 n] w (ResP w p) := by
  obtain ⟨xs, r, rfl, l⟩ := ha
  have := h.out
  subst this
  exact natShift_any va xs n w r l
theorem natCmpX (X : Int) {va vb : Value} {A B : Nat} {w : World} (ha : Nv w va A) (hb : Nv w vb B) (h : Hid (cmpI A B = X)) : Calls Tryd.prog 23 #[va, vb] w (IntIs w X) := cmpN X ha.nu hb.nu h
theorem natBitsX (X : Nat) {va : Value} {A : Nat} {w : World} (ha : Nv w va A) (h : Hid (nb A = X)) : Calls Tryd.prog 32 #[va] w (IntIs w (X : Nat)) := bitsN X ha.nu h
theorem natMakeX (v : Nat) {w : World} (h : Hid (v < 18446744073709551616)) : Calls Tryd.prog 34 #[.int .u64 (v : Nat)] w (NumP w v) := by
  have h1 := h.out
  exact make_any (v : Nat) w (by omega) (by omega)
theorem natMakeZ (v : Nat) {z : Int} {w : World} (h : Hid (z = (v : Int) ∧ v < 18446744073709551616)) : Calls Tryd.prog 34 #[.int .u64 z] w (NumP w v) := by
  obtain ⟨rfl, h1⟩ := h.out
  exact make_any (v : Nat) w (by omega) (by omega)
theorem natTrimX {va : Value} {A : Nat} {w : World} (ha : Nv w va A) : Calls Tryd.prog 43 #[va] w (NumP w A) := by
  obtain ⟨xs, r, rfl, l⟩ := ha
  refine (trim_any va xs w r (by omega)).mono ?_
  rintro e w' ⟨g, n, rfl, h1, rfl, h3⟩
  refine ⟨_, rfl, ⟨_, h1.reads (by have := tlen_le xs; unfold maxLen; omega) (r.limbs.take _), Canon.trim xs, val_trim xs⟩, h3⟩
theorem refTrimX {va : Value} {A : Nat} {w : World} (ha : Nv w va A) : Calls Tryd.prog 13 #[va] w (NumP w A) := by
  obtain ⟨xs, r, rfl, l⟩ := ha
  refine (refTrim_any va xs w r (by omega)).mono ?_
  rintro e w' ⟨v1, rfl, n1, h1⟩
  exact ⟨v1, rfl, n1.num, h1⟩
end Go.Proofs.YtifpfoeecnkhoaaDoor.Api

namespace NatM

/-- A natural number with a sign. -/
def sgq (neg : Bool) (N : Nat) : Int := if neg then -(N : Int) else N
/-- The value of a fraction. -/
def frac (neg : Bool) (N D : Nat) : Rat := mkRat (sgq neg N) D
theorem sgq_abs (neg : Bool) (N : Nat) : (sgq neg N).natAbs = N := by cases neg <;> simp [sgq]
theorem sgq_zero (neg : Bool) : sgq neg 0 = 0 := by cases neg <;> simp [sgq]
theorem sgq_not (neg : Bool) (N : Nat) : sgq (!neg) N = -sgq neg N := by cases neg <;> simp [sgq]
theorem sgq_div {neg : Bool} {N g : Nat} (h : g ∣ N) : sgq neg N / (g : Int) = sgq neg (N / g) := by
  obtain ⟨k, rfl⟩ := h
  rcases Nat.eq_zero_or_pos g with h0 | h0
  · subst h0; simp [sgq]
  · rw [Nat.mul_div_cancel_left _ h0]
    have hg : (g : Int) ≠ 0 := by omega
    cases neg
    · simp only [sgq, Int.natCast_mul, Bool.false_eq_true, if_false]
      exact Int.mul_ediv_cancel_left _ hg
    · simp only [sgq, Int.natCast_mul, if_true]
      rw [← Int.mul_neg]
      exact Int.mul_ediv_cancel_left _ hg
theorem frac_num {neg : Bool} {N D : Nat} (hD : D ≠ 0) : (frac neg N D).num = sgq neg (N / Nat.gcd N D) := by
  unfold frac
  rw [Rat.num_mkRat, if_neg hD, sgq_abs, Nat.gcd_comm]
  exact sgq_div (Nat.gcd_dvd_left N D)
theorem frac_den {neg : Bool} {N D : Nat} (hD : D ≠ 0) : (frac neg N D).den = D / Nat.gcd N D := by
  unfold frac
  rw [Rat.den_mkRat, if_neg hD, sgq_abs, Nat.gcd_comm]
theorem frac_abs {neg : Bool} {N D : Nat} (hD : D ≠ 0) : (frac neg N D).num.natAbs = N / Nat.gcd N D := by rw [frac_num hD, sgq_abs]
theorem frac_zero (neg : Bool) (D : Nat) : frac neg 0 D = 0 := by unfold frac; rw [sgq_zero, Rat.zero_mkRat]
theorem frac_eq_zero {neg : Bool} {N D : Nat} (hD : D ≠ 0) : frac neg N D = 0 ↔ N = 0 := by
  unfold frac
  rw [Rat.mkRat_eq_zero hD]
  constructor
  · intro h; rw [← sgq_abs neg N, h]; rfl
  · rintro rfl; exact sgq_zero _
theorem frac_sign {neg : Bool} {N D : Nat} (hD : D ≠ 0) (hN : N ≠ 0) : decide ((frac neg N D).num < 0) = neg := by
  rw [frac_num hD]
  have hg : 0 < N / Nat.gcd N D := Nat.div_pos (Nat.gcd_le_left _ (Nat.pos_of_ne_zero hN)) (Nat.gcd_pos_of_pos_left _ (Nat.pos_of_ne_zero hN))
  cases neg
  · simp only [sgq, Bool.false_eq_true, if_false, decide_eq_false_iff_not]; omega
  · simp only [sgq, if_true, decide_eq_true_eq]; omega
theorem frac_scale {neg : Bool} {N D k : Nat} (hk : k ≠ 0) : frac neg (N * k) (D * k) = frac neg N D := by
  unfold frac
  have : sgq neg (N * k) = sgq neg N * (k : Int) := by cases neg <;> simp [sgq, Int.neg_mul]
  rw [this, Rat.mkRat_mul_right hk]
theorem frac_not (neg : Bool) (N D : Nat) : frac (!neg) N D = -frac neg N D := by
  unfold frac; rw [sgq_not, Rat.neg_mkRat]
theorem sgq_mul (m n : Bool) (N M : Nat) : sgq (m != n) (N * M) = sgq m N * sgq n M := by
  cases m <;> cases n <;> simp [sgq, Int.neg_mul, Int.mul_neg]
theorem frac_mul (m n : Bool) (N D M E : Nat) : frac m N D * frac n M E = frac (m != n) (N * M) (D * E) := by
  unfold frac; rw [Rat.mkRat_mul_mkRat, sgq_mul]
theorem frac_inv {m : Bool} {N D : Nat} (hN : N ≠ 0) (hD : D ≠ 0) : (frac m N D)⁻¹ = frac m D N := by
  apply Rat.inv_eq_of_mul_eq_one
  rw [frac_mul, Nat.mul_comm D N]
  have : (m != m) = false := by cases m <;> rfl
  rw [this]
  have h := frac_scale (neg := false) (N := 1) (D := 1) (k := N * D) (Nat.mul_ne_zero hN hD)
  rw [Nat.one_mul] at h
  rw [h]; rfl
theorem frac_quo {m n : Bool} {N D M E : Nat} (hM : M ≠ 0) (hE : E ≠ 0) : frac m N D / frac n M E = frac (m != n) (N * E) (D * M) := by
  rw [Rat.div_def, frac_inv hM hE, frac_mul]
theorem frac_add {m n : Bool} {N D M E : Nat} (hD : D ≠ 0) (hE : E ≠ 0) : frac m N D + frac n M E = mkRat (sgq m N * E + sgq n M * D) (D * E) := by
  unfold frac; rw [Rat.mkRat_add_mkRat _ _ hD hE]
/-- The three ways of a sum, over a common denominator. -/
theorem sgq_add_same (m : Bool) (N M : Nat) : sgq m N + sgq m M = sgq m (N + M) := by
  cases m <;> simp [sgq] <;> omega
theorem sgq_add_ge {m n : Bool} {N M : Nat} (h : m ≠ n) (hNM : M ≤ N) : sgq m N + sgq n M = sgq m (N - M) := by
  cases m <;> cases n <;> simp [sgq] at h ⊢ <;> omega
theorem sgq_add_lt {m n : Bool} {N M : Nat} (h : m ≠ n) (hNM : N ≤ M) : sgq m N + sgq n M = sgq n (M - N) := by
  cases m <;> cases n <;> simp [sgq] at h ⊢ <;> omega
theorem sgq_mul_nat (m : Bool) (N k : Nat) : sgq m N * (k : Int) = sgq m (N * k) := by cases m <;> simp [sgq, Int.neg_mul]
theorem frac_add_same {m : Bool} {N D M E : Nat} (hD : D ≠ 0) (hE : E ≠ 0) : frac m N D + frac m M E = frac m (N * E + M * D) (D * E) := by
  rw [frac_add hD hE, sgq_mul_nat, sgq_mul_nat, sgq_add_same]; rfl
theorem frac_add_ge {m n : Bool} {N D M E : Nat} (hD : D ≠ 0) (hE : E ≠ 0) (h : m ≠ n) (hl : M * D ≤ N * E) : frac m N D + frac n M E = frac m (N * E - M * D) (D * E) := by
  rw [frac_add hD hE, sgq_mul_nat, sgq_mul_nat, sgq_add_ge h hl]; rfl
theorem frac_add_lt {m n : Bool} {N D M E : Nat} (hD : D ≠ 0) (hE : E ≠ 0) (h : m ≠ n) (hl : N * E ≤ M * D) : frac m N D + frac n M E = frac n (M * D - N * E) (D * E) := by
  rw [frac_add hD hE, sgq_mul_nat, sgq_mul_nat, sgq_add_lt h hl]; rfl
theorem frac_add_den {m : Bool} {N M D : Nat} (hD : D ≠ 0) : frac m N D + frac m M D = frac m (N + M) D := by
  rw [frac_add_same hD hD, ← Nat.add_mul, frac_scale hD]
theorem frac_lt {m n : Bool} {N D M E : Nat} (hD : D ≠ 0) (hE : E ≠ 0) : frac m N D < frac n M E ↔ sgq m N * E < sgq n M * D := by
  unfold frac
  rw [Rat.mkRat_eq_div, Rat.mkRat_eq_div]
  have hD' : (0 : Rat) < (D : Rat) := Rat.natCast_pos.2 (Nat.pos_of_ne_zero hD)
  have hE' : (0 : Rat) < (E : Rat) := Rat.natCast_pos.2 (Nat.pos_of_ne_zero hE)
  rw [Rat.div_lt_iff hD']
  have e : ((sgq n M : Int) : Rat) / (E : Rat) * (D : Rat) = ((sgq n M * (D : Int) : Int) : Rat) / (E : Rat) := by
    rw [Rat.intCast_mul, Rat.intCast_natCast, Rat.div_def, Rat.div_def, Rat.mul_assoc, Rat.mul_assoc, Rat.mul_comm ((E : Rat)⁻¹)]
  rw [e, Rat.lt_div_iff hE', ← Rat.intCast_natCast, ← Rat.intCast_mul, Rat.intCast_lt_intCast]
theorem frac_eq {m n : Bool} {N D M E : Nat} (hD : D ≠ 0) (hE : E ≠ 0) : frac m N D = frac n M E ↔ sgq m N * E = sgq n M * D := by
  unfold frac; exact Rat.mkRat_eq_iff hD hE
theorem frac_self (q : Rat) : frac (decide (q.num < 0)) q.num.natAbs q.den = q := by
  unfold frac
  have : sgq (decide (q.num < 0)) q.num.natAbs = q.num := by
    by_cases h : q.num < 0
    · simp only [sgq, h, decide_true, if_true]; omega
    · simp only [sgq, h, decide_false, Bool.false_eq_true, if_false]; omega
  rw [this, Rat.mkRat_self]
/-- The parts of q are short. -/
def Fits (k : Nat) (q : Rat) : Prop := q.num.natAbs < pw k ∧ q.den < pw k
end NatM

namespace NatM

/-- The parts of a fraction in lowest terms: sign, numerator, denominator. -/
def can (q : Rat) : Bool × Nat × Nat := (decide (q.num < 0), q.num.natAbs, q.den)
/-- A result: the parts, or an error number. -/
def fitQ (q : Rat) : (Bool × Nat × Nat) × Nat := if pw 128 ≤ q.num.natAbs ∨ pw 128 ≤ q.den then ((false, 0, 0), 2) else (can q, 0)

theorem can_zero (neg : Bool) (D : Nat) : can (frac neg 0 D) = (false, 0, 1) := by rw [frac_zero]; rfl
theorem can_frac {neg : Bool} {N D : Nat} (hN : N ≠ 0) (hD : D ≠ 0) : can (frac neg N D) = (neg, N / Nat.gcd N D, D / Nat.gcd N D) := by
  unfold can
  rw [frac_sign hD hN, frac_abs hD, frac_den hD]
theorem can_inj {p q : Rat} (h : can p = can q) : p = q := by
  rw [← frac_self p, ← frac_self q]
  unfold can at h
  simp only [Prod.mk.injEq] at h
  rw [h.1, h.2.1, h.2.2]
theorem fitQ_zero (neg : Bool) (D : Nat) : fitQ (frac neg 0 D) = ((false, 0, 1), 0) := by
  rw [frac_zero]
  unfold fitQ
  have h1 : pw 1 = 4294967296 := by decide
  have h2 : pw 1 ≤ pw 128 := pw_le (by decide)
  rw [if_neg (by simp only [Rat.zero_num, Rat.zero_den, Int.natAbs_zero]; omega)]
  rfl
theorem fitQ_frac {neg : Bool} {N D X Y : Nat} (hN : N ≠ 0) (hD : D ≠ 0) (hX : N / Nat.gcd N D = X) (hY : D / Nat.gcd N D = Y) :
    fitQ (frac neg N D) = if pw 128 ≤ X ∨ pw 128 ≤ Y then ((false, 0, 0), 2) else ((neg, X, Y), 0) := by
  unfold fitQ
  rw [can_frac hN hD, frac_abs hD, frac_den hD, hX, hY]

/-- 2 divides A just z times. -/
def Tz (A z : Nat) : Prop := ∃ u, A = 2 ^ z * (2 * u + 1)
theorem Tz.ne {A z : Nat} (h : Tz A z) : A ≠ 0 := by
  obtain ⟨u, rfl⟩ := h
  exact Nat.mul_ne_zero (Nat.pos_iff_ne_zero.1 (Nat.two_pow_pos z)) (by omega)
theorem Tz.div {A z k : Nat} (h : Tz A z) (hk : k ≤ z) : 2 ^ k * (A / 2 ^ k) = A ∧ Tz (A / 2 ^ k) (z - k) := by
  obtain ⟨u, rfl⟩ := h
  obtain ⟨d, rfl⟩ : ∃ d, z = k + d := ⟨z - k, by omega⟩
  have e : 2 ^ (k + d) * (2 * u + 1) = 2 ^ k * (2 ^ d * (2 * u + 1)) := by rw [Nat.pow_add, Nat.mul_assoc]
  rw [e, Nat.mul_div_cancel_left _ (Nat.two_pow_pos k), Nat.add_sub_cancel_left]
  exact ⟨rfl, u, rfl⟩
theorem Tz.pow {A z : Nat} (h : Tz A z) (hz : nb A ≤ z + 1) : A = 2 ^ z := by
  obtain ⟨u, rfl⟩ := h
  have h1 := lt_nb (2 ^ z * (2 * u + 1))
  have h2 : 2 ^ nb (2 ^ z * (2 * u + 1)) ≤ 2 ^ (z + 1) := Nat.pow_le_pow_right (by decide) hz
  rw [Nat.pow_succ] at h2
  have h3 : 2 ^ z * (2 * u + 1) < 2 ^ z * 2 := by omega
  have h4 : 2 * u + 1 < 2 := Nat.lt_of_mul_lt_mul_left h3
  have h5 : u = 0 := by omega
  rw [h5, Nat.mul_zero, Nat.zero_add, Nat.mul_one]
theorem Tz.le {A z : Nat} (h : Tz A z) : z + 1 ≤ nb A := by
  obtain ⟨u, rfl⟩ := h
  refine lt_nb_of_le ?_
  exact Nat.le_mul_of_pos_right _ (by omega)
theorem odd_coprime (j u : Nat) : Nat.gcd (2 ^ j) (2 * u + 1) = 1 := by
  refine Nat.Coprime.pow_left j ?_
  show Nat.gcd 2 (2 * u + 1) = 1
  rw [Nat.gcd_mul_left_add_right]
  rfl
/-- A power of two and a number, one of them odd, have no common factor. -/
theorem pow_coprime {A B za zb : Nat} (hB : Tz B zb) (h0 : za = 0 ∨ zb = 0) (hp : A = 2 ^ za) : Nat.gcd A B = 1 := by
  rcases h0 with h | h
  · rw [hp, h]; simp
  · obtain ⟨u, rfl⟩ := hB
    rw [hp, h, Nat.pow_zero, Nat.one_mul]
    exact odd_coprime _ _
/-- Common factors 2 may be taken out first. -/
theorem gcd_out {A B k A' B' : Nat} (hA : 2 ^ k * A' = A) (hB : 2 ^ k * B' = B) : A / Nat.gcd A B = A' / Nat.gcd A' B' ∧ B / Nat.gcd A B = B' / Nat.gcd A' B' := by
  rw [← hA, ← hB, Nat.gcd_mul_left, Nat.mul_div_mul_left _ _ (Nat.two_pow_pos k), Nat.mul_div_mul_left _ _ (Nat.two_pow_pos k)]
  exact ⟨rfl, rfl⟩

theorem val_take_zeros {xs : List Nat} {i : Nat} (h0 : ∀ j, j < i → xs.getD j 0 = 0) : val (xs.take i) = 0 := by
  induction i with
  | zero => rfl
  | succ i ih => rw [val_take_succ, ih fun j hj => h0 j (by omega), h0 i (by omega), Nat.mul_zero]
theorem two_split {T Q P V u : Nat} (h32 : 4294967296 = T * (2 * Q)) : P * (T * (2 * u + 1)) + 4294967296 * P * V = P * T * (2 * (u + Q * V) + 1) := by
  rw [h32]; grind
/-- Zero limbs ahead of one that is not 0. -/
theorem tz_limbs {xs : List Nat} {i x t u : Nat} (hi : i < xs.length) (h0 : ∀ j, j < i → xs.getD j 0 = 0) (hxe : x = xs.getD i 0) (hxt : x = 2 ^ t * (2 * u + 1)) (ht : t < 32) : Tz (val xs) (32 * i + t) := by
  have e1 : val xs = val (xs.take (i + 1)) + pw (i + 1) * val (xs.drop (i + 1)) := val_take_drop xs (i + 1) hi
  rw [val_take_succ, val_take_zeros h0, ← hxe, Nat.zero_add, pw_succ, hxt, pw_two i] at e1
  refine ⟨u + 2 ^ (31 - t) * val (xs.drop (i + 1)), ?_⟩
  have h32 : 4294967296 = 2 ^ t * (2 * 2 ^ (31 - t)) := by
    rw [← Nat.pow_succ', ← Nat.pow_add, show t + (31 - t + 1) = 32 by omega]
  rw [e1, Nat.pow_add]
  exact two_split h32

/-! Sums over a common denominator. -/
theorem frac_same {m : Bool} {N D a den : Nat} (hD : D ≠ 0) (hd : den ≠ 0) (h : N * den = a * D) : frac m N D = frac m a den := by
  rw [frac_eq hD hd, sgq_mul_nat, sgq_mul_nat, h]
theorem frac_add_com {m n : Bool} {a b den : Nat} (hd : den ≠ 0) : frac m a den + frac n b den = mkRat (sgq m a + sgq n b) den := by
  rw [frac_add hd hd, ← Int.add_mul, Rat.mkRat_mul_right hd]
theorem sum_same {m : Bool} {a b den : Nat} (hd : den ≠ 0) : frac m a den + frac m b den = frac m (a + b) den := by
  rw [frac_add_com hd, sgq_add_same]; rfl
theorem sum_ge {m n : Bool} {a b den : Nat} (hd : den ≠ 0) (h : m ≠ n) (hl : b ≤ a) : frac m a den + frac n b den = frac m (a - b) den := by
  rw [frac_add_com hd, sgq_add_ge h hl]; rfl
theorem sum_lt {m n : Bool} {a b den : Nat} (hd : den ≠ 0) (h : m ≠ n) (hl : a ≤ b) : frac m a den + frac n b den = frac n (b - a) den := by
  rw [frac_add_com hd, sgq_add_lt h hl]; rfl

/-! Comparisons. -/
def cmpQ (p q : Rat) : Int := if p < q then -1 else if p = q then 0 else 1
theorem cmpQ_lt {p q : Rat} (h : p < q) : cmpQ p q = -1 := by unfold cmpQ; rw [if_pos h]
theorem cmpQ_eq {p q : Rat} (h : p = q) : cmpQ p q = 0 := by unfold cmpQ; rw [if_neg (by rw [h]; exact Rat.lt_irrefl), if_pos h]
theorem cmpQ_gt {p q : Rat} (h : q < p) : cmpQ p q = 1 := by
  unfold cmpQ
  rw [if_neg (Rat.not_lt.2 (Rat.le_of_lt h)), if_neg (Rat.ne_of_gt h)]
theorem cmpQ_frac {m n : Bool} {a b den : Nat} (hd : den ≠ 0) : cmpQ (frac m a den) (frac n b den) = if sgq m a < sgq n b then -1 else if sgq m a = sgq n b then 0 else 1 := by
  have hd' : (0 : Int) < (den : Int) := by omega
  have h1 : frac m a den < frac n b den ↔ sgq m a < sgq n b := by
    rw [frac_lt hd hd]; exact Int.mul_lt_mul_right hd'
  have h2 : frac m a den = frac n b den ↔ sgq m a = sgq n b := by
    rw [frac_eq hd hd]; exact ⟨fun h => Int.eq_of_mul_eq_mul_right (by omega) h, fun h => by rw [h]⟩
  unfold cmpQ
  simp only [h1, h2]
def signQ (q : Rat) : Int := cmpQ q 0
theorem signQ_frac {m : Bool} {N D : Nat} (hD : D ≠ 0) : signQ (frac m N D) = if N = 0 then 0 else if m then -1 else 1 := by
  unfold signQ
  rw [← frac_zero false D, cmpQ_frac hD]
  cases m <;> simp [sgq] <;> split <;> first | omega | (split <;> omega) | simp_all
end NatM

namespace Go.Proofs.YtifpfoeecnkhoaaDoor
open Go.RowKit NatM Go.Proofs.YtifpfoeecnkhoaaDoor.Api

/-- Go's table of package math/bits lies in its variable. -/
def Tab (w : World) : Prop := 1 < w.heap.size ∧ ∀ j, j < 32 → w.cell? ⟨1, j, none⟩ = some (.int .u8 (Lib.deBruijn32tab.getD j 0 : Nat))
theorem Tab.mono {w w' : World} (h : Tab w) (hb : Add w w') : Tab w' :=
  ⟨Nat.lt_of_lt_of_le h.1 hb.size, fun j hj => (hb.cell (p := ⟨_, j, none⟩) h.1).trans (h.2 j hj)⟩

theorem tz32_core (x k idx : Nat) (w : World) (hx0 : ((x : Int) == 0) = false)
    (key : bits BinOp.and IntKind.u32 (x : Int) (-(x : Int) % 4294967296) * 125613361 % 4294967296 / 134217728 = (idx : Int))
    (hi : idx < 32) (_hk : k < 32) (hcell : w.cell? ⟨1, idx, none⟩ = some (.int .u8 (k : Nat))) :
    Calls Tryd.prog 62 #[.int .u32 (x : Nat)] w (IntP w k) := by
  go_enter Tryd.func62, Tryd.ntmps62
  go_wp2_with (simp only [key])
  go_ret
  exact ⟨rfl, rfl⟩
/-- How often 2 divides a limb. -/
def TzP (w : World) (x : Nat) (e : Ending) (w' : World) : Prop := ∃ t u : Nat, e = .returned (.int .i64 (t : Nat)) ∧ x = 2 ^ t * (2 * u + 1) ∧ t < 32 ∧ w = w'
theorem tz32_any (x : Nat) (w : World) (hx : x < 4294967296) (hx0 : x ≠ 0) (hT : Tab w) : Calls Tryd.prog 62 #[.int .u32 (x : Nat)] w (TzP w x) := by
  obtain ⟨hlow, hk⟩ := Lib.lowest_bit 32 x hx0 hx
  obtain ⟨hi, htab⟩ := Lib.deBruijn32_at _ hk
  have hcell := hT.2 _ hi
  rw [htab] at hcell
  obtain ⟨u, hu, -⟩ := Lib.ctzFrom_spec 32 x (by omega) hx
  have e : Lib.ctz 32 x = Lib.ctzFrom 32 x := by simp [Lib.ctz, hx0]
  refine (tz32_core x _ _ w (by simp; omega) (tz32_key x _ hx hx0 hlow) hi hk hcell).mono ?_
  rintro e' w' ⟨rfl, rfl⟩
  exact ⟨Lib.ctz 32 x, u, rfl, by rw [e]; exact hu, hk, rfl⟩

/-- A call that returns how often 2 divides A. -/
def TzI (w : World) (A : Nat) (e : Ending) (w' : World) : Prop := ∃ z : Nat, e = .returned (.int .i64 (z : Nat)) ∧ Tz A z ∧ z ≤ 40000000 ∧ Add w w'
set_option maxRecDepth 100000 in
set_option maxHeartbeats 1000000 in
theorem zerosAtEnd_any (va : Value) (xs : List Nat) (w : World) (ha : Reads w va xs) (hs : xs.length ≤ 1000000) (h0 : val xs ≠ 0) (hT : Tab w) :
    Calls Tryd.prog 48 #[va] w (TzI w (val xs)) := by
  have hx := ha.limbs
  obtain ⟨aa, n, c, rfl, hl, hc, hm, -, hr⟩ := ha
  unfold maxLen at hm
  have HX := Lib.hid hx
  have HL := Lib.hid hl
  have HR := Lib.hid hr
  have H0 := Lib.hid h0
  have hn : n ≤ 1000000 := by omega
  clear hx hl hr h0 hs hc hm
  go_enter Tryd.func48, Tryd.ntmps48
  go_wp2_with fail
  go_loop [3] (fun i => ∃ k : Nat, i = .int .i64 (k : Nat) ∧ ∀ j, j < k → xs.getD j 0 = 0) (fun i => n - (intOf i).toNat)
  case atStart => exact ⟨0, rfl, fun j hj => absurd hj (Nat.not_lt_zero _)⟩
  case round =>
    obtain ⟨k, rfl, hz⟩ := hrel
    have hk : k < n := by
      rcases Nat.lt_or_ge k n with h | h
      · exact h
      · exfalso
        have h1 := val_take_zeros (xs := xs) (i := xs.length) fun j hj => hz j (by have := HL.out; omega)
        rw [List.take_length] at h1
        exact H0.out h1
    obtain ⟨b, off, rfl, hcell⟩ := HR.out (by omega)
    have hc1 := hcell k hk
    obtain ⟨x, hxe⟩ : ∃ x, x = xs.getD k 0 := ⟨_, rfl⟩
    rw [← hxe] at hc1
    have hxl : x < 4294967296 := by rw [hxe]; exact HX.out.getD _
    have HXE := Lib.hid hxe
    have HZ := Lib.hid hz
    clear hcell hxe hz
    by_cases hx0 : x = 0
    · subst hx0
      go_wp2_with fail
      go_round
      case rel =>
        refine ⟨k + 1, by go_num, fun j hj => ?_⟩
        rcases Nat.lt_or_ge j k with h | h
        · exact HZ.out j h
        · obtain rfl : j = k := by omega
          exact HXE.out.symm
      case measure => simp [intOf]; omega
    · have hne : ((x : Int) == 0) = false := by simp; omega
      have HC := Lib.hid (tz32_any x w hxl hx0 hT)
      clear hxl hx0
      go_wp2_with fail
      refine HC.out.mono ?_
      rintro e w' ⟨t, u, rfl, hxt, ht, rfl⟩
      have hF : TzI w (val xs) (.returned (.int .i64 ((32 * k + t : Nat) : Int))) w := ⟨_, rfl, tz_limbs (by rw [HL.out]; omega) HZ.out HXE.out hxt ht, by omega, Below.refl _ _⟩
      have e1 : (32 : Int) * (k : Int) + (t : Int) = ((32 * k + t : Nat) : Int) := by omega
      have HF := Lib.hid hF
      have E1 := Lib.hid e1
      clear hxt hF HC e1
      go_wp2_with fail
      go_ret
      rw [E1.out]
      exact HF.out

/-- A is a power of two. -/
def pow2 (A : Nat) : Bool := decide (A = 2 ^ (nb A - 1))
theorem pow2_tz {A z : Nat} (h : Tz A z) : pow2 A = decide ((z : Int) = (nb A : Int) - 1) := by
  have h1 := h.le
  unfold pow2
  rw [decide_eq_decide]
  constructor
  · intro e
    obtain ⟨u, hu⟩ := id h
    rcases Nat.lt_or_ge z (nb A - 1) with h2 | h2
    · exfalso
      obtain ⟨d, hd⟩ : ∃ d, nb A - 1 = z + (d + 1) := ⟨nb A - 1 - z - 1, by omega⟩
      rw [hd, Nat.pow_add, Nat.pow_succ] at e
      have e2 : 2 ^ z * (2 * u + 1) = 2 ^ z * (2 ^ d * 2) := hu.symm.trans e
      have := Nat.eq_of_mul_eq_mul_left (Nat.two_pow_pos z) e2
      omega
    · omega
  · intro e
    have e2 := h.pow (by omega)
    have e3 : nb A - 1 = z := by omega
    rw [e3]; exact e2
set_option maxRecDepth 100000 in
theorem isPowerOfTwo_any (va : Value) (xs : List Nat) (w : World) (ha : Reads w va xs) (hs : xs.length ≤ 1000000) (h0 : val xs ≠ 0) (hT : Tab w) :
    Calls Tryd.prog 50 #[va] w (BoolIs w (pow2 (val xs))) := by
  have HZ := Lib.hid (zerosAtEnd_any va xs w ha hs h0 hT)
  have HB := fun w1 (h : Add w w1) => Lib.hid (bits_any va xs w1 (ha.mono h) hs)
  have hnb : nb (val xs) ≤ 32000000 := by
    have h1 := val_lt ha.limbs
    have h2 := Nat.le_trans (nb_lt_pw.1 h1) (Nat.mul_le_mul_left 32 hs)
    omega
  obtain ⟨A, hA⟩ : ∃ A, A = val xs := ⟨_, rfl⟩
  rw [← hA] at HZ hnb ⊢
  simp only [← hA] at HB
  obtain ⟨N, hN⟩ : ∃ N, N = nb A := ⟨_, rfl⟩
  simp only [← hN] at HB hnb
  have HN := Lib.hid hN
  clear hA hN h0 hT ha
  go_enter Tryd.func50, Tryd.ntmps50
  go_wp2_with fail
  refine HZ.out.mono ?_
  rintro e w1 ⟨z, rfl, hz, hzb, h1⟩
  have hp := pow2_tz hz
  rw [← HN.out] at hp
  have HP := Lib.hid hp
  have HADD := Lib.hid h1
  clear hp hz
  go_wp2_with fail
  refine (HB _ h1).out.mono ?_
  rintro e w2 ⟨rfl, rfl⟩
  clear h1
  by_cases hc : (z : Int) = (N : Int) - 1
  · have hF : BoolIs w (pow2 A) (.returned (.bool true)) w2 := ⟨by rw [HP.out, decide_eq_true hc], HADD.out⟩
    have dc : ((z : Int) == (N : Int) - 1) = true := by simp [hc]
    clear hc
    go_wp2_with fail
    go_ret
    exact hF
  · have hF : BoolIs w (pow2 A) (.returned (.bool false)) w2 := ⟨by rw [HP.out, decide_eq_false hc], HADD.out⟩
    have dc : ((z : Int) == (N : Int) - 1) = false := by simp; omega
    clear hc
    go_wp2_with fail
    go_ret
    exact hF
end Go.Proofs.YtifpfoeecnkhoaaDoor

namespace Go.Proofs.YtifpfoeecnkhoaaDoor
open Go.RowKit NatM Go.Proofs.YtifpfoeecnkhoaaDoor.Api

theorem isZeroN (b : Bool) {va : Value} {A : Nat} {w : World} (ha : Nv w va A) (h : Hid (decide (A = 0) = b)) : Calls Tryd.prog 25 #[va] w (BoolIs w b) := by
  obtain ⟨X, hX⟩ : ∃ X, nb A = X := ⟨_, rfl⟩
  have HB := Lib.hid (bitsN X ha.nu (Lib.hid hX))
  have hb := h.out
  have h0 : decide ((X : Int) = 0) = b := by
    rw [← hb, decide_eq_decide, ← hX]
    have := nb_eq_zero (n := A)
    omega
  have hc : ((X : Int) == 0) = b := by rw [← h0]; rfl
  clear ha h hb h0 hX
  go_enter Tryd.func25, Tryd.ntmps25
  go_wp2_with fail
  refine HB.out.mono ?_
  rintro e w1 ⟨rfl, h1⟩
  clear HB
  go_wp2_with fail
  go_ret
  exact ⟨rfl, h1⟩
theorem plusF {va vb : Value} {A B : Nat} {w : World} (ha : Nv w va A) (hb : Nv w vb B) (h : Hid (A + B < pw 512)) : Calls Tryd.prog 22 #[va, vb] w (NumP w (A + B)) := by
  have HC := Lib.hid (addN ha.nu hb.nu h)
  obtain ⟨N, hN⟩ : ∃ N, A + B = N := ⟨_, rfl⟩
  rw [hN] at HC ⊢
  clear ha hb h hN
  go_enter Tryd.func22, Tryd.ntmps22
  go_wp2_with fail
  refine HC.out.mono ?_
  rintro e w1 ⟨v, rfl, n1, -, h1⟩
  have hF : NumP w N (.returned v) w1 := ⟨v, rfl, n1, h1⟩
  clear HC n1 h1
  go_wp2_with fail
  go_ret
  exact hF
theorem minusF {va vb : Value} {A B : Nat} {w : World} (ha : Nv w va A) (hb : Nv w vb B) (h : Hid (A < pw 512 ∧ B ≤ A)) : Calls Tryd.prog 24 #[va, vb] w (NumP w (A - B)) := by
  have HC := Lib.hid (subN ha.nu hb.nu h)
  obtain ⟨N, hN⟩ : ∃ N, A - B = N := ⟨_, rfl⟩
  rw [hN] at HC ⊢
  clear ha hb h hN
  go_enter Tryd.func24, Tryd.ntmps24
  go_wp2_with fail
  refine HC.out.mono ?_
  rintro e w1 ⟨v, rfl, n1, -, h1⟩
  have hF : NumP w N (.returned v) w1 := ⟨v, rfl, n1, h1⟩
  clear HC n1 h1
  go_wp2_with fail
  go_ret
  exact hF
theorem timesF {va vb : Value} {A B : Nat} {w : World} (ha : Nv w va A) (hb : Nv w vb B) (h : Hid (A < pw 512 ∧ B < pw 512 ∧ A * B < pw 512)) : Calls Tryd.prog 26 #[va, vb] w (NumP w (A * B)) := by
  have HC := Lib.hid (mulN ha.nu hb.nu h)
  obtain ⟨N, hN⟩ : ∃ N, A * B = N := ⟨_, rfl⟩
  rw [hN] at HC ⊢
  clear ha hb h hN
  go_enter Tryd.func26, Tryd.ntmps26
  go_wp2_with fail
  refine HC.out.mono ?_
  rintro e w1 ⟨v, rfl, n1, -, h1⟩
  have hF : NumP w N (.returned v) w1 := ⟨v, rfl, n1, h1⟩
  clear HC n1 h1
  go_wp2_with fail
  go_ret
  exact hF
theorem shiftF (N : Nat) (z : Int) {va : Value} {w : World} (HC : Hid (Calls Tryd.prog 63 #[va, .int .i64 z] w (OkN w N))) : Calls Tryd.prog 49 #[va, .int .i64 z] w (NumP w N) := by
  go_enter Tryd.func49, Tryd.ntmps49
  go_wp2_with fail
  refine HC.out.mono ?_
  rintro e w1 ⟨v, rfl, n1, -, h1⟩
  have hF : NumP w N (.returned v) w1 := ⟨v, rfl, n1, h1⟩
  clear HC n1 h1
  go_wp2_with fail
  go_ret
  exact hF
theorem shiftDownF (N k : Nat) {va : Value} {A : Nat} {w : World} (ha : Nv w va A) (h : Hid (A < pw 512 ∧ A / 2 ^ k = N)) : Calls Tryd.prog 49 #[va, .int .i64 (-(k : Int))] w (NumP w N) :=
  shiftF N _ (Lib.hid (downN N k ha.nu h))
end Go.Proofs.YtifpfoeecnkhoaaDoor

namespace Go.Proofs.YtifpfoeecnkhoaaDoor
open Go.RowKit NatM Go.Proofs.YtifpfoeecnkhoaaDoor.Api

/-- Two numbers. -/
def NumP2 (w : World) (X Y : Nat) (e : Ending) (w' : World) : Prop := ∃ vx vy, e = .returned (.tuple #[vx, vy]) ∧ Num w' vx X ∧ Num w' vy Y ∧ Add w w'
theorem zerosN {va : Value} {A : Nat} {w : World} (ha : Nv w va A) (hT : Tab w) (h : Hid (A ≠ 0)) : Calls Tryd.prog 48 #[va] w (TzI w A) := by
  obtain ⟨xs, r, rfl, l⟩ := ha
  exact zerosAtEnd_any va xs w r (by omega) h.out hT
theorem pow2N (b : Bool) {va : Value} {A : Nat} {w : World} (ha : Nv w va A) (hT : Tab w) (h : Hid (A ≠ 0 ∧ pow2 A = b)) : Calls Tryd.prog 50 #[va] w (BoolIs w b) := by
  obtain ⟨xs, r, rfl, l⟩ := ha
  obtain ⟨h1, rfl⟩ := h.out
  exact isPowerOfTwo_any va xs w r (by omega) h1 hT
theorem pow2_true {A z : Nat} (h : Tz A z) (hp : pow2 A = true) : A = 2 ^ z := by
  rw [pow2_tz h] at hp
  have := of_decide_eq_true hp
  exact h.pow (by omega)
set_option maxRecDepth 100000 in
set_option maxHeartbeats 1000000 in
theorem withoutN (X Y : Nat) {va vb : Value} {A B : Nat} {w : World} (ha : Nv w va A) (hb : Nv w vb B) (hT : Tab w)
    (h : Hid (A ≠ 0 ∧ B ≠ 0 ∧ A < pw 512 ∧ B < pw 512 ∧ A / Nat.gcd A B = X ∧ B / Nat.gcd A B = Y)) : Calls Tryd.prog 35 #[va, vb] w (NumP2 w X Y) := by
  obtain ⟨hA, hB, lA, lB, hX, hY⟩ := h.out
  have HA := Lib.hid hA
  have HB := Lib.hid hB
  have LA := Lib.hid lA
  have LB := Lib.hid lB
  have HX := Lib.hid hX
  have HY := Lib.hid hY
  clear h hA hB lA lB hX hY
  go_enter Tryd.func35, Tryd.ntmps35
  go_wp2_with fail
  refine (zerosN ha hT HA).mono ?_
  rintro e w1 ⟨za, rfl, ta, ba, h1⟩
  replace hb := hb.mono h1
  replace ha := ha.mono h1
  replace hT := hT.mono h1
  have T := h1
  clear h1
  have TA := Lib.hid ta
  clear ta
  go_wp2_with fail
  refine (zerosN hb hT HB).mono ?_
  rintro e w2 ⟨zb, rfl, tb, bb, h2⟩
  replace hb := hb.mono h2
  replace ha := ha.mono h2
  replace hT := hT.mono h2
  replace T := Add.trans T h2
  have TB := Lib.hid tb
  clear tb h2
  obtain ⟨k, hk⟩ : ∃ k, k = min za zb := ⟨_, rfl⟩
  have hwk : wrap64 (-(k : Int)) = -(k : Int) := by unfold wrap64; omega
  have hmin : min (za : Int) (zb : Int) = (k : Int) := by omega
  obtain ⟨A', hA'⟩ : ∃ A', A / 2 ^ k = A' := ⟨_, rfl⟩
  obtain ⟨B', hB'⟩ : ∃ B', B / 2 ^ k = B' := ⟨_, rfl⟩
  obtain ⟨ea, ta⟩ := TA.out.div (k := k) (by omega)
  obtain ⟨eb, tb⟩ := TB.out.div (k := k) (by omega)
  rw [hA'] at ea ta
  rw [hB'] at eb tb
  obtain ⟨gx, gy⟩ := gcd_out ea eb
  rw [HX.out] at gx
  rw [HY.out] at gy
  have h0 : za - k = 0 ∨ zb - k = 0 := by omega
  have lA' : A' < pw 512 := by rw [← hA']; exact Nat.lt_of_le_of_lt (Nat.div_le_self _ _) LA.out
  have lB' : B' < pw 512 := by rw [← hB']; exact Nat.lt_of_le_of_lt (Nat.div_le_self _ _) LB.out
  have FA : Hid (A < pw 512 ∧ A / 2 ^ k = A') := Lib.hid ⟨LA.out, hA'⟩
  have FB : Hid (B < pw 512 ∧ B / 2 ^ k = B') := Lib.hid ⟨LB.out, hB'⟩
  have NA : Hid (A' ≠ 0) := Lib.hid ta.ne
  have NB : Hid (B' ≠ 0) := Lib.hid tb.ne
  have LA' := Lib.hid lA'
  have LB' := Lib.hid lB'
  have GX := Lib.hid gx
  have GY := Lib.hid gy
  have PA : Hid (pow2 A' = true → Nat.gcd A' B' = 1) := Lib.hid fun hp => pow_coprime tb h0 (pow2_true ta hp)
  have PB : Hid (pow2 B' = true → Nat.gcd A' B' = 1) := Lib.hid fun hp => by rw [Nat.gcd_comm]; exact pow_coprime ta h0.symm (pow2_true tb hp)
  clear hA' hB' ea ta eb tb gx gy h0 lA' lB' TA TB HX HY LA LB HA HB hk ba bb
  go_wp2_with fail
  refine (shiftDownF A' k ha FA).mono ?_
  rintro e w3 ⟨va', rfl, na, h3⟩
  replace hb := hb.mono h3
  replace hT := hT.mono h3
  replace T := Add.trans T h3
  clear ha h3 FA
  go_wp2_with fail
  refine (shiftDownF B' k hb FB).mono ?_
  rintro e w4 ⟨vb', rfl, nb', h4⟩
  replace na := na.mono h4
  replace hT := hT.mono h4
  replace T := Add.trans T h4
  clear hb h4 FB hwk hmin
  have ua := num_nv na (lt_up LA'.out (by decide))
  have ub := num_nv nb' (lt_up LB'.out (by decide))
  obtain ⟨pa, hpa⟩ : ∃ p, pow2 A' = p := ⟨_, rfl⟩
  have FPA : Hid (A' ≠ 0 ∧ pow2 A' = pa) := Lib.hid ⟨NA.out, hpa⟩
  cases pa with
  | true =>
    have hg := PA.out hpa
    have hx : X = A' := by rw [GX.out, hg, Nat.div_one]
    have hy : Y = B' := by rw [GY.out, hg, Nat.div_one]
    subst hx hy
    clear PA PB GX GY hpa hg
    go_wp2_with fail
    refine (pow2N true ua hT FPA).mono ?_
    rintro e w5 ⟨rfl, h5⟩
    have hF : NumP2 w X Y (.returned (.tuple #[va', vb'])) w5 := ⟨_, _, rfl, na.mono h5, nb'.mono h5, Add.trans T h5⟩
    clear h5 T na nb' ua ub hT
    go_wp2_with fail
    go_ret2
    exact hF
  | false =>
    obtain ⟨pb, hpb⟩ : ∃ p, pow2 B' = p := ⟨_, rfl⟩
    have FPB : Hid (B' ≠ 0 ∧ pow2 B' = pb) := Lib.hid ⟨NB.out, hpb⟩
    clear hpa PA
    go_wp2_with fail
    refine (pow2N false ua hT FPA).mono ?_
    rintro e w5 ⟨rfl, h5⟩
    replace na := na.mono h5
    replace nb' := nb'.mono h5
    replace ua := ua.mono h5
    replace ub := ub.mono h5
    replace hT := hT.mono h5
    replace T := Add.trans T h5
    clear h5 FPA
    cases pb with
    | true =>
      have hg := PB.out hpb
      have hx : X = A' := by rw [GX.out, hg, Nat.div_one]
      have hy : Y = B' := by rw [GY.out, hg, Nat.div_one]
      subst hx hy
      clear PB GX GY hpb hg
      go_wp2_with fail
      refine (pow2N true ub hT FPB).mono ?_
      rintro e w6 ⟨rfl, h6⟩
      have hF : NumP2 w X Y (.returned (.tuple #[va', vb'])) w6 := ⟨_, _, rfl, na.mono h6, nb'.mono h6, Add.trans T h6⟩
      clear h6 T na nb' ua ub hT
      go_wp2_with fail
      go_ret2
      exact hF
    | false =>
      clear PB hpb
      go_wp2_with fail
      refine (pow2N false ub hT FPB).mono ?_
      rintro e w6 ⟨rfl, h6⟩
      replace na := na.mono h6
      replace nb' := nb'.mono h6
      replace ua := ua.mono h6
      replace ub := ub.mono h6
      replace T := Add.trans T h6
      clear h6 FPB hT
      obtain ⟨G, hG⟩ : ∃ G, Nat.gcd A' B' = G := ⟨_, rfl⟩
      have hGp : 0 < G := by rw [← hG]; exact Nat.gcd_pos_of_pos_left _ (Nat.pos_of_ne_zero NA.out)
      have hGl : G < pw 512 := by rw [← hG]; exact Nat.lt_of_le_of_lt (Nat.gcd_le_left _ (Nat.pos_of_ne_zero NA.out)) LA'.out
      have FG : Hid (A' < pw 512 ∧ B' < pw 512 ∧ Nat.gcd A' B' = G) := Lib.hid ⟨LA'.out, LB'.out, hG⟩
      have FX : Hid (A' < pw 512 ∧ G < pw 512 ∧ G ≠ 0 ∧ A' / G = X ∧ A' % G = 0) := Lib.hid ⟨LA'.out, hGl, by omega, by rw [GX.out, hG], Nat.mod_eq_zero_of_dvd (by rw [← hG]; exact Nat.gcd_dvd_left _ _)⟩
      have FY : Hid (B' < pw 512 ∧ G < pw 512 ∧ G ≠ 0 ∧ B' / G = Y ∧ B' % G = 0) := Lib.hid ⟨LB'.out, hGl, by omega, by rw [GY.out, hG], Nat.mod_eq_zero_of_dvd (by rw [← hG]; exact Nat.gcd_dvd_right _ _)⟩
      obtain ⟨t, ht⟩ : ∃ t, nb G = t := ⟨_, rfl⟩
      have FT : Hid (nb G = t) := Lib.hid ht
      by_cases h1 : G = 1
      · have hx : X = A' := by rw [GX.out, hG, h1, Nat.div_one]
        have hy : Y = B' := by rw [GY.out, hG, h1, Nat.div_one]
        have ht1 : t = 1 := by rw [← ht, h1]; rfl
        subst hx hy ht1
        clear GX GY hG hGp hGl FX FY h1 ht
        go_wp2_with fail
        refine (gcdN G ua.nu ub.nu FG).mono ?_
        rintro e w7 ⟨vg, rfl, -, ug, h7⟩
        replace na := na.mono h7
        replace nb' := nb'.mono h7
        replace T := Add.trans T h7
        clear h7 FG ua ub
        go_wp2_with fail
        refine (bitsN 1 ug FT).mono ?_
        rintro e w8 ⟨rfl, h8⟩
        have hF : NumP2 w X Y (.returned (.tuple #[va', vb'])) w8 := ⟨_, _, rfl, na.mono h8, nb'.mono h8, Add.trans T h8⟩
        clear h8 T na nb' ug FT
        go_wp2_with fail
        go_ret2
        exact hF
      · have dt : ((t : Int) == 1) = false := by
          have h2 : 2 ^ 1 ≤ G := by omega
          have := lt_nb_of_le h2
          simp; omega
        clear GX GY hG hGp hGl h1 ht
        go_wp2_with fail
        refine (gcdN G ua.nu ub.nu FG).mono ?_
        rintro e w7 ⟨vg, rfl, -, ug, h7⟩
        replace ua := ua.mono h7
        replace ub := ub.mono h7
        replace T := Add.trans T h7
        clear h7 FG na nb'
        go_wp2_with fail
        refine (bitsN t ug FT).mono ?_
        rintro e w8 ⟨rfl, h8⟩
        replace ua := ua.mono h8
        replace ub := ub.mono h8
        replace ug := ug.mono h8
        replace T := Add.trans T h8
        clear h8 FT
        go_wp2_with fail
        refine (divN X 0 ua.nu ug FX).mono ?_
        rintro e w9 ⟨vx, vr, rfl, nx, -, -, -, h9⟩
        replace ub := ub.mono h9
        replace ug := ug.mono h9
        replace T := Add.trans T h9
        clear h9 FX ua
        go_wp2_with fail
        refine (divN Y 0 ub.nu ug FY).mono ?_
        rintro e w10 ⟨vy, vs, rfl, ny, -, -, -, h10⟩
        have hF : NumP2 w X Y (.returned (.tuple #[vx, vy])) w10 := ⟨_, _, rfl, nx.mono h10, ny, Add.trans T h10⟩
        clear h10 T nx ny ub ug FY
        go_wp2_with fail
        go_ret2
        exact hF
end Go.Proofs.YtifpfoeecnkhoaaDoor

namespace Go.Proofs.YtifpfoeecnkhoaaDoor
open Go.RowKit NatM Go.Proofs.YtifpfoeecnkhoaaDoor.Api

/-- The sign, numerator and denominator that are read. -/
abbrev Tri := Bool × Nat × Nat
/-- Block g is a variable of type api.Frac. -/
def Box (w : World) (g : Nat) (b : Bool) (an : Option Addr) (n cn : Nat) (ad : Option Addr) (d cd : Nat) : Prop :=
  w.heap[g]? = some (.cells #[.bool b, .slice an n cn, .slice ad d cd] 25 (0, 0))
theorem Box.lt {w : World} {g : Nat} {b an n cn ad d cd} (h : Box w g b an n cn ad d cd) : g < w.heap.size := (Array.getElem?_eq_some_iff.1 h).1
theorem Box.mono {w w' : World} {g : Nat} {b an n cn ad d cd} (h : Box w g b an n cn ad d cd) (hb : Add w w') : Box w' g b an n cn ad d cd := (hb.block g h.lt).trans h
theorem Box.c0 {w : World} {g : Nat} {b an n cn ad d cd} (h : Box w g b an n cn ad d cd) : w.cell? ⟨g, 0, none⟩ = some (.bool b) := by rw [cell_of_row w g 0 _ 25 (0, 0) h]; rfl
theorem Box.c1 {w : World} {g : Nat} {b an n cn ad d cd} (h : Box w g b an n cn ad d cd) : w.cell? ⟨g, 1, none⟩ = some (.slice an n cn) := by rw [cell_of_row w g 1 _ 25 (0, 0) h]; rfl
theorem Box.c2 {w : World} {g : Nat} {b an n cn ad d cd} (h : Box w g b an n cn ad d cd) : w.cell? ⟨g, 2, none⟩ = some (.slice ad d cd) := by rw [cell_of_row w g 2 _ 25 (0, 0) h]; rfl
theorem Box.fr {w : World} {g : Nat} {b an n cn ad d cd} (h : Box w g b an n cn ad d cd) (i : Nat) : w.frozen? ⟨g, i, none⟩ = false := frozen_of_row w g i _ 25 h
theorem box_new (w : World) (b : Bool) (an : Option Addr) (n cn : Nat) (ad : Option Addr) (d cd : Nat) : Box (w.alloc (.cells #[.bool b, .slice an n cn, .slice ad d cd] 25)) w.heap.size b an n cn ad d cd := heap_alloc_new w _
theorem Box.not_int {w : World} {g : Nat} {b an n cn ad d cd} (h : Box w g b an n cn ad d cd) (i : Nat) (k : IntKind) (z : Int) : w.cell? ⟨g, i, none⟩ ≠ some (.int k z) := by
  rw [cell_of_row w g i _ 25 (0, 0) h]
  rcases i with _ | _ | _ | i <;> simp
theorem Box.cells {w : World} {g : Nat} {b an n cn ad d cd} (h : w.heap.size = g) : Box (w.alloc (.cells #[.bool b, .slice an n cn, .slice ad d cd] 25)) g b an n cn ad d cd := by subst h; exact box_new w b an n cn ad d cd
theorem add_new (w : World) (o : Obj) : Add w (w.alloc o) := (Below.refl _ _).alloc (Nat.le_refl _) _
/-- The variables of a function of one fraction; with a result; of two; with a result. -/
theorem start1 (w : World) (b : Bool) (an : Option Addr) (n cn : Nat) (ad : Option Addr) (d cd : Nat) :
    Add w (w.alloc (.cells #[.bool b, .slice an n cn, .slice ad d cd] 25)) ∧ Box (w.alloc (.cells #[.bool b, .slice an n cn, .slice ad d cd] 25)) w.heap.size b an n cn ad d cd := ⟨add_new _ _, box_new ..⟩
theorem start2 (w : World) (b : Bool) (an : Option Addr) (n cn : Nat) (ad : Option Addr) (d cd : Nat) (b' : Bool) (an' : Option Addr) (n' cn' : Nat) (ad' : Option Addr) (d' cd' : Nat) :
    Add w ((w.alloc (.cells #[.bool b, .slice an n cn, .slice ad d cd] 25)).alloc (.cells #[.bool b', .slice an' n' cn', .slice ad' d' cd'] 25)) ∧
    Box ((w.alloc (.cells #[.bool b, .slice an n cn, .slice ad d cd] 25)).alloc (.cells #[.bool b', .slice an' n' cn', .slice ad' d' cd'] 25)) w.heap.size b an n cn ad d cd ∧
    Box ((w.alloc (.cells #[.bool b, .slice an n cn, .slice ad d cd] 25)).alloc (.cells #[.bool b', .slice an' n' cn', .slice ad' d' cd'] 25)) (w.heap.size + 1) b' an' n' cn' ad' d' cd' :=
  ⟨Add.trans (add_new _ _) (add_new _ _), (box_new ..).mono (add_new _ _), Box.cells (by simp)⟩
theorem start3 (w : World) (b : Bool) (an : Option Addr) (n cn : Nat) (ad : Option Addr) (d cd : Nat) (b' : Bool) (an' : Option Addr) (n' cn' : Nat) (ad' : Option Addr) (d' cd' : Nat) (b2 : Bool) (an2 : Option Addr) (n2 cn2 : Nat) (ad2 : Option Addr) (d2 cd2 : Nat) :
    Add w (((w.alloc (.cells #[.bool b, .slice an n cn, .slice ad d cd] 25)).alloc (.cells #[.bool b', .slice an' n' cn', .slice ad' d' cd'] 25)).alloc (.cells #[.bool b2, .slice an2 n2 cn2, .slice ad2 d2 cd2] 25)) ∧
    Box (((w.alloc (.cells #[.bool b, .slice an n cn, .slice ad d cd] 25)).alloc (.cells #[.bool b', .slice an' n' cn', .slice ad' d' cd'] 25)).alloc (.cells #[.bool b2, .slice an2 n2 cn2, .slice ad2 d2 cd2] 25)) w.heap.size b an n cn ad d cd ∧
    Box (((w.alloc (.cells #[.bool b, .slice an n cn, .slice ad d cd] 25)).alloc (.cells #[.bool b', .slice an' n' cn', .slice ad' d' cd'] 25)).alloc (.cells #[.bool b2, .slice an2 n2 cn2, .slice ad2 d2 cd2] 25)) (w.heap.size + 1) b' an' n' cn' ad' d' cd' ∧
    Box (((w.alloc (.cells #[.bool b, .slice an n cn, .slice ad d cd] 25)).alloc (.cells #[.bool b', .slice an' n' cn', .slice ad' d' cd'] 25)).alloc (.cells #[.bool b2, .slice an2 n2 cn2, .slice ad2 d2 cd2] 25)) (w.heap.size + 2) b2 an2 n2 cn2 ad2 d2 cd2 :=
  ⟨Add.trans (Add.trans (add_new _ _) (add_new _ _)) (add_new _ _), ((box_new ..).mono (add_new _ _)).mono (add_new _ _), (Box.cells (by simp)).mono (add_new _ _), Box.cells (by simp)⟩
/-- What is stored into the variable. -/
def put3 (w : World) (g : Nat) (u0 u1 u2 : Value) : World := ((w.setCell ⟨g, 0, none⟩ u0).setCell ⟨g, 1, none⟩ u1).setCell ⟨g, 2, none⟩ u2
theorem put3_other {w : World} {g k : Nat} (u0 u1 u2 : Value) (h : k ≠ g) : (put3 w g u0 u1 u2).heap[k]? = w.heap[k]? := by
  unfold put3
  rw [heap_setCell_other _ _ _ _ h, heap_setCell_other _ _ _ _ h, heap_setCell_other _ _ _ _ h]
theorem put3_below {w0 w : World} {g base : Nat} (u0 u1 u2 : Value) (h : Below base w0 w) (hg : base ≤ g) : Below base w0 (put3 w g u0 u1 u2) :=
  ((h.setCell hg u0).setCell hg u1).setCell hg u2
theorem cell_other {w w' : World} {g : Nat} (h : ∀ k, k ≠ g → w'.heap[k]? = w.heap[k]?) (a : Addr) (ha : a.block ≠ g) : w'.cell? a = w.cell? a := by
  unfold World.cell?
  rw [h _ ha]
theorem put3_cell {w : World} {g k i : Nat} (u0 u1 u2 : Value) (h : k ≠ g) : (put3 w g u0 u1 u2).cell? ⟨k, i, none⟩ = w.cell? ⟨k, i, none⟩ := cell_other (fun _ hj => put3_other u0 u1 u2 hj) _ h
theorem Reads.put {w : World} {v : Value} {xs : List Nat} {g : Nat} {b an n cn ad d cd} (h : Reads w v xs) (hB : Box w g b an n cn ad d cd) (u0 u1 u2 : Value) : Reads (put3 w g u0 u1 u2) v xs := by
  obtain ⟨ao, m, c, rfl, hl, hc, hm, hx, hr⟩ := h
  refine ⟨ao, m, c, rfl, hl, hc, hm, hx, fun hn => ?_⟩
  obtain ⟨k, off, rfl, hcell⟩ := hr hn
  refine ⟨k, off, rfl, fun i hi => ?_⟩
  have hk : k ≠ g := by
    rintro rfl
    exact hB.not_int _ _ _ (hcell i hi)
  rw [cell_other (fun j hj => put3_other u0 u1 u2 hj) _ hk]
  exact hcell i hi
theorem Num.put {w : World} {v : Value} {N g : Nat} {b an n cn ad d cd} (h : Num w v N) (hB : Box w g b an n cn ad d cd) (u0 u1 u2 : Value) : Num (put3 w g u0 u1 u2) v N := by
  obtain ⟨zs, h1, h2⟩ := h; exact ⟨zs, h1.put hB u0 u1 u2, h2⟩
theorem Box.put {w : World} {g : Nat} {b an n cn ad d cd} (h : Box w g b an n cn ad d cd) (b' : Bool) (an' : Option Addr) (n' cn' : Nat) (ad' : Option Addr) (d' cd' : Nat) :
    Box (put3 w g (.bool b') (.slice an' n' cn') (.slice ad' d' cd')) g b' an' n' cn' ad' d' cd' := by
  unfold put3 Box
  have h1 := heap_setCell_same w g 0 _ 25 (.bool b') h
  have h2 := heap_setCell_same _ g 1 _ 25 (.slice an' n' cn') h1
  exact heap_setCell_same _ g 2 _ 25 (.slice ad' d' cd') h2
theorem num_slice {w : World} {v : Value} {N : Nat} (h : Num w v N) : ∃ a n c, v = .slice a n c := by
  obtain ⟨zs, ⟨a, n, c, rfl, -⟩, -⟩ := h; exact ⟨_, _, _, rfl⟩
theorem nv_slice {w : World} {v : Value} {N : Nat} (h : Nv w v N) : ∃ a n c, v = .slice a n c := by
  obtain ⟨zs, ⟨a, n, c, rfl, -⟩, -⟩ := h; exact ⟨_, _, _, rfl⟩

/-- v reads in w as a fraction with canonical parts. -/
def FracT (w : World) (v : Value) (x : Tri) : Prop :=
  ∃ an n cn ad d cd, v = .agg #[.bool x.1, .slice an n cn, .slice ad d cd] ∧ Num w (.slice an n cn) x.2.1 ∧ Num w (.slice ad d cd) x.2.2
theorem FracT.mono {w w' : World} {v : Value} {x : Tri} (h : FracT w v x) (hb : Add w w') : FracT w' v x := by
  obtain ⟨an, n, cn, ad, d, cd, h1, h2, h3⟩ := h; exact ⟨an, n, cn, ad, d, cd, h1, h2.mono hb, h3.mono hb⟩
/-- v reads in w as a fraction, its parts canonical or not. -/
def FracA (w : World) (v : Value) (x : Tri) : Prop :=
  ∃ an n cn ad d cd, v = .agg #[.bool x.1, .slice an n cn, .slice ad d cd] ∧ Nv w (.slice an n cn) x.2.1 ∧ Nv w (.slice ad d cd) x.2.2
theorem FracA.mono {w w' : World} {v : Value} {x : Tri} (h : FracA w v x) (hb : Add w w') : FracA w' v x := by
  obtain ⟨an, n, cn, ad, d, cd, h1, h2, h3⟩ := h; exact ⟨an, n, cn, ad, d, cd, h1, h2.mono hb, h3.mono hb⟩
theorem FracT.arg {w : World} {v : Value} {x : Tri} (h : FracT w v x) (h1 : x.2.1 < pw 1000) (h2 : x.2.2 < pw 1000) : FracA w v x := by
  obtain ⟨an, n, cn, ad, d, cd, rfl, g1, g2⟩ := h
  exact ⟨an, n, cn, ad, d, cd, rfl, num_nv g1 h1, num_nv g2 h2⟩
theorem fracT_zero (w : World) : FracT w (.agg #[.bool false, .slice none 0 0, .slice none 0 0]) (false, 0, 0) := ⟨none, 0, 0, none, 0, 0, rfl, Num.nil w, Num.nil w⟩
theorem FracT.put {w : World} {v : Value} {x : Tri} {g : Nat} {b an n cn ad d cd} (h : FracT w v x) (hB : Box w g b an n cn ad d cd) (u0 u1 u2 : Value) : FracT (put3 w g u0 u1 u2) v x := by
  obtain ⟨an, n, cn, ad, d, cd, h1, h2, h3⟩ := h; exact ⟨an, n, cn, ad, d, cd, h1, h2.put hB u0 u1 u2, h3.put hB u0 u1 u2⟩
/-- Is it valid: a denominator that is not 0, and no part too long. -/
def okF (x : Tri) : Bool := decide (x.2.2 ≠ 0 ∧ x.2.1 < pw 128 ∧ x.2.2 < pw 128)
theorem okF_iff {x : Tri} : okF x = true ↔ x.2.2 ≠ 0 ∧ x.2.1 < pw 128 ∧ x.2.2 < pw 128 := decide_eq_true_iff
/-- Its value. -/
def qv (x : Tri) : Rat := frac x.1 x.2.1 x.2.2
/-- A fraction and an error number. -/
def ResF (w : World) (p : Tri × Nat) (e : Ending) (w' : World) : Prop := ∃ v, e = .returned (.tuple #[v, .int .i64 (p.2 : Nat)]) ∧ FracT w' v p.1 ∧ Add w w'
/-- What is left when the result was stored and is returned. -/
theorem resF_put {w wk : World} {g : Nat} {b an n cn ad d cd} {p : Tri × Nat} {u0 u1 u2 : Value} (hB : Box wk g b an n cn ad d cd) (hv : FracT wk (.agg #[u0, u1, u2]) p.1) (hT : Add w wk) (hg : w.heap.size ≤ g) :
    ResF w p (.returned (.tuple #[.agg #[u0, u1, u2], .int .i64 (p.2 : Nat)])) (put3 wk g u0 u1 u2) :=
  ⟨_, rfl, hv.put hB u0 u1 u2, put3_below u0 u1 u2 hT hg⟩
end Go.Proofs.YtifpfoeecnkhoaaDoor

namespace Go.Proofs.YtifpfoeecnkhoaaDoor
open Go.RowKit NatM Go.Proofs.YtifpfoeecnkhoaaDoor.Api

set_option maxRecDepth 100000 in
set_option maxHeartbeats 1000000 in
theorem lowest_zero (neg : Bool) {va vb : Value} {w : World} (ha : Nv w va 0) :
    Calls Tryd.prog 21 #[.bool neg, va, vb] w (ResF w ((false, 0, 1), 0)) := by
  have hB := box_new w false none 0 0 none 0 0
  have T : Add w (w.alloc (.cells #[.bool false, .slice none 0 0, .slice none 0 0] 25)) := (Below.refl _ _).alloc (Nat.le_refl _) _
  replace ha := ha.mono T
  go_enter Tryd.func21, Tryd.ntmps21
  go_wp2_with fail
  refine (isZeroN true ha (Lib.hid (by simp))).mono ?_
  rintro e w1 ⟨rfl, h1⟩
  replace hB := hB.mono h1
  replace T := Add.trans T h1
  clear h1 ha
  go_wp2_with fail
  refine (make_any 1 _ (by decide) (by decide)).mono ?_
  rintro e w2 ⟨v2, rfl, n2, h2⟩
  replace hB := hB.mono h2
  replace T := Add.trans T h2
  clear h2 
  obtain ⟨a, n, c, rfl⟩ := num_slice n2
  have hc0 := hB.c0
  have hc1 := hB.c1
  have hc2 := hB.c2
  have hc3 := hB.fr 0
  have hc4 := hB.fr 1
  have hc5 := hB.fr 2
  have hF := resF_put (w := w) (p := ((false, 0, 1), 0)) hB (⟨none, 0, 0, a, n, c, rfl, Num.nil _, n2⟩) T (Nat.le_refl _)
  clear hB T n2
  unfold put3 at hF
  have HF := Lib.hid hF
  clear hF
  go_wp2_with fail
  exact bodyPost_ret (v := .tuple #[.agg #[.bool false, .slice none 0 0, .slice a n c], .int .i64 0]) (by simp [results, Tryd.results21, go_sem, hc0, hc1, hc2]) rfl HF.out

set_option maxRecDepth 100000 in
set_option maxHeartbeats 1000000 in
theorem lowest_pos (neg : Bool) (X Y : Nat) (p : Tri × Nat) {va vb : Value} {N D : Nat} {w : World} (ha : Nv w va N) (hb : Nv w vb D) (hT : Tab w)
    (h : Hid (N ≠ 0 ∧ D ≠ 0 ∧ N < pw 512 ∧ D < pw 512 ∧ N / Nat.gcd N D = X ∧ D / Nat.gcd N D = Y)) (hp : Hid ((if pw 128 ≤ X ∨ pw 128 ≤ Y then (((false, 0, 0), 2) : Tri × Nat) else ((neg, X, Y), 0)) = p)) :
    Calls Tryd.prog 21 #[.bool neg, va, vb] w (ResF w p) := by
  have hB := box_new w false none 0 0 none 0 0
  have T : Add w (w.alloc (.cells #[.bool false, .slice none 0 0, .slice none 0 0] 25)) := (Below.refl _ _).alloc (Nat.le_refl _) _
  replace ha := ha.mono T
  replace hb := hb.mono T
  replace hT := hT.mono T
  have FZ : Hid (decide (N = 0) = false) := Lib.hid (decide_eq_false h.out.1)
  have lX : X < pw 512 := by rw [← h.out.2.2.2.2.1]; exact Nat.lt_of_le_of_lt (Nat.div_le_self _ _) h.out.2.2.1
  have lY : Y < pw 512 := by rw [← h.out.2.2.2.2.2]; exact Nat.lt_of_le_of_lt (Nat.div_le_self _ _) h.out.2.2.2.1
  obtain ⟨x, hx⟩ : ∃ x, nb X = x := ⟨_, rfl⟩
  obtain ⟨y, hy⟩ : ∃ y, nb Y = y := ⟨_, rfl⟩
  have FX := Lib.hid hx
  have FY := Lib.hid hy
  have hxp : pw 128 ≤ X ↔ 4096 < x := by have := nb_lt_pw (n := X) (k := 128); omega
  have hyp : pw 128 ≤ Y ↔ 4096 < y := by have := nb_lt_pw (n := Y) (k := 128); omega
  have LX := Lib.hid lX
  have LY := Lib.hid lY
  have HP := Lib.hid (show (if 4096 < x ∨ 4096 < y then (((false, 0, 0), 2) : Tri × Nat) else ((neg, X, Y), 0)) = p by rw [← hp.out]; simp only [hxp, hyp])
  clear hp lX lY hx hy hxp hyp
  go_enter Tryd.func21, Tryd.ntmps21
  go_wp2_with fail
  refine (isZeroN false ha FZ).mono ?_
  rintro e w1 ⟨rfl, h1⟩
  replace hB := hB.mono h1
  replace ha := ha.mono h1
  replace hb := hb.mono h1
  replace hT := hT.mono h1
  replace T := Add.trans T h1
  clear h1 FZ
  go_wp2_with fail
  refine (withoutN X Y ha hb hT h).mono ?_
  rintro e w2 ⟨vx, vy, rfl, nx, ny, h2⟩
  replace hB := hB.mono h2
  replace T := Add.trans T h2
  clear h2 ha hb hT h
  have ux := num_nu nx LX.out
  have uy := num_nu ny LY.out
  by_cases cx : 4096 < x
  · have dx : decide ((4096 : Int) < (x : Int)) = true := by simp; omega
    have hpe := HP.out
    rw [if_pos (.inl cx)] at hpe
    subst hpe
    clear cx HP
    go_wp2_with fail
    refine (bitsN x ux FX).mono ?_
    rintro e w3 ⟨rfl, h3⟩
    replace hB := hB.mono h3
    replace nx := nx.mono h3
    replace ny := ny.mono h3
    replace T := Add.trans T h3
    clear h3 ux uy FX FY
    have hc0 := hB.c0
    have hc1 := hB.c1
    have hc2 := hB.c2
    have hc3 := hB.fr 0
    have hc4 := hB.fr 1
    have hc5 := hB.fr 2
    have hF := resF_put (w := w) (p := ((false, 0, 0), 2)) hB (fracT_zero _) T (Nat.le_refl _)
    clear hB T nx ny
    unfold put3 at hF
    have HF := Lib.hid hF
    clear hF
    go_wp2_with fail
    exact bodyPost_ret (v := .tuple #[.agg #[.bool false, .slice none 0 0, .slice none 0 0], .int .i64 2]) (by simp [results, Tryd.results21, go_sem, hc0, hc1, hc2]) rfl HF.out
  · have dx : decide ((4096 : Int) < (x : Int)) = false := by simp; omega
    go_wp2_with fail
    refine (bitsN x ux FX).mono ?_
    rintro e w3 ⟨rfl, h3⟩
    replace hB := hB.mono h3
    replace nx := nx.mono h3
    replace ny := ny.mono h3
    replace uy := uy.mono h3
    replace T := Add.trans T h3
    clear h3 ux FX
    by_cases cy : 4096 < y
    · have dy : decide ((4096 : Int) < (y : Int)) = true := by simp; omega
      have hpe := HP.out
      rw [if_pos (.inr cy)] at hpe
      subst hpe
      clear cx cy HP
      go_wp2_with fail
      refine (bitsN y uy FY).mono ?_
      rintro e w4 ⟨rfl, h4⟩
      replace hB := hB.mono h4
      replace nx := nx.mono h4
      replace ny := ny.mono h4
      replace T := Add.trans T h4
      clear h4 uy FY
      have hc0 := hB.c0
      have hc1 := hB.c1
      have hc2 := hB.c2
      have hc3 := hB.fr 0
      have hc4 := hB.fr 1
      have hc5 := hB.fr 2
      have hF := resF_put (w := w) (p := ((false, 0, 0), 2)) hB (fracT_zero _) T (Nat.le_refl _)
      clear hB T nx ny
      unfold put3 at hF
      have HF := Lib.hid hF
      clear hF
      go_wp2_with fail
      exact bodyPost_ret (v := .tuple #[.agg #[.bool false, .slice none 0 0, .slice none 0 0], .int .i64 2]) (by simp [results, Tryd.results21, go_sem, hc0, hc1, hc2]) rfl HF.out
    · have dy : decide ((4096 : Int) < (y : Int)) = false := by simp; omega
      have hpe := HP.out
      rw [if_neg (by omega)] at hpe
      subst hpe
      clear cx cy HP
      obtain ⟨a1, n1, c1, rfl⟩ := num_slice nx
      obtain ⟨a2, n2, c2, rfl⟩ := num_slice ny
      go_wp2_with fail
      refine (bitsN y uy FY).mono ?_
      rintro e w4 ⟨rfl, h4⟩
      replace hB := hB.mono h4
      replace nx := nx.mono h4
      replace ny := ny.mono h4
      replace T := Add.trans T h4
      clear h4 uy FY
      have hc0 := hB.c0
      have hc1 := hB.c1
      have hc2 := hB.c2
      have hc3 := hB.fr 0
      have hc4 := hB.fr 1
      have hc5 := hB.fr 2
      have hF := resF_put (w := w) (p := ((neg, X, Y), 0)) hB (⟨a1, n1, c1, a2, n2, c2, rfl, nx, ny⟩) T (Nat.le_refl _)
      clear hB T nx ny
      unfold put3 at hF
      have HF := Lib.hid hF
      clear hF
      go_wp2_with fail
      exact bodyPost_ret (v := .tuple #[.agg #[.bool neg, .slice a1 n1 c1, .slice a2 n2 c2], .int .i64 0]) (by simp [results, Tryd.results21, go_sem, hc0, hc1, hc2]) rfl HF.out

theorem lowestN (p : Tri × Nat) {neg : Bool} {va vb : Value} {N D : Nat} {w : World} (ha : Nv w va N) (hb : Nv w vb D) (hT : Tab w)
    (h : Hid (D ≠ 0 ∧ N < pw 512 ∧ D < pw 512 ∧ fitQ (frac neg N D) = p)) : Calls Tryd.prog 21 #[.bool neg, va, vb] w (ResF w p) := by
  obtain ⟨h1, h2, h3, rfl⟩ := h.out
  by_cases h0 : N = 0
  · subst h0
    rw [fitQ_zero]
    exact lowest_zero neg ha
  · exact lowest_pos neg _ _ _ ha hb hT (Lib.hid ⟨h0, h1, h2, h3, rfl, rfl⟩) (Lib.hid (fitQ_frac h0 h1 rfl rfl).symm)
end Go.Proofs.YtifpfoeecnkhoaaDoor

namespace Go.Proofs.YtifpfoeecnkhoaaDoor
open Go.RowKit NatM Go.Proofs.YtifpfoeecnkhoaaDoor.Api

theorem okF_false {x : Tri} (h : x.2.2 = 0 ∨ pw 128 ≤ x.2.2 ∨ pw 128 ≤ x.2.1) : okF x = false := by
  unfold okF
  rw [decide_eq_false_iff_not]; omega
set_option maxRecDepth 100000 in
set_option maxHeartbeats 1000000 in
theorem validN (t : Bool) {v : Value} {x : Tri} {w : World} (hx : FracA w v x) (h : Hid (okF x = t)) : Calls Tryd.prog 18 #[v] w (BoolIs w t) := by
  obtain ⟨an, n, cn, ad, d, cd, rfl, uN, uD⟩ := hx
  obtain ⟨T, hX⟩ := start1 w x.1 an n cn ad d cd
  replace uN := uN.mono T
  replace uD := uD.mono T
  obtain ⟨y, hy⟩ : ∃ y, nb x.2.2 = y := ⟨_, rfl⟩
  obtain ⟨z, hz⟩ : ∃ z, nb x.2.1 = z := ⟨_, rfl⟩
  have FY := Lib.hid hy
  have FZ := Lib.hid hz
  have hyp : pw 128 ≤ x.2.2 ↔ 4096 < y := by have := nb_lt_pw (n := x.2.2) (k := 128); omega
  have hzp : pw 128 ≤ x.2.1 ↔ 4096 < z := by have := nb_lt_pw (n := x.2.1) (k := 128); omega
  have HY := Lib.hid hyp
  have HZ := Lib.hid hzp
  clear hy hz hyp hzp
  go_enter Tryd.func18, Tryd.ntmps18
  by_cases c0 : x.2.2 = 0
  · have ht : t = false := by rw [← h.out]; exact okF_false (.inl c0)
    have F0 : Hid (decide (x.2.2 = 0) = true) := Lib.hid (decide_eq_true c0)
    subst ht
    clear h c0 HY HZ FY FZ
    have hc0 := hX.c0
    have hc1 := hX.c1
    have hc2 := hX.c2
    go_wp2_with fail
    refine (isZeroN true uD F0).mono ?_
    rintro e w1 ⟨rfl, h1⟩
    replace T := Add.trans T h1
    clear hc0 hc1 hc2 h1 hX uN uD F0
    go_wp2_with fail
    go_ret
    exact ⟨rfl, T⟩
  · have F0 : Hid (decide (x.2.2 = 0) = false) := Lib.hid (decide_eq_false c0)
    have hc0 := hX.c0
    have hc1 := hX.c1
    have hc2 := hX.c2
    go_wp2_with fail
    refine (isZeroN false uD F0).mono ?_
    rintro e w1 ⟨rfl, h1⟩
    replace hX := hX.mono h1
    replace uN := uN.mono h1
    replace uD := uD.mono h1
    replace T := Add.trans T h1
    clear hc0 hc1 hc2 h1 F0
    by_cases cy : 4096 < y
    · have ht : t = false := by rw [← h.out]; exact okF_false (.inr (.inl (HY.out.2 cy)))
      have dy : decide ((y : Int) ≤ 4096) = false := by simp; omega
      subst ht
      clear h c0 HY HZ FZ cy
      have hc0 := hX.c0
      have hc1 := hX.c1
      have hc2 := hX.c2
      go_wp2_with fail
      refine (bitsN y uD.nu FY).mono ?_
      rintro e w2 ⟨rfl, h2⟩
      replace T := Add.trans T h2
      clear hc0 hc1 hc2 h2 hX uN uD FY
      go_wp2_with fail
      go_ret
      exact ⟨rfl, T⟩
    · have dy : decide ((y : Int) ≤ 4096) = true := by simp; omega
      have hc0 := hX.c0
      have hc1 := hX.c1
      have hc2 := hX.c2
      go_wp2_with fail
      refine (bitsN y uD.nu FY).mono ?_
      rintro e w2 ⟨rfl, h2⟩
      replace hX := hX.mono h2
      replace uN := uN.mono h2
      replace T := Add.trans T h2
      clear hc0 hc1 hc2 h2 uD FY
      by_cases cz : 4096 < z
      · have ht : t = false := by rw [← h.out]; exact okF_false (.inr (.inr (HZ.out.2 cz)))
        have dz : decide ((z : Int) ≤ 4096) = false := by simp; omega
        subst ht
        clear h c0 HY HZ cz cy
        have hc0 := hX.c0
        have hc1 := hX.c1
        have hc2 := hX.c2
        go_wp2_with fail
        refine (bitsN z uN.nu FZ).mono ?_
        rintro e w3 ⟨rfl, h3⟩
        replace T := Add.trans T h3
        clear hc0 hc1 hc2 h3 hX uN FZ
        go_wp2_with fail
        go_ret
        exact ⟨rfl, T⟩
      · have ht : t = true := by rw [← h.out, okF_iff]; have := HY.out; have := HZ.out; omega
        have dz : decide ((z : Int) ≤ 4096) = true := by simp; omega
        subst ht
        clear h c0 HY HZ cz cy
        have hc0 := hX.c0
        have hc1 := hX.c1
        have hc2 := hX.c2
        go_wp2_with fail
        refine (bitsN z uN.nu FZ).mono ?_
        rintro e w3 ⟨rfl, h3⟩
        replace T := Add.trans T h3
        clear hc0 hc1 hc2 h3 hX uN FZ
        go_wp2_with fail
        go_ret
        exact ⟨rfl, T⟩

/-- The sign of a valid fraction. -/
def sgn (x : Tri) : Int := if x.2.1 = 0 then 0 else if x.1 then -1 else 1
set_option maxRecDepth 100000 in
set_option maxHeartbeats 1000000 in
theorem signN (t : Int) {v : Value} {x : Tri} {w : World} (hx : FracA w v x) (h : Hid (sgn x = t)) : Calls Tryd.prog 27 #[v] w (IntIs w t) := by
  obtain ⟨an, n, cn, ad, d, cd, rfl, uN, uD⟩ := hx
  obtain ⟨T, hX⟩ := start1 w x.1 an n cn ad d cd
  replace uN := uN.mono T
  replace uD := uD.mono T
  have ht := h.out
  unfold sgn at ht
  clear h
  go_enter Tryd.func27, Tryd.ntmps27
  by_cases c0 : x.2.1 = 0
  · rw [if_pos c0] at ht
    subst ht
    have F0 : Hid (decide (x.2.1 = 0) = true) := Lib.hid (decide_eq_true c0)
    clear c0
    have hc0 := hX.c0
    have hc1 := hX.c1
    have hc2 := hX.c2
    go_wp2_with fail
    refine (isZeroN true uN F0).mono ?_
    rintro e w1 ⟨rfl, h1⟩
    replace T := Add.trans T h1
    clear hc0 hc1 hc2 h1 hX uN uD F0
    go_wp2_with fail
    go_ret
    exact ⟨rfl, T⟩
  · rw [if_neg c0] at ht
    have F0 : Hid (decide (x.2.1 = 0) = false) := Lib.hid (decide_eq_false c0)
    clear c0
    obtain ⟨s, hs⟩ : ∃ s, x.1 = s := ⟨_, rfl⟩
    rw [hs] at hX uN T ht ⊢
    clear hs
    have hc0 := hX.c0
    have hc1 := hX.c1
    have hc2 := hX.c2
    go_wp2_with fail
    refine (isZeroN false uN F0).mono ?_
    rintro e w1 ⟨rfl, h1⟩
    replace hX := hX.mono h1
    replace T := Add.trans T h1
    clear hc0 hc1 hc2 h1 uN uD F0
    have hc0 := hX.c0
    have hc1 := hX.c1
    have hc2 := hX.c2
    cases s with
    | true =>
      obtain rfl : t = -1 := by rw [← ht]; rfl
      clear ht hX
      go_wp2_with fail
      go_ret
      exact ⟨rfl, T⟩
    | false =>
      obtain rfl : t = 1 := by rw [← ht]; rfl
      clear ht hX
      go_wp2_with fail
      go_ret
      exact ⟨rfl, T⟩

set_option maxRecDepth 100000 in
set_option maxHeartbeats 1000000 in
theorem sameDenN (t : Bool) {v v' : Value} {x y : Tri} {w : World} (hx : FracA w v x) (hy : FracA w v' y) (h : Hid (decide (x.2.2 = y.2.2) = t)) : Calls Tryd.prog 33 #[v, v'] w (BoolIs w t) := by
  obtain ⟨an, n, cn, ad, d, cd, rfl, uN, uD⟩ := hx
  obtain ⟨an', n', cn', ad', d', cd', rfl, uN', uD'⟩ := hy
  obtain ⟨T, hX, hY⟩ := start2 w x.1 an n cn ad d cd y.1 an' n' cn' ad' d' cd'
  replace uD := uD.mono T
  replace uD' := uD'.mono T
  obtain ⟨c, hc⟩ : ∃ c, cmpI x.2.2 y.2.2 = c := ⟨_, rfl⟩
  have FC := Lib.hid hc
  have ht : (c == 0) = t := by
    have := h.out
    rw [← hc]
    by_cases e : x.2.2 = y.2.2
    · rw [cmpI_eq e, ← this, decide_eq_true e]; rfl
    · rw [← this, decide_eq_false e]
      rcases Nat.lt_or_gt_of_ne e with e | e
      · rw [cmpI_lt e]; rfl
      · rw [cmpI_gt e]; rfl
  have hc0 := hX.c2
  have hc1 := hY.c2
  clear h hc hX hY uN uN'
  go_enter Tryd.func33, Tryd.ntmps33
  go_wp2_with fail
  refine (cmpN c uD.nu uD'.nu FC).mono ?_
  rintro e w1 ⟨rfl, h1⟩
  replace T := Add.trans T h1
  clear h1 uD uD' FC hc0 hc1
  go_wp2_with fail
  go_ret
  exact ⟨rfl, T⟩
end Go.Proofs.YtifpfoeecnkhoaaDoor

namespace Go.Proofs.YtifpfoeecnkhoaaDoor
open Go.RowKit NatM Go.Proofs.YtifpfoeecnkhoaaDoor.Api

/-- Two numbers, canonical or not. -/
def NvP2 (w : World) (X Y : Nat) (e : Ending) (w' : World) : Prop := ∃ vx vy, e = .returned (.tuple #[vx, vy]) ∧ Nv w' vx X ∧ Nv w' vy Y ∧ Add w w'
def NvP (w : World) (X : Nat) (e : Ending) (w' : World) : Prop := ∃ vx, e = .returned vx ∧ Nv w' vx X ∧ Add w w'
/-- The four cells that numerators and products load. -/
def Four (W w' : World) (g k : Nat) (an : Option Addr) (n cn : Nat) (ad : Option Addr) (d cd : Nat) (an' : Option Addr) (n' cn' : Nat) (ad' : Option Addr) (d' cd' : Nat) : Prop :=
  w'.cell? ⟨g, 1, none⟩ = some (.slice an n cn) ∧ w'.cell? ⟨g, 2, none⟩ = some (.slice ad d cd) ∧ w'.cell? ⟨k, 1, none⟩ = some (.slice an' n' cn') ∧ w'.cell? ⟨k, 2, none⟩ = some (.slice ad' d' cd') ∧ Add W w'

set_option maxRecDepth 100000 in
set_option maxHeartbeats 2000000 in
theorem numeratorsN (X Y : Nat) {v v' : Value} {x y : Tri} {w : World} (hx : FracA w v x) (hy : FracA w v' y)
    (h : Hid (x.2.1 < pw 128 ∧ x.2.2 < pw 128 ∧ y.2.1 < pw 128 ∧ y.2.2 < pw 128 ∧ (if x.2.2 = y.2.2 then x.2.1 = X ∧ y.2.1 = Y else x.2.1 * y.2.2 = X ∧ y.2.1 * x.2.2 = Y))) :
    Calls Tryd.prog 19 #[v, v'] w (NvP2 w X Y) := by
  have hx0 := hx
  have hy0 := hy
  obtain ⟨an, n, cn, ad, d, cd, rfl, uN, uD⟩ := hx
  obtain ⟨an', n', cn', ad', d', cd', rfl, uN', uD'⟩ := hy
  obtain ⟨T, hX, hY⟩ := start2 w x.1 an n cn ad d cd y.1 an' n' cn' ad' d' cd'
  replace uN := uN.mono T
  replace uD := uD.mono T
  replace uN' := uN'.mono T
  replace uD' := uD'.mono T
  replace hx0 := hx0.mono T
  replace hy0 := hy0.mono T
  obtain ⟨l1, l2, l3, l4, hc⟩ := h.out
  have m1 : x.2.1 * y.2.2 < pw 256 := lt_mul (i := 128) (j := 128) l1 l4
  have m2 : y.2.1 * x.2.2 < pw 256 := lt_mul (i := 128) (j := 128) l3 l2
  have LL : Hid (x.2.1 * y.2.2 < pw 1000 ∧ y.2.1 * x.2.2 < pw 1000) := Lib.hid ⟨lt_up m1 (by decide), lt_up m2 (by decide)⟩
  have FM1 : Hid (x.2.1 < pw 512 ∧ y.2.2 < pw 512 ∧ x.2.1 * y.2.2 < pw 512) := Lib.hid ⟨lt_up l1 (by decide), lt_up l4 (by decide), lt_up m1 (by decide)⟩
  have FM2 : Hid (y.2.1 < pw 512 ∧ x.2.2 < pw 512 ∧ y.2.1 * x.2.2 < pw 512) := Lib.hid ⟨lt_up l3 (by decide), lt_up l2 (by decide), lt_up m2 (by decide)⟩
  have HC := Lib.hid hc
  have hc0 := hX.c0
  have hc1 := hX.c1
  have hc2 := hX.c2
  have hd0 := hY.c0
  have hd1 := hY.c1
  have hd2 := hY.c2
  clear l1 l2 l3 l4 hc m1 m2 h
  by_cases c : x.2.2 = y.2.2
  · have FS : Hid (decide (x.2.2 = y.2.2) = true) := Lib.hid (decide_eq_true c)
    have hc := HC.out
    rw [if_pos c] at hc
    obtain ⟨hc3, hc4⟩ := hc
    rw [hc3] at uN
    rw [hc4] at uN'
    clear hc3 hc4 c HC FM1 FM2 LL uD uD'
    go_enter Tryd.func19, Tryd.ntmps19
    go_wp2_with fail
    refine (sameDenN true hx0 hy0 FS).mono ?_
    rintro e w1 ⟨rfl, h1⟩
    replace hX := hX.mono h1
    replace hY := hY.mono h1
    replace uN := uN.mono h1
    replace uN' := uN'.mono h1
    replace T := Add.trans T h1
    clear h1 hc0 hc1 hc2 hd0 hd1 hd2 hx0 hy0 FS
    have hc1 := hX.c1
    have hd1 := hY.c1
    clear hX hY
    go_wp2_with fail
    go_quiet (fail)
    have hF : NvP2 w X Y (.returned (.tuple #[.slice an n cn, .slice an' n' cn'])) (w1.drewN nq) := ⟨_, _, rfl, uN.mono (below_drewN (Below.refl _ _) _), uN'.mono (below_drewN (Below.refl _ _) _), below_drewN T _⟩
    have HF := Lib.hid hF
    clear hF uN uN' T
    go_wp2_with fail
    go_ret2
    exact HF.out
  · have FS : Hid (decide (x.2.2 = y.2.2) = false) := Lib.hid (decide_eq_false c)
    have hc := HC.out
    rw [if_neg c] at hc
    clear c HC
    have EX : Hid (x.2.1 * y.2.2 = X ∧ y.2.1 * x.2.2 = Y) := Lib.hid hc
    clear hc
    go_enter Tryd.func19, Tryd.ntmps19
    go_wp2_with fail
    refine (sameDenN false hx0 hy0 FS).mono ?_
    rintro e w1 ⟨rfl, h1⟩
    replace hX := hX.mono h1
    replace hY := hY.mono h1
    replace uN := uN.mono h1
    replace uN' := uN'.mono h1
    replace uD := uD.mono h1
    replace uD' := uD'.mono h1
    replace T := Add.trans T h1
    clear h1 hc0 hc1 hc2 hd0 hd1 hd2 hx0 hy0 FS
    obtain ⟨ex, ey⟩ := EX.out
    have C1 : Hid (∀ w', Add w1 w' → Calls Tryd.prog 26 #[.slice an n cn, .slice ad' d' cd'] w' (NumP w' X)) := Lib.hid fun w' a => by rw [← ex]; exact timesF (uN.mono a) (uD'.mono a) FM1
    have C2 : Hid (∀ w', Add w1 w' → Calls Tryd.prog 26 #[.slice an' n' cn', .slice ad d cd] w' (NumP w' Y)) := Lib.hid fun w' a => by rw [← ey]; exact timesF (uN'.mono a) (uD.mono a) FM2
    have LX : Hid (X < pw 1000 ∧ Y < pw 1000) := Lib.hid (by rw [← ex, ← ey]; exact LL.out)
    clear ex ey EX LL uN uN' uD uD' FM1 FM2
    have KK : Hid (∀ w', Add w1 w' → Four w1 w' w.heap.size (w.heap.size + 1) an n cn ad d cd an' n' cn' ad' d' cd') := Lib.hid fun w' a => ⟨(hX.mono a).c1, (hX.mono a).c2, (hY.mono a).c1, (hY.mono a).c2, a⟩
    have hc1 := hX.c1
    have hc2 := hX.c2
    have hd1 := hY.c1
    have hd2 := hY.c2
    clear hX hY
    go_wp2_with fail
    go_region_held3 (fun w' => w'.cell? ⟨w.heap.size, 1, none⟩ = some (.slice an n cn) ∧ w'.cell? ⟨w.heap.size, 2, none⟩ = some (.slice ad d cd) ∧ w'.cell? ⟨w.heap.size + 1, 1, none⟩ = some (.slice an' n' cn') ∧ w'.cell? ⟨w.heap.size + 1, 2, none⟩ = some (.slice ad' d' cd') ∧ Add w1 w')
      (first | exact KK.out _ (Below.drew (Below.refl _ _)) | (go_split_ands; exact KK.out _ (Add.trans (by assumption) hq)) | go_keep)
      (first | (go_at_call 26; go_split_ands; ((with_reducible refine (C1.out _ (by assumption)).mono ?_); rintro e w2 ⟨v1, rfl, n1, hq⟩))
             | (go_at_call 26; go_split_ands; ((with_reducible refine (C2.out _ (by assumption)).mono ?_); rintro e w3 ⟨v2, rfl, n2, hq⟩)))
    go_split_ands
    have a3 : Add w1 w3 := by assumption
    have hF : NvP2 w X Y (.returned (.tuple #[v1, v2])) w3 := ⟨_, _, rfl, num_nv (n1.mono hq) LX.out.1, num_nv n2 LX.out.2, Add.trans T a3⟩
    have HF := Lib.hid hF
    clear hF n1 n2 T a3 hq C1 C2 KK
    go_wp2_with fail
    go_ret2
    exact HF.out

set_option maxRecDepth 100000 in
set_option maxHeartbeats 2000000 in
theorem commonDenN (E : Nat) {v v' : Value} {x y : Tri} {w : World} (hx : FracA w v x) (hy : FracA w v' y)
    (h : Hid (x.2.2 < pw 128 ∧ y.2.2 < pw 128 ∧ (if x.2.2 = y.2.2 then x.2.2 = E else x.2.2 * y.2.2 = E))) :
    Calls Tryd.prog 20 #[v, v'] w (NvP w E) := by
  have hx0 := hx
  have hy0 := hy
  obtain ⟨an, n, cn, ad, d, cd, rfl, uN, uD⟩ := hx
  obtain ⟨an', n', cn', ad', d', cd', rfl, uN', uD'⟩ := hy
  obtain ⟨T, hX, hY⟩ := start2 w x.1 an n cn ad d cd y.1 an' n' cn' ad' d' cd'
  replace uD := uD.mono T
  replace uD' := uD'.mono T
  replace hx0 := hx0.mono T
  replace hy0 := hy0.mono T
  obtain ⟨l2, l4, hc⟩ := h.out
  have m1 : x.2.2 * y.2.2 < pw 256 := lt_mul (i := 128) (j := 128) l2 l4
  have FM1 : Hid (x.2.2 < pw 512 ∧ y.2.2 < pw 512 ∧ x.2.2 * y.2.2 < pw 512) := Lib.hid ⟨lt_up l2 (by decide), lt_up l4 (by decide), lt_up m1 (by decide)⟩
  have LL : Hid (x.2.2 * y.2.2 < pw 1000) := Lib.hid (lt_up m1 (by decide))
  have HC := Lib.hid hc
  have hc0 := hX.c0
  have hc1 := hX.c1
  have hc2 := hX.c2
  have hd0 := hY.c0
  have hd1 := hY.c1
  have hd2 := hY.c2
  clear l2 l4 hc m1 h uN uN'
  by_cases c : x.2.2 = y.2.2
  · have FS : Hid (decide (x.2.2 = y.2.2) = true) := Lib.hid (decide_eq_true c)
    have hc := HC.out
    rw [if_pos c] at hc
    rw [hc] at uD
    clear hc c HC FM1 LL uD'
    go_enter Tryd.func20, Tryd.ntmps20
    go_wp2_with fail
    refine (sameDenN true hx0 hy0 FS).mono ?_
    rintro e w1 ⟨rfl, h1⟩
    replace hX := hX.mono h1
    replace uD := uD.mono h1
    replace T := Add.trans T h1
    clear h1 hc0 hc1 hc2 hd0 hd1 hd2 hx0 hy0 FS hY
    have hc1 := hX.c2
    have hF : NvP w E (.returned (.slice ad d cd)) w1 := ⟨_, rfl, uD, T⟩
    have HF := Lib.hid hF
    clear hX hF uD T
    go_wp2_with fail
    go_ret
    exact HF.out
  · have FS : Hid (decide (x.2.2 = y.2.2) = false) := Lib.hid (decide_eq_false c)
    have hc := HC.out
    rw [if_neg c] at hc
    have EX : Hid (x.2.2 * y.2.2 = E) := Lib.hid hc
    clear c HC hc
    go_enter Tryd.func20, Tryd.ntmps20
    go_wp2_with fail
    refine (sameDenN false hx0 hy0 FS).mono ?_
    rintro e w1 ⟨rfl, h1⟩
    replace hX := hX.mono h1
    replace hY := hY.mono h1
    replace uD := uD.mono h1
    replace uD' := uD'.mono h1
    replace T := Add.trans T h1
    clear h1 hc0 hc1 hc2 hd0 hd1 hd2 hx0 hy0 FS
    have hc2 := hX.c2
    have hd2 := hY.c2
    clear hX hY
    go_wp2_with fail
    refine (timesF uD uD' FM1).mono ?_
    rintro e w2 ⟨v1, rfl, n1, h2⟩
    have hF : NvP w E (.returned v1) w2 := ⟨_, rfl, by rw [← EX.out]; exact num_nv n1 LL.out, Add.trans T h2⟩
    have HF := Lib.hid hF
    clear hF n1 T h2 hc2 hd2 uD uD' FM1
    go_wp2_with fail
    go_ret
    exact HF.out
end Go.Proofs.YtifpfoeecnkhoaaDoor

namespace Go.Proofs.YtifpfoeecnkhoaaDoor
open Go.RowKit NatM Go.Proofs.YtifpfoeecnkhoaaDoor.Api

/-- The numerators and the common denominator of two valid fractions. -/
theorem common {x y : Tri} (hx : okF x = true) (hy : okF y = true) : ∃ X Y E,
    (if x.2.2 = y.2.2 then x.2.1 = X ∧ y.2.1 = Y else x.2.1 * y.2.2 = X ∧ y.2.1 * x.2.2 = Y) ∧ (if x.2.2 = y.2.2 then x.2.2 = E else x.2.2 * y.2.2 = E) ∧
    qv x = frac x.1 X E ∧ qv y = frac y.1 Y E ∧ E ≠ 0 ∧ X < pw 256 ∧ Y < pw 256 ∧ E < pw 256 := by
  obtain ⟨a1, a2, a3⟩ := okF_iff.1 hx
  obtain ⟨b1, b2, b3⟩ := okF_iff.1 hy
  by_cases c : x.2.2 = y.2.2
  · refine ⟨x.2.1, y.2.1, x.2.2, by rw [if_pos c]; exact ⟨rfl, rfl⟩, by rw [if_pos c], rfl, by unfold qv; rw [c], a1, lt_up a2 (by decide), lt_up b2 (by decide), lt_up a3 (by decide)⟩
  · refine ⟨x.2.1 * y.2.2, y.2.1 * x.2.2, x.2.2 * y.2.2, by rw [if_neg c]; exact ⟨rfl, rfl⟩, by rw [if_neg c], ?_, ?_, Nat.mul_ne_zero a1 b1, lt_mul (i := 128) (j := 128) a2 b3, lt_mul (i := 128) (j := 128) b2 a3, lt_mul (i := 128) (j := 128) a3 b3⟩
    · unfold qv; rw [frac_scale b1]
    · unfold qv; rw [Nat.mul_comm x.2.2 y.2.2, frac_scale a1]
def addF (x y : Tri) : Tri × Nat := if okF x = true ∧ okF y = true then fitQ (qv x + qv y) else ((false, 0, 0), 1)
def mulF (x y : Tri) : Tri × Nat := if okF x = true ∧ okF y = true then fitQ (qv x * qv y) else ((false, 0, 0), 1)
def quoF (x y : Tri) : Tri × Nat := if okF x = true ∧ okF y = true then (if y.2.1 = 0 then ((false, 0, 0), 3) else fitQ (qv x / qv y)) else ((false, 0, 0), 1)
def redF (x : Tri) : Tri × Nat := if okF x = true then fitQ (qv x) else ((false, 0, 0), 1)
def cmpF (x y : Tri) : Int × Nat := if okF x = true ∧ okF y = true then (cmpQ (qv x) (qv y), 0) else (0, 1)
theorem addF_l {x y : Tri} (h : okF x = false) : addF x y = ((false, 0, 0), 1) := by unfold addF; rw [if_neg (by rw [h]; simp)]
theorem addF_r {x y : Tri} (h : okF y = false) : addF x y = ((false, 0, 0), 1) := by unfold addF; rw [if_neg (by rw [h]; simp)]
theorem mulF_l {x y : Tri} (h : okF x = false) : mulF x y = ((false, 0, 0), 1) := by unfold mulF; rw [if_neg (by rw [h]; simp)]
theorem mulF_r {x y : Tri} (h : okF y = false) : mulF x y = ((false, 0, 0), 1) := by unfold mulF; rw [if_neg (by rw [h]; simp)]
theorem quoF_l {x y : Tri} (h : okF x = false) : quoF x y = ((false, 0, 0), 1) := by unfold quoF; rw [if_neg (by rw [h]; simp)]
theorem quoF_r {x y : Tri} (h : okF y = false) : quoF x y = ((false, 0, 0), 1) := by unfold quoF; rw [if_neg (by rw [h]; simp)]
theorem addF_same {x y : Tri} {X Y E : Nat} (hx : okF x = true) (hy : okF y = true) (e1 : qv x = frac x.1 X E) (e2 : qv y = frac y.1 Y E) (hE : E ≠ 0) (h : x.1 = y.1) : fitQ (frac x.1 (X + Y) E) = addF x y := by
  unfold addF; rw [if_pos ⟨hx, hy⟩, e1, e2, ← h, sum_same hE]
theorem addF_ge {x y : Tri} {X Y E : Nat} (hx : okF x = true) (hy : okF y = true) (e1 : qv x = frac x.1 X E) (e2 : qv y = frac y.1 Y E) (hE : E ≠ 0) (h : x.1 ≠ y.1) (hl : Y ≤ X) : fitQ (frac x.1 (X - Y) E) = addF x y := by
  unfold addF; rw [if_pos ⟨hx, hy⟩, e1, e2, sum_ge hE h hl]
theorem addF_lt {x y : Tri} {X Y E : Nat} (hx : okF x = true) (hy : okF y = true) (e1 : qv x = frac x.1 X E) (e2 : qv y = frac y.1 Y E) (hE : E ≠ 0) (h : x.1 ≠ y.1) (hl : X ≤ Y) : fitQ (frac y.1 (Y - X) E) = addF x y := by
  unfold addF; rw [if_pos ⟨hx, hy⟩, e1, e2, sum_lt hE h hl]
theorem mulF_ok {x y : Tri} (hx : okF x = true) (hy : okF y = true) : fitQ (frac (x.1 != y.1) (x.2.1 * y.2.1) (x.2.2 * y.2.2)) = mulF x y := by
  unfold mulF; rw [if_pos ⟨hx, hy⟩]; unfold qv; rw [frac_mul]
theorem quoF_ok {x y : Tri} (hx : okF x = true) (hy : okF y = true) (h0 : y.2.1 ≠ 0) : fitQ (frac (x.1 != y.1) (x.2.1 * y.2.2) (x.2.2 * y.2.1)) = quoF x y := by
  have := (okF_iff.1 hy).1
  unfold quoF; rw [if_pos ⟨hx, hy⟩, if_neg h0]; unfold qv; rw [frac_quo h0 this]
theorem quoF_zero {x y : Tri} (hx : okF x = true) (hy : okF y = true) (h0 : y.2.1 = 0) : quoF x y = ((false, 0, 0), 3) := by
  unfold quoF; rw [if_pos ⟨hx, hy⟩, if_pos h0]
end Go.Proofs.YtifpfoeecnkhoaaDoor

namespace Go.Proofs.YtifpfoeecnkhoaaDoor
open Go.RowKit NatM Go.Proofs.YtifpfoeecnkhoaaDoor.Api

set_option maxRecDepth 100000 in
set_option maxHeartbeats 1000000 in
theorem add_refuses (p : Tri × Nat) {v v' : Value} {x y : Tri} {w : World} (hx : FracA w v x) (hy : FracA w v' y) (hT : Tab w) (h : Hid (okF x = false ∨ okF y = false)) (hp : Hid (addF x y = p)) :
    Calls Tryd.prog 8 #[v, v'] w (ResF w p) := by
  have hx0 := hx
  have hy0 := hy
  obtain ⟨an, n, cn, ad, d, cd, rfl, uN, uD⟩ := hx
  obtain ⟨an', n', cn', ad', d', cd', rfl, uN', uD'⟩ := hy
  obtain ⟨T, hX, hY, hB⟩ := start3 w x.1 an n cn ad d cd y.1 an' n' cn' ad' d' cd' false none 0 0 none 0 0
  replace hx0 := hx0.mono T
  replace hy0 := hy0.mono T
  replace hT := hT.mono T
  have hc0 := hX.c0
  have hc1 := hX.c1
  have hc2 := hX.c2
  have hd0 := hY.c0
  have hd1 := hY.c1
  have hd2 := hY.c2
  go_enter Tryd.func8, Tryd.ntmps8
  by_cases c : okF x = false
  · have FV := Lib.hid c
    have hpe := hp.out
    rw [addF_l c] at hpe
    subst hpe
    clear c h hp
    go_wp2_with fail
    refine (validN false hx0 FV).mono ?_
    rintro e w1 ⟨rfl, h1⟩
    replace hB := hB.mono h1
    replace T := Add.trans T h1
    clear h1 hc0 hc1 hc2 hd0 hd1 hd2 hX hY FV hx0 hy0 hT uN uD uN' uD'
    have hc0 := hB.c0
    have hc1 := hB.c1
    have hc2 := hB.c2
    have hc3 := hB.fr 0
    have hc4 := hB.fr 1
    have hc5 := hB.fr 2
    have hF := resF_put (w := w) (p := ((false, 0, 0), 1)) hB (fracT_zero _) T (by omega)
    clear hB T 
    unfold put3 at hF
    have HF := Lib.hid hF
    clear hF
    go_wp2_with fail
    exact bodyPost_ret (v := .tuple #[.agg #[.bool false, .slice none 0 0, .slice none 0 0], .int .i64 1]) (by simp [results, Tryd.results8, go_sem, hc0, hc1, hc2]) rfl HF.out
  · have c1 : okF x = true := by simpa using c
    have c2 : okF y = false := h.out.resolve_left c
    have FV := Lib.hid c1
    have FU := Lib.hid c2
    have hpe := hp.out
    rw [addF_r c2] at hpe
    subst hpe
    clear c c1 c2 h hp
    go_wp2_with fail
    refine (validN true hx0 FV).mono ?_
    rintro e w1 ⟨rfl, h1⟩
    replace hB := hB.mono h1
    replace hY := hY.mono h1
    replace hy0 := hy0.mono h1
    replace T := Add.trans T h1
    clear h1 hc0 hc1 hc2 hd0 hd1 hd2 hX FV hT uN uD uN' uD' hx0
    have hd0 := hY.c0
    have hd1 := hY.c1
    have hd2 := hY.c2
    go_wp2_with fail
    refine (validN false hy0 FU).mono ?_
    rintro e w2 ⟨rfl, h2⟩
    replace hB := hB.mono h2
    replace T := Add.trans T h2
    clear h2 hd0 hd1 hd2 hY FU hy0
    have hc0 := hB.c0
    have hc1 := hB.c1
    have hc2 := hB.c2
    have hc3 := hB.fr 0
    have hc4 := hB.fr 1
    have hc5 := hB.fr 2
    have hF := resF_put (w := w) (p := ((false, 0, 0), 1)) hB (fracT_zero _) T (by omega)
    clear hB T 
    unfold put3 at hF
    have HF := Lib.hid hF
    clear hF
    go_wp2_with fail
    exact bodyPost_ret (v := .tuple #[.agg #[.bool false, .slice none 0 0, .slice none 0 0], .int .i64 1]) (by simp [results, Tryd.results8, go_sem, hc0, hc1, hc2]) rfl HF.out

set_option maxRecDepth 100000 in
set_option maxHeartbeats 2000000 in
theorem add_works (p : Tri × Nat) {v v' : Value} {x y : Tri} {w : World} (hx : FracA w v x) (hy : FracA w v' y) (hT : Tab w) (h : Hid (okF x = true ∧ okF y = true)) (hp : Hid (addF x y = p)) :
    Calls Tryd.prog 8 #[v, v'] w (ResF w p) := by
  have hx0 := hx
  have hy0 := hy
  obtain ⟨an, n, cn, ad, d, cd, rfl, uN, uD⟩ := hx
  obtain ⟨an', n', cn', ad', d', cd', rfl, uN', uD'⟩ := hy
  obtain ⟨T, hX, hY, hB⟩ := start3 w x.1 an n cn ad d cd y.1 an' n' cn' ad' d' cd' false none 0 0 none 0 0
  replace hx0 := hx0.mono T
  replace hy0 := hy0.mono T
  replace hT := hT.mono T
  have hc0 := hX.c0
  have hc1 := hX.c1
  have hc2 := hX.c2
  have hd0 := hY.c0
  have hd1 := hY.c1
  have hd2 := hY.c2
  obtain ⟨X, Y, E, e1, e2, e3, e4, e5, e6, e7, e8⟩ := common h.out.1 h.out.2
  obtain ⟨x1, x2, x3⟩ := okF_iff.1 h.out.1
  obtain ⟨y1, y2, y3⟩ := okF_iff.1 h.out.2
  have FV := Lib.hid h.out.1
  have FU := Lib.hid h.out.2
  have FN : Hid (x.2.1 < pw 128 ∧ x.2.2 < pw 128 ∧ y.2.1 < pw 128 ∧ y.2.2 < pw 128 ∧ (if x.2.2 = y.2.2 then x.2.1 = X ∧ y.2.1 = Y else x.2.1 * y.2.2 = X ∧ y.2.1 * x.2.2 = Y)) := Lib.hid ⟨x2, x3, y2, y3, e1⟩
  have FD : Hid (x.2.2 < pw 128 ∧ y.2.2 < pw 128 ∧ (if x.2.2 = y.2.2 then x.2.2 = E else x.2.2 * y.2.2 = E)) := Lib.hid ⟨x3, y3, e2⟩
  have E3 := Lib.hid e3
  have E4 := Lib.hid e4
  have E5 := Lib.hid e5
  have LX := Lib.hid e6
  have LY := Lib.hid e7
  have LE := Lib.hid e8
  clear e1 e2 e3 e4 e5 e6 e7 e8 x1 x2 x3 y1 y2 y3 h uN uD uN' uD'
  go_enter Tryd.func8, Tryd.ntmps8
  go_wp2_with fail
  refine (validN true hx0 FV).mono ?_
  rintro e w1 ⟨rfl, h1⟩
  replace hB := hB.mono h1
  replace hX := hX.mono h1
  replace hY := hY.mono h1
  replace hx0 := hx0.mono h1
  replace hy0 := hy0.mono h1
  replace hT := hT.mono h1
  replace T := Add.trans T h1
  clear h1 hc0 hc1 hc2 hd0 hd1 hd2
  have hd0 := hY.c0
  have hd1 := hY.c1
  have hd2 := hY.c2
  go_wp2_with fail
  refine (validN true hy0 FU).mono ?_
  rintro e w2 ⟨rfl, h2⟩
  replace hB := hB.mono h2
  replace hX := hX.mono h2
  replace hY := hY.mono h2
  replace hx0 := hx0.mono h2
  replace hy0 := hy0.mono h2
  replace hT := hT.mono h2
  replace T := Add.trans T h2
  clear h2 hd0 hd1 hd2
  have hc0 := hX.c0
  have hc1 := hX.c1
  have hc2 := hX.c2
  have hd0 := hY.c0
  have hd1 := hY.c1
  have hd2 := hY.c2
  go_wp2_with fail
  refine (numeratorsN X Y hx0 hy0 FN).mono ?_
  rintro e w3 ⟨va, vb, rfl, ua, ub, h3⟩
  replace hB := hB.mono h3
  replace hX := hX.mono h3
  replace hY := hY.mono h3
  replace hx0 := hx0.mono h3
  replace hy0 := hy0.mono h3
  replace hT := hT.mono h3
  replace T := Add.trans T h3
  clear h3 hc0 hc1 hc2 hd0 hd1 hd2 FN
  have hc0 := hX.c0
  have hc1 := hX.c1
  have hc2 := hX.c2
  have hd0 := hY.c0
  have hd1 := hY.c1
  have hd2 := hY.c2
  go_wp2_with fail
  refine (commonDenN E hx0 hy0 FD).mono ?_
  rintro e w4 ⟨vd, rfl, ud, h4⟩
  replace hB := hB.mono h4
  replace hX := hX.mono h4
  replace hY := hY.mono h4
  replace ua := ua.mono h4
  replace ub := ub.mono h4
  replace hT := hT.mono h4
  replace T := Add.trans T h4
  clear h4 hc0 hc1 hc2 hd0 hd1 hd2 FD hx0 hy0
  by_cases c : x.1 = y.1
  · have hb : (x.1 == y.1) = true := by rw [c]; exact beq_self_eq_true _
    have hN : X + Y < pw 257 := lt_add LX.out LY.out
    have hpe := (addF_same FV.out FU.out E3.out E4.out E5.out c).trans hp.out
    have C1 : Hid (∀ w', Add w4 w' → Calls Tryd.prog 22 #[va, vb] w' (NumP w' (X + Y))) := Lib.hid fun w' a => plusF (ua.mono a) (ub.mono a) (Lib.hid (lt_up hN (by decide)))
    have C2 : Hid (∀ w', Add w4 w' → ∀ v1, Num w' v1 (X + Y) → Calls Tryd.prog 21 #[.bool x.1, v1, vd] w' (ResF w' p)) := Lib.hid fun w' a v1 n1 => lowestN p (num_nv n1 (lt_up hN (by decide))) (ud.mono a) (hT.mono a) (Lib.hid ⟨E5.out, lt_up hN (by decide), lt_up LE.out (by decide), hpe⟩)
    have K0 : Hid (∀ w', Add w4 w' → w'.cell? ⟨w.heap.size, 0, none⟩ = some (.bool x.1)) := Lib.hid fun w' a => (hX.mono a).c0
    clear hN hpe hp FV FU E3 E4 E5 LX LY LE c ua ub ud hT
    have hc0 := hX.c0
    have hc1 := hX.c1
    have hc2 := hX.c2
    have hd0 := hY.c0
    have hd1 := hY.c1
    have hd2 := hY.c2
    clear hX hY
    go_wp2_with fail
    go_region_held3 (fun w' => w'.cell? ⟨w.heap.size, 0, none⟩ = some (.bool x.1))
      (first | exact K0.out _ (Below.drew (Below.refl _ _)) | exact K0.out _ a2 | exact K0.out _ a3 | exact (put3_cell _ _ _ (by omega)).trans (K0.out _ a3) | go_keep)
      (first | (go_at_call 22; ((with_reducible refine (C1.out _ (Below.drew (Below.refl _ _))).mono ?_); rintro e w7 ⟨v1, rfl, n1, hq1⟩; have a2 := Add.trans (Below.drew (Below.refl _ _) : Add w4 (World.drew w4)) hq1))
             | (go_at_call 21; ((with_reducible refine (C2.out _ a2 _ n1).mono ?_); rintro e w8 ⟨vr, rfl, nr, hq2⟩; have a3 := Add.trans a2 hq2; obtain ⟨an2, n2, cn2, ad2, d2, cd2, rfl, m1, m2⟩ := nr; have hB3 := hB.mono a3; have s0 := hB3.c0; have s1 := hB3.c1; have s2 := hB3.c2; have s3 := hB3.fr 0; have s4 := hB3.fr 1; have s5 := hB3.fr 2)))
    have hF := resF_put (w := w) (p := p) hB3 ⟨an2, n2, cn2, ad2, d2, cd2, rfl, m1, m2⟩ (Add.trans T a3) (by omega)
    unfold put3 at hF
    have HF := Lib.hid hF
    clear hF m1 m2
    go_wp2_with fail
    exact bodyPost_ret (v := .tuple #[.agg #[.bool p.1.1, .slice an2 n2 cn2, .slice ad2 d2 cd2], .int .i64 (p.2 : Nat)]) (by simp [results, Tryd.results8, go_sem, s0, s1, s2]) rfl HF.out
  · have hb : (x.1 == y.1) = false := by
      rw [beq_eq_false_iff_ne]; exact c
    obtain ⟨t, ht⟩ : ∃ t, cmpI X Y = t := ⟨_, rfl⟩
    have FC := Lib.hid ht
    have hc0 := hX.c0
    have hc1 := hX.c1
    have hc2 := hX.c2
    have hd0 := hY.c0
    have hd1 := hY.c1
    have hd2 := hY.c2
    go_wp2_with fail
    refine (cmpN t ua.nu ub.nu FC).mono ?_
    rintro e w5 ⟨rfl, h5⟩
    replace hB := hB.mono h5
    replace hX := hX.mono h5
    replace hY := hY.mono h5
    replace ua := ua.mono h5
    replace ub := ub.mono h5
    replace ud := ud.mono h5
    replace hT := hT.mono h5
    replace T := Add.trans T h5
    clear h5 hc0 hc1 hc2 hd0 hd1 hd2 hb
    rcases Nat.lt_or_ge X Y with hl | hl
    · have dt : decide ((0 : Int) ≤ t) = false := by rw [← FC.out, cmpI_lt hl]; rfl
      have hN : Y - X < pw 256 := Nat.lt_of_le_of_lt (Nat.sub_le _ _) LY.out
      have hpe := (addF_lt FV.out FU.out E3.out E4.out E5.out c (Nat.le_of_lt hl)).trans hp.out
      have C1 : Hid (∀ w', Add w5 w' → Calls Tryd.prog 24 #[vb, va] w' (NumP w' (Y - X))) := Lib.hid fun w' a => minusF (ub.mono a) (ua.mono a) (Lib.hid ⟨lt_up LY.out (by decide), (Nat.le_of_lt hl)⟩)
      have C2 : Hid (∀ w', Add w5 w' → ∀ v1, Num w' v1 (Y - X) → Calls Tryd.prog 21 #[.bool y.1, v1, vd] w' (ResF w' p)) := Lib.hid fun w' a v1 n1 => lowestN p (num_nv n1 (lt_up hN (by decide))) (ud.mono a) (hT.mono a) (Lib.hid ⟨E5.out, lt_up hN (by decide), lt_up LE.out (by decide), hpe⟩)
      have K0 : Hid (∀ w', Add w5 w' → w'.cell? ⟨w.heap.size + 1, 0, none⟩ = some (.bool y.1)) := Lib.hid fun w' a => (hY.mono a).c0
      clear hN hpe hp FV FU E3 E4 E5 LX LY LE c ua ub ud hT
      clear hl FC
      have hd0 := hY.c0
      have hd1 := hY.c1
      have hd2 := hY.c2
      clear hX hY
      go_wp2_with fail
      go_region_held3 (fun w' => w'.cell? ⟨w.heap.size + 1, 0, none⟩ = some (.bool y.1))
        (first | exact K0.out _ (Below.drew (Below.refl _ _)) | exact K0.out _ a2 | exact K0.out _ a3 | exact (put3_cell _ _ _ (by omega)).trans (K0.out _ a3) | go_keep)
        (first | (go_at_call 24; ((with_reducible refine (C1.out _ (Below.drew (Below.refl _ _))).mono ?_); rintro e w7 ⟨v1, rfl, n1, hq1⟩; have a2 := Add.trans (Below.drew (Below.refl _ _) : Add w5 (World.drew w5)) hq1))
               | (go_at_call 21; ((with_reducible refine (C2.out _ a2 _ n1).mono ?_); rintro e w8 ⟨vr, rfl, nr, hq2⟩; have a3 := Add.trans a2 hq2; obtain ⟨an2, n2, cn2, ad2, d2, cd2, rfl, m1, m2⟩ := nr; have hB3 := hB.mono a3; have s0 := hB3.c0; have s1 := hB3.c1; have s2 := hB3.c2; have s3 := hB3.fr 0; have s4 := hB3.fr 1; have s5 := hB3.fr 2)))
      have hF := resF_put (w := w) (p := p) hB3 ⟨an2, n2, cn2, ad2, d2, cd2, rfl, m1, m2⟩ (Add.trans T a3) (by omega)
      unfold put3 at hF
      have HF := Lib.hid hF
      clear hF m1 m2
      go_wp2_with fail
      exact bodyPost_ret (v := .tuple #[.agg #[.bool p.1.1, .slice an2 n2 cn2, .slice ad2 d2 cd2], .int .i64 (p.2 : Nat)]) (by simp [results, Tryd.results8, go_sem, s0, s1, s2]) rfl HF.out
    · have dt : decide ((0 : Int) ≤ t) = true := by
        rw [← FC.out]
        rcases Nat.lt_or_ge Y X with h2 | h2
        · rw [cmpI_gt h2]; rfl
        · rw [cmpI_eq (by omega)]; rfl
      have hN : X - Y < pw 256 := Nat.lt_of_le_of_lt (Nat.sub_le _ _) LX.out
      have hpe := (addF_ge FV.out FU.out E3.out E4.out E5.out c hl).trans hp.out
      have C1 : Hid (∀ w', Add w5 w' → Calls Tryd.prog 24 #[va, vb] w' (NumP w' (X - Y))) := Lib.hid fun w' a => minusF (ua.mono a) (ub.mono a) (Lib.hid ⟨lt_up LX.out (by decide), hl⟩)
      have C2 : Hid (∀ w', Add w5 w' → ∀ v1, Num w' v1 (X - Y) → Calls Tryd.prog 21 #[.bool x.1, v1, vd] w' (ResF w' p)) := Lib.hid fun w' a v1 n1 => lowestN p (num_nv n1 (lt_up hN (by decide))) (ud.mono a) (hT.mono a) (Lib.hid ⟨E5.out, lt_up hN (by decide), lt_up LE.out (by decide), hpe⟩)
      have K0 : Hid (∀ w', Add w5 w' → w'.cell? ⟨w.heap.size, 0, none⟩ = some (.bool x.1)) := Lib.hid fun w' a => (hX.mono a).c0
      clear hN hpe hp FV FU E3 E4 E5 LX LY LE c ua ub ud hT
      clear hl FC
      have hc0 := hX.c0
      have hc1 := hX.c1
      have hc2 := hX.c2
      clear hX hY
      go_wp2_with fail
      go_region_held3 (fun w' => w'.cell? ⟨w.heap.size, 0, none⟩ = some (.bool x.1))
        (first | exact K0.out _ (Below.drew (Below.refl _ _)) | exact K0.out _ a2 | exact K0.out _ a3 | exact (put3_cell _ _ _ (by omega)).trans (K0.out _ a3) | go_keep)
        (first | (go_at_call 24; ((with_reducible refine (C1.out _ (Below.drew (Below.refl _ _))).mono ?_); rintro e w7 ⟨v1, rfl, n1, hq1⟩; have a2 := Add.trans (Below.drew (Below.refl _ _) : Add w5 (World.drew w5)) hq1))
               | (go_at_call 21; ((with_reducible refine (C2.out _ a2 _ n1).mono ?_); rintro e w8 ⟨vr, rfl, nr, hq2⟩; have a3 := Add.trans a2 hq2; obtain ⟨an2, n2, cn2, ad2, d2, cd2, rfl, m1, m2⟩ := nr; have hB3 := hB.mono a3; have s0 := hB3.c0; have s1 := hB3.c1; have s2 := hB3.c2; have s3 := hB3.fr 0; have s4 := hB3.fr 1; have s5 := hB3.fr 2)))
      have hF := resF_put (w := w) (p := p) hB3 ⟨an2, n2, cn2, ad2, d2, cd2, rfl, m1, m2⟩ (Add.trans T a3) (by omega)
      unfold put3 at hF
      have HF := Lib.hid hF
      clear hF m1 m2
      go_wp2_with fail
      exact bodyPost_ret (v := .tuple #[.agg #[.bool p.1.1, .slice an2 n2 cn2, .slice ad2 d2 cd2], .int .i64 (p.2 : Nat)]) (by simp [results, Tryd.results8, go_sem, s0, s1, s2]) rfl HF.out
theorem addN' (p : Tri × Nat) {v v' : Value} {x y : Tri} {w : World} (hx : FracA w v x) (hy : FracA w v' y) (hT : Tab w) (hp : Hid (addF x y = p)) : Calls Tryd.prog 8 #[v, v'] w (ResF w p) := by
  by_cases h : okF x = true ∧ okF y = true
  · exact add_works p hx hy hT (Lib.hid h) hp
  · refine add_refuses p hx hy hT (Lib.hid ?_) hp
    rcases hx1 : okF x with _ | _
    · exact .inl rfl
    · rcases hy1 : okF y with _ | _
      · exact .inr rfl
      · exact absurd ⟨hx1, hy1⟩ h
end Go.Proofs.YtifpfoeecnkhoaaDoor

namespace Go.Proofs.YtifpfoeecnkhoaaDoor
open Go.RowKit NatM Go.Proofs.YtifpfoeecnkhoaaDoor.Api
set_option maxRecDepth 100000 in
set_option maxHeartbeats 1000000 in
theorem quo_refuses (p : Tri × Nat) {v v' : Value} {x y : Tri} {w : World} (hx : FracA w v x) (hy : FracA w v' y) (hT : Tab w) (h : Hid (okF x = false ∨ okF y = false)) (hp : Hid (quoF x y = p)) :
    Calls Tryd.prog 9 #[v, v'] w (ResF w p) := by
  have hx0 := hx
  have hy0 := hy
  obtain ⟨an, n, cn, ad, d, cd, rfl, uN, uD⟩ := hx
  obtain ⟨an', n', cn', ad', d', cd', rfl, uN', uD'⟩ := hy
  obtain ⟨T, hX, hY, hB⟩ := start3 w x.1 an n cn ad d cd y.1 an' n' cn' ad' d' cd' false none 0 0 none 0 0
  replace hx0 := hx0.mono T
  replace hy0 := hy0.mono T
  replace hT := hT.mono T
  have hc0 := hX.c0
  have hc1 := hX.c1
  have hc2 := hX.c2
  have hd0 := hY.c0
  have hd1 := hY.c1
  have hd2 := hY.c2
  go_enter Tryd.func9, Tryd.ntmps9
  by_cases c : okF x = false
  · have FV := Lib.hid c
    have hpe := hp.out
    rw [quoF_l c] at hpe
    subst hpe
    clear c h hp
    go_wp2_with fail
    refine (validN false hx0 FV).mono ?_
    rintro e w1 ⟨rfl, h1⟩
    replace hB := hB.mono h1
    replace T := Add.trans T h1
    clear h1 hc0 hc1 hc2 hd0 hd1 hd2 hX hY FV hx0 hy0 hT uN uD uN' uD'
    have hc0 := hB.c0
    have hc1 := hB.c1
    have hc2 := hB.c2
    have hc3 := hB.fr 0
    have hc4 := hB.fr 1
    have hc5 := hB.fr 2
    have hF := resF_put (w := w) (p := ((false, 0, 0), 1)) hB (fracT_zero _) T (by omega)
    clear hB T 
    unfold put3 at hF
    have HF := Lib.hid hF
    clear hF
    go_wp2_with fail
    exact bodyPost_ret (v := .tuple #[.agg #[.bool false, .slice none 0 0, .slice none 0 0], .int .i64 1]) (by simp [results, Tryd.results9, go_sem, hc0, hc1, hc2]) rfl HF.out
  · have c1 : okF x = true := by simpa using c
    have c2 : okF y = false := h.out.resolve_left c
    have FV := Lib.hid c1
    have FU := Lib.hid c2
    have hpe := hp.out
    rw [quoF_r c2] at hpe
    subst hpe
    clear c c1 c2 h hp
    go_wp2_with fail
    refine (validN true hx0 FV).mono ?_
    rintro e w1 ⟨rfl, h1⟩
    replace hB := hB.mono h1
    replace hY := hY.mono h1
    replace hy0 := hy0.mono h1
    replace T := Add.trans T h1
    clear h1 hc0 hc1 hc2 hd0 hd1 hd2 hX FV hT uN uD uN' uD' hx0
    have hd0 := hY.c0
    have hd1 := hY.c1
    have hd2 := hY.c2
    go_wp2_with fail
    refine (validN false hy0 FU).mono ?_
    rintro e w2 ⟨rfl, h2⟩
    replace hB := hB.mono h2
    replace T := Add.trans T h2
    clear h2 hd0 hd1 hd2 hY FU hy0
    have hc0 := hB.c0
    have hc1 := hB.c1
    have hc2 := hB.c2
    have hc3 := hB.fr 0
    have hc4 := hB.fr 1
    have hc5 := hB.fr 2
    have hF := resF_put (w := w) (p := ((false, 0, 0), 1)) hB (fracT_zero _) T (by omega)
    clear hB T 
    unfold put3 at hF
    have HF := Lib.hid hF
    clear hF
    go_wp2_with fail
    exact bodyPost_ret (v := .tuple #[.agg #[.bool false, .slice none 0 0, .slice none 0 0], .int .i64 1]) (by simp [results, Tryd.results9, go_sem, hc0, hc1, hc2]) rfl HF.out

set_option maxRecDepth 100000 in
set_option maxHeartbeats 2000000 in
theorem quo_zero (p : Tri × Nat) {v v' : Value} {x y : Tri} {w : World} (hx : FracA w v x) (hy : FracA w v' y) (hT : Tab w) (h : Hid (okF x = true ∧ okF y = true)) (h0 : Hid (y.2.1 = 0)) (hp : Hid (quoF x y = p)) :
    Calls Tryd.prog 9 #[v, v'] w (ResF w p) := by
  have hx0 := hx
  have hy0 := hy
  obtain ⟨an, n, cn, ad, d, cd, rfl, uN, uD⟩ := hx
  obtain ⟨an', n', cn', ad', d', cd', rfl, uN', uD'⟩ := hy
  obtain ⟨T, hX, hY, hB⟩ := start3 w x.1 an n cn ad d cd y.1 an' n' cn' ad' d' cd' false none 0 0 none 0 0
  replace hx0 := hx0.mono T
  replace hy0 := hy0.mono T
  replace hT := hT.mono T
  have hc0 := hX.c0
  have hc1 := hX.c1
  have hc2 := hX.c2
  have hd0 := hY.c0
  have hd1 := hY.c1
  have hd2 := hY.c2
  replace uN := uN.mono T
  replace uD := uD.mono T
  replace uN' := uN'.mono T
  replace uD' := uD'.mono T
  obtain ⟨x1, x2, x3⟩ := okF_iff.1 h.out.1
  obtain ⟨y1, y2, y3⟩ := okF_iff.1 h.out.2
  have FV := Lib.hid h.out.1
  have FU := Lib.hid h.out.2
  have hpe := (quoF_zero FV.out FU.out h0.out).symm.trans hp.out
  subst hpe
  have FZ : Hid (decide (y.2.1 = 0) = true) := Lib.hid (decide_eq_true h0.out)
  clear x1 x2 x3 y1 y2 y3 h hp h0
  go_enter Tryd.func9, Tryd.ntmps9
  go_wp2_with fail
  refine (validN true hx0 FV).mono ?_
  rintro e w1 ⟨rfl, h1⟩
  replace hB := hB.mono h1
  replace hX := hX.mono h1
  replace hY := hY.mono h1
  replace hx0 := hx0.mono h1
  replace hy0 := hy0.mono h1
  replace hT := hT.mono h1
  replace uN := uN.mono h1
  replace uD := uD.mono h1
  replace uN' := uN'.mono h1
  replace uD' := uD'.mono h1
  replace T := Add.trans T h1
  clear h1 hc0 hc1 hc2 hd0 hd1 hd2
  have hd0 := hY.c0
  have hd1 := hY.c1
  have hd2 := hY.c2
  go_wp2_with fail
  refine (validN true hy0 FU).mono ?_
  rintro e w2 ⟨rfl, h2⟩
  replace hB := hB.mono h2
  replace hX := hX.mono h2
  replace hY := hY.mono h2
  replace hT := hT.mono h2
  replace uN := uN.mono h2
  replace uD := uD.mono h2
  replace uN' := uN'.mono h2
  replace uD' := uD'.mono h2
  replace T := Add.trans T h2
  clear h2 hd0 hd1 hd2 hx0 hy0
  have hd0 := hY.c0
  have hd1 := hY.c1
  have hd2 := hY.c2
  go_wp2_with fail
  refine (isZeroN true uN' FZ).mono ?_
  rintro e w3 ⟨rfl, h3⟩
  replace hB := hB.mono h3
  replace T := Add.trans T h3
  clear h3 hd0 hd1 hd2 hX hY hT uN uD uN' uD' FZ FV FU
  have hc0 := hB.c0
  have hc1 := hB.c1
  have hc2 := hB.c2
  have hc3 := hB.fr 0
  have hc4 := hB.fr 1
  have hc5 := hB.fr 2
  have hF := resF_put (w := w) (p := ((false, 0, 0), 3)) hB (fracT_zero _) T (by omega)
  clear hB T 
  unfold put3 at hF
  have HF := Lib.hid hF
  clear hF
  go_wp2_with fail
  exact bodyPost_ret (v := .tuple #[.agg #[.bool false, .slice none 0 0, .slice none 0 0], .int .i64 3]) (by simp [results, Tryd.results9, go_sem, hc0, hc1, hc2]) rfl HF.out

set_option maxRecDepth 100000 in
set_option maxHeartbeats 2000000 in
theorem quo_works (p : Tri × Nat) {v v' : Value} {x y : Tri} {w : World} (hx : FracA w v x) (hy : FracA w v' y) (hT : Tab w) (h : Hid (okF x = true ∧ okF y = true)) (h0 : Hid (y.2.1 ≠ 0)) (hp : Hid (quoF x y = p)) :
    Calls Tryd.prog 9 #[v, v'] w (ResF w p) := by
  have hx0 := hx
  have hy0 := hy
  obtain ⟨an, n, cn, ad, d, cd, rfl, uN, uD⟩ := hx
  obtain ⟨an', n', cn', ad', d', cd', rfl, uN', uD'⟩ := hy
  obtain ⟨T, hX, hY, hB⟩ := start3 w x.1 an n cn ad d cd y.1 an' n' cn' ad' d' cd' false none 0 0 none 0 0
  replace hx0 := hx0.mono T
  replace hy0 := hy0.mono T
  replace hT := hT.mono T
  have hc0 := hX.c0
  have hc1 := hX.c1
  have hc2 := hX.c2
  have hd0 := hY.c0
  have hd1 := hY.c1
  have hd2 := hY.c2
  replace uN := uN.mono T
  replace uD := uD.mono T
  replace uN' := uN'.mono T
  replace uD' := uD'.mono T
  obtain ⟨x1, x2, x3⟩ := okF_iff.1 h.out.1
  obtain ⟨y1, y2, y3⟩ := okF_iff.1 h.out.2
  have FV := Lib.hid h.out.1
  have FU := Lib.hid h.out.2
  have m1 : x.2.1 * y.2.2 < pw 256 := lt_mul (i := 128) (j := 128) x2 y3
  have m2 : x.2.2 * y.2.1 < pw 256 := lt_mul (i := 128) (j := 128) x3 y2
  have FM1 : Hid (x.2.1 < pw 512 ∧ y.2.2 < pw 512 ∧ x.2.1 * y.2.2 < pw 512) := Lib.hid ⟨lt_up x2 (by decide), lt_up y3 (by decide), lt_up m1 (by decide)⟩
  have FM2 : Hid (x.2.2 < pw 512 ∧ y.2.1 < pw 512 ∧ x.2.2 * y.2.1 < pw 512) := Lib.hid ⟨lt_up x3 (by decide), lt_up y2 (by decide), lt_up m2 (by decide)⟩
  have hE : x.2.2 * y.2.1 ≠ 0 := Nat.mul_ne_zero x1 h0.out
  have hpe : fitQ (frac (!(x.1 == y.1)) (x.2.1 * y.2.2) (x.2.2 * y.2.1)) = p := (quoF_ok FV.out FU.out h0.out).trans hp.out
  have FZ : Hid (decide (y.2.1 = 0) = false) := Lib.hid (decide_eq_false h0.out)
  clear x1 x2 x3 y1 y2 y3 h h0
  have HM := Lib.hid (And.intro m1 (And.intro m2 (And.intro hE hpe)))
  clear m1 m2 hE hpe
  go_enter Tryd.func9, Tryd.ntmps9
  go_wp2_with fail
  refine (validN true hx0 FV).mono ?_
  rintro e w1 ⟨rfl, h1⟩
  replace hB := hB.mono h1
  replace hX := hX.mono h1
  replace hY := hY.mono h1
  replace hx0 := hx0.mono h1
  replace hy0 := hy0.mono h1
  replace hT := hT.mono h1
  replace uN := uN.mono h1
  replace uD := uD.mono h1
  replace uN' := uN'.mono h1
  replace uD' := uD'.mono h1
  replace T := Add.trans T h1
  clear h1 hc0 hc1 hc2 hd0 hd1 hd2
  have hd0 := hY.c0
  have hd1 := hY.c1
  have hd2 := hY.c2
  go_wp2_with fail
  refine (validN true hy0 FU).mono ?_
  rintro e w2 ⟨rfl, h2⟩
  replace hB := hB.mono h2
  replace hX := hX.mono h2
  replace hY := hY.mono h2
  replace hT := hT.mono h2
  replace uN := uN.mono h2
  replace uD := uD.mono h2
  replace uN' := uN'.mono h2
  replace uD' := uD'.mono h2
  replace T := Add.trans T h2
  clear h2 hd0 hd1 hd2 hx0 hy0
  have hd0 := hY.c0
  have hd1 := hY.c1
  have hd2 := hY.c2
  go_wp2_with fail
  refine (isZeroN false uN' FZ).mono ?_
  rintro e w3 ⟨rfl, h3⟩
  replace hB := hB.mono h3
  replace hX := hX.mono h3
  replace hY := hY.mono h3
  replace hT := hT.mono h3
  replace uN := uN.mono h3
  replace uD := uD.mono h3
  replace uN' := uN'.mono h3
  replace uD' := uD'.mono h3
  replace T := Add.trans T h3
  clear h3 hd0 hd1 hd2 FZ
  obtain ⟨m1, m2, hE, hpe⟩ := HM.out
  clear HM
  have K0 : Hid (∀ w', Add w3 w' → w'.cell? ⟨w.heap.size, 0, none⟩ = some (.bool x.1) ∧ w'.cell? ⟨w.heap.size, 1, none⟩ = some (.slice an n cn) ∧ w'.cell? ⟨w.heap.size, 2, none⟩ = some (.slice ad d cd) ∧ w'.cell? ⟨w.heap.size + 1, 0, none⟩ = some (.bool y.1) ∧ w'.cell? ⟨w.heap.size + 1, 1, none⟩ = some (.slice an' n' cn') ∧ w'.cell? ⟨w.heap.size + 1, 2, none⟩ = some (.slice ad' d' cd')) := Lib.hid fun w' a => ⟨(hX.mono a).c0, (hX.mono a).c1, (hX.mono a).c2, (hY.mono a).c0, (hY.mono a).c1, (hY.mono a).c2⟩
  have C1 : Hid (∀ w', Add w3 w' → Calls Tryd.prog 26 #[.slice an n cn, .slice ad' d' cd'] w' (NumP w' (x.2.1 * y.2.2))) := Lib.hid fun w' a => timesF (uN.mono a) (uD'.mono a) FM1
  have C2 : Hid (∀ w', Add w3 w' → Calls Tryd.prog 26 #[.slice ad d cd, .slice an' n' cn'] w' (NumP w' (x.2.2 * y.2.1))) := Lib.hid fun w' a => timesF (uD.mono a) (uN'.mono a) FM2
  have C3 : Hid (∀ w', Add w3 w' → ∀ v1 v2, Num w' v1 (x.2.1 * y.2.2) → Num w' v2 (x.2.2 * y.2.1) → Calls Tryd.prog 21 #[.bool (!(x.1 == y.1)), v1, v2] w' (ResF w' p)) := Lib.hid fun w' a v1 v2 n1 n2 => lowestN p (num_nv n1 (lt_up m1 (by decide))) (num_nv n2 (lt_up m2 (by decide))) (hT.mono a) (Lib.hid ⟨hE, lt_up m1 (by decide), lt_up m2 (by decide), hpe⟩)
  have hc0 := hX.c0
  have hc1 := hX.c1
  have hc2 := hX.c2
  have hd0 := hY.c0
  have hd1 := hY.c1
  have hd2 := hY.c2
  clear hX hY uN uD uN' uD' hT m1 m2 hE hpe FM1 FM2 hp FV FU
  go_wp2_with fail
  go_region_held3 (fun w' => w'.cell? ⟨w.heap.size, 0, none⟩ = some (.bool x.1) ∧ w'.cell? ⟨w.heap.size, 1, none⟩ = some (.slice an n cn) ∧ w'.cell? ⟨w.heap.size, 2, none⟩ = some (.slice ad d cd) ∧ w'.cell? ⟨w.heap.size + 1, 0, none⟩ = some (.bool y.1) ∧ w'.cell? ⟨w.heap.size + 1, 1, none⟩ = some (.slice an' n' cn') ∧ w'.cell? ⟨w.heap.size + 1, 2, none⟩ = some (.slice ad' d' cd'))
    (first | exact K0.out _ (Below.drew (Below.refl _ _)) | exact K0.out _ a2 | exact K0.out _ a3 | exact K0.out _ a4 | exact ⟨(put3_cell (g := w.heap.size + 2) _ _ _ (by omega)).trans (K0.out _ a4 |>.1), (put3_cell (g := w.heap.size + 2) _ _ _ (by omega)).trans (K0.out _ a4 |>.2.1), (put3_cell (g := w.heap.size + 2) _ _ _ (by omega)).trans (K0.out _ a4 |>.2.2.1), (put3_cell (g := w.heap.size + 2) _ _ _ (by omega)).trans (K0.out _ a4 |>.2.2.2.1), (put3_cell (g := w.heap.size + 2) _ _ _ (by omega)).trans (K0.out _ a4 |>.2.2.2.2.1), (put3_cell (g := w.heap.size + 2) _ _ _ (by omega)).trans (K0.out _ a4 |>.2.2.2.2.2)⟩ | go_keep)
    (first | (go_at_call 26; ((with_reducible refine (C1.out _ (Below.drew (Below.refl _ _))).mono ?_); rintro e w7 ⟨v1, rfl, n1, hq1⟩; have a2 := Add.trans (Below.drew (Below.refl _ _) : Add w3 (World.drew w3)) hq1))
           | (go_at_call 26; ((with_reducible refine (C2.out _ a2).mono ?_); rintro e w8 ⟨v2, rfl, n2, hq2⟩; have a3 := Add.trans a2 hq2; have n1' := n1.mono hq2))
           | (go_at_call 21; ((with_reducible refine (C3.out _ a3 _ _ n1' n2).mono ?_); rintro e w9 ⟨vr, rfl, nr, hq3⟩; have a4 := Add.trans a3 hq3; obtain ⟨an2, n2, cn2, ad2, d2, cd2, rfl, m1, m2⟩ := nr; have hB3 := hB.mono a4; have s0 := hB3.c0; have s1 := hB3.c1; have s2 := hB3.c2; have s3 := hB3.fr 0; have s4 := hB3.fr 1; have s5 := hB3.fr 2)))
  have hF := resF_put (w := w) (p := p) hB3 ⟨an2, n2, cn2, ad2, d2, cd2, rfl, m1, m2⟩ (Add.trans T a4) (by omega)
  unfold put3 at hF
  have HF := Lib.hid hF
  clear hF m1 m2
  go_wp2_with fail
  exact bodyPost_ret (v := .tuple #[.agg #[.bool p.1.1, .slice an2 n2 cn2, .slice ad2 d2 cd2], .int .i64 (p.2 : Nat)]) (by simp [results, Tryd.results9, go_sem, s0, s1, s2]) rfl HF.out
theorem both_or (x y : Tri) : (okF x = true ∧ okF y = true) ∨ (okF x = false ∨ okF y = false) := by
  cases okF x <;> cases okF y <;> simp
theorem quoN' (p : Tri × Nat) {v v' : Value} {x y : Tri} {w : World} (hx : FracA w v x) (hy : FracA w v' y) (hT : Tab w) (hp : Hid (quoF x y = p)) : Calls Tryd.prog 9 #[v, v'] w (ResF w p) := by
  rcases both_or x y with h | h
  · by_cases h0 : y.2.1 = 0
    · exact quo_zero p hx hy hT (Lib.hid h) (Lib.hid h0) hp
    · exact quo_works p hx hy hT (Lib.hid h) (Lib.hid h0) hp
  · exact quo_refuses p hx hy hT (Lib.hid h) hp
end Go.Proofs.YtifpfoeecnkhoaaDoor

namespace Go.Proofs.YtifpfoeecnkhoaaDoor
open Go.RowKit NatM Go.Proofs.YtifpfoeecnkhoaaDoor.Api

theorem makeZ (v : Nat) {z : Int} {w : World} (h : Hid (z = (v : Int) ∧ v < 18446744073709551616)) : Calls Tryd.prog 34 #[.int .u64 z] w (NumP w v) := by
  obtain ⟨rfl, h1⟩ := h.out
  exact make_any (v : Nat) w (by omega) (by omega)
theorem mag_neg (v : Int) (h : -9223372036854775808 ≤ v ∧ v < 0) : IntKind.u64.wrap (IntKind.u64.wrap (wrap64 (-wrap64 (v + 1))) + 1) = ((v.natAbs : Nat) : Int) := by
  have e1 : wrap64 (v + 1) = v + 1 := by unfold wrap64; omega
  have e2 : wrap64 (-(v + 1)) = -(v + 1) := by unfold wrap64; omega
  rw [e1, e2, IntKind.wrap_u64, IntKind.wrap_u64]; omega
theorem mag_pos (v : Int) (h : v ≤ 9223372036854775807 ∧ 0 ≤ v) : IntKind.u64.wrap v = ((v.natAbs : Nat) : Int) := by
  rw [IntKind.wrap_u64]; omega
set_option maxRecDepth 100000 in
set_option maxHeartbeats 1000000 in
theorem magN (N : Nat) {v : Int} {w : World} (h : Hid (-9223372036854775808 ≤ v ∧ v ≤ 9223372036854775807 ∧ v.natAbs = N)) : Calls Tryd.prog 30 #[.int .i64 v] w (NumP w N) := by
  have hN : N < 18446744073709551616 := by have := h.out; omega
  have LN := Lib.hid hN
  clear hN
  by_cases c : v < 0
  · have dv : decide (v < 0) = true := decide_eq_true c
    have M := Lib.hid (mag_neg v ⟨h.out.1, c⟩)
    have e := h.out.2.2
    have EN := Lib.hid e
    clear e c h
    go_enter Tryd.func30, Tryd.ntmps30
    go_wp2_with fail
    refine (makeZ N (Lib.hid ⟨by rw [← EN.out]; exact M.out, LN.out⟩)).mono ?_
    rintro e w1 ⟨v1, rfl, n1, h1⟩
    have hF : NumP w N (.returned v1) w1 := ⟨_, rfl, n1, h1⟩
    clear n1 h1
    go_wp2_with fail
    go_ret
    exact hF
  · have dv : decide (v < 0) = false := decide_eq_false c
    have M := Lib.hid (mag_pos v ⟨h.out.2.1, by omega⟩)
    have e := h.out.2.2
    have EN := Lib.hid e
    clear e c h
    go_enter Tryd.func30, Tryd.ntmps30
    go_wp2_with fail
    refine (makeZ N (Lib.hid ⟨by rw [← EN.out]; exact M.out, LN.out⟩)).mono ?_
    rintro e w1 ⟨v1, rfl, n1, h1⟩
    have hF : NumP w N (.returned v1) w1 := ⟨_, rfl, n1, h1⟩
    clear n1 h1
    go_wp2_with fail
    go_ret
    exact hF

/-- The value of num / den. -/
def makeF (n d : Int) : Tri × Nat := if d = 0 then ((false, 0, 0), 3) else fitQ (frac (!(decide (n < 0) == decide (d < 0))) n.natAbs d.natAbs)
theorem small_int {v : Int} {N : Nat} (h : -9223372036854775808 ≤ v ∧ v ≤ 9223372036854775807 ∧ v.natAbs = N) : N < pw 128 := by
  have h1 : pw 2 ≤ pw 128 := pw_le (by decide)
  have h2 : pw 2 = 18446744073709551616 := by decide
  omega

set_option maxRecDepth 100000 in
set_option maxHeartbeats 1000000 in
theorem makeN' (p : Tri × Nat) {n d : Int} {w : World} (hT : Tab w) (h : Hid ((-9223372036854775808 ≤ n ∧ n ≤ 9223372036854775807) ∧ -9223372036854775808 ≤ d ∧ d ≤ 9223372036854775807)) (hp : Hid (makeF n d = p)) :
    Calls Tryd.prog 14 #[.int .i64 n, .int .i64 d] w (ResF w p) := by
  have hB := box_new w false none 0 0 none 0 0
  have T : Add w (w.alloc (.cells #[.bool false, .slice none 0 0, .slice none 0 0] 25)) := add_new _ _
  replace hT := hT.mono T
  obtain ⟨N, hN⟩ : ∃ N, n.natAbs = N := ⟨_, rfl⟩
  obtain ⟨D, hD⟩ : ∃ D, d.natAbs = D := ⟨_, rfl⟩
  have FN : Hid (-9223372036854775808 ≤ n ∧ n ≤ 9223372036854775807 ∧ n.natAbs = N) := Lib.hid ⟨h.out.1.1, h.out.1.2, hN⟩
  have FD : Hid (-9223372036854775808 ≤ d ∧ d ≤ 9223372036854775807 ∧ d.natAbs = D) := Lib.hid ⟨h.out.2.1, h.out.2.2, hD⟩
  have hpe := hp.out
  unfold makeF at hpe
  rw [hN, hD] at hpe
  obtain ⟨sn, hsn⟩ : ∃ s, decide (n < 0) = s := ⟨_, rfl⟩
  obtain ⟨sd, hsd⟩ : ∃ s, decide (d < 0) = s := ⟨_, rfl⟩
  rw [hsn, hsd] at hpe
  clear h hp
  by_cases c : d = 0
  · rw [if_pos c] at hpe
    subst hpe
    have dc : (d == 0) = true := by rw [c]; rfl
    clear hN hD FN FD c hsn hsd
    go_enter Tryd.func14, Tryd.ntmps14
    have hF : ResF w ((false, 0, 0), 3) (.returned (.tuple #[.agg #[.bool false, .slice none 0 0, .slice none 0 0], .int .i64 3])) (w.alloc (.cells #[.bool false, .slice none 0 0, .slice none 0 0] 25)) := ⟨_, rfl, fracT_zero _, T⟩
    have HF := Lib.hid hF
    clear hF T hB
    go_wp2_with fail
    exact bodyPost_ret (v := .tuple #[.agg #[.bool false, .slice none 0 0, .slice none 0 0], .int .i64 3]) (by simp [results, Tryd.results14, go_sem]) rfl HF.out
  · rw [if_neg c] at hpe
    have HPE := Lib.hid hpe
    have hD0 : D ≠ 0 := by omega
    have HD0 := Lib.hid hD0
    have dc : (d == 0) = false := by rw [beq_eq_false_iff_ne]; exact c
    clear hN hD c hpe hD0
    go_enter Tryd.func14, Tryd.ntmps14
    go_wp2_with fail
    refine (magN N FN).mono ?_
    rintro e w1 ⟨v1, rfl, n1, h1⟩
    replace hB := hB.mono h1
    replace hT := hT.mono h1
    replace T := Add.trans T h1
    clear h1 
    go_wp2_with fail
    refine (magN D FD).mono ?_
    rintro e w2 ⟨v2, rfl, n2, h2⟩
    replace hB := hB.mono h2
    replace hT := hT.mono h2
    replace n1 := n1.mono h2
    replace T := Add.trans T h2
    clear h2 
    have b1 := small_int FN.out
    have b2 := small_int FD.out
    have C := Lib.hid (lowestN p (num_nv n1 (lt_up b1 (by decide))) (num_nv n2 (lt_up b2 (by decide))) hT (Lib.hid ⟨HD0.out, lt_up b1 (by decide), lt_up b2 (by decide), HPE.out⟩))
    clear b1 b2 n1 n2 hT FN FD HPE HD0
    go_wp2_with fail
    refine (C.out).mono ?_
    rintro e w3 ⟨vr, rfl, nr, h3⟩
    replace hB := hB.mono h3
    replace T := Add.trans T h3
    clear h3 C
    obtain ⟨an2, n2, cn2, ad2, d2, cd2, rfl, m1, m2⟩ := nr
    have s0 := hB.c0
    have s1 := hB.c1
    have s2 := hB.c2
    have s3 := hB.fr 0
    have s4 := hB.fr 1
    have s5 := hB.fr 2
    have hF := resF_put (w := w) (p := p) hB ⟨an2, n2, cn2, ad2, d2, cd2, rfl, m1, m2⟩ T (Nat.le_refl _)
    clear hB T m1 m2
    unfold put3 at hF
    have HF := Lib.hid hF
    clear hF
    go_wp2_with fail
    exact bodyPost_ret (v := .tuple #[.agg #[.bool p.1.1, .slice an2 n2 cn2, .slice ad2 d2 cd2], .int .i64 (p.2 : Nat)]) (by simp [results, Tryd.results14, go_sem, s0, s1, s2]) rfl HF.out

set_option maxRecDepth 100000 in
set_option maxHeartbeats 1000000 in
theorem reduceN' (p : Tri × Nat) {v : Value} {x : Tri} {w : World} (hx : FracA w v x) (hT : Tab w) (hp : Hid (redF x = p)) :
    Calls Tryd.prog 11 #[v] w (ResF w p) := by
  have hx0 := hx
  obtain ⟨an, n, cn, ad, d, cd, rfl, uN, uD⟩ := hx
  obtain ⟨T, hX, hB⟩ := start2 w x.1 an n cn ad d cd false none 0 0 none 0 0
  replace hx0 := hx0.mono T
  replace uN := uN.mono T
  replace uD := uD.mono T
  replace hT := hT.mono T
  have hpe := hp.out
  unfold redF at hpe
  clear hp
  have hc0 := hX.c0
  have hc1 := hX.c1
  have hc2 := hX.c2
  by_cases c : okF x = true
  · rw [if_pos c] at hpe
    obtain ⟨x1, x2, x3⟩ := okF_iff.1 c
    have FV := Lib.hid c
    have C : Hid (∀ w', Tab w' → Nv w' (.slice an n cn) x.2.1 → Nv w' (.slice ad d cd) x.2.2 → Calls Tryd.prog 21 #[.bool x.1, .slice an n cn, .slice ad d cd] w' (ResF w' p)) := Lib.hid fun w' t a b => lowestN p a b t (Lib.hid ⟨x1, lt_up x2 (by decide), lt_up x3 (by decide), hpe⟩)
    clear c x1 x2 x3 hpe
    go_enter Tryd.func11, Tryd.ntmps11
    go_wp2_with fail
    refine (validN true hx0 FV).mono ?_
    rintro e w1 ⟨rfl, h1⟩
    replace hB := hB.mono h1
    replace hX := hX.mono h1
    replace hT := hT.mono h1
    replace uN := uN.mono h1
    replace uD := uD.mono h1
    replace T := Add.trans T h1
    clear h1 hc0 hc1 hc2 hx0 FV
    have hc0 := hX.c0
    have hc1 := hX.c1
    have hc2 := hX.c2
    go_wp2_with fail
    refine (C.out _ hT uN uD).mono ?_
    rintro e w2 ⟨vr, rfl, nr, h2⟩
    replace hB := hB.mono h2
    replace T := Add.trans T h2
    clear h2 C hX hT uN uD hc0 hc1 hc2
    obtain ⟨an2, n2, cn2, ad2, d2, cd2, rfl, m1, m2⟩ := nr
    have s0 := hB.c0
    have s1 := hB.c1
    have s2 := hB.c2
    have s3 := hB.fr 0
    have s4 := hB.fr 1
    have s5 := hB.fr 2
    have hF := resF_put (w := w) (p := p) hB ⟨an2, n2, cn2, ad2, d2, cd2, rfl, m1, m2⟩ T (by omega)
    clear hB T m1 m2
    unfold put3 at hF
    have HF := Lib.hid hF
    clear hF
    go_wp2_with fail
    exact bodyPost_ret (v := .tuple #[.agg #[.bool p.1.1, .slice an2 n2 cn2, .slice ad2 d2 cd2], .int .i64 (p.2 : Nat)]) (by simp [results, Tryd.results11, go_sem, s0, s1, s2]) rfl HF.out
  · rw [if_neg c] at hpe
    subst hpe
    have FV : Hid (okF x = false) := Lib.hid (by simpa using c)
    clear c
    go_enter Tryd.func11, Tryd.ntmps11
    go_wp2_with fail
    refine (validN false hx0 FV).mono ?_
    rintro e w1 ⟨rfl, h1⟩
    replace hB := hB.mono h1
    replace T := Add.trans T h1
    clear h1 hc0 hc1 hc2 hx0 FV hX hT uN uD
    have hc0 := hB.c0
    have hc1 := hB.c1
    have hc2 := hB.c2
    have hc3 := hB.fr 0
    have hc4 := hB.fr 1
    have hc5 := hB.fr 2
    have hF := resF_put (w := w) (p := ((false, 0, 0), 1)) hB (fracT_zero _) T (by omega)
    clear hB T 
    unfold put3 at hF
    have HF := Lib.hid hF
    clear hF
    go_wp2_with fail
    exact bodyPost_ret (v := .tuple #[.agg #[.bool false, .slice none 0 0, .slice none 0 0], .int .i64 1]) (by simp [results, Tryd.results11, go_sem, hc0, hc1, hc2]) rfl HF.out
end Go.Proofs.YtifpfoeecnkhoaaDoor

namespace Go.Proofs.YtifpfoeecnkhoaaDoor
open Go.RowKit NatM Go.Proofs.YtifpfoeecnkhoaaDoor.Api

/-- What cmp.Compare answers. -/
def ordI (a b : Int) : Int := if a < b then -1 else if b < a then 1 else 0
set_option maxRecDepth 100000 in
theorem isNaN_any (a : Int) (w : World) : Calls Tryd.prog 41 #[.int .i64 a] w fun e w' => e = .returned (.bool false) ∧ w = w' := by
  have h : (a != a) = false := by simp
  go_enter Tryd.func41, Tryd.ntmps41
  go_wp2_with fail
  go_ret
  exact ⟨rfl, rfl⟩
set_option maxRecDepth 100000 in
theorem compare_any (t a b : Int) (w : World) (ht : Hid (ordI a b = t)) : Calls Tryd.prog 28 #[.int .i64 a, .int .i64 b] w (IntIs w t) := by
  have h := ht.out
  unfold ordI at h
  go_enter Tryd.func28, Tryd.ntmps28
  go_wp2_with fail
  refine (isNaN_any a w).mono ?_
  rintro e w1 ⟨rfl, rfl⟩
  go_wp2_with fail
  refine (isNaN_any b w).mono ?_
  rintro e w1 ⟨rfl, rfl⟩
  by_cases c : a < b
  · rw [if_pos c] at h
    subst h
    have d1 : decide (a < b) = true := decide_eq_true c
    clear c ht
    go_wp2_with fail
    go_ret
    exact ⟨rfl, Below.refl _ _⟩
  · rw [if_neg c] at h
    have d1 : decide (a < b) = false := decide_eq_false c
    by_cases c2 : b < a
    · rw [if_pos c2] at h
      subst h
      have d2 : decide (b < a) = true := decide_eq_true c2
      clear c c2 ht
      go_wp2_with fail
      go_ret
      exact ⟨rfl, Below.refl _ _⟩
    · rw [if_neg c2] at h
      subst h
      have d2 : decide (b < a) = false := decide_eq_false c2
      clear c c2 ht
      go_wp2_with fail
      go_ret
      exact ⟨rfl, Below.refl _ _⟩
theorem sgn_signQ {x : Tri} (h : x.2.2 ≠ 0) : sgn x = signQ (qv x) := by
  unfold sgn qv; rw [signQ_frac h]
theorem signQ_lt {p q : Rat} (h : signQ p < signQ q) : p < q := by
  unfold signQ cmpQ at h
  grind
theorem cmp_signs {x y : Tri} (hx : x.2.2 ≠ 0) (hy : y.2.2 ≠ 0) (h : sgn x ≠ sgn y) : ordI (sgn x) (sgn y) = cmpQ (qv x) (qv y) := by
  rw [sgn_signQ hx, sgn_signQ hy] at h ⊢
  unfold ordI
  rcases Int.lt_or_gt_of_ne h with h1 | h1
  · rw [if_pos h1, cmpQ_lt (signQ_lt h1)]
  · rw [if_neg (by omega), if_pos h1, cmpQ_gt (signQ_lt h1)]
theorem cmp_same {x y : Tri} {X Y E : Nat} (hx : x.2.2 ≠ 0) (hy : y.2.2 ≠ 0) (e1 : qv x = frac x.1 X E) (e2 : qv y = frac y.1 Y E) (hE : E ≠ 0) (h : sgn x = sgn y) : sgn x * cmpI X Y = cmpQ (qv x) (qv y) := by
  have z1 : X = 0 ↔ x.2.1 = 0 := by
    rw [← frac_eq_zero (neg := x.1) hE, ← e1]; exact frac_eq_zero hx
  have z2 : Y = 0 ↔ y.2.1 = 0 := by
    rw [← frac_eq_zero (neg := y.1) hE, ← e2]; exact frac_eq_zero hy
  rw [e1, e2, cmpQ_frac hE]
  unfold sgn at h ⊢
  unfold cmpI
  simp only [← z1, ← z2] at h
  simp only [← z1]
  cases h1 : x.1 <;> cases h2 : y.1 <;> simp only [h1, h2, sgq, Bool.false_eq_true, if_false, if_true] at h ⊢ <;> (repeat' split at h) <;> (repeat' split) <;> omega

/-- What Cmp answers. -/
def CmpR (w : World) (p : Int × Nat) (e : Ending) (w' : World) : Prop := e = .returned (.tuple #[.int .i64 p.1, .int .i64 (p.2 : Nat)]) ∧ Add w w'
set_option maxRecDepth 100000 in
set_option maxHeartbeats 1000000 in
theorem cmp_refuses {v v' : Value} {x y : Tri} {w : World} (hx : FracA w v x) (hy : FracA w v' y) (h : Hid (okF x = false ∨ okF y = false)) :
    Calls Tryd.prog 10 #[v, v'] w (CmpR w (0, 1)) := by
  have hx0 := hx
  have hy0 := hy
  obtain ⟨an, n, cn, ad, d, cd, rfl, uN, uD⟩ := hx
  obtain ⟨an', n', cn', ad', d', cd', rfl, uN', uD'⟩ := hy
  obtain ⟨T, hX, hY⟩ := start2 w x.1 an n cn ad d cd y.1 an' n' cn' ad' d' cd'
  replace hx0 := hx0.mono T
  replace hy0 := hy0.mono T
  have hc0 := hX.c0
  have hc1 := hX.c1
  have hc2 := hX.c2
  have hd0 := hY.c0
  have hd1 := hY.c1
  have hd2 := hY.c2
  go_enter Tryd.func10, Tryd.ntmps10
  by_cases c : okF x = false
  · have FV := Lib.hid c
    clear c h
    go_wp2_with fail
    refine (validN false hx0 FV).mono ?_
    rintro e w1 ⟨rfl, h1⟩
    replace T := Add.trans T h1
    clear h1 hc0 hc1 hc2 hd0 hd1 hd2 hX hY FV hx0 hy0 uN uD uN' uD'
    go_wp2_with fail
    go_ret2
    exact ⟨rfl, T⟩
  · have c1 : okF x = true := by simpa using c
    have c2 : okF y = false := h.out.resolve_left c
    have FV := Lib.hid c1
    have FU := Lib.hid c2
    clear c c1 c2 h
    go_wp2_with fail
    refine (validN true hx0 FV).mono ?_
    rintro e w1 ⟨rfl, h1⟩
    replace hY := hY.mono h1
    replace hy0 := hy0.mono h1
    replace T := Add.trans T h1
    clear h1 hc0 hc1 hc2 hd0 hd1 hd2 hX FV hx0 uN uD uN' uD'
    have hd0 := hY.c0
    have hd1 := hY.c1
    have hd2 := hY.c2
    go_wp2_with fail
    refine (validN false hy0 FU).mono ?_
    rintro e w2 ⟨rfl, h2⟩
    replace T := Add.trans T h2
    clear h2 hd0 hd1 hd2 hY FU hy0
    go_wp2_with fail
    go_ret2
    exact ⟨rfl, T⟩

set_option maxRecDepth 100000 in
set_option maxHeartbeats 2000000 in
theorem cmp_works (t : Int) {v v' : Value} {x y : Tri} {w : World} (hx : FracA w v x) (hy : FracA w v' y) (h : Hid (okF x = true ∧ okF y = true)) (ht : Hid (cmpQ (qv x) (qv y) = t)) :
    Calls Tryd.prog 10 #[v, v'] w (CmpR w (t, 0)) := by
  have hx0 := hx
  have hy0 := hy
  obtain ⟨an, n, cn, ad, d, cd, rfl, uN, uD⟩ := hx
  obtain ⟨an', n', cn', ad', d', cd', rfl, uN', uD'⟩ := hy
  obtain ⟨T, hX, hY⟩ := start2 w x.1 an n cn ad d cd y.1 an' n' cn' ad' d' cd'
  replace hx0 := hx0.mono T
  replace hy0 := hy0.mono T
  have hc0 := hX.c0
  have hc1 := hX.c1
  have hc2 := hX.c2
  have hd0 := hY.c0
  have hd1 := hY.c1
  have hd2 := hY.c2
  obtain ⟨X, Y, E, e1, e2, e3, e4, e5, e6, e7, e8⟩ := common h.out.1 h.out.2
  obtain ⟨x1, x2, x3⟩ := okF_iff.1 h.out.1
  obtain ⟨y1, y2, y3⟩ := okF_iff.1 h.out.2
  have FV := Lib.hid h.out.1
  have FU := Lib.hid h.out.2
  have FN : Hid (x.2.1 < pw 128 ∧ x.2.2 < pw 128 ∧ y.2.1 < pw 128 ∧ y.2.2 < pw 128 ∧ (if x.2.2 = y.2.2 then x.2.1 = X ∧ y.2.1 = Y else x.2.1 * y.2.2 = X ∧ y.2.1 * x.2.2 = Y)) := Lib.hid ⟨x2, x3, y2, y3, e1⟩
  obtain ⟨sx, hsx⟩ : ∃ s, sgn x = s := ⟨_, rfl⟩
  obtain ⟨sy, hsy⟩ : ∃ s, sgn y = s := ⟨_, rfl⟩
  have SX := Lib.hid hsx
  have SY := Lib.hid hsy
  have HD : Hid (sx ≠ sy → ordI sx sy = t) := Lib.hid fun hn => by rw [← ht.out, ← hsx, ← hsy]; exact cmp_signs x1 y1 (by rw [hsx, hsy]; exact hn)
  have HS : Hid (sx = sy → sx * cmpI X Y = t) := Lib.hid fun hn => by rw [← ht.out, ← hsx]; exact cmp_same x1 y1 e3 e4 e5 (by rw [hsx, hsy]; exact hn)
  have hsb : -1 ≤ sx ∧ sx ≤ 1 := by rw [← hsx]; unfold sgn; repeat' split <;> omega
  have SB := Lib.hid hsb
  clear e1 e2 e3 e4 e5 e6 e7 e8 x1 x2 x3 y1 y2 y3 h uN uD uN' uD' hsx hsy hsb ht
  go_enter Tryd.func10, Tryd.ntmps10
  go_wp2_with fail
  refine (validN true hx0 FV).mono ?_
  rintro e w1 ⟨rfl, h1⟩
  replace hX := hX.mono h1
  replace hY := hY.mono h1
  replace hx0 := hx0.mono h1
  replace hy0 := hy0.mono h1
  replace T := Add.trans T h1
  clear h1 hc0 hc1 hc2 hd0 hd1 hd2
  have hd0 := hY.c0
  have hd1 := hY.c1
  have hd2 := hY.c2
  go_wp2_with fail
  refine (validN true hy0 FU).mono ?_
  rintro e w2 ⟨rfl, h2⟩
  replace hX := hX.mono h2
  replace hY := hY.mono h2
  replace hx0 := hx0.mono h2
  replace hy0 := hy0.mono h2
  replace T := Add.trans T h2
  clear h2 hd0 hd1 hd2 FV FU
  have K0 : Hid (∀ w', Add w2 w' → w'.cell? ⟨w.heap.size, 0, none⟩ = some (.bool x.1) ∧ w'.cell? ⟨w.heap.size, 1, none⟩ = some (.slice an n cn) ∧ w'.cell? ⟨w.heap.size, 2, none⟩ = some (.slice ad d cd) ∧ w'.cell? ⟨w.heap.size + 1, 0, none⟩ = some (.bool y.1) ∧ w'.cell? ⟨w.heap.size + 1, 1, none⟩ = some (.slice an' n' cn') ∧ w'.cell? ⟨w.heap.size + 1, 2, none⟩ = some (.slice ad' d' cd')) := Lib.hid fun w' a => ⟨(hX.mono a).c0, (hX.mono a).c1, (hX.mono a).c2, (hY.mono a).c0, (hY.mono a).c1, (hY.mono a).c2⟩
  have C1 : Hid (∀ w', Add w2 w' → Calls Tryd.prog 27 #[.agg #[.bool x.1, .slice an n cn, .slice ad d cd]] w' (IntIs w' sx)) := Lib.hid fun w' a => signN sx (hx0.mono a) SX
  have C2 : Hid (∀ w', Add w2 w' → Calls Tryd.prog 27 #[.agg #[.bool y.1, .slice an' n' cn', .slice ad' d' cd']] w' (IntIs w' sy)) := Lib.hid fun w' a => signN sy (hy0.mono a) SY
  have hc0 := hX.c0
  have hc1 := hX.c1
  have hc2 := hX.c2
  have hd0 := hY.c0
  have hd1 := hY.c1
  have hd2 := hY.c2
  go_wp2_with fail
  go_region_held3 (fun w' => w'.cell? ⟨w.heap.size, 0, none⟩ = some (.bool x.1) ∧ w'.cell? ⟨w.heap.size, 1, none⟩ = some (.slice an n cn) ∧ w'.cell? ⟨w.heap.size, 2, none⟩ = some (.slice ad d cd) ∧ w'.cell? ⟨w.heap.size + 1, 0, none⟩ = some (.bool y.1) ∧ w'.cell? ⟨w.heap.size + 1, 1, none⟩ = some (.slice an' n' cn') ∧ w'.cell? ⟨w.heap.size + 1, 2, none⟩ = some (.slice ad' d' cd'))
    (first | exact K0.out _ (Below.drew (Below.refl _ _)) | exact K0.out _ a2 | exact K0.out _ a3 | go_keep)
    (first | (go_at_call 27; ((with_reducible refine (C1.out _ (Below.drew (Below.refl _ _))).mono ?_); rintro e w7 ⟨rfl, hq1⟩; have a2 := Add.trans (Below.drew (Below.refl _ _) : Add w2 (World.drew w2)) hq1))
           | (go_at_call 27; ((with_reducible refine (C2.out _ a2).mono ?_); rintro e w8 ⟨rfl, hq2⟩; have a3 := Add.trans a2 hq2)))
  replace hX := hX.mono a3
  replace hY := hY.mono a3
  replace hx0 := hx0.mono a3
  replace hy0 := hy0.mono a3
  replace T := Add.trans T a3
  clear K0 C1 C2 hq1 hq2 a2 a3 hc0 hc1 hc2 hd0 hd1 hd2
  by_cases c : sx = sy
  · have d1 : (sx != sy) = false := by rw [c]; simp
    have d2 : (sx == sy) = true := by rw [c]; simp
    have hst := HS.out c
    obtain ⟨u, hu⟩ : ∃ u, cmpI X Y = u := ⟨_, rfl⟩
    have FC := Lib.hid hu
    have hub : -1 ≤ u ∧ u ≤ 1 := by rw [← hu]; unfold cmpI; repeat' split <;> omega
    rw [hu] at hst
    have hm : wrap64 (sx * u) = t := by
      have h1 : sx = -1 ∨ sx = 0 ∨ sx = 1 := by have := SB.out; omega
      have h2 : u = -1 ∨ u = 0 ∨ u = 1 := by omega
      rw [← hst]
      rcases h1 with h1 | h1 | h1 <;> rcases h2 with h2 | h2 | h2 <;> rw [h1, h2] <;> unfold wrap64 <;> omega
    have HM := Lib.hid hm
    clear c hst hu hub hm HD HS SY SB
    have hc0 := hX.c0
    have hc1 := hX.c1
    have hc2 := hX.c2
    have hd0 := hY.c0
    have hd1 := hY.c1
    have hd2 := hY.c2
    go_wp2_with fail
    refine (numeratorsN X Y hx0 hy0 FN).mono ?_
    rintro e w3 ⟨va, vb, rfl, ua, ub, h3⟩
    replace hX := hX.mono h3
    replace hx0 := hx0.mono h3
    replace T := Add.trans T h3
    clear h3 hc0 hc1 hc2 hd0 hd1 hd2 d1 d2 FN hY hy0
    have hc0 := hX.c0
    have hc1 := hX.c1
    have hc2 := hX.c2
    go_wp2_with fail
    refine (signN sx hx0 SX).mono ?_
    rintro e w4 ⟨rfl, h4⟩
    replace ua := ua.mono h4
    replace ub := ub.mono h4
    replace T := Add.trans T h4
    clear h4 hc0 hc1 hc2 hX hx0 SX
    go_wp2_with fail
    refine (cmpN u ua.nu ub.nu FC).mono ?_
    rintro e w5 ⟨rfl, h5⟩
    replace T := Add.trans T h5
    clear h5 ua ub FC
    go_wp2_with fail
    go_ret2
    exact ⟨by (try rw [HM.out]); rfl, T⟩
  · have d1 : (sx != sy) = true := by rw [bne_iff_ne]; exact c
    have d2 : (sx == sy) = false := by rw [beq_eq_false_iff_ne]; exact c
    have FO := Lib.hid (HD.out c)
    clear c HD HS
    have K0 : Hid (∀ w', Add w8 w' → w'.cell? ⟨w.heap.size, 0, none⟩ = some (.bool x.1) ∧ w'.cell? ⟨w.heap.size, 1, none⟩ = some (.slice an n cn) ∧ w'.cell? ⟨w.heap.size, 2, none⟩ = some (.slice ad d cd) ∧ w'.cell? ⟨w.heap.size + 1, 0, none⟩ = some (.bool y.1) ∧ w'.cell? ⟨w.heap.size + 1, 1, none⟩ = some (.slice an' n' cn') ∧ w'.cell? ⟨w.heap.size + 1, 2, none⟩ = some (.slice ad' d' cd')) := Lib.hid fun w' a => ⟨(hX.mono a).c0, (hX.mono a).c1, (hX.mono a).c2, (hY.mono a).c0, (hY.mono a).c1, (hY.mono a).c2⟩
    have C1 : Hid (∀ w', Add w8 w' → Calls Tryd.prog 27 #[.agg #[.bool x.1, .slice an n cn, .slice ad d cd]] w' (IntIs w' sx)) := Lib.hid fun w' a => signN sx (hx0.mono a) SX
    have C2 : Hid (∀ w', Add w8 w' → Calls Tryd.prog 27 #[.agg #[.bool y.1, .slice an' n' cn', .slice ad' d' cd']] w' (IntIs w' sy)) := Lib.hid fun w' a => signN sy (hy0.mono a) SY
    have hc0 := hX.c0
    have hc1 := hX.c1
    have hc2 := hX.c2
    have hd0 := hY.c0
    have hd1 := hY.c1
    have hd2 := hY.c2
    go_wp2_with fail
    go_region_held3 (fun w' => w'.cell? ⟨w.heap.size, 0, none⟩ = some (.bool x.1) ∧ w'.cell? ⟨w.heap.size, 1, none⟩ = some (.slice an n cn) ∧ w'.cell? ⟨w.heap.size, 2, none⟩ = some (.slice ad d cd) ∧ w'.cell? ⟨w.heap.size + 1, 0, none⟩ = some (.bool y.1) ∧ w'.cell? ⟨w.heap.size + 1, 1, none⟩ = some (.slice an' n' cn') ∧ w'.cell? ⟨w.heap.size + 1, 2, none⟩ = some (.slice ad' d' cd'))
      (first | exact K0.out _ (Below.drew (Below.refl _ _)) | exact K0.out _ a2 | exact K0.out _ a3 | exact K0.out _ a4 | go_keep)
      (first | (go_at_call 27; ((with_reducible refine (C1.out _ (Below.drew (Below.refl _ _))).mono ?_); rintro e w7 ⟨rfl, hq1⟩; have a2 := Add.trans (Below.drew (Below.refl _ _) : Add w8 (World.drew w8)) hq1))
             | (go_at_call 27; ((with_reducible refine (C2.out _ a2).mono ?_); rintro e w8 ⟨rfl, hq2⟩; have a3 := Add.trans a2 hq2))
             | (go_at_call 28; ((with_reducible refine (compare_any t _ _ _ FO).mono ?_); rintro e w9 ⟨rfl, hq3⟩; have a4 := Add.trans a3 hq3)))
    go_wp2_with fail
    go_ret2
    exact ⟨rfl, Add.trans T a4⟩
theorem cmpN' (p : Int × Nat) {v v' : Value} {x y : Tri} {w : World} (hx : FracA w v x) (hy : FracA w v' y) (hp : Hid (cmpF x y = p)) : Calls Tryd.prog 10 #[v, v'] w (CmpR w p) := by
  have hpe := hp.out
  unfold cmpF at hpe
  rcases both_or x y with h | h
  · rw [if_pos h] at hpe
    subst hpe
    exact cmp_works _ hx hy (Lib.hid h) (Lib.hid rfl)
  · rw [if_neg (by rcases h with h | h <;> rw [h] <;> simp)] at hpe
    subst hpe
    exact cmp_refuses hx hy (Lib.hid h)
end Go.Proofs.YtifpfoeecnkhoaaDoor

namespace Go.Proofs.YtifpfoeecnkhoaaDoor
open Go.RowKit NatM Go.Proofs.YtifpfoeecnkhoaaDoor.Api

/-- A call that returns one fraction. -/
def RetF (w : World) (x : Tri) (e : Ending) (w' : World) : Prop := ∃ v, e = .returned v ∧ FracT w' v x ∧ Add w w'
theorem retF_put {w wk : World} {g : Nat} {b an n cn ad d cd} {x : Tri} {u0 u1 u2 : Value} (hB : Box wk g b an n cn ad d cd) (hv : FracT wk (.agg #[u0, u1, u2]) x) (hT : Add w wk) (hg : w.heap.size ≤ g) :
    RetF w x (.returned (.agg #[u0, u1, u2])) (put3 wk g u0 u1 u2) := ⟨_, rfl, hv.put hB u0 u1 u2, put3_below u0 u1 u2 hT hg⟩
/-- The row of a number is one limb, or longer. -/
theorem num_ofOne {w : World} {v : Value} {G : Nat} (h : Num w v G) (h0 : G ≠ 0) :
    (∃ b off c, v = .slice (some ⟨b, off, none⟩) 1 c ∧ w.cell? ⟨b, off, none⟩ = some (.int .u32 (G : Nat)) ∧ G < 4294967296) ∨ (∃ ao n c, v = .slice ao n c ∧ 1 < n ∧ 4294967296 ≤ G) := by
  obtain ⟨zs, ⟨ao, n, c, rfl, hl, hc, hm, hx, hr⟩, cz, hv⟩ := h
  rcases Nat.lt_trichotomy n 1 with h1 | h1 | h1
  · exfalso
    obtain rfl : zs = [] := List.length_eq_zero_iff.1 (by omega)
    exact h0 hv.symm
  · subst h1
    obtain ⟨b, off, rfl, g⟩ := hr (by decide)
    obtain ⟨z, rfl⟩ := List.length_eq_one_iff.1 hl
    have hz : z = G := by rw [← hv]; simp [val]
    subst hz
    exact .inl ⟨b, off, c, rfl, by simpa using g 0 (by decide), hx z (by simp)⟩
  · refine .inr ⟨ao, n, c, rfl, h1, ?_⟩
    have h2 : val [1, 0] < val zs ∨ 4294967296 ≤ val zs := by
      rcases Nat.lt_or_ge (val zs) 4294967296 with h | h
      · exfalso
        have := tlen_le_of_val (xs := zs) 1 (by rw [show pw 1 = 4294967296 from by decide]; exact h)
        unfold Canon at cz; omega
      · exact .inr h
    rcases h2 with h2 | h2
    · have := tlen_le_of_val (xs := zs) 1
      rcases Nat.lt_or_ge (val zs) 4294967296 with h | h
      · exfalso
        have := this (by rw [show pw 1 = 4294967296 from by decide]; exact h)
        unfold Canon at cz; omega
      · omega
    · omega

end Go.Proofs.YtifpfoeecnkhoaaDoor

namespace Go.Proofs.YtifpfoeecnkhoaaDoor
open Go.RowKit NatM Go.Proofs.YtifpfoeecnkhoaaDoor.Api

def U64R (w : World) (N : Nat) (e : Ending) (w' : World) : Prop := e = .returned (.int .u64 (N : Nat)) ∧ w = w'
theorem fitQ_small {neg : Bool} {N D : Nat} (hN : N < pw 128) (hD : D < pw 128) (h0 : D ≠ 0) : fitQ (frac neg N D) = (can (frac neg N D), 0) := by
  by_cases h : N = 0
  · subst h; rw [fitQ_zero, can_zero]
  · rw [fitQ_frac h h0 rfl rfl, can_frac h h0, if_neg]
    have h1 := Nat.div_le_self N (Nat.gcd N D)
    have h2 := Nat.div_le_self D (Nat.gcd N D)
    omega
/-- The length of a canonical row tells how great the number is. -/
theorem num_size {w : World} {v : Value} {N : Nat} (h : Num w v N) : ∃ ao n c, v = .slice ao n c ∧ (n = 0 ↔ N = 0) ∧ (n ≤ 128 ↔ N < pw 128) := by
  obtain ⟨zs, ⟨ao, n, c, rfl, hl, -, -, hx, -⟩, cz, hv⟩ := h
  unfold Canon at cz
  refine ⟨ao, n, c, rfl, ?_, ?_, ?_⟩
  · rw [← hv, val_eq_zero]; omega
  · intro h1
    have h2 := val_lt hx
    have h3 := pw_le (show zs.length ≤ 128 by omega)
    omega
  · intro h1
    have := tlen_le_of_val (xs := zs) 128 (by omega)
    omega

set_option maxRecDepth 100000 in
set_option maxHeartbeats 1000000 in
theorem refValidN (t : Bool) {v : Value} {x : Tri} {w : World} (hx : FracA w v x) (h : Hid (okF x = t)) : Calls Tryd.prog 5 #[v] w (BoolIs w t) := by
  obtain ⟨an, n, cn, ad, d, cd, rfl, uN, uD⟩ := hx
  obtain ⟨T, hX⟩ := start1 w x.1 an n cn ad d cd
  replace uN := uN.mono T
  replace uD := uD.mono T
  go_enter Tryd.func5, Tryd.ntmps5
  have hc0 := hX.c0
  have hc1 := hX.c1
  have hc2 := hX.c2
  go_wp2_with fail
  refine (refTrimX uD).mono ?_
  rintro e w1 ⟨v1, rfl, n1, h1⟩
  replace hX := hX.mono h1
  replace uN := uN.mono h1
  replace uD := uD.mono h1
  replace T := Add.trans T h1
  clear hc0 hc1 hc2 h1 
  obtain ⟨a1, m1, c1, rfl, hz, hs⟩ := num_size n1
  have HZ := Lib.hid hz
  have HS := Lib.hid hs
  clear n1 hz hs
  by_cases c0 : m1 = 0
  · have ht : t = false := by rw [← h.out]; exact okF_false (.inl (HZ.out.1 c0))
    subst ht c0
    clear h HZ HS hX uN uD
    go_wp2_with fail
    go_ret
    exact ⟨rfl, T⟩
  · have d0 : decide ((0 : Int) < (m1 : Int)) = true := by simp; omega
    have hc0 := hX.c0
    have hc1 := hX.c1
    have hc2 := hX.c2
    go_wp2_with fail
    refine (refTrimX uD).mono ?_
    rintro e w2 ⟨v2, rfl, n2, h2⟩
    replace hX := hX.mono h2
    replace uN := uN.mono h2
    replace T := Add.trans T h2
    clear hc0 hc1 hc2 h2 uD
    obtain ⟨a2, m2, c2, rfl, -, hs2⟩ := num_size n2
    have HS2 := Lib.hid hs2
    clear n2 hs2
    by_cases cy : m2 ≤ 128
    · have dy : decide ((m2 : Int) ≤ 128) = true := by simp; omega
      have hc0 := hX.c0
      have hc1 := hX.c1
      have hc2 := hX.c2
      go_wp2_with fail
      refine (refTrimX uN).mono ?_
      rintro e w3 ⟨v3, rfl, n3, h3⟩
      replace T := Add.trans T h3
      clear hc0 hc1 hc2 h3 uN hX
      obtain ⟨a3, m3, c3, rfl, -, hs3⟩ := num_size n3
      have HS3 := Lib.hid hs3
      clear n3 hs3
      by_cases cz : m3 ≤ 128
      · have ht : t = true := by rw [← h.out, okF_iff]; exact ⟨fun e => c0 (HZ.out.2 e), HS3.out.1 cz, HS2.out.1 cy⟩
        have dz : decide ((m3 : Int) ≤ 128) = true := by simp; omega
        subst ht
        clear h c0 cy cz HZ HS HS2 HS3
        go_wp2_with fail
        go_ret
        exact ⟨rfl, T⟩
      · have ht : t = false := by rw [← h.out]; exact okF_false (.inr (.inr (by have := HS3.out; omega)))
        have dz : decide ((m3 : Int) ≤ 128) = false := by simp; omega
        subst ht
        clear h c0 cy cz HZ HS HS2 HS3
        go_wp2_with fail
        go_ret
        exact ⟨rfl, T⟩
    · have ht : t = false := by rw [← h.out]; exact okF_false (.inr (.inl (by have := HS2.out; omega)))
      have dy : decide ((m2 : Int) ≤ 128) = false := by simp; omega
      have hc0 := hX.c0
      have hc1 := hX.c1
      have hc2 := hX.c2
      subst ht
      clear h c0 cy HZ HS HS2 hX uN
      go_wp2_with fail
      go_ret
      exact ⟨rfl, T⟩

set_option maxRecDepth 100000 in
set_option maxHeartbeats 1000000 in
theorem sameF (t : Bool) {v v' : Value} {x y : Tri} {w : World} (hx : FracT w v x) (hy : FracT w v' y) (h : Hid (decide (x = y) = t)) : Calls Tryd.prog 12 #[v, v'] w (BoolIs w t) := by
  obtain ⟨an, n, cn, ad, d, cd, rfl, uN, uD⟩ := hx
  obtain ⟨an', n', cn', ad', d', cd', rfl, uN', uD'⟩ := hy
  obtain ⟨T, hX, hY⟩ := start2 w x.1 an n cn ad d cd y.1 an' n' cn' ad' d' cd'
  replace uN := uN.mono T
  replace uD := uD.mono T
  replace uN' := uN'.mono T
  replace uD' := uD'.mono T
  obtain ⟨b, N, D⟩ := x
  obtain ⟨b', M, E⟩ := y
  have ht := h.out
  clear h
  have hc0 := hX.c0
  have hc1 := hX.c1
  have hc2 := hX.c2
  have hd0 := hY.c0
  have hd1 := hY.c1
  have hd2 := hY.c2
  go_enter Tryd.func12, Tryd.ntmps12
  by_cases c0 : b = b'
  · have d0 : (b == b') = true := by rw [c0]; exact beq_self_eq_true _
    have C0 := Lib.hid c0
    clear c0
    by_cases c1 : N = M
    · have FN := Lib.hid (decide_eq_true c1)
      have C1 := Lib.hid c1
      clear c1
      go_wp2_with fail
      refine (sameN true uN uN' FN).mono ?_
      rintro e w1 ⟨rfl, h1⟩
      replace hX := hX.mono h1
      replace hY := hY.mono h1
      replace uD := uD.mono h1
      replace uD' := uD'.mono h1
      replace T := Add.trans T h1
      clear h1 hc0 hc1 hc2 hd0 hd1 hd2 uN uN' FN
      have hc0 := hX.c0
      have hc1 := hX.c1
      have hc2 := hX.c2
      have hd0 := hY.c0
      have hd1 := hY.c1
      have hd2 := hY.c2
      by_cases c2 : D = E
      · have FD := Lib.hid (decide_eq_true c2)
        have e : t = true := by rw [← ht, C0.out, C1.out, c2]; simp
        subst e
        clear ht C0 C1 c2 hX hY
        go_wp2_with fail
        refine (sameN true uD uD' FD).mono ?_
        rintro e w2 ⟨rfl, h2⟩
        replace T := Add.trans T h2
        clear h2 uD uD' FD
        go_wp2_with fail
        go_ret
        exact ⟨rfl, T⟩
      · have FD := Lib.hid (decide_eq_false c2)
        have e : t = false := by rw [← ht]; simp [c2]
        subst e
        clear ht C0 C1 c2 hX hY
        go_wp2_with fail
        refine (sameN false uD uD' FD).mono ?_
        rintro e w2 ⟨rfl, h2⟩
        replace T := Add.trans T h2
        clear h2 uD uD' FD
        go_wp2_with fail
        go_ret
        exact ⟨rfl, T⟩
    · have FN := Lib.hid (decide_eq_false c1)
      have e : t = false := by rw [← ht]; simp [c1]
      subst e
      clear ht C0 c1
      go_wp2_with fail
      refine (sameN false uN uN' FN).mono ?_
      rintro e w1 ⟨rfl, h1⟩
      replace T := Add.trans T h1
      clear h1 hc0 hc1 hc2 hd0 hd1 hd2 uN uN' FN uD uD' hX hY
      go_wp2_with fail
      go_ret
      exact ⟨rfl, T⟩
  · have d0 : (b == b') = false := by rw [beq_eq_false_iff_ne]; exact c0
    have e : t = false := by rw [← ht]; simp [c0]
    subst e
    clear ht c0 hX hY uN uN' uD uD'
    go_wp2_with fail
    go_ret
    exact ⟨rfl, T⟩
end Go.Proofs.YtifpfoeecnkhoaaDoor

namespace Go.Proofs.YtifpfoeecnkhoaaDoor
open Go.RowKit NatM Go.Proofs.YtifpfoeecnkhoaaDoor.Api

theorem fmtN {va : Value} {A : Nat} {w : World} (ha : Nv w va A) (h : Hid (A < pw 512)) : Calls Tryd.prog 31 #[va] w (FmtP w A) := by
  obtain ⟨xs, r, rfl, l⟩ := ha
  exact format_ok va xs w r (by omega) h.out
/-- The text of a fraction out of the texts of its parts. -/
def fmtText (neg whole : Bool) (s1 s2 : ByteArray) : ByteArray :=
  if whole then (if neg then (⟨#[45]⟩ : ByteArray) ++ s1 else s1) else (if neg then (⟨#[45]⟩ : ByteArray) ++ s1 else s1) ++ ((⟨#[47]⟩ : ByteArray) ++ s2)
def FFmt (t : ByteArray) (x : Tri) : Prop := ∃ s1 s2, FmtIs s1 x.2.1 ∧ (x.2.2 = 1 ∨ FmtIs s2 x.2.2) ∧ t = fmtText x.1 (decide (x.2.2 = 1)) s1 s2
theorem FFmt.uniq {s t : ByteArray} {x : Tri} (h : FFmt s x) (g : FFmt t x) : s = t := by
  obtain ⟨s1, s2, h1, h2, rfl⟩ := h
  obtain ⟨t1, t2, g1, g2, rfl⟩ := g
  rw [h1.uniq g1]
  by_cases c : x.2.2 = 1
  · simp [fmtText, c]
  · rw [(h2.resolve_left c).uniq (g2.resolve_left c)]
/-- A text and an error number. -/
def TextR (w : World) (x : Tri) (e : Ending) (w' : World) : Prop := ∃ t, e = .returned (.tuple #[.string t, .int .i64 0]) ∧ FFmt t x ∧ t.size ≤ 3000000 ∧ Add w w'
theorem redF_ok {x : Tri} (h : okF x = true) : redF x = (can (qv x), 0) := by
  obtain ⟨h1, h2, h3⟩ := okF_iff.1 h
  unfold redF; rw [if_pos h]; exact fitQ_small h2 h3 h1
theorem can_small {x : Tri} (h : okF x = true) : (can (qv x)).2.1 < pw 128 ∧ (can (qv x)).2.2 < pw 128 ∧ (can (qv x)).2.2 ≠ 0 := by
  obtain ⟨h1, h2, h3⟩ := okF_iff.1 h
  have hd : (can (qv x)).2.2 ≠ 0 := (qv x).den_nz
  refine ⟨?_, ?_, hd⟩
  · show (qv x).num.natAbs < pw 128
    unfold qv; rw [frac_abs h1]; exact Nat.lt_of_le_of_lt (Nat.div_le_self _ _) h2
  · show (qv x).den < pw 128
    unfold qv; rw [frac_den h1]; exact Nat.lt_of_le_of_lt (Nat.div_le_self _ _) h3
set_option maxRecDepth 100000 in
set_option maxHeartbeats 1000000 in
theorem formatN (y : Tri) {v : Value} {x : Tri} {w : World} (hx : FracA w v x) (hT : Tab w) (h : Hid (okF x = true ∧ can (qv x) = y)) :
    Calls Tryd.prog 15 #[v] w (TextR w y) := by
  have hx0 := hx
  obtain ⟨an, n, cn, ad, d, cd, rfl, uN, uD⟩ := hx
  obtain ⟨T, hX⟩ := start1 w x.1 an n cn ad d cd
  replace hx0 := hx0.mono T
  replace hT := hT.mono T
  have FR : Hid (redF x = (y, 0)) := Lib.hid (by rw [redF_ok h.out.1, h.out.2])
  obtain ⟨b1, b2, b3⟩ := can_small h.out.1
  rw [h.out.2] at b1 b2 b3
  have L1 := Lib.hid b1
  have L2 := Lib.hid b2
  have L3 := Lib.hid b3
  clear b1 b2 b3 h uN uD
  have hc0 := hX.c0
  have hc1 := hX.c1
  have hc2 := hX.c2
  go_enter Tryd.func15, Tryd.ntmps15
  go_wp2_with fail
  refine (reduceN' (y, 0) hx0 hT FR).mono ?_
  rintro e w1 ⟨vr, rfl, nr, h1⟩
  replace hX := hX.mono h1
  replace T := Add.trans T h1
  clear h1 hc0 hc1 hc2 FR hx0 hT
  obtain ⟨a2, n2, c2, e2, d2, k2, rfl, m1, m2⟩ := nr
  have s0 := hX.c0
  have s1 := hX.c1
  have s2 := hX.c2
  have s3 := hX.fr 0
  have s4 := hX.fr 1
  have s5 := hX.fr 2
  have hX2 := hX.put y.1 a2 n2 c2 e2 d2 k2
  have m1' := m1.put hX (.bool y.1) (.slice a2 n2 c2) (.slice e2 d2 k2)
  have m2' := m2.put hX (.bool y.1) (.slice a2 n2 c2) (.slice e2 d2 k2)
  have T2 := put3_below (.bool y.1) (.slice a2 n2 c2) (.slice e2 d2 k2) T (Nat.le_refl w.heap.size)
  have u1 := num_nv m1' (lt_up L1.out (by decide))
  have u2 := num_nv m2' (lt_up L2.out (by decide))
  have F1 : Hid (y.2.1 < pw 512) := Lib.hid (lt_up L1.out (by decide))
  have F2 : Hid (y.2.2 < pw 512) := Lib.hid (lt_up L2.out (by decide))
  obtain ⟨t, ht⟩ : ∃ t, nb y.2.2 = t := ⟨_, rfl⟩
  have FT := Lib.hid ht
  have htp : 1 < t ↔ y.2.2 ≠ 1 := by
    rw [← ht]
    constructor
    · intro h1 h2
      rw [h2] at h1
      exact absurd h1 (by decide)
    · intro h1
      have h2 := L3.out
      exact lt_nb_of_le (k := 1) (by omega)
  have HT := Lib.hid htp
  clear m1 m2 m1' m2' hX T L1 L2 ht htp
  have hc0 := hX2.c0
  have hc1 := hX2.c1
  have hc2 := hX2.c2
  have HX := Lib.hid hX2
  unfold put3 at hc0 hc1 hc2 u1 u2 T2
  clear hX2
  go_wp2_with fail
  refine (fmtN u1 F1).mono ?_
  rintro e w3 ⟨q1, rfl, f1, z1, h3⟩
  have hX3 := HX.out.mono h3
  replace u2 := u2.mono h3
  have T3 := Add.trans T2 h3
  clear h3 HX T2 u1 F1 hc0 hc1 hc2 s0 s1 s2 s3 s4 s5
  have hc0 := hX3.c0
  have hc1 := hX3.c1
  have hc2 := hX3.c2
  have HF1 := Lib.hid f1
  clear f1
  obtain ⟨sg, hsg⟩ : ∃ s, y.1 = s := ⟨_, rfl⟩
  rw [hsg] at hc0
  have SG := Lib.hid hsg
  clear hsg
  cases sg with
  | false =>
    by_cases ct : 1 < t
    · have dt : decide ((1 : Int) < (t : Int)) = true := by simp; omega
      have hne := HT.out.1 ct
      have HNE := Lib.hid hne
      clear ct hne HT
      go_wp2_with fail
      refine (bitsN t u2.nu FT).mono ?_
      rintro e w4 ⟨rfl, h4⟩
      have hX4 := hX3.mono h4
      replace u2 := u2.mono h4
      have T4 := Add.trans T3 h4
      clear h4 hX3 T3 hc0 hc1 hc2
      have hc2 := hX4.c2
      clear hX4
      go_wp2_with fail
      refine (fmtN u2 F2).mono ?_
      rintro e w5 ⟨q2, rfl, f2, z2, h5⟩
      have hF : TextR w y (.returned (.tuple #[.string (q1 ++ ((⟨#[47]⟩ : ByteArray) ++ q2)), .int .i64 0])) w5 := ⟨_, rfl, ⟨q1, q2, HF1.out, .inr f2, by rw [SG.out, decide_eq_false HNE.out]; simp [fmtText]⟩, by rw [ByteArray.size_append']; have := ByteArray.size_append' (⟨#[45]⟩ : ByteArray) q1; have := ByteArray.size_append' (⟨#[47]⟩ : ByteArray) q2; have e1 : (⟨#[45]⟩ : ByteArray).size = 1 := rfl; have e2 : (⟨#[47]⟩ : ByteArray).size = 1 := rfl; omega, Add.trans T4 h5⟩
      have HF := Lib.hid hF
      clear hF f2 T4 h5 u2 F2 HF1 SG HNE
      go_wp2_with fail
      go_ret2
      exact HF.out
    · have dt : decide ((1 : Int) < (t : Int)) = false := by simp; omega
      have hne : y.2.2 = 1 := by
        have := HT.out
        omega
      have HNE := Lib.hid hne
      clear ct hne HT
      go_wp2_with fail
      refine (bitsN t u2.nu FT).mono ?_
      rintro e w4 ⟨rfl, h4⟩
      have hF : TextR w y (.returned (.tuple #[.string (q1), .int .i64 0])) w4 := ⟨_, rfl, ⟨q1, q1, HF1.out, .inl HNE.out, by rw [SG.out, decide_eq_true HNE.out]; simp [fmtText]⟩, by have := ByteArray.size_append' (⟨#[45]⟩ : ByteArray) q1; have e1 : (⟨#[45]⟩ : ByteArray).size = 1 := rfl; omega, Add.trans T3 h4⟩
      have HF := Lib.hid hF
      clear hF T3 h4 u2 F2 HF1 SG HNE hX3
      go_wp2_with fail
      go_ret2
      exact HF.out
  | true =>
    by_cases ct : 1 < t
    · have dt : decide ((1 : Int) < (t : Int)) = true := by simp; omega
      have hne := HT.out.1 ct
      have HNE := Lib.hid hne
      clear ct hne HT
      go_wp2_with fail
      refine (bitsN t u2.nu FT).mono ?_
      rintro e w4 ⟨rfl, h4⟩
      have hX4 := hX3.mono h4
      replace u2 := u2.mono h4
      have T4 := Add.trans T3 h4
      clear h4 hX3 T3 hc0 hc1 hc2
      have hc2 := hX4.c2
      clear hX4
      go_wp2_with fail
      refine (fmtN u2 F2).mono ?_
      rintro e w5 ⟨q2, rfl, f2, z2, h5⟩
      have hF : TextR w y (.returned (.tuple #[.string ((⟨#[45]⟩ : ByteArray) ++ q1 ++ ((⟨#[47]⟩ : ByteArray) ++ q2)), .int .i64 0])) w5 := ⟨_, rfl, ⟨q1, q2, HF1.out, .inr f2, by rw [SG.out, decide_eq_false HNE.out]; simp [fmtText]⟩, by rw [ByteArray.size_append']; have := ByteArray.size_append' (⟨#[45]⟩ : ByteArray) q1; have := ByteArray.size_append' (⟨#[47]⟩ : ByteArray) q2; have e1 : (⟨#[45]⟩ : ByteArray).size = 1 := rfl; have e2 : (⟨#[47]⟩ : ByteArray).size = 1 := rfl; omega, Add.trans T4 h5⟩
      have HF := Lib.hid hF
      clear hF f2 T4 h5 u2 F2 HF1 SG HNE
      go_wp2_with fail
      go_ret2
      exact HF.out
    · have dt : decide ((1 : Int) < (t : Int)) = false := by simp; omega
      have hne : y.2.2 = 1 := by
        have := HT.out
        omega
      have HNE := Lib.hid hne
      clear ct hne HT
      go_wp2_with fail
      refine (bitsN t u2.nu FT).mono ?_
      rintro e w4 ⟨rfl, h4⟩
      have hF : TextR w y (.returned (.tuple #[.string ((⟨#[45]⟩ : ByteArray) ++ q1), .int .i64 0])) w4 := ⟨_, rfl, ⟨q1, q1, HF1.out, .inl HNE.out, by rw [SG.out, decide_eq_true HNE.out]; simp [fmtText]⟩, by have := ByteArray.size_append' (⟨#[45]⟩ : ByteArray) q1; have e1 : (⟨#[45]⟩ : ByteArray).size = 1 := rfl; omega, Add.trans T3 h4⟩
      have HF := Lib.hid hF
      clear hF T3 h4 u2 F2 HF1 SG HNE hX3
      go_wp2_with fail
      go_ret2
      exact HF.out
end Go.Proofs.YtifpfoeecnkhoaaDoor

namespace Go.Proofs.YtifpfoeecnkhoaaDoor
open Go.RowKit NatM Go.Proofs.YtifpfoeecnkhoaaDoor.Api

/-- A fraction with known parts, without an error. -/
def OkF (w : World) (b : Bool) (N D : Nat) (e : Ending) (w' : World) : Prop :=
  ∃ an n cn ad d cd, e = .returned (.tuple #[.agg #[.bool b, .slice an n cn, .slice ad d cd], .int .i64 0]) ∧ Num w' (.slice an n cn) N ∧ Num w' (.slice ad d cd) D ∧ Add w w'
theorem ResF.ok {w : World} {b : Bool} {N D : Nat} {e : Ending} {w' : World} (h : ResF w ((b, N, D), 0) e w') : OkF w b N D e w' := by
  obtain ⟨v, rfl, ⟨an, n, cn, ad, d, cd, rfl, h1, h2⟩, h3⟩ := h
  exact ⟨an, n, cn, ad, d, cd, rfl, h1, h2, h3⟩
/-- An error. -/
def NoF (w : World) (k : Int) (e : Ending) (w' : World) : Prop :=
  ∃ an cn ad cd, e = .returned (.tuple #[.agg #[.bool false, .slice an 0 cn, .slice ad 0 cd], .int .i64 k]) ∧ Num w' (.slice an 0 cn) 0 ∧ Num w' (.slice ad 0 cd) 0 ∧ Add w w'
theorem ResF.no {w : World} {k : Nat} {e : Ending} {w' : World} (h : ResF w ((false, 0, 0), k) e w') : NoF w (k : Nat) e w' := by
  obtain ⟨v, rfl, ⟨an, n, cn, ad, d, cd, rfl, h1, h2⟩, h3⟩ := h
  obtain ⟨a1, c1, e1⟩ := num_len0 h1
  obtain ⟨a2, c2, e2⟩ := num_len0 h2
  simp only [Value.slice.injEq] at e1 e2
  obtain ⟨rfl, rfl, rfl⟩ := e1
  obtain ⟨rfl, rfl, rfl⟩ := e2
  exact ⟨_, _, _, _, rfl, h1, h2, h3⟩
theorem small128 {N : Nat} (h : N < 18446744073709551616) : N < pw 128 := by
  have h1 : pw 2 ≤ pw 128 := pw_le (by decide)
  have h2 : pw 2 = 18446744073709551616 := by decide
  omega
theorem fit_const {b : Bool} {N D X Y : Nat} (h1 : N < 18446744073709551616) (h2 : D < 18446744073709551616) (h3 : N ≠ 0) (h4 : D ≠ 0) (h5 : N / Nat.gcd N D = X) (h6 : D / Nat.gcd N D = Y) : fitQ (frac b N D) = ((b, X, Y), 0) := by
  rw [fitQ_small (small128 h1) (small128 h2) h4, can_frac h3 h4, h5, h6]
theorem make12 : makeF 1 2 = ((false, 1, 2), 0) := fit_const (b := false) (N := 1) (D := 2) (by decide) (by decide) (by decide) (by decide) (by decide) (by decide)
theorem make13 : makeF (-1) (-3) = ((false, 1, 3), 0) := fit_const (b := false) (N := 1) (D := 3) (by decide) (by decide) (by decide) (by decide) (by decide) (by decide)
theorem make10 : makeF 1 0 = ((false, 0, 0), 3) := rfl
theorem ok12 : okF (false, 1, 2) = true := okF_iff.2 ⟨by decide, small128 (by decide), small128 (by decide)⟩
theorem ok13 : okF (false, 1, 3) = true := okF_iff.2 ⟨by decide, small128 (by decide), small128 (by decide)⟩
theorem ok56 : okF (false, 5, 6) = true := okF_iff.2 ⟨by decide, small128 (by decide), small128 (by decide)⟩
theorem add56 : addF (false, 1, 2) (false, 1, 3) = ((false, 5, 6), 0) := by
  unfold addF
  rw [if_pos ⟨ok12, ok13⟩]
  show fitQ (frac false 1 2 + frac false 1 3) = _
  rw [frac_add_same (by decide) (by decide)]
  exact fit_const (by decide) (by decide) (by decide) (by decide) (by decide) (by decide)
theorem can56 : can (qv (false, 5, 6)) = (false, 5, 6) := by
  show can (frac false 5 6) = _
  rw [can_frac (by decide) (by decide)]; rfl
theorem text56 {t : ByteArray} (h : FFmt t (false, 5, 6)) : t = ⟨#[53, 47, 54]⟩ := by
  obtain ⟨s1, s2, h1, h2, rfl⟩ := h
  have f5 : FmtIs ⟨#[53]⟩ 5 := .inr ⟨by decide, [5], by intro d hd; simp at hd; omega, rfl, by decide, by decide⟩
  have f6 : FmtIs ⟨#[54]⟩ 6 := .inr ⟨by decide, [6], by intro d hd; simp at hd; omega, rfl, by decide, by decide⟩
  rw [h1.uniq f5, (h2.resolve_left (by decide)).uniq f6]
  decide +kernel
theorem makeC (b : Bool) (N D : Nat) {n d : Int} {w : World} (hT : Tab w) (h : Hid ((-9223372036854775808 ≤ n ∧ n ≤ 9223372036854775807) ∧ -9223372036854775808 ≤ d ∧ d ≤ 9223372036854775807)) (hp : Hid (makeF n d = ((b, N, D), 0))) :
    Calls Tryd.prog 14 #[.int .i64 n, .int .i64 d] w (OkF w b N D) := (makeN' _ hT h hp).mono fun _ _ g => g.ok
theorem numA {w : World} {b : Bool} {N D : Nat} {an n cn ad d cd} (h1 : Num w (.slice an n cn) N) (h2 : Num w (.slice ad d cd) D) (b1 : N < 18446744073709551616) (b2 : D < 18446744073709551616) : FracA w (.agg #[.bool b, .slice an n cn, .slice ad d cd]) (b, N, D) :=
  ⟨an, n, cn, ad, d, cd, rfl, num_nv h1 (lt_up (small128 b1) (by decide)), num_nv h2 (lt_up (small128 b2) (by decide))⟩
/-- A variable that is laid and holds a result. -/
theorem laid_var (w : World) (b : Bool) (an : Option Addr) (n cn : Nat) (ad : Option Addr) (d cd : Nat) : Add w (w.alloc (.cells #[.bool b, .slice an n cn, .slice ad d cd] 25)) ∧ Box (w.alloc (.cells #[.bool b, .slice an n cn, .slice ad d cd] 25)) w.heap.size b an n cn ad d cd := ⟨add_new _ _, box_new ..⟩

def Awake2P (w : World) (e : Ending) (w' : World) : Prop := e = .returned (.bool true) ∧ Add w w'
set_option maxRecDepth 100000 in
set_option maxHeartbeats 2000000 in
theorem awake2_any (w : World) (hT : Tab w) : Calls Tryd.prog 6 #[] w (Awake2P w) := by
  have T := Below.refl w.heap.size w
  have r1 : Hid (((-9223372036854775808 : Int) ≤ 1 ∧ (1 : Int) ≤ 9223372036854775807) ∧ (-9223372036854775808 : Int) ≤ 2 ∧ (2 : Int) ≤ 9223372036854775807) := Lib.hid (by decide)
  have r2 : Hid (((-9223372036854775808 : Int) ≤ -1 ∧ (-1 : Int) ≤ 9223372036854775807) ∧ (-9223372036854775808 : Int) ≤ -3 ∧ (-3 : Int) ≤ 9223372036854775807) := Lib.hid (by decide)
  have r3 : Hid (((-9223372036854775808 : Int) ≤ 1 ∧ (1 : Int) ≤ 9223372036854775807) ∧ (-9223372036854775808 : Int) ≤ 0 ∧ (0 : Int) ≤ 9223372036854775807) := Lib.hid (by decide)
  go_enter Tryd.func6, Tryd.ntmps6
  go_wp2_with fail
  refine (makeC false 1 2 hT r1 (Lib.hid make12)).mono ?_
  rintro e w1 ⟨a1, n1, c1, e1, d1, k1, rfl, x1, y1, h1⟩
  replace hT := hT.mono h1
  replace T := Add.trans T h1
  clear h1 r1
  obtain ⟨tt, hA⟩ := laid_var w1 false a1 n1 c1 e1 d1 k1
  replace hT := hT.mono tt
  replace x1 := x1.mono tt
  replace y1 := y1.mono tt
  replace T := Add.trans T tt
  clear tt
  go_wp2_with fail
  refine (makeC false 1 3 hT r2 (Lib.hid make13)).mono ?_
  rintro e w2 ⟨a2, n2, c2, e2, d2, k2, rfl, x2, y2, h2⟩
  replace hT := hT.mono h2
  replace hA := hA.mono h2
  replace x1 := x1.mono h2
  replace y1 := y1.mono h2
  replace T := Add.trans T h2
  clear h2 r2
  obtain ⟨tt, hB⟩ := laid_var w2 false a2 n2 c2 e2 d2 k2
  replace hT := hT.mono tt
  replace hA := hA.mono tt
  replace x1 := x1.mono tt
  replace y1 := y1.mono tt
  replace x2 := x2.mono tt
  replace y2 := y2.mono tt
  replace T := Add.trans T tt
  clear tt
  have qa := numA (b := false) x1 y1 (by decide) (by decide)
  have qb := numA (b := false) x2 y2 (by decide) (by decide)
  have ha0 := hA.c0
  have ha1 := hA.c1
  have ha2 := hA.c2
  have hb0 := hB.c0
  have hb1 := hB.c1
  have hb2 := hB.c2
  clear hA hB x1 y1 x2 y2
  go_wp2_with fail
  refine ((addN' _ qa qb hT (Lib.hid add56)).mono fun _ _ g => g.ok).mono ?_
  rintro e w3 ⟨a3, n3, c3, e3, d3, k3, rfl, x3, y3, h3⟩
  replace hT := hT.mono h3
  replace T := Add.trans T h3
  clear h3 ha0 ha1 ha2 hb0 hb1 hb2 qa qb
  obtain ⟨tt, hS⟩ := laid_var w3 false a3 n3 c3 e3 d3 k3
  replace hT := hT.mono tt
  replace x3 := x3.mono tt
  replace y3 := y3.mono tt
  replace T := Add.trans T tt
  clear tt
  have qs := numA (b := false) x3 y3 (by decide) (by decide)
  have hs0 := hS.c0
  have hs1 := hS.c1
  have hs2 := hS.c2
  clear hS x3 y3
  go_wp2_with fail
  refine (formatN (false, 5, 6) qs hT (Lib.hid ⟨ok56, can56⟩)).mono ?_
  rintro e w4 ⟨t, rfl, ft, -, h4⟩
  replace hT := hT.mono h4
  replace T := Add.trans T h4
  clear h4 hs0 hs1 hs2 qs
  obtain rfl := text56 ft
  clear ft
  go_wp2_with fail
  refine ((makeN' _ hT r3 (Lib.hid make10)).mono fun _ _ g => g.no).mono ?_
  rintro e w5 ⟨a5, c5, e5, k5, rfl, -, -, h5⟩
  replace T := Add.trans T h5
  clear h5 hT r3
  replace T := Add.trans T (add_new w5 (.cells #[.bool false, .slice a5 0 c5, .slice e5 0 k5] 25))
  go_wp2_with fail
  go_ret
  exact ⟨rfl, T⟩
end Go.Proofs.YtifpfoeecnkhoaaDoor

namespace Go.Proofs.YtifpfoeecnkhoaaDoor
open Go.RowKit NatM Go.Proofs.YtifpfoeecnkhoaaDoor.Api

def tooLong (p : Value × Value) : Bool := decide (24 < lenV p.1) || decide (24 < lenV p.2)
def Long2P (w : World) (b : Bool) (e : Ending) (w' : World) : Prop := e = .returned (.bool b) ∧ w = w'
set_option maxRecDepth 100000 in
set_option maxHeartbeats 1000000 in
theorem longF_is (b : Bool) (g n : Nat) (L : List (Value × Value)) (w : World) (hl : L.length = n) (hn : n ≤ 1000)
    (hc : ∀ i, i < n → w.cell? ⟨g, i * 3 + 1, none⟩ = some (L.getD i (.slice none 0 0, .slice none 0 0)).1 ∧ w.cell? ⟨g, i * 3 + 2, none⟩ = some (L.getD i (.slice none 0 0, .slice none 0 0)).2)
    (hs : ∀ i, i < n → IsSlice (L.getD i (.slice none 0 0, .slice none 0 0)).1 ∧ IsSlice (L.getD i (.slice none 0 0, .slice none 0 0)).2) (hb : L.any tooLong = b) :
    Calls Tryd.prog 4 #[.slice (some ⟨g, 0, none⟩) n n] w (Long2P w b) := by
  have HL := Lib.hid hl
  have HC := Lib.hid hc
  have HS := Lib.hid hs
  have HB := Lib.hid hb
  clear hl hc hs hb
  go_enter Tryd.func4, Tryd.ntmps4
  go_wp2_with fail
  go_loop [3] (fun i => ∃ k : Nat, k ≤ n ∧ i = .int .i64 (k : Nat) ∧ Hid ((L.take k).any tooLong = false)) (fun i => n - (intOf i).toNat)
  case atStart => exact ⟨0, Nat.zero_le _, rfl, Lib.hid (by simp)⟩
  case round =>
    obtain ⟨k, hk, rfl, hpre⟩ := hrel
    by_cases hlt : k < n
    · have dlt : decide (k < n) = true := decide_eq_true hlt
      obtain ⟨hcell, hcell2⟩ := HC.out k hlt
      obtain ⟨⟨a, m, c, hv, hm⟩, ⟨a2, m2, c2, hv2, hm2⟩⟩ := HS.out k hlt
      rw [hv] at hcell
      rw [hv2] at hcell2
      have hget : L[k]? = some (.slice a m c, .slice a2 m2 c2) := by
        have h1 : k < L.length := by rw [HL.out]; exact hlt
        rw [← hv, ← hv2]; simp [List.getD, h1]
      have HG := Lib.hid hget
      clear hv hv2 hget
      have hT : tooLong (.slice a m c, .slice a2 m2 c2) = (decide (24 < m) || decide (24 < m2)) := rfl
      have HTL := Lib.hid hT
      clear hT
      have hF : tooLong (.slice a m c, .slice a2 m2 c2) = true → Long2P w b (.returned (.bool true)) w := by
        intro ht
        refine ⟨?_, rfl⟩
        rw [← HB.out]
        have : L.any tooLong = true := List.any_eq_true.2 ⟨_, List.mem_of_getElem? HG.out, ht⟩
        rw [this]
      have HF := Lib.hid hF
      clear hF
      by_cases h1 : 24 < m
      · have d1 : decide ((24 : Int) < (m : Int)) = true := by simp; omega
        have hr := HF.out (by rw [HTL.out, decide_eq_true h1]; rfl)
        have HR := Lib.hid hr
        clear hr HF h1
        go_wp2_with fail
        go_ret
        exact HR.out
      · have d1 : decide ((24 : Int) < (m : Int)) = false := by simp; omega
        by_cases h2 : 24 < m2
        · have d2 : decide ((24 : Int) < (m2 : Int)) = true := by simp; omega
          have hr := HF.out (by rw [HTL.out, decide_eq_true h2]; simp)
          have HR := Lib.hid hr
          clear hr HF h1 h2
          go_wp2_with fail
          go_ret
          exact HR.out
        · have d2 : decide ((24 : Int) < (m2 : Int)) = false := by simp; omega
          have E := Lib.hid (show tooLong (.slice a m c, .slice a2 m2 c2) = false by rw [HTL.out, decide_eq_false h1, decide_eq_false h2]; rfl)
          clear h1 h2 HF HTL
          go_wp2_with fail
          go_round
          case rel =>
            refine ⟨k + 1, by omega, by go_num, Lib.hid ?_⟩
            rw [List.take_add_one, List.any_append, hpre.out, HG.out]
            simp [E.out]
          case measure => simp [intOf]; omega
    · have dlt : decide (k < n) = false := decide_eq_false hlt
      obtain rfl : k = n := by omega
      have hF : Long2P w b (.returned (.bool false)) w := by
        refine ⟨?_, rfl⟩
        have h1 := hpre.out
        rw [List.take_of_length_le (by rw [HL.out]; exact Nat.le_refl _), HB.out] at h1
        rw [h1]
      go_wp2_with fail
      go_ret
      exact hF
/-- A fraction as it came in: its parts may be of any length. -/
def FracI (w : World) (v : Value) (b : Bool) (xs ys : List Nat) : Prop :=
  ∃ an n cn ad d cd, v = .agg #[.bool b, .slice an n cn, .slice ad d cd] ∧ Reads w (.slice an n cn) xs ∧ Reads w (.slice ad d cd) ys
def longB (xs ys : List Nat) : Bool := decide (24 < xs.length) || decide (24 < ys.length)
theorem FracI.arg {w : World} {v : Value} {b : Bool} {xs ys : List Nat} (h : FracI w v b xs ys) (hl : longB xs ys = false) : FracA w v (b, val xs, val ys) := by
  obtain ⟨an, n, cn, ad, d, cd, rfl, h1, h2⟩ := h
  simp only [longB, Bool.or_eq_false_iff, decide_eq_false_iff_not] at hl
  exact ⟨an, n, cn, ad, d, cd, rfl, ⟨xs, h1, rfl, by omega⟩, ⟨ys, h2, rfl, by omega⟩⟩
theorem FracI.small {xs ys : List Nat} (hx : Limbs xs) (hy : Limbs ys) (hl : longB xs ys = false) : val xs < pw 24 ∧ val ys < pw 24 := by
  simp only [longB, Bool.or_eq_false_iff, decide_eq_false_iff_not] at hl
  exact ⟨Nat.lt_of_lt_of_le (val_lt hx) (pw_le (by omega)), Nat.lt_of_lt_of_le (val_lt hy) (pw_le (by omega))⟩
theorem longF2 (t : Bool) {b b' : Bool} {an n cn ad d cd an' n' cn' ad' d' cd'} {xs ys xs' ys' : List Nat} {w : World} (g : Nat)
    (h1 : Reads w (.slice an n cn) xs) (h2 : Reads w (.slice ad d cd) ys) (h3 : Reads w (.slice an' n' cn') xs') (h4 : Reads w (.slice ad' d' cd') ys') (hg : w.heap.size = g) (h : Hid ((longB xs ys || longB xs' ys') = t)) :
    Calls Tryd.prog 4 #[.slice (some ⟨g, 0, none⟩) 2 2] (w.alloc (.cells #[.bool b, .slice an n cn, .slice ad d cd, .bool b', .slice an' n' cn', .slice ad' d' cd'] 25))
      (Long2P (w.alloc (.cells #[.bool b, .slice an n cn, .slice ad d cd, .bool b', .slice an' n' cn', .slice ad' d' cd'] 25)) t) := by
  subst hg
  refine longF_is t w.heap.size 2 [(.slice an n cn, .slice ad d cd), (.slice an' n' cn', .slice ad' d' cd')] _ rfl (by decide) ?_ ?_ ?_
  · intro i hi
    have e : i = 0 ∨ i = 1 := by omega
    rw [World.cell?_alloc_new, World.cell?_alloc_new]
    rcases e with rfl | rfl <;> exact ⟨rfl, rfl⟩
  · intro i hi
    have e : i = 0 ∨ i = 1 := by omega
    rcases e with rfl | rfl
    · exact ⟨h1.isSlice, h2.isSlice⟩
    · exact ⟨h3.isSlice, h4.isSlice⟩
  · rw [← h.out]
    simp only [List.any_cons, List.any_nil, Bool.or_false, tooLong, longB, h1.lenV, h2.lenV, h3.lenV, h4.lenV]
theorem longF3 (t : Bool) {b b' b2 : Bool} {an n cn ad d cd an' n' cn' ad' d' cd' an2 n2 cn2 ad2 d2 cd2} {xs ys xs' ys' xs2 ys2 : List Nat} {w : World} (g : Nat)
    (h1 : Reads w (.slice an n cn) xs) (h2 : Reads w (.slice ad d cd) ys) (h3 : Reads w (.slice an' n' cn') xs') (h4 : Reads w (.slice ad' d' cd') ys') (h5 : Reads w (.slice an2 n2 cn2) xs2) (h6 : Reads w (.slice ad2 d2 cd2) ys2) (hg : w.heap.size = g) (h : Hid ((longB xs ys || longB xs' ys' || longB xs2 ys2) = t)) :
    Calls Tryd.prog 4 #[.slice (some ⟨g, 0, none⟩) 3 3] (w.alloc (.cells #[.bool b, .slice an n cn, .slice ad d cd, .bool b', .slice an' n' cn', .slice ad' d' cd', .bool b2, .slice an2 n2 cn2, .slice ad2 d2 cd2] 25))
      (Long2P (w.alloc (.cells #[.bool b, .slice an n cn, .slice ad d cd, .bool b', .slice an' n' cn', .slice ad' d' cd', .bool b2, .slice an2 n2 cn2, .slice ad2 d2 cd2] 25)) t) := by
  subst hg
  refine longF_is t w.heap.size 3 [(.slice an n cn, .slice ad d cd), (.slice an' n' cn', .slice ad' d' cd'), (.slice an2 n2 cn2, .slice ad2 d2 cd2)] _ rfl (by decide) ?_ ?_ ?_
  · intro i hi
    have e : i = 0 ∨ i = 1 ∨ i = 2 := by omega
    rw [World.cell?_alloc_new, World.cell?_alloc_new]
    rcases e with rfl | rfl | rfl <;> exact ⟨rfl, rfl⟩
  · intro i hi
    have e : i = 0 ∨ i = 1 ∨ i = 2 := by omega
    rcases e with rfl | rfl | rfl
    · exact ⟨h1.isSlice, h2.isSlice⟩
    · exact ⟨h3.isSlice, h4.isSlice⟩
    · exact ⟨h5.isSlice, h6.isSlice⟩
  · rw [← h.out]
    simp only [List.any_cons, List.any_nil, Bool.or_false, tooLong, longB, h1.lenV, h2.lenV, h3.lenV, h4.lenV, h5.lenV, h6.lenV, Bool.or_assoc]
end Go.Proofs.YtifpfoeecnkhoaaDoor
