/- The operations of package natural, with their errors, answer what the reference answers. | Every operation on numbers, of package natural and of the reference, by one answer; the premises are hidden. -/
import Derived.Test.YtbeoeackahmpbaaGreatDoorJG
import Derived.Test.YtbeoeackahmpbaaGreatDoorJT
import Derived.Test.YtbeoeackahmpbaaGreatDoorJS
import Derived.Test.YtbeoeackahmpbaaGreatDoorJH

namespace Go.Proofs.YtbeoeackahmpbaaGreatDoor
open Go.RowKit NatM Go.Proofs.YtbeoeackahmpbaaGreatDoor.Api

theorem natAdd_any (va vb : Value) (xs ys : List Nat) (w : World) (ha : Reads w va xs) (hb : Reads w vb ys) (hs : xs.length ≤ 100000) (hs' : ys.length ≤ 100000) :
    Calls Tryz.prog 139 #[va, vb] w (ResP w (addS (val xs) (val ys))) := by
  by_cases h : val xs + val ys < pw 512
  · unfold addS; rw [if_pos h]
    exact (add_ok va vb xs ys w ha hb (by omega) (by omega) h).mono fun e w' g => okP_res g
  · unfold addS; rw [if_neg h]
    exact (add_big va vb xs ys w ha hb (by omega) (by omega) (by omega)).mono fun e w' g => errP_res (k := 2) g
theorem natSub_any (va vb : Value) (xs ys : List Nat) (w : World) (ha : Reads w va xs) (hb : Reads w vb ys) (hs : xs.length ≤ 100000) (_hs' : ys.length ≤ 100000) :
    Calls Tryz.prog 141 #[va, vb] w (ResP w (subS (val xs) (val ys))) := by
  unfold subS
  by_cases h : pw 512 ≤ val xs ∨ pw 512 ≤ val ys
  · rw [if_pos h]
    exact (sub_big va vb xs ys w ha hb h).mono fun e w' g => errP_res (k := 2) g
  · rw [if_neg h]
    by_cases hl : val xs < val ys
    · rw [if_pos hl]
      exact (sub_neg va vb xs ys w ha hb (by omega) (by omega) hl).mono fun e w' g => errP_res (k := 4) g
    · rw [if_neg hl]
      exact (sub_ok va vb xs ys w ha hb (by omega) (by omega) (by omega) (by omega)).mono fun e w' g => okP_res g
theorem natMul_any (va vb : Value) (xs ys : List Nat) (w : World) (ha : Reads w va xs) (hb : Reads w vb ys) (hs : xs.length ≤ 100000) (hs' : ys.length ≤ 100000) :
    Calls Tryz.prog 115 #[va, vb] w (ResP w (mulS (val xs) (val ys))) := by
  unfold mulS
  by_cases h : pw 512 ≤ val xs ∨ pw 512 ≤ val ys
  · rw [if_pos (by omega)]
    exact (mul_big va vb xs ys w ha hb h).mono fun e w' g => errP_res (k := 2) g
  · obtain ⟨N, hN⟩ : ∃ N, N = val xs * val ys := ⟨_, rfl⟩
    by_cases hl : pw 512 ≤ val xs * val ys
    · rw [if_pos (.inr (.inr hl))]
      exact (mul_over va vb xs ys w ha hb (by omega) (by omega) (by omega) (by omega) hl).mono fun e w' g => errP_res (k := 2) g
    · rw [if_neg (by rw [← hN] at hl ⊢; omega)]
      exact (mul_ok va vb xs ys w ha hb (by omega) (by omega) (by omega) (by omega) (by rw [← hN] at hl ⊢; omega)).mono fun e w' g => okP_res g
theorem natDiv_any (va vb : Value) (xs ys : List Nat) (w : World) (ha : Reads w va xs) (hb : Reads w vb ys) (hs : xs.length ≤ 100000) (hs' : ys.length ≤ 100000) :
    Calls Tryz.prog 121 #[va, vb] w (ResP2 w (divS (val xs) (val ys))) := by
  unfold divS
  by_cases h : pw 512 ≤ val xs ∨ pw 512 ≤ val ys
  · rw [if_pos h]
    refine (div_big va vb xs ys w ha hb h).mono ?_
    rintro e w' ⟨rfl, g⟩
    exact ⟨_, _, rfl, Num.nil _, Num.nil _, g⟩
  · rw [if_neg h]
    by_cases h0 : val ys = 0
    · rw [if_pos h0]
      refine (div_zero va vb xs ys w ha hb (by omega) h0).mono ?_
      rintro e w' ⟨rfl, g⟩
      exact ⟨_, _, rfl, Num.nil _, Num.nil _, g⟩
    · rw [if_neg h0]
      refine (div_ok va vb xs ys w ha hb (by omega) (by omega) (by omega) (by omega) h0).mono ?_
      rintro e w' ⟨vq, vr, rfl, g1, g2, g3⟩
      exact ⟨_, _, rfl, g1, g2, g3⟩
theorem natGcd_any (va vb : Value) (xs ys : List Nat) (w : World) (ha : Reads w va xs) (hb : Reads w vb ys) (hs : xs.length ≤ 100000) (hs' : ys.length ≤ 100000) :
    Calls Tryz.prog 120 #[va, vb] w (ResP w (gcdS (val xs) (val ys))) := by
  unfold gcdS
  by_cases h : pw 512 ≤ val xs ∨ pw 512 ≤ val ys
  · rw [if_pos h]
    exact (gcd_big va vb xs ys w ha hb h).mono fun e w' g => errP_res (k := 2) g
  · rw [if_neg h]
    exact (gcd_ok va vb xs ys w ha hb (by omega) (by omega) (by omega) (by omega)).mono fun e w' g => okP_res g
theorem natShift_any (va : Value) (xs : List Nat) (n : Int) (w : World) (ha : Reads w va xs) (hs : xs.length ≤ 100000) :
    Calls Tryz.prog 132 #[va, .int .i64 n] w (ResP w (shiftS (val xs) n)) := by
  unfold shiftS
  by_cases hA : pw 512 ≤ val xs
  · rw [if_pos hA]
    exact (shift_big va xs n w ha (by omega) hA).mono fun e w' g => errP_res (k := 2) g
  · rw [if_neg hA]
    have hA' : val xs < pw 512 := by omega
    have hnb : nb (val xs) ≤ 16384 := nb_lt_pw.1 hA'
    by_cases h0 : val xs = 0 ∨ n < -16384
    · rw [if_pos h0]
      have hz : nb (val xs) = 0 ∨ n ≤ -(nb (val xs) : Int) := by
        rcases h0 with h | h
        · exact .inl (nb_eq_zero.2 h)
        · exact .inr (by omega)
      exact (shift_zero va xs n w ha (by omega) hA' hz).mono fun e w' g => okP_res g
    · rw [if_neg h0]
      have hnz : nb (val xs) ≠ 0 := fun e => h0 (.inl (nb_eq_zero.1 e))
      have hvz : val xs ≠ 0 := fun e => h0 (.inl e)
      by_cases hneg : n < 0
      · rw [if_pos hneg]
        obtain ⟨k, hk⟩ : ∃ k : Nat, -n = (k : Int) := ⟨(-n).toNat, by omega⟩
        rw [hk, Int.toNat_natCast]
        obtain rfl : n = -(k : Int) := by omega
        rcases Nat.lt_or_ge k (nb (val xs)) with h | h
        · exact (shift_down va xs k w ha (by omega) hA' (by omega) h).mono fun e w' g => okP_res g
        · rw [shift_out h]
          exact (shift_zero va xs _ w ha (by omega) hA' (.inr (by omega))).mono fun e w' g => okP_res g
      · rw [if_neg hneg]
        obtain ⟨k, rfl⟩ : ∃ k : Nat, n = (k : Int) := ⟨n.toNat, by omega⟩
        rw [Int.toNat_natCast]
        have hsh : val xs * 2 ^ k < pw 512 ↔ nb (val xs) + k ≤ 16384 := by rw [nb_lt_pw, nb_shift hvz]
        obtain ⟨N, hN⟩ : ∃ N, N = val xs * 2 ^ k := ⟨_, rfl⟩
        rw [← hN] at hsh ⊢
        rcases Nat.lt_or_ge 16384 (nb (val xs) + k) with h | h
        · have hb : pw 512 ≤ N := by
            rcases Nat.lt_or_ge N (pw 512) with h2 | h2
            · have := hsh.1 h2; omega
            · exact h2
          rw [show (if (16384 : Int) < (k : Int) then ((0, 2) : Nat × Nat) else if pw 512 ≤ N then (0, 2) else (N, 0)) = (0, 2) from by
            rw [if_pos hb]; exact ite_self _]
          exact (shift_over va xs k w ha (by omega) hA' hnz (by omega)).mono fun e w' g => errP_res (k := 2) g
        · have hb := hsh.2 h
          rw [if_neg (by omega), if_neg (by omega), hN]
          exact (shift_up va xs k w ha (by omega) hA' hnz h).mono fun e w' g => okP_res g
end Go.Proofs.YtbeoeackahmpbaaGreatDoor

namespace Go.Proofs.YtbeoeackahmpbaaGreatDoor.Api
open Go.Proofs.YtbeoeackahmpbaaGreatDoor Go.RowKit NatM

theorem natAddX (p : Nat × Nat) {va vb : Value} {A B : Nat} {w : World} (ha : Nv w va A) (hb : Nv w vb B) (h : Hid (addS A B = p)) : Calls Tryz.prog 139 #[va, vb] w (ResP w p) := by
  obtain ⟨xs, r, rfl, l⟩ := ha
  obtain ⟨ys, r', rfl, l'⟩ := hb
  have := h.out
  subst this
  exact natAdd_any va vb xs ys w r r' l l'
theorem refAddX (p : Nat × Nat) {va vb : Value} {A B : Nat} {w : World} (ha : Nv w va A) (hb : Nv w vb B) (h : Hid (addS A B = p)) : Calls Tryz.prog 70 #[va, vb] w (ResP w p) := by
  obtain ⟨xs, r, rfl, l⟩ := ha
  obtain ⟨ys, r', rfl, l'⟩ := hb
  have := h.out
  subst this
  exact refAdd_any va vb xs ys w r r' l l'
theorem natSubX (p : Nat × Nat) {va vb : Value} {A B : Nat} {w : World} (ha : Nv w va A) (hb : Nv w vb B) (h : Hid (subS A B = p)) : Calls Tryz.prog 141 #[va, vb] w (ResP w p) := by
  obtain ⟨xs, r, rfl, l⟩ := ha
  obtain ⟨ys, r', rfl, l'⟩ := hb
  have := h.out
  subst this
  exact natSub_any va vb xs ys w r r' l l'
theorem refSubX (p : Nat × Nat) {va vb : Value} {A B : Nat} {w : World} (ha : Nv w va A) (hb : Nv w vb B) (h : Hid (subS A B = p)) : Calls Tryz.prog 72 #[va, vb] w (ResP w p) := by
  obtain ⟨xs, r, rfl, l⟩ := ha
  obtain ⟨ys, r', rfl, l'⟩ := hb
  have := h.out
  subst this
  exact refSub_any va vb xs ys w r r' l l'
theorem natMulX (p : Nat × Nat) {va vb : Value} {A B : Nat} {w : World} (ha : Nv w va A) (hb : Nv w vb B) (h : Hid (mulS A B = p)) : Calls Tryz.prog 115 #[va, vb] w (ResP w p) := by
  obtain ⟨xs, r, rfl, l⟩ := ha
  obtain ⟨ys, r', rfl, l'⟩ := hb
  have := h.out
  subst this
  exact natMul_any va vb xs ys w r r' l l'
theorem refMulX (p : Nat × Nat) {va vb : Value} {A B : Nat} {w : World} (ha : Nv w va A) (hb : Nv w vb B) (h : Hid (mulS A B = p)) : Calls Tryz.prog 92 #[va, vb] w (ResP w p) := by
  obtain ⟨xs, r, rfl, l⟩ := ha
  obtain ⟨ys, r', rfl, l'⟩ := hb
  have := h.out
  subst this
  exact refMul_any va vb xs ys w r r' l l'
theorem natDivX (p : Nat × Nat × Nat) {va vb : Value} {A B : Nat} {w : World} (ha : Nv w va A) (hb : Nv w vb B) (h : Hid (divS A B = p)) : Calls Tryz.prog 121 #[va, vb] w (ResP2 w p) := by
  obtain ⟨xs, r, rfl, l⟩ := ha
  obtain ⟨ys, r', rfl, l'⟩ := hb
  have := h.out
  subst this
  exact natDiv_any va vb xs ys w r r' l l'
theorem refDivX (p : Nat × Nat × Nat) {va vb : Value} {A B : Nat} {w : World} (ha : Nv w va A) (hb : Nv w vb B) (h : Hid (divS A B = p)) : Calls Tryz.prog 91 #[va, vb] w (ResP2 w p) := by
  obtain ⟨xs, r, rfl, l⟩ := ha
  obtain ⟨ys, r', rfl, l'⟩ := hb
  have := h.out
  subst this
  exact refDiv_any va vb xs ys w r r' l l'
theorem natGcdX (p : Nat × Nat) {va vb : Value} {A B : Nat} {w : World} (ha : Nv w va A) (hb : Nv w vb B) (h : Hid (gcdS A B = p)) : Calls Tryz.prog 120 #[va, vb] w (ResP w p) := by
  obtain ⟨xs, r, rfl, l⟩ := ha
  obtain ⟨ys, r', rfl, l'⟩ := hb
  have := h.out
  subst this
  exact natGcd_any va vb xs ys w r r' l l'
theorem refGcdX (p : Nat × Nat) {va vb : Value} {A B : Nat} {w : World} (ha : Nv w va A) (hb : Nv w vb B) (h : Hid (gcdS A B = p)) : Calls Tryz.prog 90 #[va, vb] w (ResP w p) := by
  obtain ⟨xs, r, rfl, l⟩ := ha
  obtain ⟨ys, r', rfl, l'⟩ := hb
  have := h.out
  subst this
  exact refGcd_any va vb xs ys w r r' l l'
theorem natShiftX (p : Nat × Nat) {va : Value} {A : Nat} {n : Int} {w : World} (ha : Nv w va A) (h : Hid (shiftS A n = p)) : Calls Tryz.prog 132 #[va, .int .i64 n] w (ResP w p) := by
  obtain ⟨xs, r, rfl, l⟩ := ha
  have := h.out
  subst this
  exact natShift_any va xs n w r l
theorem refShiftX (p : Nat × Nat) {va : Value} {A : Nat} {n : Int} {w : World} (ha : Nv w va A) (h : Hid (shiftS A n = p ∧ -9223372036854775808 ≤ n ∧ n ≤ 9223372036854775807)) : Calls Tryz.prog 96 #[va, .int .i64 n] w (ResP w p) := by
  obtain ⟨xs, r, rfl, l⟩ := ha
  obtain ⟨h1, h2, h3⟩ := h.out
  subst h1
  exact refShift_any va xs n w r l h2 h3
theorem natCmpX (X : Int) {va vb : Value} {A B : Nat} {w : World} (ha : Nv w va A) (hb : Nv w vb B) (h : Hid (cmpI A B = X)) : Calls Tryz.prog 129 #[va, vb] w (IntIs w X) := cmpN X ha.nu hb.nu h
theorem refCmpX (X : Int) {va vb : Value} {A B : Nat} {w : World} (ha : Nv w va A) (hb : Nv w vb B) (h : Hid (cmpI A B = X)) : Calls Tryz.prog 71 #[va, vb] w (IntIs w X) := by
  obtain ⟨xs, r, rfl, l⟩ := ha
  obtain ⟨ys, r', rfl, l'⟩ := hb
  have := h.out
  subst this
  exact refCmp_any va vb xs ys w r r' (by omega) (by omega)
theorem natBitsX (X : Nat) {va : Value} {A : Nat} {w : World} (ha : Nv w va A) (h : Hid (nb A = X)) : Calls Tryz.prog 76 #[va] w (IntIs w (X : Nat)) := bitsN X ha.nu h
theorem refBitsX (X : Nat) {va : Value} {A : Nat} {w : World} (ha : Nv w va A) (h : Hid (nb A = X)) : Calls Tryz.prog 78 #[va] w (IntIs w (X : Nat)) := by
  obtain ⟨xs, r, rfl, l⟩ := ha
  have := h.out
  subst this
  exact refBits_any va xs w r l
theorem natMakeX (v : Nat) {w : World} (h : Hid (v < 18446744073709551616)) : Calls Tryz.prog 112 #[.int .u64 (v : Nat)] w (NumP w v) := by
  have h1 := h.out
  exact make_any (v : Nat) w (by omega) (by omega)
theorem natMakeZ (v : Nat) {z : Int} {w : World} (h : Hid (z = (v : Int) ∧ v < 18446744073709551616)) : Calls Tryz.prog 112 #[.int .u64 z] w (NumP w v) := by
  obtain ⟨rfl, h1⟩ := h.out
  exact make_any (v : Nat) w (by omega) (by omega)
theorem refMakeX (v : Nat) {w : World} (h : Hid (v < 18446744073709551616)) : Calls Tryz.prog 87 #[.int .u64 (v : Nat)] w (NumP w v) := by
  have h1 := h.out
  refine (refMake_any (v : Nat) w (by omega) (by omega)).mono ?_
  rintro e w' ⟨v1, rfl, n1, h1⟩
  exact ⟨v1, rfl, n1.num, h1⟩
theorem refMakeZ (v : Nat) {z : Int} {w : World} (h : Hid (z = (v : Int) ∧ v < 18446744073709551616)) : Calls Tryz.prog 87 #[.int .u64 z] w (NumP w v) := by
  obtain ⟨rfl, h1⟩ := h.out
  refine (refMake_any (v : Nat) w (by omega) (by omega)).mono ?_
  rintro e w' ⟨v1, rfl, n1, h1⟩
  exact ⟨v1, rfl, n1.num, h1⟩
theorem natTrimX {va : Value} {A : Nat} {w : World} (ha : Nv w va A) : Calls Tryz.prog 133 #[va] w (NumP w A) := by
  obtain ⟨xs, r, rfl, l⟩ := ha
  refine (trim_any va xs w r (by omega)).mono ?_
  rintro e w' ⟨g, n, rfl, h1, rfl, h3⟩
  refine ⟨_, rfl, ⟨_, h1.reads (by have := tlen_le xs; unfold maxLen; omega) (r.limbs.take _), Canon.trim xs, val_trim xs⟩, h3⟩
theorem refTrimX {va : Value} {A : Nat} {w : World} (ha : Nv w va A) : Calls Tryz.prog 69 #[va] w (NumP w A) := by
  obtain ⟨xs, r, rfl, l⟩ := ha
  refine (refTrim_any va xs w r (by omega)).mono ?_
  rintro e w' ⟨v1, rfl, n1, h1⟩
  exact ⟨v1, rfl, n1.num, h1⟩
end Go.Proofs.YtbeoeackahmpbaaGreatDoor.Api
