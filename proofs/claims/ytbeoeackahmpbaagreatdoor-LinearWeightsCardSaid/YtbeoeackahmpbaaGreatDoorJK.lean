import Derived.Test.YtbeoeackahmpbaaGreatDoorJG
import Derived.Test.YtbeoeackahmpbaaGreatDoorJT
import Derived.Test.YtbeoeackahmpbaaGreatDoorJS
import Derived.Test.YtbeoeackahmpbaaGreatDoorJH
namespace Go.Proofs.YtbeoeackahmpbaaGreatDoor
open Go.RowKit NatM Go.Proofs.YtbeoeackahmpbaaGreatDoor.Api
end Go.Proofs.YtbeoeackahmpbaaGreatDoor
namespace Go.Proofs.YtbeoeackahmpbaaGreatDoor.Api
open Go.Proofs.YtbeoeackahmpbaaGreatDoor Go.RowKit NatM
theorem refAddX (p : Nat × Nat) {va vb : Value} {A B : Nat} {w : World} (ha : Nv w va A) (hb : Nv w vb B) (h : Hid (addS A B = p)) : Calls Tryz.prog 70 #[va, vb] w (ResP w p) := by
 obtain ⟨xs, r, rfl, l⟩ := ha
 obtain ⟨ys, r', rfl, l'⟩ := hb
 have := h.out
 subst this
 exact refAdd_any va vb xs ys w r r' l l'
theorem refSubX (p : Nat × Nat) {va vb : Value} {A B : Nat} {w : World} (ha : Nv w va A) (hb : Nv w vb B) (h : Hid (subS A B = p)) : Calls Tryz.prog 72 #[va, vb] w (ResP w p) := by
 obtain ⟨xs, r, rfl, l⟩ := ha
 obtain ⟨ys, r', rfl, l'⟩ := hb
 have := h.out
 subst this
 exact refSub_any va vb xs ys w r r' l l'
theorem refMulX (p : Nat × Nat) {va vb : Value} {A B : Nat} {w : World} (ha : Nv w va A) (hb : Nv w vb B) (h : Hid (mulS A B = p)) : Calls Tryz.prog 92 #[va, vb] w (ResP w p) := by
 obtain ⟨xs, r, rfl, l⟩ := ha
 obtain ⟨ys, r', rfl, l'⟩ := hb
 have := h.out
 subst this
 exact refMul_any va vb xs ys w r r' l l'
theorem refDivX (p : Nat × Nat × Nat) {va vb : Value} {A B : Nat} {w : World} (ha : Nv w va A) (hb : Nv w vb B) (h : Hid (divS A B = p)) : Calls Tryz.prog 91 #[va, vb] w (ResP2 w p) := by
 obtain ⟨xs, r, rfl, l⟩ := ha
 obtain ⟨ys, r', rfl, l'⟩ := hb
 have := h.out
 subst this
 exact refDiv_any va vb xs ys w r r' l l'
theorem refGcdX (p : Nat × Nat) {va vb : Value} {A B : Nat} {w : World} (ha : Nv w va A) (hb : Nv w vb B) (h : Hid (gcdS A B = p)) : Calls Tryz.prog 90 #[va, vb] w (ResP w p) := by
 obtain ⟨xs, r, rfl, l⟩ := ha
 obtain ⟨ys, r', rfl, l'⟩ := hb
 have := h.out
 subst this
 exact refGcd_any va vb xs ys w r r' l l'
theorem refShiftX (p : Nat × Nat) {va : Value} {A : Nat} {n : Int} {w : World} (ha : Nv w va A) (h : Hid (shiftS A n = p ∧ -9223372036854775808 ≤ n ∧ n ≤ 9223372036854775807)) : Calls Tryz.prog 96 #[va, .int .i64 n] w (ResP w p) := by
 obtain ⟨xs, r, rfl, l⟩ := ha
 obtain ⟨h1, h2, h3⟩ := h.out
 subst h1
 exact refShift_any va xs n w r l h2 h3
theorem refCmpX (X : Int) {va vb : Value} {A B : Nat} {w : World} (ha : Nv w va A) (hb : Nv w vb B) (h : Hid (cmpI A B = X)) : Calls Tryz.prog 71 #[va, vb] w (IntIs w X) := by
 obtain ⟨xs, r, rfl, l⟩ := ha
 obtain ⟨ys, r', rfl, l'⟩ := hb
 have := h.out
 subst this
 exact refCmp_any va vb xs ys w r r' (by omega) (by omega)
theorem refBitsX (X : Nat) {va : Value} {A : Nat} {w : World} (ha : Nv w va A) (h : Hid (nb A = X)) : Calls Tryz.prog 78 #[va] w (IntIs w (X : Nat)) := by
 obtain ⟨xs, r, rfl, l⟩ := ha
 have := h.out
 subst this
 exact refBits_any va xs w r l
theorem refMakeX (v : Nat) {w : World} (h : Hid (v < 18446744073709551616)) : Calls Tryz.prog 87 #[.int .u64 (v : Nat)] w (NumP w v) := by
 have h1 := h.out
 refine (refMake_any (v : Nat) w (by omega) (by omega)).mono ?_
 rintro e w' ⟨v1, rfl, n1, h1⟩
 exact ⟨v1, rfl, n1.num, h1⟩
theorem refTrimX {va : Value} {A : Nat} {w : World} (ha : Nv w va A) : Calls Tryz.prog 69 #[va] w (NumP w A) := by
 obtain ⟨xs, r, rfl, l⟩ := ha
 refine (refTrim_any va xs w r (by omega)).mono ?_
 rintro e w' ⟨v1, rfl, n1, h1⟩
 exact ⟨v1, rfl, n1.num, h1⟩
end Go.Proofs.YtbeoeackahmpbaaGreatDoor.Api
