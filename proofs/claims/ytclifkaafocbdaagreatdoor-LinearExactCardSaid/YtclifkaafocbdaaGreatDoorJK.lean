/- The operations of package natural, with their errors, answer what the reference answers. | Every operation on numbers, of package natural and of the reference, by one answer; the premises are hidden. -/
import Derived.Test.YtclifkaafocbdaaGreatDoorJG
import Derived.Test.YtclifkaafocbdaaGreatDoorJT
import Derived.Test.YtclifkaafocbdaaGreatDoorJS
import Derived.Test.YtclifkaafocbdaaGreatDoorJH

namespace Go.Proofs.YtclifkaafocbdaaGreatDoor
open Go.RowKit NatM Go.Proofs.YtclifkaafocbdaaGreatDoor.Api

end Go.Proofs.YtclifkaafocbdaaGreatDoor

namespace Go.Proofs.YtclifkaafocbdaaGreatDoor.Api
open Go.Proofs.YtclifkaafocbdaaGreatDoor Go.RowKit NatM

theorem refAddX (p : Nat × Nat) {va vb : Value} {A B : Nat} {w : World} (ha : Nv w va A) (hb : Nv w vb B) (h : Hid (addS A B = p)) : Calls Tryz.prog 70 #[va, vb] w (ResP w p) := by
  obtain ⟨xs, r, rfl, l⟩ := ha
  obtain ⟨ys, r', rfl, l'⟩ := hb
  have := h.out
  subst this
  exact refAdd_any va vb xs ys w r r' l l'
theorem refSubX (p : Nat × Nat) {va vb : Value} {A B : Nat} {w : World} (ha : Nv w va A) (hb : Nv w vb B) (h : Hid (subS A B = p)) : Calls Tryz.prog 72 #[va, vb] w (ResP w p) := by
  obtain ⟨xs, r, rfl, l⟩ := ha
  obtain ⟨ys, r', rfl, l'⟩ := hb
  have := h.out
  subst this
  exact refSub_any va vb xs ys w r r' l l'
theorem refMulX (p : Nat × Nat) {va vb : Value} {A B : Nat} {w : World} (ha : Nv w va A) (hb : Nv w vb B) (h : Hid (mulS A B = p)) : Calls Tryz.prog 93 #[va, vb] w (ResP w p) := by
  obtain ⟨xs, r, rfl, l⟩ := ha
  obtain ⟨ys, r', rfl, l'⟩ := hb
  have := h.out
  subst this
  exact refMul_any va vb xs ys w r r' l l'
theorem refDivX (p : Nat × Nat × Nat) {va vb : Value} {A B : Nat} {w : World} (ha : Nv w va A) (hb : Nv w vb B) (h : Hid (divS A B = p)) : Calls Tryz.prog 92 #[va, vb] w (ResP2 w p) := by
  obtain ⟨xs, r, rfl, l⟩ := ha
  obtain ⟨ys, r', rfl, l'⟩ := hb
  have := h.out
  subst this
  exact refDiv_any va vb xs ys w r r' l l'
theorem refGcdX (p : Nat × Nat) {va vb : Value} {A B : Nat} {w : World} (ha : Nv w va A) (hb : Nv w vb B) (h : Hid (gcdS A B = p)) : Calls Tryz.prog 91 #[va, vb] w (ResP w p) := by
  obtain ⟨xs, r, rfl, l⟩ := ha
  obtain ⟨ys, r', rfl, l'⟩ := hb
  have := h.out
  subst this
  exact refGcd_any va vb xs ys w r r' l l'
theorem refCmpX (X : Int) {va vb : Value} {A B : Nat} {w : World} (ha : Nv w va A) (hb : Nv w vb B) (h : Hid (cmpI A B = X)) : Calls Tryz.prog 71 #[va, vb] w (IntIs w X) := by
  obtain ⟨xs, r, rfl, l⟩ := ha
  obtain ⟨ys, r', rfl, l'⟩ := hb
  have := h.out
  subst this
  exact refCmp_any va vb xs ys w r r' (by omega) (by omega)
theorem refBitsX (X : Nat) {va : Value} {A : Nat} {w : World} (ha : Nv w va A) (h : Hid (nb A = X)) : Calls Tryz.prog 79 #[va] w (IntIs w (X : Nat)) := by
  obtain ⟨xs, r, rfl, l⟩ := ha
  have := h.out
  subst this
  exact refBits_any va xs w r l
theorem refMakeX (v : Nat) {w : World} (h : Hid (v < 18446744073709551616)) : Calls Tryz.prog 88 #[.int .u64 (v : Nat)] w (NumP w v) := by
  have h1 := h.out
  refine (refMake_any (v : Nat) w (by omega) (by omega)).mono ?_
  rintro e w' ⟨v1, rfl, n1, h1⟩
  exact ⟨v1, rfl, n1.num, h1⟩
theorem refTrimX {va : Value} {A : Nat} {w : World} (ha : Nv w va A) : Calls Tryz.prog 69 #[va] w (NumP w A) := by
  obtain ⟨xs, r, rfl, l⟩ := ha
  refine (refTrim_any va xs w r (by omega)).mono ?_
  rintro e w' ⟨v1, rfl, n1, h1⟩
  exact ⟨v1, rfl, n1.num, h1⟩
end Go.Proofs.YtclifkaafocbdaaGreatDoor.Api
