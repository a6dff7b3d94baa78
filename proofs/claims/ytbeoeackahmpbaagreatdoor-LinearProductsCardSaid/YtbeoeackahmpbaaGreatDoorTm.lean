/- Results with error numbers. -/
import Derived.Test.YtbeoeackahmpbaaGreatDoorVx
namespace Go.Proofs.YtbeoeackahmpbaaGreatDoor
open Go.RowKit NatM Go.Proofs.YtbeoeackahmpbaaGreatDoor.Api LinM

/-- A matrix and an error number; a row and an error number. -/
def MRes (w : World) (n : Nat) (m : Nat → Nat) (X : Nat → Nat → Tri) (k : Nat) (e : Ending) (w' : World) : Prop := ∃ a c, e = .returned (.tuple #[.slice a n c, .int .i64 (k : Nat)]) ∧ MatP true w' (.slice a n c) n m X ∧ Add w w'
def VRes (w : World) (n : Nat) (t : Nat → Tri) (k : Nat) (e : Ending) (w' : World) : Prop := ∃ a c, e = .returned (.tuple #[.slice a n c, .int .i64 (k : Nat)]) ∧ RowP true w' (.slice a n c) n t ∧ Add w w'
theorem matNil (w : World) (m : Nat → Nat) (X : Nat → Nat → Tri) : MatP true w (.slice none 0 0) 0 m X := ⟨none, 0, rfl, Nat.le_refl _, by unfold maxLen; omega, fun h => by omega⟩
theorem rowNil (w : World) (t : Nat → Tri) : RowP true w (.slice none 0 0) 0 t := ⟨none, 0, rfl, Nat.le_refl _, by unfold maxLen; omega, fun h => by omega⟩
theorem RefP.mat {w : World} {k : Nat} {e : Ending} {w' : World} (m : Nat → Nat) (X : Nat → Nat → Tri) (h : RefP w k e w') : MRes w 0 m X k e w' := ⟨none, 0, h.1, matNil _ _ _, h.2⟩
theorem RefP.vec {w : World} {k : Nat} {e : Ending} {w' : World} (t : Nat → Tri) (h : RefP w k e w') : VRes w 0 t k e w' := ⟨none, 0, h.1, rowNil _ _, h.2⟩
theorem wtM_shape {A : Mat} {m : Nat → Nat} {n c : Nat} (h : ∀ i, i < n → m i = c) : wtM (fun i j => can (A i j)) m n = wtM (fun i j => can (A i j)) (fun _ => c) n := sumK_congr fun i hi => by rw [h i hi]
end Go.Proofs.YtbeoeackahmpbaaGreatDoor
