import Derived.Test.YtbeoeackahmpbaaGreatDoorCards
import Derived.Test.YtbeoeackahmpbaaGreatDoorTie
import Derived.Test.YtbeoeackahmpbaaGreatDoorJV9
import Derived.Lib.SmallJoins
import Derived.WalkKit
import Derived.ProofKit
import Derived.OpenShut
import Derived.Deep.DeepHandedRow
import Derived.Lib.LaidTab
namespace Go.Proofs.YtbeoeackahmpbaaGreatDoor
open Go.ChangeShapes Go.WideShapes Go.ChangeAt Go.RowKit NatM
theorem own : ownKnob Tryz.prog.godebug = none := by kernel_rfl
def layRow (l : List Nat) : Obj → Obj
 | .cells _ t frozen => .cells (l.map fun n => Value.int .u8 (n : Nat)).toArray t frozen
 | o => o
noncomputable def laidWorld (os : Os) : World :=
 { World.holding Tryz.prog os ⟨#[], #[], []⟩ with heap := (World.holding Tryz.prog os ⟨#[], #[], []⟩).heap.modify 0 (layRow Lib.deBruijn32tab) }
theorem laid_met (os : Os) (args : Array Value) : laidMet Tryz.prog [("math/bits.deBruijn32tab", Rows.laid_math_bits_deBruijn32tab)] ((laidWorld os).forCall (fun _ _ => 0) ⟨#[], args, []⟩).memory :=
 laidMet_of_run' 8 (by kernel_rfl) (by kernel_rfl)
theorem tab_global : Tryz.prog.globalNamed "math/bits.deBruijn32tab" = some 0 := by kernel_rfl
theorem tab_of_laid {W : World} (h : laidMet Tryz.prog [("math/bits.deBruijn32tab", Rows.laid_math_bits_deBruijn32tab)] W) : Tab W := by
 have ht := Lib.tabIs_of_head (zs := Lib.deBruijn32tab.map fun n : Nat => (n : Int)) (k := .u8) tab_global (show (Tryz.prog.globals[0]?).map (·.type) = some 122 by kernel_rfl) Tryz.underlying122 Tryz.underlying5 (by kernel_rfl) (by kernel_rfl) h
 have hc : ∀ j, j < 32 → W.cell? ⟨0, j, none⟩ = some (.int .u8 (Lib.deBruijn32tab.getD j 0 : Nat)) := by
  intro j hj
  have hl : Lib.deBruijn32tab.length = 32 := rfl
  rw [ht.cell tab_global j (by simpa [hl] using hj)]
  have hj' : j < Lib.deBruijn32tab.length := by omega
  simp [List.getD, hj']
 exact ⟨World.block_lt_of_cell? W _ (hc 0 (by decide)), hc⟩
theorem u8_natL {z : Int} (h : (Lit.int .u8 z).wf = true) : ∃ n : Nat, n < 256 ∧ z = (n : Int) := by
 have h1 : IntKind.u8.min = 0 := rfl
 have h2 : IntKind.u8.max = 255 := rfl
 simp only [Lit.wf, Bool.and_eq_true, decide_eq_true_eq] at h
 exact ⟨z.toNat, by omega, by omega⟩
end Go.Proofs.YtbeoeackahmpbaaGreatDoor
