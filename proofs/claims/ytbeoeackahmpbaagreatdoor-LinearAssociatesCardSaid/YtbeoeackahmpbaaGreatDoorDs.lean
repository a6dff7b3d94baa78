/- Sums of three. -/
import Derived.Test.YtbeoeackahmpbaaGreatDoorJV5
namespace Go.Proofs.YtbeoeackahmpbaaGreatDoor
open Go.RowKit NatM Go.Proofs.YtbeoeackahmpbaaGreatDoor.Api LinM

section
variable {n : Nat}
/-- Three matrices and a sum. -/
theorem sum_assoc (a : Nat → Rat) (B : Mat) (c : Nat → Rat) : LinM.sumQ (fun q => LinM.sumQ (fun s => a s * B s q) n * c q) n = LinM.sumQ (fun s => a s * LinM.sumQ (fun q => B s q * c q) n) n := by
  have e1 : LinM.sumQ (fun q => LinM.sumQ (fun s => a s * B s q) n * c q) n = LinM.sumQ (fun q => LinM.sumQ (fun s => a s * B s q * c q) n) n := LinM.sumQ_congr fun q _ => (sumQ_mulR _ _ _).symm
  have e2 : LinM.sumQ (fun s => a s * LinM.sumQ (fun q => B s q * c q) n) n = LinM.sumQ (fun s => LinM.sumQ (fun q => a s * B s q * c q) n) n := LinM.sumQ_congr fun s _ => by
    rw [← LinM.sumQ_mul]
    exact LinM.sumQ_congr fun q _ => by grind
  rw [e1, e2, LinM.sumQ_swap]
end
end Go.Proofs.YtbeoeackahmpbaaGreatDoor
