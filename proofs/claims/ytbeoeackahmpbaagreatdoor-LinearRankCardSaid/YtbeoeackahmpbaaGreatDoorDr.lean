/- Rank's answer is the rank. -/
import Derived.Test.YtbeoeackahmpbaaGreatDoorDA
namespace Go.Proofs.YtbeoeackahmpbaaGreatDoor
open Go.RowKit NatM Go.Proofs.YtbeoeackahmpbaaGreatDoor.Api LinM

/-- What Rank returns where all is allowed. -/
def RkP (w : World) (n q : Nat) (A : Mat) (e : Ending) (w' : World) : Prop := ∃ k, e = .returned (.tuple #[.int .i64 (k : Nat), .int .i64 0]) ∧ RankIs A n q k ∧ Add w w'
theorem rankR {w : World} {v : Value} {n q : Nat} {m : Nat → Nat} {X : Nat → Nat → Tri} (h : MatP false w v n m X) (hT : Tab w) (hb : shapeOk X m n = true) (hq : m 0 = q) (hw : wtM (fun i j => can (qm X i j)) (fun _ => q) n ≤ 1900) :
    Calls Tryz.prog 22 #[v] w (RkP w n q (qm X)) := by
  refine (rankN_ok h hT hb hq hw).mono ?_
  rintro e w' ⟨k, p, s, Y, c, W, hEl, rfl, ha⟩
  exact ⟨k, rfl, rank_elim hEl, ha⟩
end Go.Proofs.YtbeoeackahmpbaaGreatDoor
