/-
  DERIVED. GIVEN WITH THE SEED: THE CARDS: each row of YtifpfoeecnkhoaaGreatDoorRows.lean that lists a variable, with what it lists TIED to the program's text (the seventh form; the later family's looks); each row that meets fmt, with fmt's text TOLD by the authors' own Lean function (tested against real Go, not proved from fmt's source: count such statements apart). THE CARD IS WHAT COUNTS. Prove the row's statement (the work); the ties are given (YtifpfoeecnkhoaaGreatDoorTie.lean); close each card by the builder's one call (the guide's Derived/Test/ToyasCard.lean, 'card_holds'). Laid BY PROGRAM, IN A SANDBOX (cutbox-door.mjs). By AI agents, Wed Nov 11 2026. No macro, syntax, notation, axiom, sorry.
-/
import Derived.Test.YtifpfoeecnkhoaaGreatDoorRows
import GoSem.ClaimSeven
namespace Go.Proofs.YtifpfoeecnkhoaaGreatDoor
namespace Rows

/-- THE TIED CARD OF 'drydocklaw03.IntervalExact'. -/
def intervalExactCard : Claim7 := { stood := { row := intervalExactRow, standIns := [], harness := (true, "0ae05b83f345effeaf376e14ff202e98c095e4588a3bb974ea6bf3674223c564"), looks := false }, kinds := [], alts := [], laidByText := true, laidKinds := [.data], laidTests := true, laidLooks := .later }
def IntervalExactCardSaid : Prop := Claim7.holds Tryz.pinned (.plain (OpenSpec.ofChange intervalExactSpec)) intervalExactCard

/-- THE TIED CARD OF 'drydocklaw03.IntervalLattice'. -/
def intervalLatticeCard : Claim7 := { stood := { row := intervalLatticeRow, standIns := [], harness := (true, "0ae05b83f345effeaf376e14ff202e98c095e4588a3bb974ea6bf3674223c564"), looks := false }, kinds := [], alts := [], laidByText := true, laidKinds := [.data], laidTests := true, laidLooks := .later }
def IntervalLatticeCardSaid : Prop := Claim7.holds Tryz.pinned (.plain (OpenSpec.ofChange intervalLatticeSpec)) intervalLatticeCard

/-- THE TIED CARD OF 'drydocklaw03.IntervalHulls'. -/
def intervalHullsCard : Claim7 := { stood := { row := intervalHullsRow, standIns := [], harness := (true, "0ae05b83f345effeaf376e14ff202e98c095e4588a3bb974ea6bf3674223c564"), looks := false }, kinds := [], alts := [], laidByText := true, laidKinds := [.data], laidTests := true, laidLooks := .later }
def IntervalHullsCardSaid : Prop := Claim7.holds Tryz.pinned (.plain (OpenSpec.ofChange intervalHullsSpec)) intervalHullsCard

/-- THE SECOND FORM's CARD OF 'drydocklaw03.IntervalExact'. -/
def intervalExactUptoCard : Claim7 := { stood := { row := intervalExactUptoRow, standIns := [], harness := (true, "0ae05b83f345effeaf376e14ff202e98c095e4588a3bb974ea6bf3674223c564"), looks := false }, kinds := [], alts := [], laidByText := true, laidKinds := [.data], laidTests := true, laidLooks := .later }
def IntervalExactUptoCardSaid : Prop := Claim7.holds Tryz.pinned (.plain (OpenSpec.upto intervalExactSpec)) intervalExactUptoCard

/-- THE SECOND FORM's CARD OF 'drydocklaw03.IntervalLattice'. -/
def intervalLatticeUptoCard : Claim7 := { stood := { row := intervalLatticeUptoRow, standIns := [], harness := (true, "0ae05b83f345effeaf376e14ff202e98c095e4588a3bb974ea6bf3674223c564"), looks := false }, kinds := [], alts := [], laidByText := true, laidKinds := [.data], laidTests := true, laidLooks := .later }
def IntervalLatticeUptoCardSaid : Prop := Claim7.holds Tryz.pinned (.plain (OpenSpec.upto intervalLatticeSpec)) intervalLatticeUptoCard

/-- THE SECOND FORM's CARD OF 'drydocklaw03.IntervalHulls'. -/
def intervalHullsUptoCard : Claim7 := { stood := { row := intervalHullsUptoRow, standIns := [], harness := (true, "0ae05b83f345effeaf376e14ff202e98c095e4588a3bb974ea6bf3674223c564"), looks := false }, kinds := [], alts := [], laidByText := true, laidKinds := [.data], laidTests := true, laidLooks := .later }
def IntervalHullsUptoCardSaid : Prop := Claim7.holds Tryz.pinned (.plain (OpenSpec.upto intervalHullsSpec)) intervalHullsUptoCard
end Rows
end Go.Proofs.YtifpfoeecnkhoaaGreatDoor
