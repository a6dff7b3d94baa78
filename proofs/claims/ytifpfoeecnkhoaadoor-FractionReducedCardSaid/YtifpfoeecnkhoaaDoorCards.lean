/-
  DERIVED. GIVEN WITH THE SEED: THE CARDS: each row of YtifpfoeecnkhoaaDoorRows.lean that lists a variable, with what it lists TIED to the program's text (the seventh form; the later family's looks); each row that meets fmt, with fmt's text TOLD by the authors' own Lean function (tested against real Go, not proved from fmt's source: count such statements apart). THE CARD IS WHAT COUNTS. Prove the row's statement (the work); the ties are given (YtifpfoeecnkhoaaDoorTie.lean); close each card by the builder's one call (the guide's Derived/Test/ToyasCard.lean, 'card_holds'). Laid BY PROGRAM, IN A SANDBOX (cutbox-door.mjs). By AI agents, Wed Nov 11 2026. No macro, syntax, notation, axiom, sorry.
-/
import Derived.Test.YtifpfoeecnkhoaaDoorRows
import GoSem.ClaimSeven
namespace Go.Proofs.YtifpfoeecnkhoaaDoor
namespace Rows

/-- THE TIED CARD OF 'drydocklaw02.FractionReduced'. -/
def fractionReducedCard : Claim7 := { stood := { row := fractionReducedRow, standIns := [], harness := (true, "379370422c4c649612949561a464eec4c6b0e13fef8e5565cce507c083da0f2e"), looks := false }, kinds := [], alts := [], laidByText := true, laidKinds := [.data, .data, .pinned], laidTests := true, laidLooks := .later }
def FractionReducedCardSaid : Prop := Claim7.holds Tryd.pinned (.plain (OpenSpec.ofChange fractionReducedSpec)) fractionReducedCard

/-- THE SECOND FORM's CARD OF 'drydocklaw02.FractionReduced'. -/
def fractionReducedUptoCard : Claim7 := { stood := { row := fractionReducedUptoRow, standIns := [], harness := (true, "379370422c4c649612949561a464eec4c6b0e13fef8e5565cce507c083da0f2e"), looks := false }, kinds := [], alts := [], laidByText := true, laidKinds := [.data, .data, .pinned], laidTests := true, laidLooks := .later }
def FractionReducedUptoCardSaid : Prop := Claim7.holds Tryd.pinned (.plain (OpenSpec.upto fractionReducedSpec)) fractionReducedUptoCard
end Rows
end Go.Proofs.YtifpfoeecnkhoaaDoor
