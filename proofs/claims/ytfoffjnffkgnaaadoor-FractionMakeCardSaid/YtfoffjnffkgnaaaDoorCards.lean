/-
  DERIVED. GIVEN WITH THE SEED: THE CARDS: each row of YtfoffjnffkgnaaaDoorRows.lean that lists a variable, with what it lists TIED to the program's text (the seventh form; the later family's looks); each row that meets fmt, with fmt's text TOLD by the authors' own Lean function (tested against real Go, not proved from fmt's source: count such statements apart). THE CARD IS WHAT COUNTS. Prove the row's statement (the work); the ties are given (YtfoffjnffkgnaaaDoorTie.lean); close each card by the builder's one call (the guide's Derived/Test/ToyasCard.lean, 'card_holds'). Laid BY PROGRAM, IN A SANDBOX (cutbox-door.mjs). By AI agents, Wed Nov 11 2026. No macro, syntax, notation, axiom, sorry.
-/
import Derived.Test.YtfoffjnffkgnaaaDoorRows
import GoSem.ClaimSeven
namespace Go.Proofs.YtfoffjnffkgnaaaDoor
namespace Rows

/-- THE TIED CARD OF 'drydocklaw01.NaturalExact'. -/
def naturalExactCard : Claim7 := { stood := { row := naturalExactRow, standIns := [], harness := (true, "9f859d8b848d475e6d20fccaaf803e70be565acea065552dbdb0e9f138d43bb5"), looks := false }, kinds := [], alts := [], laidByText := true, laidKinds := [.data, .pinned], laidTests := true, laidLooks := .later }
def NaturalExactCardSaid : Prop := Claim7.holds Tryd.pinned (.plain (OpenSpec.ofChange naturalExactSpec)) naturalExactCard

/-- THE TIED CARD OF 'drydocklaw01.NaturalLimits'. -/
def naturalLimitsCard : Claim7 := { stood := { row := naturalLimitsRow, standIns := [], harness := (true, "9f859d8b848d475e6d20fccaaf803e70be565acea065552dbdb0e9f138d43bb5"), looks := false }, kinds := [], alts := [], laidByText := true, laidKinds := [.data, .pinned], laidTests := true, laidLooks := .later }
def NaturalLimitsCardSaid : Prop := Claim7.holds Tryd.pinned (.plain (OpenSpec.ofChange naturalLimitsSpec)) naturalLimitsCard

/-- THE TIED CARD OF 'drydocklaw02.FractionMake'. -/
def fractionMakeCard : Claim7 := { stood := { row := fractionMakeRow, standIns := [], harness := (true, "9f859d8b848d475e6d20fccaaf803e70be565acea065552dbdb0e9f138d43bb5"), looks := false }, kinds := [], alts := [], laidByText := true, laidKinds := [.data, .data, .pinned], laidTests := true, laidLooks := .later }
def FractionMakeCardSaid : Prop := Claim7.holds Tryd.pinned (.plain (OpenSpec.ofChange fractionMakeSpec)) fractionMakeCard

/-- THE TIED CARD OF 'drydocklaw02.FractionReduced'. -/
def fractionReducedCard : Claim7 := { stood := { row := fractionReducedRow, standIns := [], harness := (true, "9f859d8b848d475e6d20fccaaf803e70be565acea065552dbdb0e9f138d43bb5"), looks := false }, kinds := [], alts := [], laidByText := true, laidKinds := [.data, .data, .pinned], laidTests := true, laidLooks := .later }
def FractionReducedCardSaid : Prop := Claim7.holds Tryd.pinned (.plain (OpenSpec.ofChange fractionReducedSpec)) fractionReducedCard

/-- THE SECOND FORM's CARD OF 'drydocklaw01.NaturalExact'. -/
def naturalExactUptoCard : Claim7 := { stood := { row := naturalExactUptoRow, standIns := [], harness := (true, "9f859d8b848d475e6d20fccaaf803e70be565acea065552dbdb0e9f138d43bb5"), looks := false }, kinds := [], alts := [], laidByText := true, laidKinds := [.data, .pinned], laidTests := true, laidLooks := .later }
def NaturalExactUptoCardSaid : Prop := Claim7.holds Tryd.pinned (.plain (OpenSpec.upto naturalExactSpec)) naturalExactUptoCard

/-- THE SECOND FORM's CARD OF 'drydocklaw01.NaturalLimits'. -/
def naturalLimitsUptoCard : Claim7 := { stood := { row := naturalLimitsUptoRow, standIns := [], harness := (true, "9f859d8b848d475e6d20fccaaf803e70be565acea065552dbdb0e9f138d43bb5"), looks := false }, kinds := [], alts := [], laidByText := true, laidKinds := [.data, .pinned], laidTests := true, laidLooks := .later }
def NaturalLimitsUptoCardSaid : Prop := Claim7.holds Tryd.pinned (.plain (OpenSpec.upto naturalLimitsSpec)) naturalLimitsUptoCard

/-- THE SECOND FORM's CARD OF 'drydocklaw02.FractionMake'. -/
def fractionMakeUptoCard : Claim7 := { stood := { row := fractionMakeUptoRow, standIns := [], harness := (true, "9f859d8b848d475e6d20fccaaf803e70be565acea065552dbdb0e9f138d43bb5"), looks := false }, kinds := [], alts := [], laidByText := true, laidKinds := [.data, .data, .pinned], laidTests := true, laidLooks := .later }
def FractionMakeUptoCardSaid : Prop := Claim7.holds Tryd.pinned (.plain (OpenSpec.upto fractionMakeSpec)) fractionMakeUptoCard

/-- THE SECOND FORM's CARD OF 'drydocklaw02.FractionReduced'. -/
def fractionReducedUptoCard : Claim7 := { stood := { row := fractionReducedUptoRow, standIns := [], harness := (true, "9f859d8b848d475e6d20fccaaf803e70be565acea065552dbdb0e9f138d43bb5"), looks := false }, kinds := [], alts := [], laidByText := true, laidKinds := [.data, .data, .pinned], laidTests := true, laidLooks := .later }
def FractionReducedUptoCardSaid : Prop := Claim7.holds Tryd.pinned (.plain (OpenSpec.upto fractionReducedSpec)) fractionReducedUptoCard
end Rows
end Go.Proofs.YtfoffjnffkgnaaaDoor
