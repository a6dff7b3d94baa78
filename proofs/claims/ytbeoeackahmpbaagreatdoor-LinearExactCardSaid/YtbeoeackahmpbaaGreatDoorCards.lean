/-
  DERIVED. GIVEN WITH THE SEED: THE CARDS: each row of YtbeoeackahmpbaaGreatDoorRows.lean that lists a variable, with what it lists TIED to the program's text (the seventh form; the later family's looks); each row that meets fmt, with fmt's text TOLD by the authors' own Lean function (tested against real Go, not proved from fmt's source: count such statements apart). THE CARD IS WHAT COUNTS. Prove the row's statement (the work); the ties are given (YtbeoeackahmpbaaGreatDoorTie.lean); close each card by the builder's one call (the guide's Derived/Test/ToyasCard.lean, 'card_holds'). Laid BY PROGRAM, IN A SANDBOX (cutbox-door.mjs). By AI agents, Wed Nov 11 2026. No macro, syntax, notation, axiom, sorry.
-/
import Derived.Test.YtbeoeackahmpbaaGreatDoorRows
import GoSem.ClaimSeven
namespace Go.Proofs.YtbeoeackahmpbaaGreatDoor
namespace Rows

/-- THE TIED CARD OF 'drydocklaw05.LinearExact'. -/
def linearExactCard : Claim7 := { stood := { row := linearExactRow, standIns := [], harness := (true, "c237a6dc58d3c6f001b2daf2060000ace32a3903b895cd5cdc6528f4c840539a"), looks := false }, kinds := [], alts := [], laidByText := true, laidKinds := [.data], laidTests := true, laidLooks := .later }
def LinearExactCardSaid : Prop := Claim7.holds Tryz.pinned (.plain (OpenSpec.ofChange linearExactSpec)) linearExactCard

/-- THE TIED CARD OF 'drydocklaw05.LinearProducts'. -/
def linearProductsCard : Claim7 := { stood := { row := linearProductsRow, standIns := [], harness := (true, "c237a6dc58d3c6f001b2daf2060000ace32a3903b895cd5cdc6528f4c840539a"), looks := false }, kinds := [], alts := [], laidByText := true, laidKinds := [.data], laidTests := true, laidLooks := .later }
def LinearProductsCardSaid : Prop := Claim7.holds Tryz.pinned (.plain (OpenSpec.ofChange linearProductsSpec)) linearProductsCard

/-- THE TIED CARD OF 'drydocklaw05.LinearSolves'. -/
def linearSolvesCard : Claim7 := { stood := { row := linearSolvesRow, standIns := [], harness := (true, "c237a6dc58d3c6f001b2daf2060000ace32a3903b895cd5cdc6528f4c840539a"), looks := false }, kinds := [], alts := [], laidByText := true, laidKinds := [.data], laidTests := true, laidLooks := .later }
def LinearSolvesCardSaid : Prop := Claim7.holds Tryz.pinned (.plain (OpenSpec.ofChange linearSolvesSpec)) linearSolvesCard

/-- THE TIED CARD OF 'drydocklaw05.LinearInverse'. -/
def linearInverseCard : Claim7 := { stood := { row := linearInverseRow, standIns := [], harness := (true, "c237a6dc58d3c6f001b2daf2060000ace32a3903b895cd5cdc6528f4c840539a"), looks := false }, kinds := [], alts := [], laidByText := true, laidKinds := [.data], laidTests := true, laidLooks := .later }
def LinearInverseCardSaid : Prop := Claim7.holds Tryz.pinned (.plain (OpenSpec.ofChange linearInverseSpec)) linearInverseCard

/-- THE TIED CARD OF 'drydocklaw05.LinearDet'. -/
def linearDetCard : Claim7 := { stood := { row := linearDetRow, standIns := [], harness := (true, "c237a6dc58d3c6f001b2daf2060000ace32a3903b895cd5cdc6528f4c840539a"), looks := false }, kinds := [], alts := [], laidByText := true, laidKinds := [.data], laidTests := true, laidLooks := .later }
def LinearDetCardSaid : Prop := Claim7.holds Tryz.pinned (.plain (OpenSpec.ofChange linearDetSpec)) linearDetCard

/-- THE TIED CARD OF 'drydocklaw05.LinearRank'. -/
def linearRankCard : Claim7 := { stood := { row := linearRankRow, standIns := [], harness := (true, "c237a6dc58d3c6f001b2daf2060000ace32a3903b895cd5cdc6528f4c840539a"), looks := false }, kinds := [], alts := [], laidByText := true, laidKinds := [.data], laidTests := true, laidLooks := .later }
def LinearRankCardSaid : Prop := Claim7.holds Tryz.pinned (.plain (OpenSpec.ofChange linearRankSpec)) linearRankCard

/-- THE TIED CARD OF 'drydocklaw05.LinearAssociates'. -/
def linearAssociatesCard : Claim7 := { stood := { row := linearAssociatesRow, standIns := [], harness := (true, "c237a6dc58d3c6f001b2daf2060000ace32a3903b895cd5cdc6528f4c840539a"), looks := false }, kinds := [], alts := [], laidByText := true, laidKinds := [.data], laidTests := true, laidLooks := .later }
def LinearAssociatesCardSaid : Prop := Claim7.holds Tryz.pinned (.plain (OpenSpec.ofChange linearAssociatesSpec)) linearAssociatesCard

/-- THE TIED CARD OF 'drydocklaw05.LinearWeights'. -/
def linearWeightsCard : Claim7 := { stood := { row := linearWeightsRow, standIns := [], harness := (true, "c237a6dc58d3c6f001b2daf2060000ace32a3903b895cd5cdc6528f4c840539a"), looks := false }, kinds := [], alts := [], laidByText := true, laidKinds := [.data], laidTests := true, laidLooks := .later }
def LinearWeightsCardSaid : Prop := Claim7.holds Tryz.pinned (.plain (OpenSpec.ofChange linearWeightsSpec)) linearWeightsCard

/-- THE SECOND FORM's CARD OF 'drydocklaw05.LinearExact'. -/
def linearExactUptoCard : Claim7 := { stood := { row := linearExactUptoRow, standIns := [], harness := (true, "c237a6dc58d3c6f001b2daf2060000ace32a3903b895cd5cdc6528f4c840539a"), looks := false }, kinds := [], alts := [], laidByText := true, laidKinds := [.data], laidTests := true, laidLooks := .later }
def LinearExactUptoCardSaid : Prop := Claim7.holds Tryz.pinned (.plain (OpenSpec.upto linearExactSpec)) linearExactUptoCard

/-- THE SECOND FORM's CARD OF 'drydocklaw05.LinearProducts'. -/
def linearProductsUptoCard : Claim7 := { stood := { row := linearProductsUptoRow, standIns := [], harness := (true, "c237a6dc58d3c6f001b2daf2060000ace32a3903b895cd5cdc6528f4c840539a"), looks := false }, kinds := [], alts := [], laidByText := true, laidKinds := [.data], laidTests := true, laidLooks := .later }
def LinearProductsUptoCardSaid : Prop := Claim7.holds Tryz.pinned (.plain (OpenSpec.upto linearProductsSpec)) linearProductsUptoCard

/-- THE SECOND FORM's CARD OF 'drydocklaw05.LinearSolves'. -/
def linearSolvesUptoCard : Claim7 := { stood := { row := linearSolvesUptoRow, standIns := [], harness := (true, "c237a6dc58d3c6f001b2daf2060000ace32a3903b895cd5cdc6528f4c840539a"), looks := false }, kinds := [], alts := [], laidByText := true, laidKinds := [.data], laidTests := true, laidLooks := .later }
def LinearSolvesUptoCardSaid : Prop := Claim7.holds Tryz.pinned (.plain (OpenSpec.upto linearSolvesSpec)) linearSolvesUptoCard

/-- THE SECOND FORM's CARD OF 'drydocklaw05.LinearInverse'. -/
def linearInverseUptoCard : Claim7 := { stood := { row := linearInverseUptoRow, standIns := [], harness := (true, "c237a6dc58d3c6f001b2daf2060000ace32a3903b895cd5cdc6528f4c840539a"), looks := false }, kinds := [], alts := [], laidByText := true, laidKinds := [.data], laidTests := true, laidLooks := .later }
def LinearInverseUptoCardSaid : Prop := Claim7.holds Tryz.pinned (.plain (OpenSpec.upto linearInverseSpec)) linearInverseUptoCard

/-- THE SECOND FORM's CARD OF 'drydocklaw05.LinearDet'. -/
def linearDetUptoCard : Claim7 := { stood := { row := linearDetUptoRow, standIns := [], harness := (true, "c237a6dc58d3c6f001b2daf2060000ace32a3903b895cd5cdc6528f4c840539a"), looks := false }, kinds := [], alts := [], laidByText := true, laidKinds := [.data], laidTests := true, laidLooks := .later }
def LinearDetUptoCardSaid : Prop := Claim7.holds Tryz.pinned (.plain (OpenSpec.upto linearDetSpec)) linearDetUptoCard

/-- THE SECOND FORM's CARD OF 'drydocklaw05.LinearRank'. -/
def linearRankUptoCard : Claim7 := { stood := { row := linearRankUptoRow, standIns := [], harness := (true, "c237a6dc58d3c6f001b2daf2060000ace32a3903b895cd5cdc6528f4c840539a"), looks := false }, kinds := [], alts := [], laidByText := true, laidKinds := [.data], laidTests := true, laidLooks := .later }
def LinearRankUptoCardSaid : Prop := Claim7.holds Tryz.pinned (.plain (OpenSpec.upto linearRankSpec)) linearRankUptoCard

/-- THE SECOND FORM's CARD OF 'drydocklaw05.LinearAssociates'. -/
def linearAssociatesUptoCard : Claim7 := { stood := { row := linearAssociatesUptoRow, standIns := [], harness := (true, "c237a6dc58d3c6f001b2daf2060000ace32a3903b895cd5cdc6528f4c840539a"), looks := false }, kinds := [], alts := [], laidByText := true, laidKinds := [.data], laidTests := true, laidLooks := .later }
def LinearAssociatesUptoCardSaid : Prop := Claim7.holds Tryz.pinned (.plain (OpenSpec.upto linearAssociatesSpec)) linearAssociatesUptoCard

/-- THE SECOND FORM's CARD OF 'drydocklaw05.LinearWeights'. -/
def linearWeightsUptoCard : Claim7 := { stood := { row := linearWeightsUptoRow, standIns := [], harness := (true, "c237a6dc58d3c6f001b2daf2060000ace32a3903b895cd5cdc6528f4c840539a"), looks := false }, kinds := [], alts := [], laidByText := true, laidKinds := [.data], laidTests := true, laidLooks := .later }
def LinearWeightsUptoCardSaid : Prop := Claim7.holds Tryz.pinned (.plain (OpenSpec.upto linearWeightsSpec)) linearWeightsUptoCard
end Rows
end Go.Proofs.YtbeoeackahmpbaaGreatDoor
