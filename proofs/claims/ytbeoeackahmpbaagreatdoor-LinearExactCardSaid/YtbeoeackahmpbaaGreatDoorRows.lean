/-
  NARROWER THAN 'FOR EVERY INPUT', by the rows' own cells (each row's printed sentence says how): LinearExact: laid · LinearProducts: laid · LinearSolves: laid · LinearInverse: laid · LinearDet: laid · LinearRank: laid · LinearAssociates: laid · LinearWeights: laid.
  DERIVED. THE GIVEN ROWS OF THIS SEAT. 8 by the template 'for every input the law returns true; each argument reads behind the call as it read before'; 0 by the template 'total and deterministic' (their statements: YtbeoeackahmpbaaGreatDoorTotals.lean).
  GIVEN WITH THE SEED: the statements are not yours to turn. If you find one false, say at which input.
  Laid BY PROGRAM, IN A SANDBOX (cutbox-rows.mjs): the forced cells as the released guide's own fill.sh prints them over the translation 179e82905ac67a42… (all of the seat's roots in one cut). By AI agents, Wed Nov 11 2026. No macro, syntax, notation, axiom, sorry.
-/
import Derived.Test.YtbeoeackahmpbaaGreatDoorChecked
import GoSem.Claim
import GoSem.ClaimJoined
import GoSem.ClaimMapViews
import Derived.JoinedTies
import Derived.KernelRfl
namespace Go.Proofs.YtbeoeackahmpbaaGreatDoor
/- THE CELL 'sum', in the pinned program and in every row, IS THE sha256 OF THE DUMP (.gsa) THAT YtbeoeackahmpbaaGreatDoorProg.lean LOADS. Nothing in Lean hashes anything: it is a label: what it is worth is what the hold of that sum in a sandbox is worth. -/
noncomputable def Tryz.pinned : Pinned := { name := "ytbeoeackahmpbaagreatdoor", sum := "179e82905ac67a4273ec908557420cc7dc72144d5094e12d000ff01298631858", checked := Tryz.checked }
namespace Rows
def none {H : Type} : Left H := { results := [], args := [] }

/- WHAT THE LISTED PACKAGE-LEVEL VARIABLES READ AS WHEN THE CALL BEGINS. Each datum BY PROGRAM (the guide's laid-datum.mjs) off the statement by which the dump's own 'gosem.cut.vars' lays the variable. In a bare row this is a premise. The card (YtbeoeackahmpbaaGreatDoorCards.lean) ties it to the program's text. -/
def laid_math_bits_deBruijn32tab {H : Type} : DataW H := .agg [.lit (.int .u8 0), .lit (.int .u8 1), .lit (.int .u8 28), .lit (.int .u8 2), .lit (.int .u8 29), .lit (.int .u8 14), .lit (.int .u8 24), .lit (.int .u8 3), .lit (.int .u8 30), .lit (.int .u8 22), .lit (.int .u8 20), .lit (.int .u8 15), .lit (.int .u8 25), .lit (.int .u8 17), .lit (.int .u8 4), .lit (.int .u8 8), .lit (.int .u8 31), .lit (.int .u8 27), .lit (.int .u8 13), .lit (.int .u8 23), .lit (.int .u8 21), .lit (.int .u8 19), .lit (.int .u8 16), .lit (.int .u8 7), .lit (.int .u8 26), .lit (.int .u8 12), .lit (.int .u8 18), .lit (.int .u8 6), .lit (.int .u8 11), .lit (.int .u8 5), .lit (.int .u8 10), .lit (.int .u8 9)]

/-- 'drydocklaw05.LinearExact': WHATEVER THE INPUT: true; the input reads as it did. -/
def linearExactSpec : ChangeSpec := { name := "linearExact", fn := fun _ => fun
  | [d1, d2] => { results := [.lit (.bool true)], args := [d1, d2] }
  | _ => none }
def linearExactRow : OpenClaim := { program := "ytbeoeackahmpbaagreatdoor", sum := "179e82905ac67a4273ec908557420cc7dc72144d5094e12d000ff01298631858", func := "drydock/drydocklaw05.LinearExact", spec := "linearExact", named := ["math/bits.deBruijn32tab", "math/bits.overflowError"], apart := false, laid := [("math/bits.deBruijn32tab", laid_math_bits_deBruijn32tab)] }
def LinearExactSaid : Prop := linearExactRow.holds Tryz.pinned (OpenSpec.ofChange linearExactSpec)

/-- ITS FALSE NEIGHBOUR: 'it returns false'. Refute it at one input. -/
def linearExactWrong : ChangeSpec := { name := "linearExact", fn := fun _ => fun
  | [d1, d2] => { results := [.lit (.bool false)], args := [d1, d2] }
  | _ => none }
def LinearExactWrongFalsely : Prop := linearExactRow.holds Tryz.pinned (OpenSpec.ofChange linearExactWrong)

/-- 'drydocklaw05.LinearProducts': WHATEVER THE INPUT: true; the input reads as it did. -/
def linearProductsSpec : ChangeSpec := { name := "linearProducts", fn := fun _ => fun
  | [d1, d2, d3, d4] => { results := [.lit (.bool true)], args := [d1, d2, d3, d4] }
  | _ => none }
def linearProductsRow : OpenClaim := { program := "ytbeoeackahmpbaagreatdoor", sum := "179e82905ac67a4273ec908557420cc7dc72144d5094e12d000ff01298631858", func := "drydock/drydocklaw05.LinearProducts", spec := "linearProducts", named := ["math/bits.deBruijn32tab", "math/bits.overflowError"], apart := false, laid := [("math/bits.deBruijn32tab", laid_math_bits_deBruijn32tab)] }
def LinearProductsSaid : Prop := linearProductsRow.holds Tryz.pinned (OpenSpec.ofChange linearProductsSpec)

/-- ITS FALSE NEIGHBOUR: 'it returns false'. Refute it at one input. -/
def linearProductsWrong : ChangeSpec := { name := "linearProducts", fn := fun _ => fun
  | [d1, d2, d3, d4] => { results := [.lit (.bool false)], args := [d1, d2, d3, d4] }
  | _ => none }
def LinearProductsWrongFalsely : Prop := linearProductsRow.holds Tryz.pinned (OpenSpec.ofChange linearProductsWrong)

/-- 'drydocklaw05.LinearSolves': WHATEVER THE INPUT: true; the input reads as it did. -/
def linearSolvesSpec : ChangeSpec := { name := "linearSolves", fn := fun _ => fun
  | [d1, d2, d3] => { results := [.lit (.bool true)], args := [d1, d2, d3] }
  | _ => none }
def linearSolvesRow : OpenClaim := { program := "ytbeoeackahmpbaagreatdoor", sum := "179e82905ac67a4273ec908557420cc7dc72144d5094e12d000ff01298631858", func := "drydock/drydocklaw05.LinearSolves", spec := "linearSolves", named := ["math/bits.deBruijn32tab", "math/bits.overflowError"], apart := false, laid := [("math/bits.deBruijn32tab", laid_math_bits_deBruijn32tab)] }
def LinearSolvesSaid : Prop := linearSolvesRow.holds Tryz.pinned (OpenSpec.ofChange linearSolvesSpec)

/-- ITS FALSE NEIGHBOUR: 'it returns false'. Refute it at one input. -/
def linearSolvesWrong : ChangeSpec := { name := "linearSolves", fn := fun _ => fun
  | [d1, d2, d3] => { results := [.lit (.bool false)], args := [d1, d2, d3] }
  | _ => none }
def LinearSolvesWrongFalsely : Prop := linearSolvesRow.holds Tryz.pinned (OpenSpec.ofChange linearSolvesWrong)

/-- 'drydocklaw05.LinearInverse': WHATEVER THE INPUT: true; the input reads as it did. -/
def linearInverseSpec : ChangeSpec := { name := "linearInverse", fn := fun _ => fun
  | [d1, d2, d3] => { results := [.lit (.bool true)], args := [d1, d2, d3] }
  | _ => none }
def linearInverseRow : OpenClaim := { program := "ytbeoeackahmpbaagreatdoor", sum := "179e82905ac67a4273ec908557420cc7dc72144d5094e12d000ff01298631858", func := "drydock/drydocklaw05.LinearInverse", spec := "linearInverse", named := ["math/bits.deBruijn32tab", "math/bits.overflowError"], apart := false, laid := [("math/bits.deBruijn32tab", laid_math_bits_deBruijn32tab)] }
def LinearInverseSaid : Prop := linearInverseRow.holds Tryz.pinned (OpenSpec.ofChange linearInverseSpec)

/-- ITS FALSE NEIGHBOUR: 'it returns false'. Refute it at one input. -/
def linearInverseWrong : ChangeSpec := { name := "linearInverse", fn := fun _ => fun
  | [d1, d2, d3] => { results := [.lit (.bool false)], args := [d1, d2, d3] }
  | _ => none }
def LinearInverseWrongFalsely : Prop := linearInverseRow.holds Tryz.pinned (OpenSpec.ofChange linearInverseWrong)

/-- 'drydocklaw05.LinearDet': WHATEVER THE INPUT: true; the input reads as it did. -/
def linearDetSpec : ChangeSpec := { name := "linearDet", fn := fun _ => fun
  | [d1, d2, d3, d4, d5] => { results := [.lit (.bool true)], args := [d1, d2, d3, d4, d5] }
  | _ => none }
def linearDetRow : OpenClaim := { program := "ytbeoeackahmpbaagreatdoor", sum := "179e82905ac67a4273ec908557420cc7dc72144d5094e12d000ff01298631858", func := "drydock/drydocklaw05.LinearDet", spec := "linearDet", named := ["math/bits.deBruijn32tab", "math/bits.overflowError"], apart := false, laid := [("math/bits.deBruijn32tab", laid_math_bits_deBruijn32tab)] }
def LinearDetSaid : Prop := linearDetRow.holds Tryz.pinned (OpenSpec.ofChange linearDetSpec)

/-- ITS FALSE NEIGHBOUR: 'it returns false'. Refute it at one input. -/
def linearDetWrong : ChangeSpec := { name := "linearDet", fn := fun _ => fun
  | [d1, d2, d3, d4, d5] => { results := [.lit (.bool false)], args := [d1, d2, d3, d4, d5] }
  | _ => none }
def LinearDetWrongFalsely : Prop := linearDetRow.holds Tryz.pinned (OpenSpec.ofChange linearDetWrong)

/-- 'drydocklaw05.LinearRank': WHATEVER THE INPUT: true; the input reads as it did. -/
def linearRankSpec : ChangeSpec := { name := "linearRank", fn := fun _ => fun
  | [d1, d2, d3, d4] => { results := [.lit (.bool true)], args := [d1, d2, d3, d4] }
  | _ => none }
def linearRankRow : OpenClaim := { program := "ytbeoeackahmpbaagreatdoor", sum := "179e82905ac67a4273ec908557420cc7dc72144d5094e12d000ff01298631858", func := "drydock/drydocklaw05.LinearRank", spec := "linearRank", named := ["math/bits.deBruijn32tab", "math/bits.overflowError"], apart := false, laid := [("math/bits.deBruijn32tab", laid_math_bits_deBruijn32tab)] }
def LinearRankSaid : Prop := linearRankRow.holds Tryz.pinned (OpenSpec.ofChange linearRankSpec)

/-- ITS FALSE NEIGHBOUR: 'it returns false'. Refute it at one input. -/
def linearRankWrong : ChangeSpec := { name := "linearRank", fn := fun _ => fun
  | [d1, d2, d3, d4] => { results := [.lit (.bool false)], args := [d1, d2, d3, d4] }
  | _ => none }
def LinearRankWrongFalsely : Prop := linearRankRow.holds Tryz.pinned (OpenSpec.ofChange linearRankWrong)

/-- 'drydocklaw05.LinearAssociates': WHATEVER THE INPUT: true; the input reads as it did. -/
def linearAssociatesSpec : ChangeSpec := { name := "linearAssociates", fn := fun _ => fun
  | [d1, d2, d3, d4, d5, d6, d7] => { results := [.lit (.bool true)], args := [d1, d2, d3, d4, d5, d6, d7] }
  | _ => none }
def linearAssociatesRow : OpenClaim := { program := "ytbeoeackahmpbaagreatdoor", sum := "179e82905ac67a4273ec908557420cc7dc72144d5094e12d000ff01298631858", func := "drydock/drydocklaw05.LinearAssociates", spec := "linearAssociates", named := ["math/bits.deBruijn32tab", "math/bits.overflowError"], apart := false, laid := [("math/bits.deBruijn32tab", laid_math_bits_deBruijn32tab)] }
def LinearAssociatesSaid : Prop := linearAssociatesRow.holds Tryz.pinned (OpenSpec.ofChange linearAssociatesSpec)

/-- ITS FALSE NEIGHBOUR: 'it returns false'. Refute it at one input. -/
def linearAssociatesWrong : ChangeSpec := { name := "linearAssociates", fn := fun _ => fun
  | [d1, d2, d3, d4, d5, d6, d7] => { results := [.lit (.bool false)], args := [d1, d2, d3, d4, d5, d6, d7] }
  | _ => none }
def LinearAssociatesWrongFalsely : Prop := linearAssociatesRow.holds Tryz.pinned (OpenSpec.ofChange linearAssociatesWrong)

/-- 'drydocklaw05.LinearWeights': WHATEVER THE INPUT: true; the input reads as it did. -/
def linearWeightsSpec : ChangeSpec := { name := "linearWeights", fn := fun _ => fun
  | [d1, d2, d3, d4] => { results := [.lit (.bool true)], args := [d1, d2, d3, d4] }
  | _ => none }
def linearWeightsRow : OpenClaim := { program := "ytbeoeackahmpbaagreatdoor", sum := "179e82905ac67a4273ec908557420cc7dc72144d5094e12d000ff01298631858", func := "drydock/drydocklaw05.LinearWeights", spec := "linearWeights", named := ["math/bits.deBruijn32tab", "math/bits.overflowError"], apart := false, laid := [("math/bits.deBruijn32tab", laid_math_bits_deBruijn32tab)] }
def LinearWeightsSaid : Prop := linearWeightsRow.holds Tryz.pinned (OpenSpec.ofChange linearWeightsSpec)

/-- ITS FALSE NEIGHBOUR: 'it returns false'. Refute it at one input. -/
def linearWeightsWrong : ChangeSpec := { name := "linearWeights", fn := fun _ => fun
  | [d1, d2, d3, d4] => { results := [.lit (.bool false)], args := [d1, d2, d3, d4] }
  | _ => none }
def LinearWeightsWrongFalsely : Prop := linearWeightsRow.holds Tryz.pinned (OpenSpec.ofChange linearWeightsWrong)

/- THE SECOND FORM. 'bulk': how many values and letters a reading holds, each counted each time it is reached (what is shared counts as often as it is met; a slice's spare places count too). A statement '..UptoSaid' is the law's where the arguments, and the package variables that the reading takes, are together of bulk at most 1048576: NARROWER than '..Said'. Prove '..Said' where nothing that the law and all that it calls make is longer than what came in: it says more and counts as full. Else prove '..UptoSaid'. A law counts once. -/
mutual
def uptoBulk {H : Type} : DataW H → Nat
  | .lit (.string bytes) => bytes.length + 1
  | .lit _ => 1
  | .nil => 1
  | .ptr d => uptoBulk d + 1
  | .slice elems spare => uptoBulkAll elems + uptoBulkAll spare + 1
  | .agg parts => uptoBulkAll parts + 1
  | .iface _ d => uptoBulk d + 1
  | .map entries => uptoBulkEntries entries + 1
  | .held _ => 1
def uptoBulkAll {H : Type} : List (DataW H) → Nat
  | [] => 0
  | d :: r => uptoBulk d + uptoBulkAll r
def uptoBulkEntries {H : Type} : List (Lit × DataW H) → Nat
  | [] => 0
  | x :: r => uptoBulkEntry x + uptoBulkEntries r
def uptoBulkEntry {H : Type} : Lit × DataW H → Nat
  | (.string bytes, d) => bytes.length + uptoBulk d + 1
  | (_, d) => uptoBulk d + 1
 end
def uptoSmall : (H : Type) → List (DataW H) → Bool := fun _ ds => decide (uptoBulkAll ds ≤ 1048576)
def OpenSpec.upto (s : _root_.Go.ChangeSpec) : _root_.Go.OpenSpec := { _root_.Go.OpenSpec.ofChange s with cond := some uptoSmall }

/-- 'drydocklaw05.LinearExact', WHERE WHAT IT READS IS OF BULK AT MOST 1048576: true; the input reads as it did. -/
def linearExactUptoRow : OpenClaim := { program := "ytbeoeackahmpbaagreatdoor", sum := "179e82905ac67a4273ec908557420cc7dc72144d5094e12d000ff01298631858", func := "drydock/drydocklaw05.LinearExact", spec := "linearExact", named := ["math/bits.deBruijn32tab", "math/bits.overflowError"], apart := false, laid := [("math/bits.deBruijn32tab", laid_math_bits_deBruijn32tab)], narrowed := true }
def LinearExactUptoSaid : Prop := linearExactUptoRow.holds Tryz.pinned (OpenSpec.upto linearExactSpec)

/-- 'drydocklaw05.LinearProducts', WHERE WHAT IT READS IS OF BULK AT MOST 1048576: true; the input reads as it did. -/
def linearProductsUptoRow : OpenClaim := { program := "ytbeoeackahmpbaagreatdoor", sum := "179e82905ac67a4273ec908557420cc7dc72144d5094e12d000ff01298631858", func := "drydock/drydocklaw05.LinearProducts", spec := "linearProducts", named := ["math/bits.deBruijn32tab", "math/bits.overflowError"], apart := false, laid := [("math/bits.deBruijn32tab", laid_math_bits_deBruijn32tab)], narrowed := true }
def LinearProductsUptoSaid : Prop := linearProductsUptoRow.holds Tryz.pinned (OpenSpec.upto linearProductsSpec)

/-- 'drydocklaw05.LinearSolves', WHERE WHAT IT READS IS OF BULK AT MOST 1048576: true; the input reads as it did. -/
def linearSolvesUptoRow : OpenClaim := { program := "ytbeoeackahmpbaagreatdoor", sum := "179e82905ac67a4273ec908557420cc7dc72144d5094e12d000ff01298631858", func := "drydock/drydocklaw05.LinearSolves", spec := "linearSolves", named := ["math/bits.deBruijn32tab", "math/bits.overflowError"], apart := false, laid := [("math/bits.deBruijn32tab", laid_math_bits_deBruijn32tab)], narrowed := true }
def LinearSolvesUptoSaid : Prop := linearSolvesUptoRow.holds Tryz.pinned (OpenSpec.upto linearSolvesSpec)

/-- 'drydocklaw05.LinearInverse', WHERE WHAT IT READS IS OF BULK AT MOST 1048576: true; the input reads as it did. -/
def linearInverseUptoRow : OpenClaim := { program := "ytbeoeackahmpbaagreatdoor", sum := "179e82905ac67a4273ec908557420cc7dc72144d5094e12d000ff01298631858", func := "drydock/drydocklaw05.LinearInverse", spec := "linearInverse", named := ["math/bits.deBruijn32tab", "math/bits.overflowError"], apart := false, laid := [("math/bits.deBruijn32tab", laid_math_bits_deBruijn32tab)], narrowed := true }
def LinearInverseUptoSaid : Prop := linearInverseUptoRow.holds Tryz.pinned (OpenSpec.upto linearInverseSpec)

/-- 'drydocklaw05.LinearDet', WHERE WHAT IT READS IS OF BULK AT MOST 1048576: true; the input reads as it did. -/
def linearDetUptoRow : OpenClaim := { program := "ytbeoeackahmpbaagreatdoor", sum := "179e82905ac67a4273ec908557420cc7dc72144d5094e12d000ff01298631858", func := "drydock/drydocklaw05.LinearDet", spec := "linearDet", named := ["math/bits.deBruijn32tab", "math/bits.overflowError"], apart := false, laid := [("math/bits.deBruijn32tab", laid_math_bits_deBruijn32tab)], narrowed := true }
def LinearDetUptoSaid : Prop := linearDetUptoRow.holds Tryz.pinned (OpenSpec.upto linearDetSpec)

/-- 'drydocklaw05.LinearRank', WHERE WHAT IT READS IS OF BULK AT MOST 1048576: true; the input reads as it did. -/
def linearRankUptoRow : OpenClaim := { program := "ytbeoeackahmpbaagreatdoor", sum := "179e82905ac67a4273ec908557420cc7dc72144d5094e12d000ff01298631858", func := "drydock/drydocklaw05.LinearRank", spec := "linearRank", named := ["math/bits.deBruijn32tab", "math/bits.overflowError"], apart := false, laid := [("math/bits.deBruijn32tab", laid_math_bits_deBruijn32tab)], narrowed := true }
def LinearRankUptoSaid : Prop := linearRankUptoRow.holds Tryz.pinned (OpenSpec.upto linearRankSpec)

/-- 'drydocklaw05.LinearAssociates', WHERE WHAT IT READS IS OF BULK AT MOST 1048576: true; the input reads as it did. -/
def linearAssociatesUptoRow : OpenClaim := { program := "ytbeoeackahmpbaagreatdoor", sum := "179e82905ac67a4273ec908557420cc7dc72144d5094e12d000ff01298631858", func := "drydock/drydocklaw05.LinearAssociates", spec := "linearAssociates", named := ["math/bits.deBruijn32tab", "math/bits.overflowError"], apart := false, laid := [("math/bits.deBruijn32tab", laid_math_bits_deBruijn32tab)], narrowed := true }
def LinearAssociatesUptoSaid : Prop := linearAssociatesUptoRow.holds Tryz.pinned (OpenSpec.upto linearAssociatesSpec)

/-- 'drydocklaw05.LinearWeights', WHERE WHAT IT READS IS OF BULK AT MOST 1048576: true; the input reads as it did. -/
def linearWeightsUptoRow : OpenClaim := { program := "ytbeoeackahmpbaagreatdoor", sum := "179e82905ac67a4273ec908557420cc7dc72144d5094e12d000ff01298631858", func := "drydock/drydocklaw05.LinearWeights", spec := "linearWeights", named := ["math/bits.deBruijn32tab", "math/bits.overflowError"], apart := false, laid := [("math/bits.deBruijn32tab", laid_math_bits_deBruijn32tab)], narrowed := true }
def LinearWeightsUptoSaid : Prop := linearWeightsUptoRow.holds Tryz.pinned (OpenSpec.upto linearWeightsSpec)

end Rows
end Go.Proofs.YtbeoeackahmpbaaGreatDoor
