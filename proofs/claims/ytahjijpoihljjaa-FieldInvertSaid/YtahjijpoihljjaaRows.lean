/-
  No cell of these rows narrows 'for every input' (looked for: loops, veiled, ifaces, maps, wideKeys, modest, calm, conditions, laid).
  DERIVED. THE GIVEN ROWS OF THIS SEAT. 7 by the template 'for every input the law returns true; each argument reads behind the call as it read before'; 0 by the template 'total and deterministic' (their statements: YtahjijpoihljjaaTotals.lean).
  GIVEN WITH THE SEED: the statements are not yours to turn. If you find one false, say at which input.
  Laid BY PROGRAM, IN A SANDBOX (cutbox-rows.mjs): the forced cells as the released guide's own fill.sh prints them over the translation 3d6110b322550fe4… (all of the seat's roots in one cut). By AI agents, Wed Nov 11 2026. No macro, syntax, notation, axiom, sorry.
-/
import Derived.Test.YtahjijpoihljjaaChecked
import GoSem.Claim
import GoSem.ClaimJoined
import GoSem.ClaimMapViews
import Derived.JoinedTies
import Derived.KernelRfl
namespace Go.Proofs.Ytahjijpoihljjaa
/- THE CELL 'sum', in the pinned program and in every row, IS THE sha256 OF THE DUMP (.gsa) THAT YtahjijpoihljjaaProg.lean LOADS. Nothing in Lean hashes anything: it is a label: what it is worth is what the hold of that sum in a sandbox is worth. -/
noncomputable def Try.pinned : Pinned := { name := "ytahjijpoihljjaa", sum := "3d6110b322550fe42b83ea3c9efb32337091c748aba1f30426777b45ddab3b98", checked := Try.checked }
namespace Rows
def none {H : Type} : Left H := { results := [], args := [] }

/-- 'drydocklaw06.FieldExact': WHATEVER THE INPUT: true; the input reads as it did. -/
def fieldExactSpec : ChangeSpec := { name := "fieldExact", fn := fun _ => fun
  | [d1, d2, d3] => { results := [.lit (.bool true)], args := [d1, d2, d3] }
  | _ => none }
def fieldExactRow : OpenClaim := { program := "ytahjijpoihljjaa", sum := "3d6110b322550fe42b83ea3c9efb32337091c748aba1f30426777b45ddab3b98", func := "drydock/drydocklaw06.FieldExact", spec := "fieldExact", apart := false }
def FieldExactSaid : Prop := fieldExactRow.holds Try.pinned (OpenSpec.ofChange fieldExactSpec)

/-- ITS FALSE NEIGHBOUR: 'it returns false'. Refute it at one input. -/
def fieldExactWrong : ChangeSpec := { name := "fieldExact", fn := fun _ => fun
  | [d1, d2, d3] => { results := [.lit (.bool false)], args := [d1, d2, d3] }
  | _ => none }
def FieldExactWrongFalsely : Prop := fieldExactRow.holds Try.pinned (OpenSpec.ofChange fieldExactWrong)

/-- 'drydocklaw06.FieldLaws': WHATEVER THE INPUT: true; the input reads as it did. -/
def fieldLawsSpec : ChangeSpec := { name := "fieldLaws", fn := fun _ => fun
  | [d1, d2, d3] => { results := [.lit (.bool true)], args := [d1, d2, d3] }
  | _ => none }
def fieldLawsRow : OpenClaim := { program := "ytahjijpoihljjaa", sum := "3d6110b322550fe42b83ea3c9efb32337091c748aba1f30426777b45ddab3b98", func := "drydock/drydocklaw06.FieldLaws", spec := "fieldLaws", apart := false }
def FieldLawsSaid : Prop := fieldLawsRow.holds Try.pinned (OpenSpec.ofChange fieldLawsSpec)

/-- ITS FALSE NEIGHBOUR: 'it returns false'. Refute it at one input. -/
def fieldLawsWrong : ChangeSpec := { name := "fieldLaws", fn := fun _ => fun
  | [d1, d2, d3] => { results := [.lit (.bool false)], args := [d1, d2, d3] }
  | _ => none }
def FieldLawsWrongFalsely : Prop := fieldLawsRow.holds Try.pinned (OpenSpec.ofChange fieldLawsWrong)

/-- 'drydocklaw06.FieldPowers': WHATEVER THE INPUT: true; the input reads as it did. -/
def fieldPowersSpec : ChangeSpec := { name := "fieldPowers", fn := fun _ => fun
  | [d1, d2, d3, d4] => { results := [.lit (.bool true)], args := [d1, d2, d3, d4] }
  | _ => none }
def fieldPowersRow : OpenClaim := { program := "ytahjijpoihljjaa", sum := "3d6110b322550fe42b83ea3c9efb32337091c748aba1f30426777b45ddab3b98", func := "drydock/drydocklaw06.FieldPowers", spec := "fieldPowers", apart := false }
def FieldPowersSaid : Prop := fieldPowersRow.holds Try.pinned (OpenSpec.ofChange fieldPowersSpec)

/-- ITS FALSE NEIGHBOUR: 'it returns false'. Refute it at one input. -/
def fieldPowersWrong : ChangeSpec := { name := "fieldPowers", fn := fun _ => fun
  | [d1, d2, d3, d4] => { results := [.lit (.bool false)], args := [d1, d2, d3, d4] }
  | _ => none }
def FieldPowersWrongFalsely : Prop := fieldPowersRow.holds Try.pinned (OpenSpec.ofChange fieldPowersWrong)

/-- 'drydocklaw06.FieldCombine': WHATEVER THE INPUT: true; the input reads as it did. -/
def fieldCombineSpec : ChangeSpec := { name := "fieldCombine", fn := fun _ => fun
  | [d1, d2, d3, d4] => { results := [.lit (.bool true)], args := [d1, d2, d3, d4] }
  | _ => none }
def fieldCombineRow : OpenClaim := { program := "ytahjijpoihljjaa", sum := "3d6110b322550fe42b83ea3c9efb32337091c748aba1f30426777b45ddab3b98", func := "drydock/drydocklaw06.FieldCombine", spec := "fieldCombine", apart := false }
def FieldCombineSaid : Prop := fieldCombineRow.holds Try.pinned (OpenSpec.ofChange fieldCombineSpec)

/-- ITS FALSE NEIGHBOUR: 'it returns false'. Refute it at one input. -/
def fieldCombineWrong : ChangeSpec := { name := "fieldCombine", fn := fun _ => fun
  | [d1, d2, d3, d4] => { results := [.lit (.bool false)], args := [d1, d2, d3, d4] }
  | _ => none }
def FieldCombineWrongFalsely : Prop := fieldCombineRow.holds Try.pinned (OpenSpec.ofChange fieldCombineWrong)

/-- 'drydocklaw06.FieldInvert': WHATEVER THE INPUT: true; the input reads as it did. -/
def fieldInvertSpec : ChangeSpec := { name := "fieldInvert", fn := fun _ => fun
  | [d] => { results := [.lit (.bool true)], args := [d] }
  | _ => none }
def fieldInvertRow : OpenClaim := { program := "ytahjijpoihljjaa", sum := "3d6110b322550fe42b83ea3c9efb32337091c748aba1f30426777b45ddab3b98", func := "drydock/drydocklaw06.FieldInvert", spec := "fieldInvert", apart := false }
def FieldInvertSaid : Prop := fieldInvertRow.holds Try.pinned (OpenSpec.ofChange fieldInvertSpec)

/-- ITS FALSE NEIGHBOUR: 'it returns false'. Refute it at one input. -/
def fieldInvertWrong : ChangeSpec := { name := "fieldInvert", fn := fun _ => fun
  | [d] => { results := [.lit (.bool false)], args := [d] }
  | _ => none }
def FieldInvertWrongFalsely : Prop := fieldInvertRow.holds Try.pinned (OpenSpec.ofChange fieldInvertWrong)

/-- 'drydocklaw06.FieldInverse': WHATEVER THE INPUT: true; the input reads as it did. -/
def fieldInverseSpec : ChangeSpec := { name := "fieldInverse", fn := fun _ => fun
  | [d1, d2] => { results := [.lit (.bool true)], args := [d1, d2] }
  | _ => none }
def fieldInverseRow : OpenClaim := { program := "ytahjijpoihljjaa", sum := "3d6110b322550fe42b83ea3c9efb32337091c748aba1f30426777b45ddab3b98", func := "drydock/drydocklaw06.FieldInverse", spec := "fieldInverse", apart := false }
def FieldInverseSaid : Prop := fieldInverseRow.holds Try.pinned (OpenSpec.ofChange fieldInverseSpec)

/-- ITS FALSE NEIGHBOUR: 'it returns false'. Refute it at one input. -/
def fieldInverseWrong : ChangeSpec := { name := "fieldInverse", fn := fun _ => fun
  | [d1, d2] => { results := [.lit (.bool false)], args := [d1, d2] }
  | _ => none }
def FieldInverseWrongFalsely : Prop := fieldInverseRow.holds Try.pinned (OpenSpec.ofChange fieldInverseWrong)

/-- 'drydocklaw06.FieldSingular': WHATEVER THE INPUT: true; the input reads as it did. -/
def fieldSingularSpec : ChangeSpec := { name := "fieldSingular", fn := fun _ => fun
  | [d1, d2, d3, d4] => { results := [.lit (.bool true)], args := [d1, d2, d3, d4] }
  | _ => none }
def fieldSingularRow : OpenClaim := { program := "ytahjijpoihljjaa", sum := "3d6110b322550fe42b83ea3c9efb32337091c748aba1f30426777b45ddab3b98", func := "drydock/drydocklaw06.FieldSingular", spec := "fieldSingular", apart := false }
def FieldSingularSaid : Prop := fieldSingularRow.holds Try.pinned (OpenSpec.ofChange fieldSingularSpec)

/-- ITS FALSE NEIGHBOUR: 'it returns false'. Refute it at one input. -/
def fieldSingularWrong : ChangeSpec := { name := "fieldSingular", fn := fun _ => fun
  | [d1, d2, d3, d4] => { results := [.lit (.bool false)], args := [d1, d2, d3, d4] }
  | _ => none }
def FieldSingularWrongFalsely : Prop := fieldSingularRow.holds Try.pinned (OpenSpec.ofChange fieldSingularWrong)

/- THE SECOND FORM. 'bulk': how many values and letters a reading holds, each counted each time it is reached (what is shared counts as often as it is met; a slice's spare places count too). A statement '..UptoSaid' is the law's where the arguments, and the package variables that the reading takes, are together of bulk at most 1048576: NARROWER than '..Said'. Prove '..Said' where nothing that the law and all that it calls make is longer than what came in: it says more and counts as full. Else prove '..UptoSaid'. A law counts once. -/
mutual
def uptoBulk {H : Type} : DataW H → Nat
  | .lit (.string bytes) => bytes.length + 1
  | .lit _ => 1
  | .nil => 1
  | .ptr d => uptoBulk d + 1
  | .slice elems spare => uptoBulkAll elems + uptoBulkAll spare + 1
  | .agg parts => uptoBulkAll parts + 1
  | .iface _ d => uptoBulk d + 1
  | .map entries => uptoBulkEntries entries + 1
  | .held _ => 1
def uptoBulkAll {H : Type} : List (DataW H) → Nat
  | [] => 0
  | d :: r => uptoBulk d + uptoBulkAll r
def uptoBulkEntries {H : Type} : List (Lit × DataW H) → Nat
  | [] => 0
  | x :: r => uptoBulkEntry x + uptoBulkEntries r
def uptoBulkEntry {H : Type} : Lit × DataW H → Nat
  | (.string bytes, d) => bytes.length + uptoBulk d + 1
  | (_, d) => uptoBulk d + 1
 end
def uptoSmall : (H : Type) → List (DataW H) → Bool := fun _ ds => decide (uptoBulkAll ds ≤ 1048576)
def OpenSpec.upto (s : _root_.Go.ChangeSpec) : _root_.Go.OpenSpec := { _root_.Go.OpenSpec.ofChange s with cond := some uptoSmall }

/-- 'drydocklaw06.FieldExact', WHERE WHAT IT READS IS OF BULK AT MOST 1048576: true; the input reads as it did. -/
def fieldExactUptoRow : OpenClaim := { program := "ytahjijpoihljjaa", sum := "3d6110b322550fe42b83ea3c9efb32337091c748aba1f30426777b45ddab3b98", func := "drydock/drydocklaw06.FieldExact", spec := "fieldExact", apart := false, narrowed := true }
def FieldExactUptoSaid : Prop := fieldExactUptoRow.holds Try.pinned (OpenSpec.upto fieldExactSpec)

/-- 'drydocklaw06.FieldLaws', WHERE WHAT IT READS IS OF BULK AT MOST 1048576: true; the input reads as it did. -/
def fieldLawsUptoRow : OpenClaim := { program := "ytahjijpoihljjaa", sum := "3d6110b322550fe42b83ea3c9efb32337091c748aba1f30426777b45ddab3b98", func := "drydock/drydocklaw06.FieldLaws", spec := "fieldLaws", apart := false, narrowed := true }
def FieldLawsUptoSaid : Prop := fieldLawsUptoRow.holds Try.pinned (OpenSpec.upto fieldLawsSpec)

/-- 'drydocklaw06.FieldPowers', WHERE WHAT IT READS IS OF BULK AT MOST 1048576: true; the input reads as it did. -/
def fieldPowersUptoRow : OpenClaim := { program := "ytahjijpoihljjaa", sum := "3d6110b322550fe42b83ea3c9efb32337091c748aba1f30426777b45ddab3b98", func := "drydock/drydocklaw06.FieldPowers", spec := "fieldPowers", apart := false, narrowed := true }
def FieldPowersUptoSaid : Prop := fieldPowersUptoRow.holds Try.pinned (OpenSpec.upto fieldPowersSpec)

/-- 'drydocklaw06.FieldCombine', WHERE WHAT IT READS IS OF BULK AT MOST 1048576: true; the input reads as it did. -/
def fieldCombineUptoRow : OpenClaim := { program := "ytahjijpoihljjaa", sum := "3d6110b322550fe42b83ea3c9efb32337091c748aba1f30426777b45ddab3b98", func := "drydock/drydocklaw06.FieldCombine", spec := "fieldCombine", apart := false, narrowed := true }
def FieldCombineUptoSaid : Prop := fieldCombineUptoRow.holds Try.pinned (OpenSpec.upto fieldCombineSpec)

/-- 'drydocklaw06.FieldInvert', WHERE WHAT IT READS IS OF BULK AT MOST 1048576: true; the input reads as it did. -/
def fieldInvertUptoRow : OpenClaim := { program := "ytahjijpoihljjaa", sum := "3d6110b322550fe42b83ea3c9efb32337091c748aba1f30426777b45ddab3b98", func := "drydock/drydocklaw06.FieldInvert", spec := "fieldInvert", apart := false, narrowed := true }
def FieldInvertUptoSaid : Prop := fieldInvertUptoRow.holds Try.pinned (OpenSpec.upto fieldInvertSpec)

/-- 'drydocklaw06.FieldInverse', WHERE WHAT IT READS IS OF BULK AT MOST 1048576: true; the input reads as it did. -/
def fieldInverseUptoRow : OpenClaim := { program := "ytahjijpoihljjaa", sum := "3d6110b322550fe42b83ea3c9efb32337091c748aba1f30426777b45ddab3b98", func := "drydock/drydocklaw06.FieldInverse", spec := "fieldInverse", apart := false, narrowed := true }
def FieldInverseUptoSaid : Prop := fieldInverseUptoRow.holds Try.pinned (OpenSpec.upto fieldInverseSpec)

/-- 'drydocklaw06.FieldSingular', WHERE WHAT IT READS IS OF BULK AT MOST 1048576: true; the input reads as it did. -/
def fieldSingularUptoRow : OpenClaim := { program := "ytahjijpoihljjaa", sum := "3d6110b322550fe42b83ea3c9efb32337091c748aba1f30426777b45ddab3b98", func := "drydock/drydocklaw06.FieldSingular", spec := "fieldSingular", apart := false, narrowed := true }
def FieldSingularUptoSaid : Prop := fieldSingularUptoRow.holds Try.pinned (OpenSpec.upto fieldSingularSpec)

end Rows
end Go.Proofs.Ytahjijpoihljjaa
