/-
  No cell of these rows narrows 'for every input' (looked for: loops, veiled, ifaces, maps, wideKeys, modest, calm, conditions, laid).
  DERIVED. THE GIVEN ROWS OF THIS SEAT. 6 by the template 'for every input the law returns true; each argument reads behind the call as it read before'; 0 by the template 'total and deterministic' (their statements: YtdihmbbkmbnomaaTotals.lean).
  GIVEN WITH THE SEED: the statements are not yours to turn. If you find one false, say at which input.
  Laid BY PROGRAM, IN A SANDBOX (cutbox-rows.mjs): the forced cells as the released guide's own fill.sh prints them over the translation c4a00b606e15eb9e… (all of the seat's roots in one cut). By AI agents, Wed Nov 11 2026. No macro, syntax, notation, axiom, sorry.
-/
import Derived.Test.YtdihmbbkmbnomaaChecked
import GoSem.Claim
import GoSem.ClaimJoined
import GoSem.ClaimMapViews
import Derived.JoinedTies
import Derived.KernelRfl
namespace Go.Proofs.Ytdihmbbkmbnomaa
/- THE CELL 'sum', in the pinned program and in every row, IS THE sha256 OF THE DUMP (.gsa) THAT YtdihmbbkmbnomaaProg.lean LOADS. Nothing in Lean hashes anything: it is a label: what it is worth is what the hold of that sum in a sandbox is worth. -/
noncomputable def Try.pinned : Pinned := { name := "ytdihmbbkmbnomaa", sum := "c4a00b606e15eb9ef89ea7b34b0e805ba90e03938789abf663f0f266e4d30328", checked := Try.checked }
namespace Rows
def none {H : Type} : Left H := { results := [], args := [] }

/-- 'drydocklaw12.MaxflowExact': WHATEVER THE INPUT: true; the input reads as it did. -/
def maxflowExactSpec : ChangeSpec := { name := "maxflowExact", fn := fun _ => fun
  | [d1, d2, d3] => { results := [.lit (.bool true)], args := [d1, d2, d3] }
  | _ => none }
def maxflowExactRow : OpenClaim := { program := "ytdihmbbkmbnomaa", sum := "c4a00b606e15eb9ef89ea7b34b0e805ba90e03938789abf663f0f266e4d30328", func := "drydock/drydocklaw12.MaxflowExact", spec := "maxflowExact", unfollowed := true, recurses := true, apart := false }
def MaxflowExactSaid : Prop := maxflowExactRow.holds Try.pinned (OpenSpec.ofChange maxflowExactSpec)

/-- ITS FALSE NEIGHBOUR: 'it returns false'. Refute it at one input. -/
def maxflowExactWrong : ChangeSpec := { name := "maxflowExact", fn := fun _ => fun
  | [d1, d2, d3] => { results := [.lit (.bool false)], args := [d1, d2, d3] }
  | _ => none }
def MaxflowExactWrongFalsely : Prop := maxflowExactRow.holds Try.pinned (OpenSpec.ofChange maxflowExactWrong)

/-- 'drydocklaw12.MaxflowRaw': WHATEVER THE INPUT: true; the input reads as it did. -/
def maxflowRawSpec : ChangeSpec := { name := "maxflowRaw", fn := fun _ => fun
  | [d] => { results := [.lit (.bool true)], args := [d] }
  | _ => none }
def maxflowRawRow : OpenClaim := { program := "ytdihmbbkmbnomaa", sum := "c4a00b606e15eb9ef89ea7b34b0e805ba90e03938789abf663f0f266e4d30328", func := "drydock/drydocklaw12.MaxflowRaw", spec := "maxflowRaw", unfollowed := true, recurses := true, apart := false }
def MaxflowRawSaid : Prop := maxflowRawRow.holds Try.pinned (OpenSpec.ofChange maxflowRawSpec)

/-- ITS FALSE NEIGHBOUR: 'it returns false'. Refute it at one input. -/
def maxflowRawWrong : ChangeSpec := { name := "maxflowRaw", fn := fun _ => fun
  | [d] => { results := [.lit (.bool false)], args := [d] }
  | _ => none }
def MaxflowRawWrongFalsely : Prop := maxflowRawRow.holds Try.pinned (OpenSpec.ofChange maxflowRawWrong)

/-- 'drydocklaw12.MaxflowSolves': WHATEVER THE INPUT: true; the input reads as it did. -/
def maxflowSolvesSpec : ChangeSpec := { name := "maxflowSolves", fn := fun _ => fun
  | [d] => { results := [.lit (.bool true)], args := [d] }
  | _ => none }
def maxflowSolvesRow : OpenClaim := { program := "ytdihmbbkmbnomaa", sum := "c4a00b606e15eb9ef89ea7b34b0e805ba90e03938789abf663f0f266e4d30328", func := "drydock/drydocklaw12.MaxflowSolves", spec := "maxflowSolves", unfollowed := true, recurses := true, apart := false }
def MaxflowSolvesSaid : Prop := maxflowSolvesRow.holds Try.pinned (OpenSpec.ofChange maxflowSolvesSpec)

/-- ITS FALSE NEIGHBOUR: 'it returns false'. Refute it at one input. -/
def maxflowSolvesWrong : ChangeSpec := { name := "maxflowSolves", fn := fun _ => fun
  | [d] => { results := [.lit (.bool false)], args := [d] }
  | _ => none }
def MaxflowSolvesWrongFalsely : Prop := maxflowSolvesRow.holds Try.pinned (OpenSpec.ofChange maxflowSolvesWrong)

/-- 'drydocklaw12.MaxflowWeak': WHATEVER THE INPUT: true; the input reads as it did. -/
def maxflowWeakSpec : ChangeSpec := { name := "maxflowWeak", fn := fun _ => fun
  | [d] => { results := [.lit (.bool true)], args := [d] }
  | _ => none }
def maxflowWeakRow : OpenClaim := { program := "ytdihmbbkmbnomaa", sum := "c4a00b606e15eb9ef89ea7b34b0e805ba90e03938789abf663f0f266e4d30328", func := "drydock/drydocklaw12.MaxflowWeak", spec := "maxflowWeak", unfollowed := true, recurses := true, apart := false }
def MaxflowWeakSaid : Prop := maxflowWeakRow.holds Try.pinned (OpenSpec.ofChange maxflowWeakSpec)

/-- ITS FALSE NEIGHBOUR: 'it returns false'. Refute it at one input. -/
def maxflowWeakWrong : ChangeSpec := { name := "maxflowWeak", fn := fun _ => fun
  | [d] => { results := [.lit (.bool false)], args := [d] }
  | _ => none }
def MaxflowWeakWrongFalsely : Prop := maxflowWeakRow.holds Try.pinned (OpenSpec.ofChange maxflowWeakWrong)

/-- 'drydocklaw12.MaxflowGrows': WHATEVER THE INPUT: true; the input reads as it did. -/
def maxflowGrowsSpec : ChangeSpec := { name := "maxflowGrows", fn := fun _ => fun
  | [d1, d2] => { results := [.lit (.bool true)], args := [d1, d2] }
  | _ => none }
def maxflowGrowsRow : OpenClaim := { program := "ytdihmbbkmbnomaa", sum := "c4a00b606e15eb9ef89ea7b34b0e805ba90e03938789abf663f0f266e4d30328", func := "drydock/drydocklaw12.MaxflowGrows", spec := "maxflowGrows", unfollowed := true, recurses := true, apart := false }
def MaxflowGrowsSaid : Prop := maxflowGrowsRow.holds Try.pinned (OpenSpec.ofChange maxflowGrowsSpec)

/-- ITS FALSE NEIGHBOUR: 'it returns false'. Refute it at one input. -/
def maxflowGrowsWrong : ChangeSpec := { name := "maxflowGrows", fn := fun _ => fun
  | [d1, d2] => { results := [.lit (.bool false)], args := [d1, d2] }
  | _ => none }
def MaxflowGrowsWrongFalsely : Prop := maxflowGrowsRow.holds Try.pinned (OpenSpec.ofChange maxflowGrowsWrong)

/-- 'drydocklaw12.MaxflowTurned': WHATEVER THE INPUT: true; the input reads as it did. -/
def maxflowTurnedSpec : ChangeSpec := { name := "maxflowTurned", fn := fun _ => fun
  | [d] => { results := [.lit (.bool true)], args := [d] }
  | _ => none }
def maxflowTurnedRow : OpenClaim := { program := "ytdihmbbkmbnomaa", sum := "c4a00b606e15eb9ef89ea7b34b0e805ba90e03938789abf663f0f266e4d30328", func := "drydock/drydocklaw12.MaxflowTurned", spec := "maxflowTurned", unfollowed := true, recurses := true, apart := false }
def MaxflowTurnedSaid : Prop := maxflowTurnedRow.holds Try.pinned (OpenSpec.ofChange maxflowTurnedSpec)

/-- ITS FALSE NEIGHBOUR: 'it returns false'. Refute it at one input. -/
def maxflowTurnedWrong : ChangeSpec := { name := "maxflowTurned", fn := fun _ => fun
  | [d] => { results := [.lit (.bool false)], args := [d] }
  | _ => none }
def MaxflowTurnedWrongFalsely : Prop := maxflowTurnedRow.holds Try.pinned (OpenSpec.ofChange maxflowTurnedWrong)

/- THE SECOND FORM. 'bulk': how many values and letters a reading holds, each counted each time it is reached (what is shared counts as often as it is met; a slice's spare places count too). A statement '..UptoSaid' is the law's where the arguments, and the package variables that the reading takes, are together of bulk at most 1048576: NARROWER than '..Said'. Prove '..Said' where nothing that the law and all that it calls make is longer than what came in: it says more and counts as full. Else prove '..UptoSaid'. A law counts once. -/
mutual
def uptoBulk {H : Type} : DataW H → Nat
  | .lit (.string bytes) => bytes.length + 1
  | .lit _ => 1
  | .nil => 1
  | .ptr d => uptoBulk d + 1
  | .slice elems spare => uptoBulkAll elems + uptoBulkAll spare + 1
  | .agg parts => uptoBulkAll parts + 1
  | .iface _ d => uptoBulk d + 1
  | .map entries => uptoBulkEntries entries + 1
  | .held _ => 1
def uptoBulkAll {H : Type} : List (DataW H) → Nat
  | [] => 0
  | d :: r => uptoBulk d + uptoBulkAll r
def uptoBulkEntries {H : Type} : List (Lit × DataW H) → Nat
  | [] => 0
  | x :: r => uptoBulkEntry x + uptoBulkEntries r
def uptoBulkEntry {H : Type} : Lit × DataW H → Nat
  | (.string bytes, d) => bytes.length + uptoBulk d + 1
  | (_, d) => uptoBulk d + 1
 end
def uptoSmall : (H : Type) → List (DataW H) → Bool := fun _ ds => decide (uptoBulkAll ds ≤ 1048576)
def OpenSpec.upto (s : _root_.Go.ChangeSpec) : _root_.Go.OpenSpec := { _root_.Go.OpenSpec.ofChange s with cond := some uptoSmall }

/-- 'drydocklaw12.MaxflowExact', WHERE WHAT IT READS IS OF BULK AT MOST 1048576: true; the input reads as it did. -/
def maxflowExactUptoRow : OpenClaim := { program := "ytdihmbbkmbnomaa", sum := "c4a00b606e15eb9ef89ea7b34b0e805ba90e03938789abf663f0f266e4d30328", func := "drydock/drydocklaw12.MaxflowExact", spec := "maxflowExact", unfollowed := true, recurses := true, apart := false, narrowed := true }
def MaxflowExactUptoSaid : Prop := maxflowExactUptoRow.holds Try.pinned (OpenSpec.upto maxflowExactSpec)

/-- 'drydocklaw12.MaxflowRaw', WHERE WHAT IT READS IS OF BULK AT MOST 1048576: true; the input reads as it did. -/
def maxflowRawUptoRow : OpenClaim := { program := "ytdihmbbkmbnomaa", sum := "c4a00b606e15eb9ef89ea7b34b0e805ba90e03938789abf663f0f266e4d30328", func := "drydock/drydocklaw12.MaxflowRaw", spec := "maxflowRaw", unfollowed := true, recurses := true, apart := false, narrowed := true }
def MaxflowRawUptoSaid : Prop := maxflowRawUptoRow.holds Try.pinned (OpenSpec.upto maxflowRawSpec)

/-- 'drydocklaw12.MaxflowSolves', WHERE WHAT IT READS IS OF BULK AT MOST 1048576: true; the input reads as it did. -/
def maxflowSolvesUptoRow : OpenClaim := { program := "ytdihmbbkmbnomaa", sum := "c4a00b606e15eb9ef89ea7b34b0e805ba90e03938789abf663f0f266e4d30328", func := "drydock/drydocklaw12.MaxflowSolves", spec := "maxflowSolves", unfollowed := true, recurses := true, apart := false, narrowed := true }
def MaxflowSolvesUptoSaid : Prop := maxflowSolvesUptoRow.holds Try.pinned (OpenSpec.upto maxflowSolvesSpec)

/-- 'drydocklaw12.MaxflowWeak', WHERE WHAT IT READS IS OF BULK AT MOST 1048576: true; the input reads as it did. -/
def maxflowWeakUptoRow : OpenClaim := { program := "ytdihmbbkmbnomaa", sum := "c4a00b606e15eb9ef89ea7b34b0e805ba90e03938789abf663f0f266e4d30328", func := "drydock/drydocklaw12.MaxflowWeak", spec := "maxflowWeak", unfollowed := true, recurses := true, apart := false, narrowed := true }
def MaxflowWeakUptoSaid : Prop := maxflowWeakUptoRow.holds Try.pinned (OpenSpec.upto maxflowWeakSpec)

/-- 'drydocklaw12.MaxflowGrows', WHERE WHAT IT READS IS OF BULK AT MOST 1048576: true; the input reads as it did. -/
def maxflowGrowsUptoRow : OpenClaim := { program := "ytdihmbbkmbnomaa", sum := "c4a00b606e15eb9ef89ea7b34b0e805ba90e03938789abf663f0f266e4d30328", func := "drydock/drydocklaw12.MaxflowGrows", spec := "maxflowGrows", unfollowed := true, recurses := true, apart := false, narrowed := true }
def MaxflowGrowsUptoSaid : Prop := maxflowGrowsUptoRow.holds Try.pinned (OpenSpec.upto maxflowGrowsSpec)

/-- 'drydocklaw12.MaxflowTurned', WHERE WHAT IT READS IS OF BULK AT MOST 1048576: true; the input reads as it did. -/
def maxflowTurnedUptoRow : OpenClaim := { program := "ytdihmbbkmbnomaa", sum := "c4a00b606e15eb9ef89ea7b34b0e805ba90e03938789abf663f0f266e4d30328", func := "drydock/drydocklaw12.MaxflowTurned", spec := "maxflowTurned", unfollowed := true, recurses := true, apart := false, narrowed := true }
def MaxflowTurnedUptoSaid : Prop := maxflowTurnedUptoRow.holds Try.pinned (OpenSpec.upto maxflowTurnedSpec)

end Rows
end Go.Proofs.Ytdihmbbkmbnomaa
