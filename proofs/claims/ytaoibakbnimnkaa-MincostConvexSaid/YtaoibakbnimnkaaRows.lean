/-
  No cell of these rows narrows 'for every input' (looked for: loops, veiled, ifaces, maps, wideKeys, modest, calm, conditions, laid).
  DERIVED. THE GIVEN ROWS OF THIS SEAT. 6 by the template 'for every input the law returns true; each argument reads behind the call as it read before'; 0 by the template 'total and deterministic' (their statements: YtaoibakbnimnkaaTotals.lean).
  GIVEN WITH THE SEED: the statements are not yours to turn. If you find one false, say at which input.
  Laid BY PROGRAM, IN A SANDBOX (cutbox-rows.mjs): the forced cells as the released guide's own fill.sh prints them over the translation 412f0bc552d64da9… (all of the seat's roots in one cut). By AI agents, Wed Nov 11 2026. No macro, syntax, notation, axiom, sorry.
-/
import Derived.Test.YtaoibakbnimnkaaChecked
import GoSem.Claim
import GoSem.ClaimJoined
import GoSem.ClaimMapViews
import Derived.JoinedTies
import Derived.KernelRfl
namespace Go.Proofs.Ytaoibakbnimnkaa
/- THE CELL 'sum', in the pinned program and in every row, IS THE sha256 OF THE DUMP (.gsa) THAT YtaoibakbnimnkaaProg.lean LOADS. Nothing in Lean hashes anything: it is a label: what it is worth is what the hold of that sum in a sandbox is worth. -/
noncomputable def Try.pinned : Pinned := { name := "ytaoibakbnimnkaa", sum := "412f0bc552d64da92b65a6aa7f8bf8457c2d0f0e38da725337ab6855a84cf706", checked := Try.checked }
namespace Rows
def none {H : Type} : Left H := { results := [], args := [] }

/-- 'drydocklaw13.MincostExact': WHATEVER THE INPUT: true; the input reads as it did. -/
def mincostExactSpec : ChangeSpec := { name := "mincostExact", fn := fun _ => fun
  | [d1, d2, d3, d4] => { results := [.lit (.bool true)], args := [d1, d2, d3, d4] }
  | _ => none }
def mincostExactRow : OpenClaim := { program := "ytaoibakbnimnkaa", sum := "412f0bc552d64da92b65a6aa7f8bf8457c2d0f0e38da725337ab6855a84cf706", func := "drydock/drydocklaw13.MincostExact", spec := "mincostExact", unfollowed := true, recurses := true, apart := false }
def MincostExactSaid : Prop := mincostExactRow.holds Try.pinned (OpenSpec.ofChange mincostExactSpec)

/-- ITS FALSE NEIGHBOUR: 'it returns false'. Refute it at one input. -/
def mincostExactWrong : ChangeSpec := { name := "mincostExact", fn := fun _ => fun
  | [d1, d2, d3, d4] => { results := [.lit (.bool false)], args := [d1, d2, d3, d4] }
  | _ => none }
def MincostExactWrongFalsely : Prop := mincostExactRow.holds Try.pinned (OpenSpec.ofChange mincostExactWrong)

/-- 'drydocklaw13.MincostRaw': WHATEVER THE INPUT: true; the input reads as it did. -/
def mincostRawSpec : ChangeSpec := { name := "mincostRaw", fn := fun _ => fun
  | [d1, d2] => { results := [.lit (.bool true)], args := [d1, d2] }
  | _ => none }
def mincostRawRow : OpenClaim := { program := "ytaoibakbnimnkaa", sum := "412f0bc552d64da92b65a6aa7f8bf8457c2d0f0e38da725337ab6855a84cf706", func := "drydock/drydocklaw13.MincostRaw", spec := "mincostRaw", unfollowed := true, recurses := true, apart := false }
def MincostRawSaid : Prop := mincostRawRow.holds Try.pinned (OpenSpec.ofChange mincostRawSpec)

/-- ITS FALSE NEIGHBOUR: 'it returns false'. Refute it at one input. -/
def mincostRawWrong : ChangeSpec := { name := "mincostRaw", fn := fun _ => fun
  | [d1, d2] => { results := [.lit (.bool false)], args := [d1, d2] }
  | _ => none }
def MincostRawWrongFalsely : Prop := mincostRawRow.holds Try.pinned (OpenSpec.ofChange mincostRawWrong)

/-- 'drydocklaw13.MincostSolves': WHATEVER THE INPUT: true; the input reads as it did. -/
def mincostSolvesSpec : ChangeSpec := { name := "mincostSolves", fn := fun _ => fun
  | [d] => { results := [.lit (.bool true)], args := [d] }
  | _ => none }
def mincostSolvesRow : OpenClaim := { program := "ytaoibakbnimnkaa", sum := "412f0bc552d64da92b65a6aa7f8bf8457c2d0f0e38da725337ab6855a84cf706", func := "drydock/drydocklaw13.MincostSolves", spec := "mincostSolves", unfollowed := true, recurses := true, apart := false }
def MincostSolvesSaid : Prop := mincostSolvesRow.holds Try.pinned (OpenSpec.ofChange mincostSolvesSpec)

/-- ITS FALSE NEIGHBOUR: 'it returns false'. Refute it at one input. -/
def mincostSolvesWrong : ChangeSpec := { name := "mincostSolves", fn := fun _ => fun
  | [d] => { results := [.lit (.bool false)], args := [d] }
  | _ => none }
def MincostSolvesWrongFalsely : Prop := mincostSolvesRow.holds Try.pinned (OpenSpec.ofChange mincostSolvesWrong)

/-- 'drydocklaw13.MincostConvex': WHATEVER THE INPUT: true; the input reads as it did. -/
def mincostConvexSpec : ChangeSpec := { name := "mincostConvex", fn := fun _ => fun
  | [d] => { results := [.lit (.bool true)], args := [d] }
  | _ => none }
def mincostConvexRow : OpenClaim := { program := "ytaoibakbnimnkaa", sum := "412f0bc552d64da92b65a6aa7f8bf8457c2d0f0e38da725337ab6855a84cf706", func := "drydock/drydocklaw13.MincostConvex", spec := "mincostConvex", unfollowed := true, recurses := true, apart := false }
def MincostConvexSaid : Prop := mincostConvexRow.holds Try.pinned (OpenSpec.ofChange mincostConvexSpec)

/-- ITS FALSE NEIGHBOUR: 'it returns false'. Refute it at one input. -/
def mincostConvexWrong : ChangeSpec := { name := "mincostConvex", fn := fun _ => fun
  | [d] => { results := [.lit (.bool false)], args := [d] }
  | _ => none }
def MincostConvexWrongFalsely : Prop := mincostConvexRow.holds Try.pinned (OpenSpec.ofChange mincostConvexWrong)

/-- 'drydocklaw13.MincostScales': WHATEVER THE INPUT: true; the input reads as it did. -/
def mincostScalesSpec : ChangeSpec := { name := "mincostScales", fn := fun _ => fun
  | [d1, d2, d3] => { results := [.lit (.bool true)], args := [d1, d2, d3] }
  | _ => none }
def mincostScalesRow : OpenClaim := { program := "ytaoibakbnimnkaa", sum := "412f0bc552d64da92b65a6aa7f8bf8457c2d0f0e38da725337ab6855a84cf706", func := "drydock/drydocklaw13.MincostScales", spec := "mincostScales", unfollowed := true, recurses := true, apart := false }
def MincostScalesSaid : Prop := mincostScalesRow.holds Try.pinned (OpenSpec.ofChange mincostScalesSpec)

/-- ITS FALSE NEIGHBOUR: 'it returns false'. Refute it at one input. -/
def mincostScalesWrong : ChangeSpec := { name := "mincostScales", fn := fun _ => fun
  | [d1, d2, d3] => { results := [.lit (.bool false)], args := [d1, d2, d3] }
  | _ => none }
def MincostScalesWrongFalsely : Prop := mincostScalesRow.holds Try.pinned (OpenSpec.ofChange mincostScalesWrong)

/-- 'drydocklaw13.MincostBetter': WHATEVER THE INPUT: true; the input reads as it did. -/
def mincostBetterSpec : ChangeSpec := { name := "mincostBetter", fn := fun _ => fun
  | [d1, d2] => { results := [.lit (.bool true)], args := [d1, d2] }
  | _ => none }
def mincostBetterRow : OpenClaim := { program := "ytaoibakbnimnkaa", sum := "412f0bc552d64da92b65a6aa7f8bf8457c2d0f0e38da725337ab6855a84cf706", func := "drydock/drydocklaw13.MincostBetter", spec := "mincostBetter", unfollowed := true, recurses := true, apart := false }
def MincostBetterSaid : Prop := mincostBetterRow.holds Try.pinned (OpenSpec.ofChange mincostBetterSpec)

/-- ITS FALSE NEIGHBOUR: 'it returns false'. Refute it at one input. -/
def mincostBetterWrong : ChangeSpec := { name := "mincostBetter", fn := fun _ => fun
  | [d1, d2] => { results := [.lit (.bool false)], args := [d1, d2] }
  | _ => none }
def MincostBetterWrongFalsely : Prop := mincostBetterRow.holds Try.pinned (OpenSpec.ofChange mincostBetterWrong)

/- THE SECOND FORM. 'bulk': how many values and letters a reading holds, each counted each time it is reached (what is shared counts as often as it is met; a slice's spare places count too). A statement '..UptoSaid' is the law's where the arguments, and the package variables that the reading takes, are together of bulk at most 1048576: NARROWER than '..Said'. Prove '..Said' where nothing that the law and all that it calls make is longer than what came in: it says more and counts as full. Else prove '..UptoSaid'. A law counts once. -/
mutual
def uptoBulk {H : Type} : DataW H → Nat
  | .lit (.string bytes) => bytes.length + 1
  | .lit _ => 1
  | .nil => 1
  | .ptr d => uptoBulk d + 1
  | .slice elems spare => uptoBulkAll elems + uptoBulkAll spare + 1
  | .agg parts => uptoBulkAll parts + 1
  | .iface _ d => uptoBulk d + 1
  | .map entries => uptoBulkEntries entries + 1
  | .held _ => 1
def uptoBulkAll {H : Type} : List (DataW H) → Nat
  | [] => 0
  | d :: r => uptoBulk d + uptoBulkAll r
def uptoBulkEntries {H : Type} : List (Lit × DataW H) → Nat
  | [] => 0
  | x :: r => uptoBulkEntry x + uptoBulkEntries r
def uptoBulkEntry {H : Type} : Lit × DataW H → Nat
  | (.string bytes, d) => bytes.length + uptoBulk d + 1
  | (_, d) => uptoBulk d + 1
 end
def uptoSmall : (H : Type) → List (DataW H) → Bool := fun _ ds => decide (uptoBulkAll ds ≤ 1048576)
def OpenSpec.upto (s : _root_.Go.ChangeSpec) : _root_.Go.OpenSpec := { _root_.Go.OpenSpec.ofChange s with cond := some uptoSmall }

/-- 'drydocklaw13.MincostExact', WHERE WHAT IT READS IS OF BULK AT MOST 1048576: true; the input reads as it did. -/
def mincostExactUptoRow : OpenClaim := { program := "ytaoibakbnimnkaa", sum := "412f0bc552d64da92b65a6aa7f8bf8457c2d0f0e38da725337ab6855a84cf706", func := "drydock/drydocklaw13.MincostExact", spec := "mincostExact", unfollowed := true, recurses := true, apart := false, narrowed := true }
def MincostExactUptoSaid : Prop := mincostExactUptoRow.holds Try.pinned (OpenSpec.upto mincostExactSpec)

/-- 'drydocklaw13.MincostRaw', WHERE WHAT IT READS IS OF BULK AT MOST 1048576: true; the input reads as it did. -/
def mincostRawUptoRow : OpenClaim := { program := "ytaoibakbnimnkaa", sum := "412f0bc552d64da92b65a6aa7f8bf8457c2d0f0e38da725337ab6855a84cf706", func := "drydock/drydocklaw13.MincostRaw", spec := "mincostRaw", unfollowed := true, recurses := true, apart := false, narrowed := true }
def MincostRawUptoSaid : Prop := mincostRawUptoRow.holds Try.pinned (OpenSpec.upto mincostRawSpec)

/-- 'drydocklaw13.MincostSolves', WHERE WHAT IT READS IS OF BULK AT MOST 1048576: true; the input reads as it did. -/
def mincostSolvesUptoRow : OpenClaim := { program := "ytaoibakbnimnkaa", sum := "412f0bc552d64da92b65a6aa7f8bf8457c2d0f0e38da725337ab6855a84cf706", func := "drydock/drydocklaw13.MincostSolves", spec := "mincostSolves", unfollowed := true, recurses := true, apart := false, narrowed := true }
def MincostSolvesUptoSaid : Prop := mincostSolvesUptoRow.holds Try.pinned (OpenSpec.upto mincostSolvesSpec)

/-- 'drydocklaw13.MincostConvex', WHERE WHAT IT READS IS OF BULK AT MOST 1048576: true; the input reads as it did. -/
def mincostConvexUptoRow : OpenClaim := { program := "ytaoibakbnimnkaa", sum := "412f0bc552d64da92b65a6aa7f8bf8457c2d0f0e38da725337ab6855a84cf706", func := "drydock/drydocklaw13.MincostConvex", spec := "mincostConvex", unfollowed := true, recurses := true, apart := false, narrowed := true }
def MincostConvexUptoSaid : Prop := mincostConvexUptoRow.holds Try.pinned (OpenSpec.upto mincostConvexSpec)

/-- 'drydocklaw13.MincostScales', WHERE WHAT IT READS IS OF BULK AT MOST 1048576: true; the input reads as it did. -/
def mincostScalesUptoRow : OpenClaim := { program := "ytaoibakbnimnkaa", sum := "412f0bc552d64da92b65a6aa7f8bf8457c2d0f0e38da725337ab6855a84cf706", func := "drydock/drydocklaw13.MincostScales", spec := "mincostScales", unfollowed := true, recurses := true, apart := false, narrowed := true }
def MincostScalesUptoSaid : Prop := mincostScalesUptoRow.holds Try.pinned (OpenSpec.upto mincostScalesSpec)

/-- 'drydocklaw13.MincostBetter', WHERE WHAT IT READS IS OF BULK AT MOST 1048576: true; the input reads as it did. -/
def mincostBetterUptoRow : OpenClaim := { program := "ytaoibakbnimnkaa", sum := "412f0bc552d64da92b65a6aa7f8bf8457c2d0f0e38da725337ab6855a84cf706", func := "drydock/drydocklaw13.MincostBetter", spec := "mincostBetter", unfollowed := true, recurses := true, apart := false, narrowed := true }
def MincostBetterUptoSaid : Prop := mincostBetterUptoRow.holds Try.pinned (OpenSpec.upto mincostBetterSpec)

end Rows
end Go.Proofs.Ytaoibakbnimnkaa
