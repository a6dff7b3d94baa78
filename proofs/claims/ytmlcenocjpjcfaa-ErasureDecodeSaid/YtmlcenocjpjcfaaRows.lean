/-
  No cell of these rows narrows 'for every input' (looked for: loops, veiled, ifaces, maps, wideKeys, modest, calm, conditions, laid).
  DERIVED. THE GIVEN ROWS OF THIS SEAT. 8 by the template 'for every input the law returns true; each argument reads behind the call as it read before'; 0 by the template 'total and deterministic' (their statements: YtmlcenocjpjcfaaTotals.lean).
  GIVEN WITH THE SEED: the statements are not yours to turn. If you find one false, say at which input.
  Laid BY PROGRAM, IN A SANDBOX (cutbox-rows.mjs): the forced cells as the released guide's own fill.sh prints them over the translation 0cb60683e5719129… (all of the seat's roots in one cut). By AI agents, Wed Nov 11 2026. No macro, syntax, notation, axiom, sorry.
-/
import Derived.Test.YtmlcenocjpjcfaaChecked
import GoSem.Claim
import GoSem.ClaimJoined
import GoSem.ClaimMapViews
import Derived.JoinedTies
import Derived.KernelRfl
namespace Go.Proofs.Ytmlcenocjpjcfaa
/- THE CELL 'sum', in the pinned program and in every row, IS THE sha256 OF THE DUMP (.gsa) THAT YtmlcenocjpjcfaaProg.lean LOADS. Nothing in Lean hashes anything: it is a label: what it is worth is what the hold of that sum in a sandbox is worth. -/
noncomputable def Try.pinned : Pinned := { name := "ytmlcenocjpjcfaa", sum := "0cb60683e57191296a25513152d0dd117e6728005561f286a81f1d7aec336c04", checked := Try.checked }
namespace Rows
def none {H : Type} : Left H := { results := [], args := [] }

/-- 'drydocklaw07.ErasureEncode': WHATEVER THE INPUT: true; the input reads as it did. -/
def erasureEncodeSpec : ChangeSpec := { name := "erasureEncode", fn := fun _ => fun
  | [d1, d2, d3, d4, d5] => { results := [.lit (.bool true)], args := [d1, d2, d3, d4, d5] }
  | _ => none }
def erasureEncodeRow : OpenClaim := { program := "ytmlcenocjpjcfaa", sum := "0cb60683e57191296a25513152d0dd117e6728005561f286a81f1d7aec336c04", func := "drydock/drydocklaw07.ErasureEncode", spec := "erasureEncode", apart := false }
def ErasureEncodeSaid : Prop := erasureEncodeRow.holds Try.pinned (OpenSpec.ofChange erasureEncodeSpec)

/-- ITS FALSE NEIGHBOUR: 'it returns false'. Refute it at one input. -/
def erasureEncodeWrong : ChangeSpec := { name := "erasureEncode", fn := fun _ => fun
  | [d1, d2, d3, d4, d5] => { results := [.lit (.bool false)], args := [d1, d2, d3, d4, d5] }
  | _ => none }
def ErasureEncodeWrongFalsely : Prop := erasureEncodeRow.holds Try.pinned (OpenSpec.ofChange erasureEncodeWrong)

/-- 'drydocklaw07.ErasureDecode': WHATEVER THE INPUT: true; the input reads as it did. -/
def erasureDecodeSpec : ChangeSpec := { name := "erasureDecode", fn := fun _ => fun
  | [d1, d2, d3, d4] => { results := [.lit (.bool true)], args := [d1, d2, d3, d4] }
  | _ => none }
def erasureDecodeRow : OpenClaim := { program := "ytmlcenocjpjcfaa", sum := "0cb60683e57191296a25513152d0dd117e6728005561f286a81f1d7aec336c04", func := "drydock/drydocklaw07.ErasureDecode", spec := "erasureDecode", apart := false }
def ErasureDecodeSaid : Prop := erasureDecodeRow.holds Try.pinned (OpenSpec.ofChange erasureDecodeSpec)

/-- ITS FALSE NEIGHBOUR: 'it returns false'. Refute it at one input. -/
def erasureDecodeWrong : ChangeSpec := { name := "erasureDecode", fn := fun _ => fun
  | [d1, d2, d3, d4] => { results := [.lit (.bool false)], args := [d1, d2, d3, d4] }
  | _ => none }
def ErasureDecodeWrongFalsely : Prop := erasureDecodeRow.holds Try.pinned (OpenSpec.ofChange erasureDecodeWrong)

/-- 'drydocklaw07.ErasureAny': WHATEVER THE INPUT: true; the input reads as it did. -/
def erasureAnySpec : ChangeSpec := { name := "erasureAny", fn := fun _ => fun
  | [d1, d2, d3, d4, d5, d6] => { results := [.lit (.bool true)], args := [d1, d2, d3, d4, d5, d6] }
  | _ => none }
def erasureAnyRow : OpenClaim := { program := "ytmlcenocjpjcfaa", sum := "0cb60683e57191296a25513152d0dd117e6728005561f286a81f1d7aec336c04", func := "drydock/drydocklaw07.ErasureAny", spec := "erasureAny", apart := false }
def ErasureAnySaid : Prop := erasureAnyRow.holds Try.pinned (OpenSpec.ofChange erasureAnySpec)

/-- ITS FALSE NEIGHBOUR: 'it returns false'. Refute it at one input. -/
def erasureAnyWrong : ChangeSpec := { name := "erasureAny", fn := fun _ => fun
  | [d1, d2, d3, d4, d5, d6] => { results := [.lit (.bool false)], args := [d1, d2, d3, d4, d5, d6] }
  | _ => none }
def ErasureAnyWrongFalsely : Prop := erasureAnyRow.holds Try.pinned (OpenSpec.ofChange erasureAnyWrong)

/-- 'drydocklaw07.ErasureDetects': WHATEVER THE INPUT: true; the input reads as it did. -/
def erasureDetectsSpec : ChangeSpec := { name := "erasureDetects", fn := fun _ => fun
  | [d1, d2, d3, d4, d5, d6, d7] => { results := [.lit (.bool true)], args := [d1, d2, d3, d4, d5, d6, d7] }
  | _ => none }
def erasureDetectsRow : OpenClaim := { program := "ytmlcenocjpjcfaa", sum := "0cb60683e57191296a25513152d0dd117e6728005561f286a81f1d7aec336c04", func := "drydock/drydocklaw07.ErasureDetects", spec := "erasureDetects", apart := false }
def ErasureDetectsSaid : Prop := erasureDetectsRow.holds Try.pinned (OpenSpec.ofChange erasureDetectsSpec)

/-- ITS FALSE NEIGHBOUR: 'it returns false'. Refute it at one input. -/
def erasureDetectsWrong : ChangeSpec := { name := "erasureDetects", fn := fun _ => fun
  | [d1, d2, d3, d4, d5, d6, d7] => { results := [.lit (.bool false)], args := [d1, d2, d3, d4, d5, d6, d7] }
  | _ => none }
def ErasureDetectsWrongFalsely : Prop := erasureDetectsRow.holds Try.pinned (OpenSpec.ofChange erasureDetectsWrong)

/-- 'drydocklaw07.ErasureGrows': WHATEVER THE INPUT: true; the input reads as it did. -/
def erasureGrowsSpec : ChangeSpec := { name := "erasureGrows", fn := fun _ => fun
  | [d1, d2, d3, d4] => { results := [.lit (.bool true)], args := [d1, d2, d3, d4] }
  | _ => none }
def erasureGrowsRow : OpenClaim := { program := "ytmlcenocjpjcfaa", sum := "0cb60683e57191296a25513152d0dd117e6728005561f286a81f1d7aec336c04", func := "drydock/drydocklaw07.ErasureGrows", spec := "erasureGrows", apart := false }
def ErasureGrowsSaid : Prop := erasureGrowsRow.holds Try.pinned (OpenSpec.ofChange erasureGrowsSpec)

/-- ITS FALSE NEIGHBOUR: 'it returns false'. Refute it at one input. -/
def erasureGrowsWrong : ChangeSpec := { name := "erasureGrows", fn := fun _ => fun
  | [d1, d2, d3, d4] => { results := [.lit (.bool false)], args := [d1, d2, d3, d4] }
  | _ => none }
def ErasureGrowsWrongFalsely : Prop := erasureGrowsRow.holds Try.pinned (OpenSpec.ofChange erasureGrowsWrong)

/-- 'drydocklaw07.ErasureSums': WHATEVER THE INPUT: true; the input reads as it did. -/
def erasureSumsSpec : ChangeSpec := { name := "erasureSums", fn := fun _ => fun
  | [d1, d2, d3, d4, d5, d6] => { results := [.lit (.bool true)], args := [d1, d2, d3, d4, d5, d6] }
  | _ => none }
def erasureSumsRow : OpenClaim := { program := "ytmlcenocjpjcfaa", sum := "0cb60683e57191296a25513152d0dd117e6728005561f286a81f1d7aec336c04", func := "drydock/drydocklaw07.ErasureSums", spec := "erasureSums", apart := false }
def ErasureSumsSaid : Prop := erasureSumsRow.holds Try.pinned (OpenSpec.ofChange erasureSumsSpec)

/-- ITS FALSE NEIGHBOUR: 'it returns false'. Refute it at one input. -/
def erasureSumsWrong : ChangeSpec := { name := "erasureSums", fn := fun _ => fun
  | [d1, d2, d3, d4, d5, d6] => { results := [.lit (.bool false)], args := [d1, d2, d3, d4, d5, d6] }
  | _ => none }
def ErasureSumsWrongFalsely : Prop := erasureSumsRow.holds Try.pinned (OpenSpec.ofChange erasureSumsWrong)

/-- 'drydocklaw07.ErasureMinors': WHATEVER THE INPUT: true; the input reads as it did. -/
def erasureMinorsSpec : ChangeSpec := { name := "erasureMinors", fn := fun _ => fun
  | [d1, d2] => { results := [.lit (.bool true)], args := [d1, d2] }
  | _ => none }
def erasureMinorsRow : OpenClaim := { program := "ytmlcenocjpjcfaa", sum := "0cb60683e57191296a25513152d0dd117e6728005561f286a81f1d7aec336c04", func := "drydock/drydocklaw07.ErasureMinors", spec := "erasureMinors", apart := false }
def ErasureMinorsSaid : Prop := erasureMinorsRow.holds Try.pinned (OpenSpec.ofChange erasureMinorsSpec)

/-- ITS FALSE NEIGHBOUR: 'it returns false'. Refute it at one input. -/
def erasureMinorsWrong : ChangeSpec := { name := "erasureMinors", fn := fun _ => fun
  | [d1, d2] => { results := [.lit (.bool false)], args := [d1, d2] }
  | _ => none }
def ErasureMinorsWrongFalsely : Prop := erasureMinorsRow.holds Try.pinned (OpenSpec.ofChange erasureMinorsWrong)

/-- 'drydocklaw07.ErasureSplits': WHATEVER THE INPUT: true; the input reads as it did. -/
def erasureSplitsSpec : ChangeSpec := { name := "erasureSplits", fn := fun _ => fun
  | [d1, d2, d3, d4, d5] => { results := [.lit (.bool true)], args := [d1, d2, d3, d4, d5] }
  | _ => none }
def erasureSplitsRow : OpenClaim := { program := "ytmlcenocjpjcfaa", sum := "0cb60683e57191296a25513152d0dd117e6728005561f286a81f1d7aec336c04", func := "drydock/drydocklaw07.ErasureSplits", spec := "erasureSplits", apart := false }
def ErasureSplitsSaid : Prop := erasureSplitsRow.holds Try.pinned (OpenSpec.ofChange erasureSplitsSpec)

/-- ITS FALSE NEIGHBOUR: 'it returns false'. Refute it at one input. -/
def erasureSplitsWrong : ChangeSpec := { name := "erasureSplits", fn := fun _ => fun
  | [d1, d2, d3, d4, d5] => { results := [.lit (.bool false)], args := [d1, d2, d3, d4, d5] }
  | _ => none }
def ErasureSplitsWrongFalsely : Prop := erasureSplitsRow.holds Try.pinned (OpenSpec.ofChange erasureSplitsWrong)

/- THE SECOND FORM. 'bulk': how many values and letters a reading holds, each counted each time it is reached (what is shared counts as often as it is met; a slice's spare places count too). A statement '..UptoSaid' is the law's where the arguments, and the package variables that the reading takes, are together of bulk at most 1048576: NARROWER than '..Said'. Prove '..Said' where nothing that the law and all that it calls make is longer than what came in: it says more and counts as full. Else prove '..UptoSaid'. A law counts once. -/
mutual
def uptoBulk {H : Type} : DataW H → Nat
  | .lit (.string bytes) => bytes.length + 1
  | .lit _ => 1
  | .nil => 1
  | .ptr d => uptoBulk d + 1
  | .slice elems spare => uptoBulkAll elems + uptoBulkAll spare + 1
  | .agg parts => uptoBulkAll parts + 1
  | .iface _ d => uptoBulk d + 1
  | .map entries => uptoBulkEntries entries + 1
  | .held _ => 1
def uptoBulkAll {H : Type} : List (DataW H) → Nat
  | [] => 0
  | d :: r => uptoBulk d + uptoBulkAll r
def uptoBulkEntries {H : Type} : List (Lit × DataW H) → Nat
  | [] => 0
  | x :: r => uptoBulkEntry x + uptoBulkEntries r
def uptoBulkEntry {H : Type} : Lit × DataW H → Nat
  | (.string bytes, d) => bytes.length + uptoBulk d + 1
  | (_, d) => uptoBulk d + 1
 end
def uptoSmall : (H : Type) → List (DataW H) → Bool := fun _ ds => decide (uptoBulkAll ds ≤ 1048576)
def OpenSpec.upto (s : _root_.Go.ChangeSpec) : _root_.Go.OpenSpec := { _root_.Go.OpenSpec.ofChange s with cond := some uptoSmall }

/-- 'drydocklaw07.ErasureEncode', WHERE WHAT IT READS IS OF BULK AT MOST 1048576: true; the input reads as it did. -/
def erasureEncodeUptoRow : OpenClaim := { program := "ytmlcenocjpjcfaa", sum := "0cb60683e57191296a25513152d0dd117e6728005561f286a81f1d7aec336c04", func := "drydock/drydocklaw07.ErasureEncode", spec := "erasureEncode", apart := false, narrowed := true }
def ErasureEncodeUptoSaid : Prop := erasureEncodeUptoRow.holds Try.pinned (OpenSpec.upto erasureEncodeSpec)

/-- 'drydocklaw07.ErasureDecode', WHERE WHAT IT READS IS OF BULK AT MOST 1048576: true; the input reads as it did. -/
def erasureDecodeUptoRow : OpenClaim := { program := "ytmlcenocjpjcfaa", sum := "0cb60683e57191296a25513152d0dd117e6728005561f286a81f1d7aec336c04", func := "drydock/drydocklaw07.ErasureDecode", spec := "erasureDecode", apart := false, narrowed := true }
def ErasureDecodeUptoSaid : Prop := erasureDecodeUptoRow.holds Try.pinned (OpenSpec.upto erasureDecodeSpec)

/-- 'drydocklaw07.ErasureAny', WHERE WHAT IT READS IS OF BULK AT MOST 1048576: true; the input reads as it did. -/
def erasureAnyUptoRow : OpenClaim := { program := "ytmlcenocjpjcfaa", sum := "0cb60683e57191296a25513152d0dd117e6728005561f286a81f1d7aec336c04", func := "drydock/drydocklaw07.ErasureAny", spec := "erasureAny", apart := false, narrowed := true }
def ErasureAnyUptoSaid : Prop := erasureAnyUptoRow.holds Try.pinned (OpenSpec.upto erasureAnySpec)

/-- 'drydocklaw07.ErasureDetects', WHERE WHAT IT READS IS OF BULK AT MOST 1048576: true; the input reads as it did. -/
def erasureDetectsUptoRow : OpenClaim := { program := "ytmlcenocjpjcfaa", sum := "0cb60683e57191296a25513152d0dd117e6728005561f286a81f1d7aec336c04", func := "drydock/drydocklaw07.ErasureDetects", spec := "erasureDetects", apart := false, narrowed := true }
def ErasureDetectsUptoSaid : Prop := erasureDetectsUptoRow.holds Try.pinned (OpenSpec.upto erasureDetectsSpec)

/-- 'drydocklaw07.ErasureGrows', WHERE WHAT IT READS IS OF BULK AT MOST 1048576: true; the input reads as it did. -/
def erasureGrowsUptoRow : OpenClaim := { program := "ytmlcenocjpjcfaa", sum := "0cb60683e57191296a25513152d0dd117e6728005561f286a81f1d7aec336c04", func := "drydock/drydocklaw07.ErasureGrows", spec := "erasureGrows", apart := false, narrowed := true }
def ErasureGrowsUptoSaid : Prop := erasureGrowsUptoRow.holds Try.pinned (OpenSpec.upto erasureGrowsSpec)

/-- 'drydocklaw07.ErasureSums', WHERE WHAT IT READS IS OF BULK AT MOST 1048576: true; the input reads as it did. -/
def erasureSumsUptoRow : OpenClaim := { program := "ytmlcenocjpjcfaa", sum := "0cb60683e57191296a25513152d0dd117e6728005561f286a81f1d7aec336c04", func := "drydock/drydocklaw07.ErasureSums", spec := "erasureSums", apart := false, narrowed := true }
def ErasureSumsUptoSaid : Prop := erasureSumsUptoRow.holds Try.pinned (OpenSpec.upto erasureSumsSpec)

/-- 'drydocklaw07.ErasureMinors', WHERE WHAT IT READS IS OF BULK AT MOST 1048576: true; the input reads as it did. -/
def erasureMinorsUptoRow : OpenClaim := { program := "ytmlcenocjpjcfaa", sum := "0cb60683e57191296a25513152d0dd117e6728005561f286a81f1d7aec336c04", func := "drydock/drydocklaw07.ErasureMinors", spec := "erasureMinors", apart := false, narrowed := true }
def ErasureMinorsUptoSaid : Prop := erasureMinorsUptoRow.holds Try.pinned (OpenSpec.upto erasureMinorsSpec)

/-- 'drydocklaw07.ErasureSplits', WHERE WHAT IT READS IS OF BULK AT MOST 1048576: true; the input reads as it did. -/
def erasureSplitsUptoRow : OpenClaim := { program := "ytmlcenocjpjcfaa", sum := "0cb60683e57191296a25513152d0dd117e6728005561f286a81f1d7aec336c04", func := "drydock/drydocklaw07.ErasureSplits", spec := "erasureSplits", apart := false, narrowed := true }
def ErasureSplitsUptoSaid : Prop := erasureSplitsUptoRow.holds Try.pinned (OpenSpec.upto erasureSplitsSpec)

end Rows
end Go.Proofs.Ytmlcenocjpjcfaa
