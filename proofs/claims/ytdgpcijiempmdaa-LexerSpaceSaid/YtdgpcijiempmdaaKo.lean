/- How arguments open, and how they stay. -/
import Derived.Test.YtdgpcijiempmdaaRows
import Derived.Test.YtdgpcijiempmdaaK14
import Derived.WalkKit
import Derived.ProofKit
import Derived.OpenShut
import Derived.SizedLaws
import Derived.ChangeSame
import Derived.Carry
namespace Go.Proofs.Ytdgpcijiempmdaa
open Go.ChangeShapes Go.WideShapes Go.ChangeAt Go.RowKit LxM

theorem own : ownKnob Try.prog.godebug = none := by kernel_rfl
theorem laidOut : laidOutB Try.prog = true := by kernel_rfl
/-- An argument reads behind the call as it read before. -/
theorem kept_arg {H : Type} {enc : TypeId × Value → H} {W W' : World} {t : TypeId} {v : Value} {d : DataW H} {ps : List MemPlace} (hr : Try.prog.readableRec t = true) (ht : t < Try.prog.types.size)
    (h : DataW.Trod enc Try.prog W 0 (fun _ => true) true t v d ps) (hb : Add W W') (hlt : ∀ x ∈ ps, x.block < W.heap.size) : DataW.Trod enc Try.prog W' 0 (fun b => decide (b < W.heap.size)) true t v d ps :=
  Below.trod laidOut hr ht h hb hlt
theorem readB : Try.prog.readableRec 33 = true := by kernel_rfl
theorem ltB : 33 < Try.prog.types.size := of_decide_eq_true (by kernel_rfl)
theorem byte_of {z : Int} (h : (Lit.int .u8 z).wf = true) : ∃ n : Nat, n < 256 ∧ z = (n : Nat) := by
  have h1 : IntKind.u8.min = 0 := rfl
  have h2 : IntKind.u8.max = 255 := rfl
  simp only [Lit.wf, Bool.and_eq_true, decide_eq_true_eq] at h
  exact ⟨z.toNat, by omega, by omega⟩
end Go.Proofs.Ytdgpcijiempmdaa
