/- strings.TrimLeft with the cutset "0", and slices.Reverse of bytes, do what they promise. -/
import Derived.Test.YtifpfoeecnkhoaaGreatDoorW6
import Derived.Deep.RegionWith
import Derived.BigRegion
import Derived.Lib.TrimByte
namespace Go.Proofs.YtifpfoeecnkhoaaGreatDoor
open Go.RowKit NatM

def TrimByteP (w : World) (l : List UInt8) (c : UInt8) (e : Ending) (w' : World) : Prop := e = .returned (.string ⟨(l.dropWhile (· == c)).toArray⟩) ∧ w = w'
def byt (b : Nat) : Value := .int .u8 (b : Nat)
/-- A row of bytes of the call's own. -/
def OwnB (w : World) (base : Nat) (v : Value) (bs : List Nat) : Prop := w.ownsRow base 5 1 v bs.length (bs.map byt)

theorem OwnB.form {w : World} {base : Nat} {v : Value} {bs : List Nat} (h : OwnB w base v bs) : (v = .slice none 0 0 ∧ bs = []) ∨ ∃ g cap, v = .slice (some ⟨g, 0, none⟩) bs.length cap ∧ base ≤ g ∧ bs.length ≤ cap ∧ cap ≤ maxLen := by
  rcases h.2 with ⟨e, e2⟩ | ⟨g, cap, cur, e, hg, hgg, hn, hm, hs, ht⟩
  · exact .inl ⟨e, List.eq_nil_of_length_eq_zero e2⟩
  · exact .inr ⟨g, cap, e, hg, hn, hm⟩

/-- What Reverse does to a row of bytes. -/
def RevP (w : World) (base : Nat) (v : Value) (bs : List Nat) (e : Ending) (w' : World) : Prop :=
  e = .returned (.tuple #[]) ∧ OwnB w' base v bs.reverse ∧ w.grownBy w' v.ownBlock
end Go.Proofs.YtifpfoeecnkhoaaGreatDoor
