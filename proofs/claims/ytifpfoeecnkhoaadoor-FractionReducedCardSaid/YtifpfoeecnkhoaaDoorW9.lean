/- The sanity check of the laws returns true; which arguments are too long to be looked at. -/
import Derived.Test.YtifpfoeecnkhoaaDoorW8
namespace Go.Proofs.YtifpfoeecnkhoaaDoor
open Go.RowKit NatM

def AwakeP (w : World) (e : Ending) (w' : World) : Prop := e = .returned (.bool true) ∧ Add w w'
theorem fmt_awake : FmtIs ⟨#[52, 50, 57, 52, 57, 54, 55, 50, 57, 54]⟩ 4294967296 :=
  .inr ⟨by decide, [6, 9, 2, 7, 6, 9, 4, 9, 2, 4], by intro d hd; simp at hd; omega, rfl, by decide, by decide⟩
theorem small_pw {N : Nat} (h : N < pw 400) : N < pw 512 := Nat.lt_of_lt_of_le h (pw_le (by decide))
theorem two_pw : (4294967296 : Nat) < pw 512 := by
  have h1 : pw 2 ≤ pw 512 := pw_le (by decide)
  have h2 : (4294967296 : Nat) < pw 2 := by decide
  omega

def lenV : Value → Nat
  | .slice _ n _ => n
  | _ => 0
def IsSlice (v : Value) : Prop := ∃ a n c, v = .slice a n c ∧ n ≤ 9223372036854775807
theorem Reads.isSlice {w : World} {v : Value} {xs : List Nat} (h : Reads w v xs) : IsSlice v := by
  obtain ⟨ao, n, c, rfl, _, hc, hm, _⟩ := h
  unfold maxLen at hm
  exact ⟨ao, n, c, rfl, by omega⟩
theorem Reads.lenV {w : World} {v : Value} {xs : List Nat} (h : Reads w v xs) : lenV v = xs.length := by
  obtain ⟨ao, n, c, rfl, hl, _⟩ := h
  exact hl.symm

/-- What long answers: is one of the lists longer than 60? -/
def LongP (w : World) (b : Bool) (e : Ending) (w' : World) : Prop := e = .returned (.bool b) ∧ w = w'
end Go.Proofs.YtifpfoeecnkhoaaDoor
