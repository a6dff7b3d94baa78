/- Sizes of sums and products; the order of rational numbers. No program is walked here. | Sums of lists of fractions: the answers. -/
import Derived.Test.YtclifkaafocbdaaGreatDoorF15

namespace Go.Proofs.YtclifkaafocbdaaGreatDoor
open Go.RowKit NatM Go.Proofs.YtclifkaafocbdaaGreatDoor.Api

/-- A valid fraction whose parts have at most k limbs. -/
def Sz (k : Nat) (x : Tri) : Prop := x.2.2 ≠ 0 ∧ x.2.1 < pw k ∧ x.2.2 < pw k
theorem Sz.ok {k : Nat} {x : Tri} (h : Sz k x) (hk : k ≤ 128) : okF x = true := okF_iff.2 ⟨h.1, lt_up h.2.1 hk, lt_up h.2.2 hk⟩
theorem Sz.up {i k : Nat} {x : Tri} (h : Sz i x) (hk : i ≤ k) : Sz k x := ⟨h.1, lt_up h.2.1 hk, lt_up h.2.2 hk⟩
theorem qv_can (q : Rat) : qv (can q) = q := frac_self q
theorem can_zero_iff {q : Rat} : (can q).2.1 = 0 ↔ q = 0 := by
  show q.num.natAbs = 0 ↔ q = 0
  rw [Int.natAbs_eq_zero, Rat.num_eq_zero]

end Go.Proofs.YtclifkaafocbdaaGreatDoor

namespace Go.Proofs.YtclifkaafocbdaaGreatDoor
open NatM

/-- The sum of a list. -/
def sumQ : List Tri → Rat
  | [] => 0
  | x :: l => qv x + sumQ l
/-- A total, to which a list is added from the first to the last. -/
def sumF (t : Tri) : List Tri → Tri × Nat
  | [] => (t, 0)
  | x :: l => if (addF t x).2 = 0 then sumF (addF t x).1 l else ((false, 0, 0), (addF t x).2)
end Go.Proofs.YtclifkaafocbdaaGreatDoor
