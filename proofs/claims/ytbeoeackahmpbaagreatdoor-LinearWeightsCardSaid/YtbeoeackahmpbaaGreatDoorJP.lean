import Derived.Test.YtbeoeackahmpbaaGreatDoorF15
namespace Go.Proofs.YtbeoeackahmpbaaGreatDoor
open Go.RowKit NatM Go.Proofs.YtbeoeackahmpbaaGreatDoor.Api
def Sz (k : Nat) (x : Tri) : Prop := x.2.2 ≠ 0 ∧ x.2.1 < pw k ∧ x.2.2 < pw k
theorem Sz.ok {k : Nat} {x : Tri} (h : Sz k x) (hk : k ≤ 128) : okF x = true := okF_iff.2 ⟨h.1, lt_up h.2.1 hk, lt_up h.2.2 hk⟩
theorem Sz.up {i k : Nat} {x : Tri} (h : Sz i x) (hk : i ≤ k) : Sz k x := ⟨h.1, lt_up h.2.1 hk, lt_up h.2.2 hk⟩
theorem qv_can (q : Rat) : qv (can q) = q := frac_self q
theorem can_zero_iff {q : Rat} : (can q).2.1 = 0 ↔ q = 0 := by
 show q.num.natAbs = 0 ↔ q = 0
 rw [Int.natAbs_eq_zero, Rat.num_eq_zero]
end Go.Proofs.YtbeoeackahmpbaaGreatDoor
namespace Go.Proofs.YtbeoeackahmpbaaGreatDoor
open NatM
def sumQ : List Tri → Rat
 | [] => 0
 | x :: l => qv x + sumQ l
def sumF (t : Tri) : List Tri → Tri × Nat
 | [] => (t, 0)
 | x :: l => if (addF t x).2 = 0 then sumF (addF t x).1 l else ((false, 0, 0), (addF t x).2)
theorem sumF_append (a b : List Tri) : ∀ t, sumF t (a ++ b) = if (sumF t a).2 = 0 then sumF (sumF t a).1 b else ((false, 0, 0), (sumF t a).2) := by
 induction a with
 | nil => intro t; rw [List.nil_append, sumF, if_pos rfl]
 | cons x l h =>
  intro t
  rw [List.cons_append, sumF, sumF]
  by_cases c : (addF t x).2 = 0
  · rw [if_pos c, if_pos c, h]
  · rw [if_neg c, if_neg c, if_neg c]
theorem can0 : can 0 = (false, 0, 1) := rfl
end Go.Proofs.YtbeoeackahmpbaaGreatDoor
