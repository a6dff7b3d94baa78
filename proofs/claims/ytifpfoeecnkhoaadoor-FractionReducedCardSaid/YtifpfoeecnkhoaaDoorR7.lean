/- The reference's divide, for a divisor of one limb. -/
import Derived.Test.YtifpfoeecnkhoaaDoorR6
namespace Go.Proofs.YtifpfoeecnkhoaaDoor
open Go.RowKit NatM Go.Proofs.YtifpfoeecnkhoaaDoor.Api

/-- The limbs from k on are divided by d, r is the remainder. -/
def DivQ (xs zs : List Nat) (d k r : Nat) : Prop := zs.length = xs.length ∧ r < d ∧ val (xs.drop k) = d * val (zs.drop k) + r
theorem divQ_top (xs zs : List Nat) (d : Nat) (hd : 0 < d) (hl : zs.length = xs.length) : DivQ xs zs d xs.length 0 := by
  refine ⟨hl, hd, ?_⟩
  rw [List.drop_of_length_le (Nat.le_refl _), List.drop_of_length_le (by omega)]
  simp [val]
theorem divQ_step {xs zs : List Nat} {d j r q r' : Nat} (h : DivQ xs zs d (j + 1) r) (hj : j < xs.length) (hr : r' < d) (e : r * 4294967296 + xs.getD j 0 = d * q + r') : DivQ xs (zs.set j q) d j r' := by
  obtain ⟨hl, _, hv⟩ := h
  refine ⟨by simpa using hl, hr, ?_⟩
  have e1 : val (xs.drop j) = xs.getD j 0 + 4294967296 * val (xs.drop (j + 1)) := by
    rw [List.drop_eq_getElem_cons hj]; simp [val, List.getD, hj]
  rw [e1, drop_set_cons (by omega), hv, Nat.mul_add, Nat.mul_add]
  have e2 : d * (4294967296 * val (zs.drop (j + 1))) = 4294967296 * (d * val (zs.drop (j + 1))) := by rw [Nat.mul_left_comm]
  omega
theorem divQ_done {xs zs : List Nat} {d r : Nat} (h : DivQ xs zs d 0 r) : val zs = val xs / d ∧ r = val xs % d := by
  obtain ⟨_, hr, hv⟩ := h
  simp only [List.drop_zero] at hv
  rw [hv]
  have hd : 0 < d := by omega
  constructor
  · rw [Nat.mul_add_div hd, Nat.div_eq_of_lt hr, Nat.add_zero]
  · rw [Nat.mul_add_mod, Nat.mod_eq_of_lt hr]

/-- The quotient and the remainder, in rows of the call's own. -/
def DivO (w : World) (A B : Nat) (e : Ending) (w' : World) : Prop :=
  ∃ vq vr, e = .returned (.tuple #[vq, vr]) ∧ NumO w' w.heap.size vq (A / B) ∧ NumO w' w.heap.size vr (A % B) ∧ Add w w'

end Go.Proofs.YtifpfoeecnkhoaaDoor
