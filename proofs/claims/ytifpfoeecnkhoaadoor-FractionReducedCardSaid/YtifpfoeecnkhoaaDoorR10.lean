/- The reference's Bits, up and down. -/
import Derived.Test.YtifpfoeecnkhoaaDoorR7
import Derived.Test.YtifpfoeecnkhoaaDoorW17
namespace Go.Proofs.YtifpfoeecnkhoaaDoor
open Go.RowKit NatM Go.Proofs.YtifpfoeecnkhoaaDoor.Api
/-- k limbs are shifted up by t behind the zeros, c is the carry. -/
def UpL (xs us : List Nat) (t c : Nat) : Prop := val us + pw us.length * c = val (xs.take us.length) * 2 ^ t ∧ c < 2 ^ t
theorem upL_zero (xs : List Nat) (t : Nat) : UpL xs [] t 0 := by
  refine ⟨by simp [val], Nat.pow_pos (by decide)⟩
theorem upL_step {xs us : List Nat} {t c lo hi : Nat} (h : UpL xs us t c) (hx : xs.getD us.length 0 < 4294967296) (e : lo + 4294967296 * hi = xs.getD us.length 0 * 2 ^ t + c) : UpL xs (us ++ [lo]) t hi := by
  obtain ⟨h1, h2⟩ := h
  refine ⟨?_, ?_⟩
  · rw [List.length_append, List.length_singleton, val_append, val_take_succ, pw_succ]
    simp only [val, Nat.mul_zero, Nat.add_zero]
    have e2 : pw us.length * lo + 4294967296 * pw us.length * hi = pw us.length * (lo + 4294967296 * hi) := by rw [Nat.mul_add, Nat.mul_comm 4294967296 (pw us.length), Nat.mul_assoc]
    have e3 : (val (xs.take us.length) + pw us.length * xs.getD us.length 0) * 2 ^ t = val (xs.take us.length) * 2 ^ t + pw us.length * (xs.getD us.length 0 * 2 ^ t) := by rw [Nat.add_mul, Nat.mul_assoc]
    rw [e, Nat.mul_add] at e2
    rw [e3]
    omega
  · have hp : 0 < 2 ^ t := Nat.pow_pos (by decide)
    have h3 : xs.getD us.length 0 * 2 ^ t ≤ 4294967295 * 2 ^ t := Nat.mul_le_mul_right _ (by omega)
    omega
theorem upL_done {xs us : List Nat} {t c s : Nat} (h : UpL xs us t c) (hl : us.length = xs.length) : val (List.replicate s 0 ++ us ++ [c]) = val xs * 2 ^ (32 * s + t) := by
  obtain ⟨h1, _⟩ := h
  rw [hl, List.take_of_length_le (Nat.le_refl _)] at h1
  rw [List.append_assoc, val_append, val_replicate, List.length_replicate, Nat.zero_add, val_append, hl]
  simp only [val, Nat.mul_zero, Nat.add_zero]
  rw [h1, Nat.pow_add, ← pw_two, ← Nat.mul_assoc, ← Nat.mul_assoc, Nat.mul_comm (pw s)]
theorem or_up (x c t : Nat) (hx : x < 4294967296) (hc : c < 2 ^ t) (ht : t < 32) : bits .or .u64 ((x * 2 ^ t : Nat) : Int) (c : Int) = ((x * 2 ^ t + c : Nat) : Int) := by
  have h := shift_le x t hx ht
  have hc2 : c < 4294967296 := Nat.lt_of_lt_of_le hc (Nat.pow_le_pow_right (n := 2) (by decide) (by omega : t ≤ 32))
  rw [u64_or_nat _ _ h (by omega), nat_join t (x * 2 ^ t) c (Nat.mul_mod_left _ _) hc]

/-- What the loop of up keeps. -/
def UpSt (w : World) (xs : List Nat) (s t k : Nat) (out : Value) (c : Nat) (wr : World) : Prop :=
  ∃ us, OwnL wr w.heap.size out (List.replicate s 0 ++ us) ∧ Limbs us ∧ us.length = k ∧ UpL xs us t c ∧ Add w wr
end Go.Proofs.YtifpfoeecnkhoaaDoor
