/- What the law LinearRank asks: Rank's answer is the rank; sums of rows stay small. -/
import Derived.Test.YtbeoeackahmpbaaGreatDoorDr
import Derived.Test.YtbeoeackahmpbaaGreatDoorVV
namespace Go.Proofs.YtbeoeackahmpbaaGreatDoor
open Go.RowKit NatM Go.Proofs.YtbeoeackahmpbaaGreatDoor.Api LinM

/-- The sum of rows of small numbers with bytes as factors. -/
def combQ (c : Nat → Int) (A : Mat) (k : Nat) : Nat → Rat := fun j => LinM.sumQ (fun i => ((c i : Int) : Rat) * A i j) k
theorem comb_bound {c : Nat → Int} {A : Mat} {k : Nat} (hk : k ≤ 5) (hc : ∀ i, i < k → -128 ≤ c i ∧ c i ≤ 127) (ha : ∀ i j, Small (A i j)) (j : Nat) : (combQ c A k j).num.natAbs ≤ 2 ^ 23 ∧ (combQ c A k j).den ≤ 2 ^ 23 := by
  have h1 : WB (k * (128 * 12600)) (LinM.sumQ (fun i => ((c i : Int) : Rat) * (840 * A i j)) k) := wb_sum k fun i hi => by
    have hb : WB 128 ((c i : Int) : Rat) := ⟨c i, rfl, by have := hc i hi; omega⟩
    exact hb.mul (ha i j).wb
  have e : LinM.sumQ (fun i => ((c i : Int) : Rat) * (840 * A i j)) k = ((840 : Nat) : Rat) * combQ c A k j := by
    unfold combQ
    rw [← LinM.sumQ_mul]
    exact LinM.sumQ_congr fun i _ => by
      have : ((840 : Nat) : Rat) = 840 := by decide +kernel
      rw [this]; grind
  rw [e] at h1
  have h2 := wb_div2 h1 (wb_nat 840) (by decide +kernel)
  have e2 : ((840 : Nat) : Rat) * combQ c A k j / ((840 : Nat) : Rat) = combQ c A k j := by
    have : ((840 : Nat) : Rat) ≠ 0 := by decide +kernel
    generalize ((840 : Nat) : Rat) = u at this ⊢
    grind
  rw [e2] at h2
  exact ⟨Nat.le_trans h2.1 (Nat.le_trans (Nat.mul_le_mul_right _ hk) (by decide)), Nat.le_trans h2.2 (by decide)⟩
theorem comb_fit {c : Nat → Int} {A : Mat} {k : Nat} (hk : k ≤ 5) (hc : ∀ i, i < k → -128 ≤ c i ∧ c i ≤ 127) (ha : ∀ i j, Small (A i j)) (j : Nat) : Fit (combQ c A k j) :=
  ⟨pw_two128 (comb_bound hk hc ha j).1 (by omega), pw_two128 (comb_bound hk hc ha j).2 (by omega)⟩
theorem comb_wt {c : Nat → Int} {A : Mat} {k q : Nat} (hk : k ≤ 5) (hc : ∀ i, i < k → -128 ≤ c i ∧ c i ≤ 127) (ha : ∀ i j, Small (A i j)) : wtR (fun j => can (combQ c A k j)) q ≤ q * 48 :=
  sumK_le fun j _ => wtF_bound (comb_bound hk hc ha j).1 (comb_bound hk hc ha j).2
end Go.Proofs.YtbeoeackahmpbaaGreatDoor
