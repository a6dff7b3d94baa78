/- Small products: what the law LinearDet asks. -/
import Derived.Test.YtbeoeackahmpbaaGreatDoorVU
import Derived.Test.YtbeoeackahmpbaaGreatDoorVo
namespace Go.Proofs.YtbeoeackahmpbaaGreatDoor
open Go.RowKit NatM Go.Proofs.YtbeoeackahmpbaaGreatDoor.Api LinM

theorem cmpQ_zero {p q : Rat} : cmpQ p q = 0 ↔ p = q := by unfold cmpQ; grind
set_option maxRecDepth 100000 in
set_option maxHeartbeats 2000000 in
theorem equalN (t : Bool) {v v' : Value} {x y : Tri} {w : World} (hx : FracA w v x) (hy : FracA w v' y) (h : Hid (okF x = true ∧ okF y = true)) (ht : Hid (decide (qv x = qv y) = t)) : Calls Tryz.prog 37 #[v, v'] w (BoolIs w t) := by
  have hx0 := hx
  have hy0 := hy
  obtain ⟨an, n, cn, ad, d, cd, rfl, uN, uD⟩ := hx
  obtain ⟨an', n', cn', ad', d', cd', rfl, uN', uD'⟩ := hy
  obtain ⟨T, hX, hY⟩ := start2 w x.1 an n cn ad d cd y.1 an' n' cn' ad' d' cd'
  replace hx0 := hx0.mono T
  replace hy0 := hy0.mono T
  obtain ⟨i, hi⟩ : ∃ i, cmpQ (qv x) (qv y) = i := ⟨_, rfl⟩
  have di : (i == 0) = t := by
    rw [← hi, ← ht.out]
    by_cases c : qv x = qv y
    · rw [decide_eq_true c, cmpQ_zero.2 c]; rfl
    · rw [decide_eq_false c, beq_eq_false_iff_ne]; exact fun g => c (cmpQ_zero.1 g)
  have HI := Lib.hid hi
  clear uN uD uN' uD' hi ht
  have hc0 := hX.c0
  have hc1 := hX.c1
  have hc2 := hX.c2
  have hd0 := hY.c0
  have hd1 := hY.c1
  have hd2 := hY.c2
  go_enter Tryz.func37, Tryz.ntmps37
  go_wp2_with fail
  refine (orderN i hx0 hy0 h HI).mono ?_
  rintro e w1 ⟨rfl, h1⟩
  replace T := Add.trans T h1
  clear h1 hX hY hx0 hy0 h HI hc0 hc1 hc2 hd0 hd1 hd2
  go_wp2_with fail
  go_ret
  exact ⟨rfl, T⟩
theorem WB.add {N M : Nat} {x y : Rat} (hx : WB N x) (hy : WB M y) : WB (N + M) (x + y) := by
  obtain ⟨z, rfl, h⟩ := hx
  obtain ⟨u, rfl, k⟩ := hy
  exact ⟨z + u, by rw [Rat.intCast_add], Nat.le_trans (Int.natAbs_add_le _ _) (by omega)⟩
theorem wb_sum {N : Nat} {f : Nat → Rat} : ∀ k, (∀ i, i < k → WB N (f i)) → WB (k * N) (LinM.sumQ f k)
  | 0, _ => ⟨0, rfl, Nat.zero_le _⟩
  | k + 1, h => by
    have := (wb_sum k fun i hi => h i (by omega)).add (h k (by omega))
    rw [Nat.succ_mul]; exact this
/-- The product of two matrices of small numbers, up to order 5. -/
theorem mul_bound {A B : Mat} {k : Nat} (hk : k ≤ 5) (ha : ∀ i j, Small (A i j)) (hb : ∀ i j, Small (B i j)) (i l : Nat) : (mulM A B k i l).num.natAbs ≤ 2 ^ 30 ∧ (mulM A B k i l).den ≤ 2 ^ 30 := by
  have h1 : WB (k * (12600 * 12600)) (LinM.sumQ (fun q => 840 * A i q * (840 * B q l)) k) := wb_sum k fun q _ => (ha i q).wb.mul (hb q l).wb
  have e : LinM.sumQ (fun q => 840 * A i q * (840 * B q l)) k = ((705600 : Nat) : Rat) * mulM A B k i l := by
    unfold mulM
    rw [← LinM.sumQ_mul]
    exact LinM.sumQ_congr fun q _ => by
      have : ((705600 : Nat) : Rat) = 840 * 840 := by decide +kernel
      rw [this]; grind
  rw [e] at h1
  have h2 := wb_div2 h1 (wb_nat 705600) (by decide +kernel)
  have e2 : ((705600 : Nat) : Rat) * mulM A B k i l / ((705600 : Nat) : Rat) = mulM A B k i l := by
    have : ((705600 : Nat) : Rat) ≠ 0 := by decide +kernel
    generalize ((705600 : Nat) : Rat) = c at this ⊢
    grind
  rw [e2] at h2
  exact ⟨Nat.le_trans h2.1 (Nat.le_trans (Nat.mul_le_mul_right _ hk) (by decide)), Nat.le_trans h2.2 (by decide)⟩
theorem mul_wt {A B : Mat} {k : Nat} (hk : k ≤ 5) (ha : ∀ i j, Small (A i j)) (hb : ∀ i j, Small (B i j)) : wtM (fun i j => can (mulM A B k i j)) (fun _ => k) k ≤ 1550 := by
  have h1 : wtM (fun i j => can (mulM A B k i j)) (fun _ => k) k ≤ k * (k * (2 * (30 + 1))) := sumK_le fun i _ => sumK_le fun j _ => wtF_bound (mul_bound hk ha hb i j).1 (mul_bound hk ha hb i j).2
  have h2 : k * (k * (2 * (30 + 1))) ≤ 5 * (5 * (2 * (30 + 1))) := Nat.mul_le_mul hk (Nat.mul_le_mul_right _ hk)
  omega
theorem mul_fit {A B : Mat} {k : Nat} (hk : k ≤ 5) (ha : ∀ i j, Small (A i j)) (hb : ∀ i j, Small (B i j)) (i j : Nat) : Fit (mulM A B k i j) :=
  ⟨pw_two128 (mul_bound hk ha hb i j).1 (by omega), pw_two128 (mul_bound hk ha hb i j).2 (by omega)⟩
theorem det_prod (k : Nat) (A B : Mat) : LinM.det k (mulM A B k) = LinM.det k A * LinM.det k B := LinM.det_mul k A B
/-- Two rows exchanged. -/
def turnX {α : Type} (i j : Nat) (X : Nat → α) : Nat → α := fun r => if r = j then X i else if r = i then X j else X r
theorem turn_det {k i j : Nat} (hi : i < k) (hj : j < k) (A : Mat) : LinM.det k (turnX i j A) = if i = j then LinM.det k A else -LinM.det k A := by
  by_cases e : i = j
  · rw [if_pos e]
    refine LinM.det_congr k fun r l _ _ => ?_
    unfold turnX
    by_cases e1 : r = j
    · rw [if_pos e1, e, e1]
    · rw [if_neg e1, if_neg (by omega)]
  · rw [if_neg e, ← swapR_det hi hj e A]
    refine LinM.det_congr k fun r l _ _ => ?_
    unfold turnX sw
    by_cases e1 : r = j
    · rw [if_pos e1, if_neg (by omega), if_pos e1]
    · rw [if_neg e1]
      by_cases e2 : r = i
      · rw [if_pos e2, if_pos e2]
      · rw [if_neg e2, if_neg e2, if_neg e1]
end Go.Proofs.YtbeoeackahmpbaaGreatDoor
