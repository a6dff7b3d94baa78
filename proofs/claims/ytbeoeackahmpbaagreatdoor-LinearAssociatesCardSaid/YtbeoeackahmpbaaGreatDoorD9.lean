/- Inverses on both sides; how long an inverse of small numbers is. -/
import Derived.Test.YtbeoeackahmpbaaGreatDoorVT
import Derived.Test.YtbeoeackahmpbaaGreatDoorDs
namespace Go.Proofs.YtbeoeackahmpbaaGreatDoor
open Go.RowKit NatM Go.Proofs.YtbeoeackahmpbaaGreatDoor.Api LinM

section
variable {n : Nat} {A V : Mat}
theorem idQ_sum (f : Nat → Rat) {i : Nat} (hi : i < n) : LinM.sumQ (fun q => idQ i q * f q) n = f i := by
  rw [LinM.sumQ_one hi fun q _ h => by unfold idQ; rw [if_neg (fun e => h e.symm)]; grind]
  unfold idQ
  rw [if_pos rfl]; grind
theorem idQ_sumR (f : Nat → Rat) {l : Nat} (hl : l < n) : LinM.sumQ (fun q => f q * idQ q l) n = f l := by
  rw [LinM.sumQ_one hl fun q _ h => by unfold idQ; rw [if_neg h]; grind]
  unfold idQ
  rw [if_pos rfl]; grind
theorem left_inv (h : ∀ i l, i < n → l < n → idQ i l = LinM.sumQ (fun q => A i q * V q l) n) : ∀ i l, i < n → l < n → LinM.sumQ (fun q => V i q * A q l) n = idQ i l := by
  have hdet : LinM.det n V ≠ 0 := by
    have e : LinM.det n (LinM.mulM n A V) = 1 := by
      have e0 : LinM.det n (LinM.mulM n A V) = LinM.det n idM := LinM.det_congr n fun i k hi hk => (h i k hi hk).symm
      rw [e0, LinM.det_id]
    rw [LinM.det_mul] at e
    intro z
    rw [z] at e
    grind
  intro i l hi hl
  have key := LinM.comb_zero hdet (b := fun q => LinM.sumQ (fun s => V i s * A s q) n + -idQ i q) (fun l hl => by
    have e1 : LinM.sumQ (fun q => (LinM.sumQ (fun s => V i s * A s q) n + -idQ i q) * V q l) n = LinM.sumQ (fun q => LinM.sumQ (fun s => V i s * A s q) n * V q l + -(idQ i q * V q l)) n := LinM.sumQ_congr fun q _ => by grind
    rw [e1, sumQ_sub, sum_assoc, idQ_sum (fun q => V q l) hi]
    have e2 : LinM.sumQ (fun s => V i s * LinM.sumQ (fun q => A s q * V q l) n) n = LinM.sumQ (fun s => V i s * idQ s l) n := LinM.sumQ_congr fun s hs => by rw [h s l hs hl]
    rw [e2, idQ_sumR (fun s => V i s) hl]; grind) l hl
  have key2 : LinM.sumQ (fun s => V i s * A s l) n + -idQ i l = 0 := key
  grind
/-- The inverse's product with the right side is the solution. -/
theorem inv_sol (h : ∀ i l, i < n → l < n → LinM.sumQ (fun q => V i q * A q l) n = idQ i l) {b x : Nat → Rat} (hx : ∀ i, i < n → b i = LinM.sumQ (fun q => A i q * x q) n) {i : Nat} (hi : i < n) : LinM.sumQ (fun q => V i q * b q) n = x i := by
  have e1 : LinM.sumQ (fun q => V i q * b q) n = LinM.sumQ (fun q => V i q * LinM.sumQ (fun s => A q s * x s) n) n := LinM.sumQ_congr fun q hq => by rw [hx q hq]
  rw [e1, ← sum_assoc]
  have e2 : LinM.sumQ (fun s => LinM.sumQ (fun q => V i q * A q s) n * x s) n = LinM.sumQ (fun s => idQ i s * x s) n := LinM.sumQ_congr fun s hs => by rw [h i s hi hs]
  rw [e2, idQ_sum x hi]
end
theorem small_id (i j : Nat) : Small (idQ i j) := by
  unfold idQ
  split
  · exact ⟨by decide, by decide⟩
  · exact ⟨by decide, by decide⟩
theorem small_beside {n : Nat} {A B : Mat} (ha : ∀ i j, Small (A i j)) (hb : ∀ i j, Small (B i j)) (i j : Nat) : Small (besideQ n A B i j) := by
  unfold besideQ
  split
  · exact ha i j
  · exact hb i _
theorem Small.wb {q : Rat} (h : Small q) : WB 12600 (840 * q) := by
  obtain ⟨h1, h2⟩ := h
  obtain ⟨m, hm⟩ : ∃ m : Nat, 840 = q.den * m ∧ m ≤ 840 := by
    have h0 := q.den_pos
    have : q.den = 1 ∨ q.den = 2 ∨ q.den = 3 ∨ q.den = 4 ∨ q.den = 5 ∨ q.den = 6 ∨ q.den = 7 ∨ q.den = 8 := by omega
    rcases this with e | e | e | e | e | e | e | e <;> rw [e]
    · exact ⟨840, by decide⟩
    · exact ⟨420, by decide⟩
    · exact ⟨280, by decide⟩
    · exact ⟨210, by decide⟩
    · exact ⟨168, by decide⟩
    · exact ⟨140, by decide⟩
    · exact ⟨120, by decide⟩
    · exact ⟨105, by decide⟩
  refine ⟨(m : Int) * q.num, ?_, ?_⟩
  · rw [Rat.intCast_mul, ← mul_den q, Rat.intCast_natCast]
    have e : (840 : Rat) = (q.den : Rat) * (m : Rat) := by
      rw [← Rat.natCast_mul, ← hm.1]; rfl
    rw [e]; grind
  · rw [Int.natAbs_mul, Int.natAbs_natCast]
    exact Nat.le_trans (Nat.mul_le_mul hm.2 h1) (by decide)
theorem bound4 : ∀ n, n ≤ 4 → fac n * prodQ (fun _ => ((12600 : Nat) : Rat)) n ≤ ((2 ^ 60 : Nat) : Rat) := by
  intro n hn
  have : n = 0 ∨ n = 1 ∨ n = 2 ∨ n = 3 ∨ n = 4 := by omega
  rcases this with rfl | rfl | rfl | rfl | rfl <;> decide +kernel
theorem det840 {n : Nat} {M : Mat} (hn : n ≤ 4) (h : ∀ i k, Small (M i k)) : WB (2 ^ 60) (LinM.det n fun i l => 840 * M i l) := by
  have w1 : Whole (LinM.det n fun i l => 840 * M i l) := det_whole n _ fun i k _ _ => (h i k).wb.whole.1
  have w2 := det_bound n (fun i l => 840 * M i l) (fun _ => ((12600 : Nat) : Rat)) (fun i _ => by decide) fun i k _ _ => (h i k).wb.whole.2
  exact wb_of w1 (Rat.le_trans w2 (bound4 n hn))
theorem prod840 (n : Nat) : prodQ (fun _ => (840 : Rat)) n ≠ 0 := prodQ_ne fun _ _ => by decide
/-- The elements of a solution of small numbers, up to order 4. -/
theorem sol_small {n : Nat} {A B : Mat} (hn : n ≤ 4) (ha : ∀ i j, Small (A i j)) (hb : ∀ i j, Small (B i j)) (hd : LinM.det n A ≠ 0) (i l : Nat) :
    (solB n A B i l).num.natAbs ≤ 2 ^ 60 ∧ (solB n A B i l).den ≤ 2 ^ 60 := by
  have hs := small_beside (n := n) ha hb
  have e1 := det_rows_all n (besideQ n A B) fun _ => (840 : Rat)
  have e2 := det_rows_all n (fun r c => besideQ n A B r (if c = i then n + l else c)) fun _ => (840 : Rat)
  have b1 := det840 hn hs
  have b2 := det840 (M := fun r c => besideQ n A B r (if c = i then n + l else c)) hn fun r c => hs r _
  have hp := prod840 n
  have hd2 : LinM.det n (besideQ n A B) ≠ 0 := by rw [det_beside]; exact hd
  have hne : (LinM.det n fun i l => 840 * besideQ n A B i l) ≠ 0 := by
    rw [e1]
    intro z
    rcases Rat.mul_eq_zero.1 z with z | z
    · exact hp z
    · exact hd2 z
  have e : solB n A B i l = (LinM.det n fun r c => 840 * besideQ n A B r (if c = i then n + l else c)) / (LinM.det n fun i l => 840 * besideQ n A B i l) := by
    rw [e1, e2]
    show LinM.det n (fun r c => besideQ n A B r (if c = i then n + l else c)) / LinM.det n (besideQ n A B) = _
    generalize prodQ (fun _ => (840 : Rat)) n = p at hp ⊢
    generalize LinM.det n (besideQ n A B) = D at hd2 ⊢
    generalize LinM.det n (fun r c => besideQ n A B r (if c = i then n + l else c)) = E
    grind
  rw [e]
  exact wb_div2 b2 b1 hne
end Go.Proofs.YtbeoeackahmpbaaGreatDoor
