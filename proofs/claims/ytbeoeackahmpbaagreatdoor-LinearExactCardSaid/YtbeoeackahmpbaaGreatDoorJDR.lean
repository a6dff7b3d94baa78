import Derived.Test.YtbeoeackahmpbaaGreatDoorJV5
import Derived.Test.YtbeoeackahmpbaaGreatDoorJV7
namespace Go.Proofs.YtbeoeackahmpbaaGreatDoor
open Go.RowKit NatM Go.Proofs.YtbeoeackahmpbaaGreatDoor.Api LinM
section
variable {n : Nat}
theorem sum_assoc (a : Nat → Rat) (B : Mat) (c : Nat → Rat) : LinM.sumQ (fun q => LinM.sumQ (fun s => a s * B s q) n * c q) n = LinM.sumQ (fun s => a s * LinM.sumQ (fun q => B s q * c q) n) n := by
 have e1 : LinM.sumQ (fun q => LinM.sumQ (fun s => a s * B s q) n * c q) n = LinM.sumQ (fun q => LinM.sumQ (fun s => a s * B s q * c q) n) n := LinM.sumQ_congr fun q _ => (sumQ_mulR _ _ _).symm
 have e2 : LinM.sumQ (fun s => a s * LinM.sumQ (fun q => B s q * c q) n) n = LinM.sumQ (fun s => LinM.sumQ (fun q => a s * B s q * c q) n) n := LinM.sumQ_congr fun s _ => by
  rw [← LinM.sumQ_mul]
  exact LinM.sumQ_congr fun q _ => by grind
 rw [e1, e2, LinM.sumQ_swap]
end
end Go.Proofs.YtbeoeackahmpbaaGreatDoor
namespace Go.Proofs.YtbeoeackahmpbaaGreatDoor
open Go.RowKit NatM Go.Proofs.YtbeoeackahmpbaaGreatDoor.Api LinM
theorem span_det {k q : Nat} (hk : k < q) {M C V : Mat} (h : ∀ i l, i < q → l < q → M i l = LinM.sumQ (fun r => C i r * V r l) k) : LinM.det q M = 0 := by
 have e : LinM.det q M = LinM.det q (LinM.mulM q (fun i r => if r < k then C i r else 0) (fun r l => if r < k then V r l else 0)) := by
  refine LinM.det_congr q fun i l hi hl => ?_
  rw [h i l hi hl]
  show _ = LinM.sumQ (fun r => (if r < k then C i r else 0) * (if r < k then V r l else 0)) q
  obtain ⟨d, rfl⟩ : ∃ d, q = k + d := ⟨q - k, by omega⟩
  clear hk h hi hl
  induction d with
  | zero => exact LinM.sumQ_congr fun r hr => by rw [if_pos (by omega), if_pos (by omega)]
  | succ d ih =>
   show _ = LinM.sumQ _ (k + d) + (if k + d < k then C i (k + d) else 0) * (if k + d < k then V (k + d) l else 0)
   rw [← ih, if_neg (by omega)]; grind
 rw [e, LinM.det_mul]
 have z : LinM.det q (fun r l => if r < k then V r l else 0) = 0 := by
  rw [LinM.det_congr q (M' := setR (fun r l => if r < k then V r l else 0) k fun _ => 0) fun r l _ _ => by
   unfold setR
   by_cases c : r = k
   · rw [if_pos c, if_neg (by omega)]
   · rw [if_neg c]]
  exact det_zero_row q _ k hk
 rw [z]; grind
def RankIs (A : Mat) (n m k : Nat) : Prop :=
 ∃ f c : Nat → Nat, (∀ i, i < k → f i < n) ∧ (∀ l, l < k → c l < m) ∧ LinM.det k (fun i l => A (f i) (c l)) ≠ 0 ∧ ∃ C : Mat, ∀ i l, i < n → l < m → A i l = LinM.sumQ (fun r => C i r * A (f r) l) k
theorem RankIs.le {A : Mat} {n m k k' : Nat} (h : RankIs A n m k) (h' : RankIs A n m k') : k' ≤ k := by
 obtain ⟨f, c, hf, hc, hd, C, hC⟩ := h
 obtain ⟨f', c', hf', hc', hd', -⟩ := h'
 by_cases e : k' ≤ k
 · exact e
 · exact absurd (span_det (k := k) (q := k') (by omega) (C := fun i r => C (f' i) r) (V := fun r l => A (f r) (c' l)) fun i l hi hl => hC (f' i) (c' l) (hf' i hi) (hc' l hl)) hd'
theorem RankIs.unique {A : Mat} {n m k k' : Nat} (h : RankIs A n m k) (h' : RankIs A n m k') : k = k' := Nat.le_antisymm (h'.le h) (h.le h')
theorem rank_elim {A : Mat} {n m k : Nat} {B p s : Rat} {X : Mat} {c : Nat → Nat} {W : Mat} (h : Elim A n m B m k p s X c W) : RankIs A n m k := by
 have hk := h.kn
 have hch : ∀ i, ∃ i', i < n → i' < n ∧ ∃ q : Rat, q ≠ 0 ∧ ∀ l, W i l = q * A i' l := fun i => by
  by_cases hi : i < n
  · obtain ⟨i', h1, q, h2, h3⟩ := h.rows' i hi
    exact ⟨i', fun _ => ⟨h1, q, h2, h3⟩⟩
  · exact ⟨0, fun e => absurd e hi⟩
 have hsel := fun i => Classical.choose_spec (hch i)
 obtain ⟨f, hf⟩ : ∃ f : Nat → Nat, ∀ i, i < n → f i < n ∧ ∃ q : Rat, q ≠ 0 ∧ ∀ l, W i l = q * A (f i) l := ⟨fun i => Classical.choose (hch i), hsel⟩
 have hq : ∀ i, ∃ q : Rat, i < n → q ≠ 0 ∧ ∀ l, W i l = q * A (f i) l := fun i => by
  by_cases hi : i < n
  · obtain ⟨-, q, h1, h2⟩ := hf i hi
    exact ⟨q, fun _ => ⟨h1, h2⟩⟩
  · exact ⟨0, fun e => absurd e hi⟩
 obtain ⟨g, hg⟩ : ∃ g : Nat → Rat, ∀ i, i < n → g i ≠ 0 ∧ ∀ l, W i l = g i * A (f i) l := ⟨fun i => Classical.choose (hq i), fun i => Classical.choose_spec (hq i)⟩
 have hpW := h.bar.2.1
 have hp0 := h.bar.1
 have e1 : LinM.det k (fun r l => W r (c l)) = prodQ g k * LinM.det k (fun r l => A (f r) (c l)) := by
  rw [← det_rows_all k (fun r l => A (f r) (c l)) g]
  exact LinM.det_congr k fun i l hi _ => (hg i (by omega)).2 _
 -- every row of W is a combination of the first k rows of W
 have hW : ∀ i, i < n → ∃ a : Nat → Rat, ∀ l, l < m → W i l = LinM.sumQ (fun r => a r * W r l) k := fun i hi => by
  by_cases c1 : i < k
  · refine ⟨fun r => if r = i then 1 else 0, fun l _ => ?_⟩
    have e3 : LinM.sumQ (fun r => (if r = i then (1 : Rat) else 0) * W r l) k = (if i = i then (1 : Rat) else 0) * W i l := LinM.sumQ_one c1 fun r _ hr => by rw [if_neg hr]; grind
    rw [if_pos rfl] at e3
    show W i l = LinM.sumQ (fun r => (if r = i then (1 : Rat) else 0) * W r l) k
    rw [e3]; grind
  · obtain ⟨⟨a, ha⟩, -⟩ := h.bar.2.2.2 i (by omega)
    refine ⟨fun r => -a r / p, fun l hl => ?_⟩
    have hz := h.zero i l (by omega) hi hl
    rw [ha l] at hz
    have e2 : LinM.sumQ (fun r => -a r / p * W r l) k = -1 / p * LinM.sumQ (fun r => a r * W r l) k := by
     rw [← LinM.sumQ_mul]
     exact LinM.sumQ_congr fun r _ => by grind
    rw [e2]
    generalize LinM.sumQ (fun r => a r * W r l) k = S at hz ⊢
    generalize W i l = w0 at hz ⊢
    grind
 have hA : ∀ i, i < n → ∃ a : Nat → Rat, ∀ l, l < m → A i l = LinM.sumQ (fun r => a r * A (f r) l) k := fun i hi => by
  obtain ⟨i', h1, q, h2, h3⟩ := h.rows i hi
  obtain ⟨a, ha⟩ := hW i' h1
  refine ⟨fun r => q * (a r * g r), fun l hl => ?_⟩
  rw [h3 l, ha l hl, ← LinM.sumQ_mul]
  exact LinM.sumQ_congr fun r hr => by rw [(hg r (by omega)).2 l]; grind
 have hC : ∀ i, ∃ a : Nat → Rat, i < n → ∀ l, l < m → A i l = LinM.sumQ (fun r => a r * A (f r) l) k := fun i => by
  by_cases hi : i < n
  · obtain ⟨a, ha⟩ := hA i hi; exact ⟨a, fun _ => ha⟩
  · exact ⟨fun _ => 0, fun e => absurd e hi⟩
 refine ⟨f, c, fun i hi => (hf i (by omega)).1, h.cj, fun z => hp0 ?_, fun i => Classical.choose (hC i), fun i l hi hl => Classical.choose_spec (hC i) hi l hl⟩
 rw [hpW, e1, z]; grind
theorem elim_exists (A : Mat) (n m : Nat) : ∀ q, q ≤ m → ∃ (x k : Nat) (p s : Rat) (X : Mat) (c : Nat → Nat) (W : Mat), Elim A n m ((2 ^ x : Nat) : Rat) q k p s X c W
 | 0, _ => ⟨_, _, _, _, _, _, _, elim_start A n m _ (Nat.le_refl _)⟩
 | q + 1, hq => by
  obtain ⟨x, k, p, s, X, c, W, h⟩ := elim_exists A n m q (by omega)
  by_cases hz : ∀ i, k ≤ i → i < n → X i q = 0
  · exact ⟨x, k, p, s, X, c, W, h.skip hz⟩
  · obtain ⟨i, hi⟩ : ∃ i, ¬ (k ≤ i → i < n → X i q = 0) := Classical.not_forall.1 hz
    have hki : k ≤ i := Classical.byContradiction fun e => hi fun e2 => absurd e2 e
    have hin : i < n := Classical.byContradiction fun e => hi fun _ e2 => absurd e2 e
    have hX : X i q ≠ 0 := fun e => hi fun _ _ => e
    by_cases e : k = i
    · subst e
      exact ⟨x, _, _, _, _, _, _, h.step hin hX⟩
    · have h2 := h.swap (i := i) (by omega) hin
      refine ⟨x, _, _, _, _, _, _, h2.step (by omega) ?_⟩
      show X (sw i k k) q ≠ 0
      have : sw i k k = i := by unfold sw; rw [if_neg e, if_pos rfl]
      rw [this]; exact hX
theorem cramer {n : Nat} {D : Mat} (hd : LinM.det n D ≠ 0) (b : Nat → Rat) : ∃ x : Nat → Rat, ∀ i, i < n → b i = LinM.sumQ (fun q => D i q * x q) n := by
 obtain ⟨x, k, p, s, X, c, W, h⟩ := elim_exists (besideQ n D fun i _ => b i) n (n + 1) n (by omega)
 have hk : k = n := by
  have h1 := h.kn
  by_cases e : k = n
  · exact e
  · exact absurd (by rw [← det_beside n D fun i _ => b i]; exact h.less (by omega)) hd
 subst hk
 exact ⟨fun q => solB k D (fun i _ => b i) q 0, fun i hi => (sol_facts (r := 1) h).2.2 i 0 hi⟩
theorem rank_exists (A : Mat) (n m : Nat) : ∃ k, RankIs A n m k := by
 obtain ⟨x, k, p, s, X, c, W, h⟩ := elim_exists A n m m (Nat.le_refl m)
 exact ⟨k, rank_elim h⟩
theorem RankIs.turn {A : Mat} {n m k k' : Nat} (h : RankIs A n m k) (h' : RankIs (fun i j => A j i) m n k') : k' ≤ k := by
 obtain ⟨f, c, hf, hc, hd, C, hC⟩ := h
 obtain ⟨f', c', hf', hc', hd', -⟩ := h'
 by_cases e : k' ≤ k
 · exact e
 · refine absurd (span_det (k := k) (q := k') (by omega) (C := fun i r => Classical.choose (cramer hd fun r => A (f r) (f' i)) r) (V := fun r l => A (c' l) (c r)) fun i l hi hl => ?_) hd'
   have hx := Classical.choose_spec (cramer hd fun r => A (f r) (f' i))
   generalize Classical.choose (cramer hd fun r => A (f r) (f' i)) = x at hx ⊢
   show A (c' l) (f' i) = _
   rw [hC (c' l) (f' i) (hc' l hl) (hf' i hi)]
   have e1 : LinM.sumQ (fun r => C (c' l) r * A (f r) (f' i)) k = LinM.sumQ (fun r => C (c' l) r * LinM.sumQ (fun q => A (f r) (c q) * x q) k) k := LinM.sumQ_congr fun r hr => by rw [hx r hr]
   rw [e1, ← sum_assoc]
   exact LinM.sumQ_congr fun q hq => by rw [← hC (c' l) (c q) (hc' l hl) (hc q hq)]; exact Rat.mul_comm _ _
theorem RankIs.small {A : Mat} {n m k : Nat} (h : RankIs A n m k) : k ≤ n ∧ k ≤ m := by
 obtain ⟨x, k0, p, s, X, c, W, h0⟩ := elim_exists A n m m (Nat.le_refl m)
 have e := h.unique (rank_elim h0)
 exact ⟨by rw [e]; exact h0.kn, by rw [e]; exact h0.kj⟩
end Go.Proofs.YtbeoeackahmpbaaGreatDoor
namespace Go.Proofs.YtbeoeackahmpbaaGreatDoor
open Go.RowKit NatM Go.Proofs.YtbeoeackahmpbaaGreatDoor.Api LinM
def RkP (w : World) (n q : Nat) (A : Mat) (e : Ending) (w' : World) : Prop := ∃ k, e = .returned (.tuple #[.int .i64 (k : Nat), .int .i64 0]) ∧ RankIs A n q k ∧ Add w w'
theorem rankR {w : World} {v : Value} {n q : Nat} {m : Nat → Nat} {X : Nat → Nat → Tri} (h : MatP false w v n m X) (hT : Tab w) (hb : shapeOk X m n = true) (hq : m 0 = q) (hw : wtM (fun i j => can (qm X i j)) (fun _ => q) n ≤ 1900) :
 Calls Tryz.prog 22 #[v] w (RkP w n q (qm X)) := by
 refine (rankN_ok h hT hb hq hw).mono ?_
 rintro e w' ⟨k, p, s, Y, c, W, hEl, rfl, ha⟩
 exact ⟨k, rfl, rank_elim hEl, ha⟩
end Go.Proofs.YtbeoeackahmpbaaGreatDoor
