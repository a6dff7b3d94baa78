/- A list of rows copied by append([][]api.Frac{}, a...), and one more row. -/
import Derived.Test.YtbeoeackahmpbaaGreatDoorVW
namespace Go.Proofs.YtbeoeackahmpbaaGreatDoor
open Go.RowKit NatM Go.Proofs.YtbeoeackahmpbaaGreatDoor.Api LinM

set_option maxRecDepth 100000 in
theorem copyOwn {w : World} {ao : Option Addr} {k c : Nat} {m : Nat → Nat} {X : Nat → Nat → Tri} (h : MatP true w (.slice ao k c) k m X) (h0 : 0 < k) (hk : k ≤ 1000) :
    ∃ (b off : Nat) (ra : Option Addr) (rc : Nat) (hv : Nat → Value) (w' : World), ao = some ⟨b, off, none⟩ ∧
      (Builtin.append_ #[22, 22] 22 #[.slice (some ⟨w.heap.size, 0, none⟩) 0 0, .slice (some ⟨b, off, none⟩) k c]).run Tryz.prog (w.alloc (.cells #[] 23)) = .ok (.slice ra k rc) w' ∧
      w'.ownsRow w.heap.size 23 1 (.slice ra k rc) k ((List.range k).map hv) ∧ SoftB w' (.slice ra k rc) ∧ (∀ i, i < k → RowP true w (hv i) (m i) (X i)) ∧ Add w w' := by
  obtain ⟨ao', c', e, g1, g2, g3⟩ := h
  simp only [Value.slice.injEq, true_and] at e
  obtain ⟨rfl, rfl⟩ := e
  obtain ⟨b, off, rfl, hrows⟩ := g3 h0
  obtain ⟨i1, hi1, hy0, hy1, hy2⟩ := info_parts infoFracs
  have hA := add_new w (.cells #[] 23)
  have hbk : (w.alloc (.cells #[] 23)).heap[w.heap.size]? = some (.cells #[] 23 (0, 0)) := heap_alloc_new w _
  have hown : (w.alloc (.cells #[] 23)).ownsRow w.heap.size 23 1 (.slice (some ⟨w.heap.size, 0, none⟩) 0 0) 0 [] :=
    ⟨rfl, .inr ⟨w.heap.size, 0, #[], rfl, Nat.le_refl _, hbk, Nat.le_refl _, Nat.zero_le _, rfl, rfl⟩⟩
  have hsoft : SoftB (w.alloc (.cells #[] 23)) (.slice (some ⟨w.heap.size, 0, none⟩) 0 0) := fun g hg j q z _ e => by
    obtain rfl : w.heap.size = g := Option.some.inj hg
    rw [cell_of_row _ _ j _ _ (0, 0) hbk] at e
    simp at e
  have hcell : ∀ i, i < k → ∃ a l q, w.cell? ⟨b, off + i, none⟩ = some (.slice a l q) := fun i hi => by
    obtain ⟨u, e1, a, q, rfl, -⟩ := hrows i hi
    exact ⟨a, _, q, e1⟩
  have get : ∀ j, ((List.range k).map fun i => (w.cell? ⟨b, off + i, none⟩).getD (.slice none 0 0))[j]? = if j < k then some ((w.cell? ⟨b, off + j, none⟩).getD (.slice none 0 0)) else none := fun j => by
    rw [List.getElem?_map]
    by_cases hj : j < k
    · rw [if_pos hj, List.getElem?_range hj]; rfl
    · rw [if_neg hj, List.getElem?_eq_none (by simp; omega)]; rfl
  have all : ∀ u ∈ ((List.range k).map fun i => (w.cell? ⟨b, off + i, none⟩).getD (.slice none 0 0)), ∃ a l q, u = .slice a l q := fun u hu => by
    obtain ⟨i, hi, rfl⟩ := List.mem_map.1 hu
    obtain ⟨a, l, q, e⟩ := hcell i (List.mem_range.1 hi)
    rw [e]; exact ⟨a, l, q, rfl⟩
  obtain ⟨v', w', hr, k1, k2, k3, k4⟩ := run_append_soft (P := Tryz.prog) (w.alloc (.cells #[] 23)) w.heap.size 22 22 23 i1 (.slice none 0 0) 1 24 Tryz.underlying22 hi1 hy0 hy1 hy2 rfl (by decide)
    (by intro u hu kk z _ e; simp [Value.cells] at hu; rw [hu] at e; cases e)
    (.slice (some ⟨w.heap.size, 0, none⟩) 0 0) 0 [] hown hsoft ⟨b, off, none⟩ k c ((List.range k).map fun i => (w.cell? ⟨b, off + i, none⟩).getD (.slice none 0 0)) (by simp)
    (fun j u hu => by
      rw [get] at hu
      by_cases hj : j < k
      · rw [if_pos hj] at hu
        obtain ⟨a, l, q, e⟩ := hcell j hj
        rw [Addr.add_lit]
        refine cell_addL ?_ hA
        rw [e] at hu ⊢; exact hu
      · rw [if_neg hj] at hu; cases hu)
    (fun u hu => by obtain ⟨a, l, q, rfl⟩ := all u hu; rfl) (fun u hu kk z _ e => by obtain ⟨a, l, q, rfl⟩ := all u hu; cases e)
    (by unfold maxLen; omega) (by omega) (by simp)
  rw [Nat.zero_add, List.nil_append] at k1
  have hT : Add w w' := (chg_grown k2 hsoft).below hA (by simp) fun g hg => by
    obtain rfl : w.heap.size = g := Option.some.inj hg
    exact Nat.le_refl _
  obtain ⟨ra, rc, rfl⟩ := own_isSlice k1
  refine ⟨b, off, ra, rc, fun i => (w.cell? ⟨b, off + i, none⟩).getD (.slice none 0 0), w', rfl, hr, k1, k4, fun i hi => ?_, hT⟩
  obtain ⟨u, e1, e2⟩ := hrows i hi
  dsimp only
  rw [e1]; exact e2
set_option maxRecDepth 100000 in
/-- One more row behind them. -/
theorem pushOwn {w0 w w1 : World} {base' k m B c : Nat} {rv u : Value} {hv : Nat → Value} {X : Nat → Nat → Tri} {t : Nat → Tri} (hown : w.ownsRow w0.heap.size 23 1 rv k ((List.range k).map hv)) (hsoft : SoftB w rv) (hrows : ∀ i, i < k → RowP true w0 (hv i) m (X i)) (T0 : Add w0 w) (ha : Add w w1)
    (hu : OwnF w1 base' u m t) (hB : w1.heap[B]? = some (.cells #[u] 23 (0, 0))) (hk : k ≤ 1000) :
    ∃ a' c' w2, (Builtin.append_ #[22, 22] 22 #[rv, .slice (some ⟨B, 0, none⟩) 1 c]).run Tryz.prog w1 = .ok (.slice a' (k + 1) c') w2 ∧
      MatP true w2 (.slice a' (k + 1) c') (k + 1) (fun _ => m) (fun i => if i = k then t else X i) ∧ Add w0 w2 := by
  have hown1 := own_chg hown (Chg.of_add (fun _ => False) ha) (fun _ _ => id)
  have hsoft1 := soft_chg hsoft (Chg.of_add (fun _ => False) ha) (fun g hg => ⟨(own_in hown g hg).2.1, id⟩)
  obtain ⟨i1, hi1, hy0, hy1, hy2⟩ := info_parts infoFracs
  obtain ⟨ua, uc, rfl, -, -⟩ := hu.slice
  obtain ⟨v', w2, hr, k1, k2, k3, k4⟩ := run_append_soft (P := Tryz.prog) w1 w0.heap.size 22 22 23 i1 (.slice none 0 0) 1 24 Tryz.underlying22 hi1 hy0 hy1 hy2 rfl (by decide)
    (by intro u hu kk z _ e; simp [Value.cells] at hu; rw [hu] at e; cases e)
    rv k _ hown1 hsoft1 ⟨B, 0, none⟩ 1 c [.slice ua m uc] rfl (World.news_of_block hB) (by intro u hu; simp at hu; rw [hu]; rfl) (by intro u hu kk z _ e; simp at hu; rw [hu] at e; cases e)
    (by unfold maxLen; omega) (by omega) (Nat.le_trans T0.size ha.size)
  obtain ⟨a', c', rfl⟩ := own_isSlice k1
  have hc := chg_grown k2 hsoft1
  have hne : ∀ g, (Value.slice ua m uc).ownBlock = some g → ¬ rv.ownBlock = some g := fun g hg e => by
    obtain ⟨xs, q1, -⟩ := hu
    obtain ⟨-, -, cur, q2⟩ := own_in q1 g hg
    obtain ⟨-, -, cur', q3⟩ := own_in hown1 g e
    rw [q2] at q3
    simp only [Option.some.injEq, Obj.cells.injEq] at q3
    exact absurd q3.2.1 (by decide)
  have hT : Add w0 w2 := hc.below (Add.trans T0 ha) (Add.trans T0 ha).size fun g hg => (own_in hown1 g hg).1
  have e : ((List.range k).map hv) ++ [Value.slice ua m uc] = (List.range (k + 1)).map fun i => if i = k then Value.slice ua m uc else hv i := by
    rw [List.range_succ, List.map_append]
    congr 1
    · refine List.map_congr_left fun i hi => ?_
      rw [if_neg (by have := List.mem_range.1 hi; omega)]
    · simp
  rw [e] at k1
  refine ⟨a', c', w2, hr, ?_, hT⟩
  rcases k1.2 with ⟨e0, -⟩ | ⟨g, cap, cur, e0, -, -, h2, h3, -⟩
  · simp at e0
  · obtain ⟨rfl, rfl⟩ : a' = some ⟨g, 0, none⟩ ∧ c' = cap := by simpa using e0
    refine ⟨_, _, rfl, h2, h3, fun _ => ⟨g, 0, rfl, fun i hi => ⟨if i = k then Value.slice ua m uc else hv i, ?_, ?_⟩⟩⟩
    · have := k1.cells (g := g) rfl i (if i = k then Value.slice ua m uc else hv i) (by simp [hi])
      rwa [Addr.add_lit] at this
    · show RowP true w2 (if i = k then Value.slice ua m uc else hv i) m (if i = k then t else X i)
      by_cases e : i = k
      · rw [if_pos e, if_pos e]
        exact (hu.chg hc hne).row
      · rw [if_neg e, if_neg e]
        exact (hrows i (by omega)).add hT
end Go.Proofs.YtbeoeackahmpbaaGreatDoor
