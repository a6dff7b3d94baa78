/- Rows of arcs that are copied, and one of which is changed. -/
import Derived.Test.YtaoibakbnimnkaaM10
namespace Go.Proofs.Ytaoibakbnimnkaa
open Go.RowKit NetM

theorem cellsA_len (A : List Arc) : (cellsA A).length = A.length * 4 := by
  induction A with
  | nil => rfl
  | cons a A ih => have e : cellsA (a :: A) = [iv a.1, iv a.2.1, iv a.2.2.1, iv a.2.2.2] ++ cellsA A := rfl
                   rw [e, List.length_append, ih, List.length_cons]; simp; omega
theorem cellsA_one (A : List Arc) : ∀ u ∈ cellsA A, u.oneCell' = true := by
  intro u hu
  obtain ⟨a, -, h⟩ := List.mem_flatMap.1 hu
  simp only [List.mem_cons, List.not_mem_nil, or_false] at h
  rcases h with rfl | rfl | rfl | rfl <;> rfl
theorem cellsA_append (A B : List Arc) : cellsA (A ++ B) = cellsA A ++ cellsA B := by simp [cellsA]
theorem cellsA_set : ∀ (A : List Arc) (j : Nat) (z : Int), j < A.length → (cellsA A).set (j * 4 + 2) (iv z) = cellsA (A.set j ((at' A j).1, (at' A j).2.1, z, (at' A j).2.2.2))
  | [], j, z, h => by simp at h
  | a :: A, 0, z, _ => rfl
  | a :: A, j + 1, z, h => by
    have ih := cellsA_set A j z (by simpa using h)
    have e : ∀ (x : Arc) (L : List Arc), cellsA (x :: L) = [iv x.1, iv x.2.1, iv x.2.2.1, iv x.2.2.2] ++ cellsA L := fun _ _ => rfl
    have e2 : at' (a :: A) (j + 1) = at' A j := by simp [at']
    rw [List.set_cons_succ, e, e, e2, ← ih, List.set_append_right _ _ (by simp; omega)]
    simp only [List.length_cons, List.length_nil]
    rw [show (j + 1) * 4 + 2 - (0 + 1 + 1 + 1 + 1) = j * 4 + 2 by omega]
/-- The cells of a slice of arcs, as a source of append. -/
theorem arcs_news {w : World} {a : Option Addr} {l c : Nat} {A : List Arc} (h : ArcsA w (.slice a l c) A) : ∀ ad, a = some ad → ∀ j u, (cellsA A)[j]? = some u → w.cell? (ad.add j) = some u := by
  intro ad e j u hu
  have hl := h.len
  have hj : j < A.length * 4 := by rw [← cellsA_len]; exact (List.getElem?_eq_some_iff.1 hu).1
  obtain ⟨b, off, e2, k0, k1, k2, k3⟩ := h.cell (k := j / 4) (by omega)
  rw [e] at e2
  obtain rfl := Option.some.inj e2
  obtain ⟨g0, g1, g2, g3⟩ := cellsA_get A (j / 4) (by omega)
  have ea : (⟨b, off, none⟩ : Addr).add j = ⟨b, off + j, none⟩ := by unfold Addr.add; split <;> simp_all
  rw [ea]
  have hm : j = j / 4 * 4 + j % 4 := by omega
  have hr : j % 4 = 0 ∨ j % 4 = 1 ∨ j % 4 = 2 ∨ j % 4 = 3 := by omega
  rcases hr with hr | hr | hr | hr
  · have e3 : j = j / 4 * 4 := by omega
    rw [e3] at hu; rw [g0] at hu; obtain rfl := Option.some.inj hu
    rw [show off + j = off + j / 4 * 4 by omega]; exact k0
  · have e3 : j = j / 4 * 4 + 1 := by omega
    rw [e3] at hu; rw [g1] at hu; obtain rfl := Option.some.inj hu
    rw [show off + j = off + j / 4 * 4 + 1 by omega]; exact k1
  · have e3 : j = j / 4 * 4 + 2 := by omega
    rw [e3] at hu; rw [g2] at hu; obtain rfl := Option.some.inj hu
    rw [show off + j = off + j / 4 * 4 + 2 by omega]; exact k2
  · have e3 : j = j / 4 * 4 + 3 := by omega
    rw [e3] at hu; rw [g3] at hu; obtain rfl := Option.some.inj hu
    rw [show off + j = off + j / 4 * 4 + 3 by omega]; exact k3
/-- An empty row that a literal laid. -/
theorem own_empty {w : World} {g base : Nat} (h : w.heap[g]? = some (.cells #[] 35 (0, 0))) (hb : base ≤ g) : w.ownsRow base 35 4 (.slice (some ⟨g, 0, none⟩) 0 0) 0 (cellsA []) :=
  ⟨rfl, .inr ⟨g, 0, #[], rfl, hb, h, Nat.le_refl _, Nat.zero_le _, rfl, rfl⟩⟩
/-- append(row, arcs...), nothing among them, too. -/
theorem arcs_append (w : World) {v : Value} {base : Nat} {A B : List Arc} (hown : w.ownsRow base 35 4 v A.length (cellsA A)) {so : Option Addr} {c : Nat} (hs : ArcsA w (.slice so B.length c) B) (hso : so ≠ none) (hl : A.length + B.length ≤ 1000) (hbase : base ≤ w.heap.size) :
    ∃ a' c' w', (Builtin.append_ #[22, 22] 22 #[v, .slice so B.length c]).run Try.prog w = .ok (.slice a' (A ++ B).length c') w' ∧ w'.ownsRow base 35 4 (.slice a' (A ++ B).length c') (A ++ B).length (cellsA (A ++ B)) ∧
      w.grownBy w' v.ownBlock ∧ ((Value.slice a' (A ++ B).length c').ownBlock = v.ownBlock ∨ (Value.slice a' (A ++ B).length c').ownBlock = some w.heap.size) := by
  obtain ⟨i2, hi2, hq0, hq1, hq2⟩ := info_parts infoArc
  cases so with
  | none => exact absurd rfl hso
  | some ad =>
    obtain ⟨v', w', hr, r2, r3, -, r5⟩ := run_append_own_at (P := Try.prog) w base 22 22 35 i2 (.agg #[.int .i64 0, .int .i64 0, .int .i64 0, .int .i64 0]) 4 32 Try.underlying22 hi2 hq0 hq1 hq2 rfl (by decide) v A.length (cellsA A) hown ad B.length c (cellsA B) (cellsA_len B) (arcs_news hs ad rfl) (cellsA_one B) (by unfold maxLen; omega) (by omega) hbase
    rw [← cellsA_append, ← List.length_append] at r2
    obtain ⟨a', c', rfl⟩ := own_slice r2
    exact ⟨a', c', w', hr, r2, r3, r5⟩
theorem cellsA_set3 : ∀ (A : List Arc) (j : Nat) (z : Int), j < A.length → (cellsA A).set (j * 4 + 3) (iv z) = cellsA (A.set j ((at' A j).1, (at' A j).2.1, (at' A j).2.2.1, z))
  | [], j, z, h => by simp at h
  | a :: A, 0, z, _ => rfl
  | a :: A, j + 1, z, h => by
    have ih := cellsA_set3 A j z (by simpa using h)
    have e : ∀ (x : Arc) (L : List Arc), cellsA (x :: L) = [iv x.1, iv x.2.1, iv x.2.2.1, iv x.2.2.2] ++ cellsA L := fun _ _ => rfl
    have e2 : at' (a :: A) (j + 1) = at' A j := by simp [at']
    rw [List.set_cons_succ, e, e, e2, ← ih, List.set_append_right _ _ (by simp; omega)]
    simp only [List.length_cons, List.length_nil]
    rw [show (j + 1) * 4 + 3 - (0 + 1 + 1 + 1 + 1) = j * 4 + 3 by omega]
/-- The variable m in block g2 with a row of arcs of its own, and n in block g1. -/
def GrowS (w wr : World) (g1 g2 : Nat) (N s t : Nat) (a : Option Addr) (l c : Nat) (B : List Arc) (g6 c6 : Nat) : Prop :=
  NBox wr g2 N s t (some ⟨g6, 0, none⟩) B.length c6 ∧ wr.ownsRow (g2 + 1) 35 4 (.slice (some ⟨g6, 0, none⟩) B.length c6) B.length (cellsA B) ∧ NBox wr g1 N s t a l c ∧ Add w wr
theorem grow_copy {w wr : World} {g1 g2 N s t l c : Nat} {a : Option Addr} {A : List Arc} (hA : ArcsA w (.slice a l c) A) (hl : A.length = l) (hl2 : 2 ≤ l) (hl15 : l ≤ 15) (h1 : NBox wr g1 N s t a l c) (h2 : NBox wr g2 N s t a l c) (hadd : Add w wr) (hz : wr.heap.size = g2 + 1) (h12 : g1 < g2) (hw : w.heap.size ≤ g2) :
    ∃ g6 c6 w7, (Builtin.append_ #[22, 22] 22 #[.slice (some ⟨g2 + 1, 0, none⟩) 0 0, .slice a l c]).run Try.prog (wr.alloc (.cells #[] 35)) = .ok (.slice (some ⟨g6, 0, none⟩) l c6) w7 ∧
      NBox w7 g2 N s t a l c ∧ GrowS w (w7.setCell ⟨g2, 3, none⟩ (.slice (some ⟨g6, 0, none⟩) l c6)) g1 g2 N s t a l c A g6 c6 := by
  have hN := heap_alloc_new wr (.cells #[] 35)
  rw [hz] at hN
  have hE := own_empty (base := g2 + 1) hN (Nat.le_refl _)
  have hne : a ≠ none := by
    rintro rfl
    obtain ⟨b, off, e, -⟩ := hA.cell (k := 0) (by omega)
    cases e
  have hD := add_new wr (.cells #[] 35)
  have hs : ArcsA (wr.alloc (.cells #[] 35)) (.slice a A.length c) A := by rw [hl]; exact (hA.add hadd).add hD
  obtain ⟨a', c', w7, r1, r2, r3, r4⟩ := arcs_append _ hE hs hne (by simp; omega) (by simp; omega)
  rw [List.nil_append] at r1 r2 r4
  obtain ⟨g6, cap, e, -, -⟩ := r2.form (by omega)
  rw [e] at r1 r2 r4
  rw [hl] at r1 hs
  have hob : ∀ k, (Value.slice (some ⟨g2 + 1, 0, none⟩) 0 0).ownBlock = some k → g2 + 1 ≤ k := fun k e => by have := Option.some.inj (show some (g2 + 1) = some k from e); omega
  have hg6 := own_block' r2 g6 rfl
  have n2 := (h2.add hD).kept r3 (fun e => by have := hob _ e.symm; omega)
  have n1 := (h1.add hD).kept r3 (fun e => by have := hob _ e.symm; omega)
  have t7 : Add w w7 := Below.grown (Add.trans hadd hD) r3 (by have := hadd.size; simp; omega) (fun k e => by have := hob k e; have := hadd.size; omega)
  refine ⟨g6, cap, w7, r1, n2, ?_, ?_, (heap_setCell_other w7 ⟨g2, 3, none⟩ _ _ (by dsimp only; omega)).trans n1, add_setLow t7 (by omega) _ _⟩
  · rw [hl]; exact n2.set3 _ _ _
  · rw [← hl]
    exact r2.kept (w' := w7.setCell ⟨g2, 3, none⟩ _) (row := some g2) ⟨rfl, rfl, rfl, by simp, fun k _ hk => heap_setCell_other w7 ⟨g2, 3, none⟩ k _ (fun e => hk (by simp [e]))⟩ (.inr fun e => by have := Option.some.inj (show some g6 = some g2 from e); omega)
theorem GrowS.raise {w wr : World} {g1 g2 N s t l c g6 c6 j : Nat} {a : Option Addr} {A : List Arc} (h : GrowS w wr g1 g2 N s t a l c A g6 c6) (hj : j < A.length) (h12 : g1 < g2) (hw : w.heap.size ≤ g2) (z : Int) :
    GrowS w (wr.setCell ⟨g6, j * 4 + 2, none⟩ (.int .i64 z)) g1 g2 N s t a l c (A.set j ((at' A j).1, (at' A j).2.1, z, (at' A j).2.2.2)) g6 c6 := by
  obtain ⟨h1, h2, h3, h4⟩ := h
  have hg6 := own_block' h2 g6 rfl
  have hst := (h2.stored (g := g6) (j * 4 + 2) (iv z)).1
  rw [cellsA_set A j z hj] at hst
  have hl : (A.set j ((at' A j).1, (at' A j).2.1, z, (at' A j).2.2.2)).length = A.length := List.length_set
  refine ⟨?_, ?_, ?_, add_setLow h4 (by omega) _ _⟩
  · rw [hl]; exact (heap_setCell_other wr ⟨g6, _, none⟩ g2 _ (by dsimp only; omega)).trans h1
  · rw [hl]; exact hst
  · exact (heap_setCell_other wr ⟨g6, _, none⟩ g1 _ (by dsimp only; omega)).trans h3
theorem GrowS.add {w wr w' : World} {g1 g2 N s t l c g6 c6 : Nat} {a : Option Addr} {A : List Arc} (h : GrowS w wr g1 g2 N s t a l c A g6 c6) (hb : Add wr w') : GrowS w w' g1 g2 N s t a l c A g6 c6 :=
  ⟨h.1.add hb, h.2.1.kept (grown_of_add hb (o := none)) (.inr (by simp [Value.ownBlock])), h.2.2.1.add hb, Add.trans h.2.2.2 hb⟩
theorem GrowS.cell {w wr : World} {g1 g2 N s t l c g6 c6 j : Nat} {a : Option Addr} {A : List Arc} (h : GrowS w wr g1 g2 N s t a l c A g6 c6) (hj : j < A.length) : wr.cell? ⟨g6, j * 4 + 2, none⟩ = some (.int .i64 (at' A j).2.2.1) ∧ wr.frozen? ⟨g6, j * 4 + 2, none⟩ = false := by
  have h1 := h.2.1.cells (g := g6) rfl _ _ (cellsA_get A j hj).2.2.1
  have e : (⟨g6, 0, none⟩ : Addr).add (j * 4 + 2) = ⟨g6, j * 4 + 2, none⟩ := by unfold Addr.add; split <;> simp_all
  rw [e] at h1
  exact ⟨h1, h.2.1.frozenAt (g := g6) _⟩
end Go.Proofs.Ytaoibakbnimnkaa
