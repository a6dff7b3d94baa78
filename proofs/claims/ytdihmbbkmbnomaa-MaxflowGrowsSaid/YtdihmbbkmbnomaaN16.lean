/- The law MaxflowGrows. -/
import Derived.Test.YtdihmbbkmbnomaaN15
namespace Go.Proofs.Ytdihmbbkmbnomaa
open Go.RowKit NetM

/-- The variable m in block g2 with a row of arcs of its own, and n in block g1. -/
def GrowS (w wr : World) (g1 g2 : Nat) (N s t : Nat) (a : Option Addr) (l c : Nat) (B : List Arc) (g6 c6 : Nat) : Prop :=
  NBox wr g2 N s t (some ⟨g6, 0, none⟩) B.length c6 ∧ wr.ownsRow (g2 + 1) 44 4 (.slice (some ⟨g6, 0, none⟩) B.length c6) B.length (cellsA B) ∧ NBox wr g1 N s t a l c ∧ Add w wr
theorem grow_copy {w wr : World} {g1 g2 N s t l c : Nat} {a : Option Addr} {A : List Arc} (hA : ArcsA w (.slice a l c) A) (hl : A.length = l) (hl2 : 2 ≤ l) (hl15 : l ≤ 15) (h1 : NBox wr g1 N s t a l c) (h2 : NBox wr g2 N s t a l c) (hadd : Add w wr) (hz : wr.heap.size = g2 + 1) (h12 : g1 < g2) (hw : w.heap.size ≤ g1) :
    ∃ g6 c6 w7, (Builtin.append_ #[22, 22] 22 #[.slice (some ⟨g2 + 1, 0, none⟩) 0 0, .slice a l c]).run Try.prog (wr.alloc (.cells #[] 44)) = .ok (.slice (some ⟨g6, 0, none⟩) l c6) w7 ∧
      NBox w7 g2 N s t a l c ∧ GrowS w (w7.setCell ⟨g2, 3, none⟩ (.slice (some ⟨g6, 0, none⟩) l c6)) g1 g2 N s t a l c A g6 c6 := by
  have hN := heap_alloc_new wr (.cells #[] 44)
  rw [hz] at hN
  have hE := own_empty (base := g2 + 1) hN (Nat.le_refl _)
  have hne : a ≠ none := by
    rintro rfl
    obtain ⟨b, off, e, -⟩ := hA.cell (k := 0) (by omega)
    cases e
  have hD := add_new wr (.cells #[] 44)
  have hs : ArcsA (wr.alloc (.cells #[] 44)) (.slice a A.length c) A := by rw [hl]; exact (hA.add hadd).add hD
  obtain ⟨a', c', w7, r1, r2, r3, r4⟩ := arcs_append _ hE hs hne (by simp; omega) (by simp; omega)
  rw [List.nil_append] at r1 r2 r4
  obtain ⟨g6, cap, e, -, -⟩ := r2.form (by omega)
  rw [e] at r1 r2 r4
  rw [hl] at r1 hs
  have hob : ∀ k, (Value.slice (some ⟨g2 + 1, 0, none⟩) 0 0).ownBlock = some k → g2 + 1 ≤ k := fun k e => by have := Option.some.inj (show some (g2 + 1) = some k from e); omega
  have hg6 := own_block' r2 g6 rfl
  have n2 := (h2.add hD).kept r3 (fun e => by have := hob _ e.symm; omega)
  have n1 := (h1.add hD).kept r3 (fun e => by have := hob _ e.symm; omega)
  have t7 : Add w w7 := Below.grown (Add.trans hadd hD) r3 (by have := hadd.size; simp; omega) (fun k e => by have := hob k e; have := hadd.size; omega)
  refine ⟨g6, cap, w7, r1, n2, ?_, ?_, (heap_setCell_other w7 ⟨g2, 3, none⟩ _ _ (by dsimp only; omega)).trans n1, add_setLow t7 (by omega) _ _⟩
  · rw [hl]; exact n2.set3 _ _ _
  · rw [← hl]
    exact r2.kept (w' := w7.setCell ⟨g2, 3, none⟩ _) (row := some g2) ⟨rfl, rfl, rfl, by simp, fun k _ hk => heap_setCell_other w7 ⟨g2, 3, none⟩ k _ (fun e => hk (by simp [e]))⟩ (.inr fun e => by have := Option.some.inj (show some g6 = some g2 from e); omega)
theorem GrowS.raise {w wr : World} {g1 g2 N s t l c g6 c6 j : Nat} {a : Option Addr} {A : List Arc} (h : GrowS w wr g1 g2 N s t a l c A g6 c6) (hj : j < A.length) (h12 : g1 < g2) (hw : w.heap.size ≤ g1) (z : Int) :
    GrowS w (wr.setCell ⟨g6, j * 4 + 2, none⟩ (.int .i64 z)) g1 g2 N s t a l c (A.set j ((at' A j).1, (at' A j).2.1, z, (at' A j).2.2.2)) g6 c6 := by
  obtain ⟨h1, h2, h3, h4⟩ := h
  have hg6 := own_block' h2 g6 rfl
  have hst := (h2.stored (g := g6) (j * 4 + 2) (iv z)).1
  rw [cellsA_set A j z hj] at hst
  have hl : (A.set j ((at' A j).1, (at' A j).2.1, z, (at' A j).2.2.2)).length = A.length := List.length_set
  refine ⟨?_, ?_, ?_, add_setLow h4 (by omega) _ _⟩
  · rw [hl]; exact (heap_setCell_other wr ⟨g6, _, none⟩ g2 _ (by dsimp only; omega)).trans h1
  · rw [hl]; exact hst
  · exact (heap_setCell_other wr ⟨g6, _, none⟩ g1 _ (by dsimp only; omega)).trans h3
theorem GrowS.add {w wr w' : World} {g1 g2 N s t l c g6 c6 : Nat} {a : Option Addr} {A : List Arc} (h : GrowS w wr g1 g2 N s t a l c A g6 c6) (hb : Add wr w') : GrowS w w' g1 g2 N s t a l c A g6 c6 :=
  ⟨h.1.add hb, h.2.1.kept (grown_of_add hb (o := none)) (.inr (by simp [Value.ownBlock])), h.2.2.1.add hb, Add.trans h.2.2.2 hb⟩
theorem GrowS.cell {w wr : World} {g1 g2 N s t l c g6 c6 j : Nat} {a : Option Addr} {A : List Arc} (h : GrowS w wr g1 g2 N s t a l c A g6 c6) (hj : j < A.length) : wr.cell? ⟨g6, j * 4 + 2, none⟩ = some (.int .i64 (at' A j).2.2.1) ∧ wr.frozen? ⟨g6, j * 4 + 2, none⟩ = false := by
  have h1 := h.2.1.cells (g := g6) rfl _ _ (cellsA_get A j hj).2.2.1
  have e : (⟨g6, 0, none⟩ : Addr).add (j * 4 + 2) = ⟨g6, j * 4 + 2, none⟩ := by unfold Addr.add; split <;> simp_all
  rw [e] at h1
  exact ⟨h1, h.2.1.frozenAt (g := g6) _⟩
theorem NetM_Opt_big {N s t : Nat} {A : List Arc} {v : Int} (h : Opt N s t A v) (hv : VNet N s t A) : -5368709117500 ≤ v ∧ v ≤ 5368709117500 := by
  obtain ⟨f, S, h1, -, -, -, h2, -⟩ := h
  rw [← h2]; exact hv.big h1
/-- An append whose run is known, at a step of a region that draws its order. -/
theorem step_append_run {P : Program} {w : World} {ops : Array Oper} {o : Oper} {a : Act} {K : Act → World → Prop} {Q : Exit → Act → World → Prop} {E : Prop} (hgd : o.guard = none) (s x : Operand) (t : TypeId)
    (ho : o.op = .call { callee := .builtin .append, args := #[s, x], argTypes := #[t, t] }) (vs vx : Value) (hs : a.eval s = vs) (hx : a.eval x = vx) (v' : Value) (w' : World)
    (hr : (Builtin.append_ #[t, t] o.type #[vs, vx]).run P w = .ok v' w') (h : K (a.put o.dst v') w') : if Region.wanted o (yielded ops a.tmps) = true then Oper.wp P o a w K Q else E := by
  have hw : Region.wanted o (yielded ops a.tmps) = true := by simp [Region.wanted, hgd]
  rw [if_pos hw]
  unfold Oper.wp execOp
  simp only [ho, resolve, invoke, builtin, Sem.run_bind, Sem.run_pure, Result.andThen_ok, List.map_toArray, List.map_cons, List.map_nil, hs, hx, hr]
  exact h
/-- append(append([]Arc{}, arcs[:j]...), arcs[j+1:]...). -/
theorem grow_cut {w wr : World} {g1 g2 N s t l c j b off g6 c6 : Nat} {A : List Arc} {so : Option Addr} (hA : ArcsA w (.slice (some ⟨b, off, none⟩) l c) A) (hl : A.length = l) (hj : j < l) (hl15 : l ≤ 15)
    (h1 : NBox wr g1 N s t (some ⟨b, off, none⟩) l c) (h2 : NBox wr g2 N s t (some ⟨g6, 0, none⟩) l c6) (hadd : Add w wr) (h12 : g1 < g2) (hw : w.heap.size ≤ g1)
    (hso : (if c = j + 1 then some (⟨b, off, none⟩ : Addr) else some ⟨b, off + (j + 1) * 4, none⟩) = so) :
    ∃ a7 c7 w11 a9 c9 w12, (Builtin.append_ #[22, 22] 22 #[.slice (some ⟨wr.heap.size, 0, none⟩) 0 0, .slice (some ⟨b, off, none⟩) j c]).run Try.prog ((World.drew wr).alloc (.cells #[] 44)) = .ok (.slice a7 j c7) w11 ∧
      (Builtin.append_ #[22, 22] 22 #[.slice a7 j c7, .slice so (l - (j + 1)) (c - (j + 1))]).run Try.prog w11 = .ok (.slice a9 (l - 1) c9) w12 ∧
      NBox w11 g1 N s t (some ⟨b, off, none⟩) l c ∧ NBox w12 g1 N s t (some ⟨b, off, none⟩) l c ∧ NBox w12 g2 N s t (some ⟨g6, 0, none⟩) l c6 ∧
      ArcsA (w12.setCell ⟨g2, 3, none⟩ (.slice a9 (l - 1) c9)) (.slice a9 (l - 1) c9) (A.take j ++ A.drop (j + 1)) ∧ Add w (w12.setCell ⟨g2, 3, none⟩ (.slice a9 (l - 1) c9)) := by
  have hD : Add wr ((World.drew wr).alloc (.cells #[] 44)) := Add.trans (b_drew (Below.refl _ _)) (add_new _ _)
  have hN : ((World.drew wr).alloc (.cells #[] 44)).heap[wr.heap.size]? = some (.cells #[] 44 (0, 0)) := heap_alloc_new (World.drew wr) _
  have hg2 := h2.lt
  have hE := own_empty (base := g2 + 1) hN (by omega)
  have hsz := hadd.size
  have hT : (A.take j).length = j := by rw [List.length_take]; omega
  have hR : (A.drop (j + 1)).length = l - (j + 1) := by rw [List.length_drop]; omega
  have hs1 : ArcsA ((World.drew wr).alloc (.cells #[] 44)) (.slice (some ⟨b, off, none⟩) (A.take j).length c) (A.take j) := by rw [hT]; exact ((hA.add hadd).add hD).cutR (by omega)
  obtain ⟨a7, c7, w11, r1, r2, r3, r4⟩ := arcs_append _ hE hs1 (by simp) (by simp; omega) (by simp; omega)
  rw [List.nil_append, hT] at r1 r2 r4
  have hob : ∀ k, (Value.slice (some ⟨wr.heap.size, 0, none⟩) 0 0).ownBlock = some k → g2 + 1 ≤ k := fun k e => by have := Option.some.inj (show some wr.heap.size = some k from e); omega
  have n1 := (h1.add hD).kept r3 (fun e => by have := hob _ e.symm; omega)
  have n2 := (h2.add hD).kept r3 (fun e => by have := hob _ e.symm; omega)
  have t1 : Add w w11 := Below.grown (Add.trans hadd hD) r3 (by simp; omega) (fun k e => by have := hob k e; omega)
  have hs2 : ArcsA w11 (.slice so (A.drop (j + 1)).length (c - (j + 1))) (A.drop (j + 1)) := by rw [hR]; exact (hA.add t1).cutL (by omega) hso.symm
  have hsn : so ≠ none := by rw [← hso]; split <;> simp
  have r2' : w11.ownsRow (g2 + 1) 44 4 (.slice a7 j c7) (A.take j).length (cellsA (A.take j)) := by rw [hT]; exact r2
  have hz11 : g2 + 1 ≤ w11.heap.size := by have := n2.lt; omega
  obtain ⟨a9, c9, w12, p1, p2, p3, p4⟩ := arcs_append w11 r2' hs2 hsn (by rw [hT, hR]; omega) hz11
  have hl9 : (A.take j ++ A.drop (j + 1)).length = l - 1 := by rw [List.length_append, hT, hR]; omega
  have hob2 : ∀ k, (Value.slice a7 j c7).ownBlock = some k → g2 + 1 ≤ k := fun k e => (own_block' r2 k e).1
  have m1 := n1.kept p3 (fun e => by have := hob2 _ e.symm; omega)
  have m2 := n2.kept p3 (fun e => by have := hob2 _ e.symm; omega)
  have t2 : Add w w12 := Below.grown t1 p3 t1.size (fun k e => by have := hob2 k e; omega)
  rw [hl9] at p1 p2
  rw [hR] at p1
  refine ⟨a7, c7, w11, a9, c9, w12, r1, p1, n1, m1, m2, ?_, add_setLow t2 (by omega) _ _⟩
  have := arcs_own (A := A.take j ++ A.drop (j + 1)) (base := g2 + 1) (a := a9) (c := c9) (w := w12.setCell ⟨g2, 3, none⟩ (.slice a9 (l - 1) c9)) (by
    rw [hl9]
    refine p2.kept (row := some g2) ⟨rfl, rfl, rfl, by simp, fun k _ hk => heap_setCell_other w12 ⟨g2, 3, none⟩ k _ (fun e => hk (by simp [e]))⟩ ?_
    refine .inr fun e => ?_
    have := (own_block' p2 _ e).1
    omega)
  rwa [hl9] at this
end Go.Proofs.Ytdihmbbkmbnomaa
