/- The networks that package drydockmake makes of a tape: what lies in memory. -/
import Derived.Test.YtaoibakbnimnkaaNt
import Derived.Test.YtaoibakbnimnkaaN7
import Derived.Deep.RegionHeld3
import Derived.Deep.RegionLaw
import Derived.Deep.AppendLies
import Derived.StillTailTactics
namespace Go.Proofs.Ytaoibakbnimnkaa
open Go.RowKit NetM

/-- A small valid network. -/
def Small (N s t : Nat) (A : List Arc) : Prop := VNet N s t A ∧ N ≤ 7 ∧ 2 ≤ A.length ∧ A.length ≤ 15 ∧ ∀ a ∈ A, a.2.2.1 ≤ 5 ∧ 0 ≤ a.2.2.2 ∧ a.2.2.2 ≤ 4
def NetworkP (w : World) (g : Nat) (e : Ending) (w' : World) : Prop := ∃ (v : Value) (N s t : Nat) (A : List Arc), e = .returned v ∧ NetA w' v N s t A ∧ Small N s t A ∧ w.grownBy w' (some g)
theorem grown_trans' {a b c : World} {row : Option Nat} (h : a.grownBy b row) (k : b.grownBy c row) : a.grownBy c row :=
  ⟨k.os.trans h.os, k.tape.trans h.tape, k.output.trans h.output, Nat.le_trans h.size k.size, fun i hi hne => (k.block i (Nat.lt_of_lt_of_le hi h.size) hne).trans (h.block i hi hne)⟩
theorem NBox.set2 {w : World} {g : Nat} {N s t : Int} {a : Option Addr} {m c : Nat} (h : NBox w g N s t a m c) (v : Int) : NBox (w.setCell ⟨g, 2, none⟩ (.int .i64 v)) g N s v a m c := (heap_setCell_same w g 2 _ _ _ h).trans rfl
theorem NBox.set3 {w : World} {g : Nat} {N s t : Int} {a : Option Addr} {m c : Nat} (h : NBox w g N s t a m c) (a' : Option Addr) (m' c' : Nat) : NBox (w.setCell ⟨g, 3, none⟩ (.slice a' m' c')) g N s t a' m' c' := (heap_setCell_same w g 3 _ _ _ h).trans rfl
theorem grown_setOther {w w' : World} {g gn : Nat} (h : w.grownBy w' (some g)) (hg : w.heap.size ≤ gn) (i : Nat) (u : Value) : w.grownBy (w'.setCell ⟨gn, i, none⟩ u) (some g) :=
  ⟨h.os, h.tape, h.output, by simpa using h.size, fun k hk hne => (heap_setCell_other w' ⟨gn, i, none⟩ k u (by dsimp only; omega)).trans (h.block k hk hne)⟩
theorem grown_new {w w' : World} {o : Option Nat} (h : w.grownBy w' o) (x : Obj) : w.grownBy (w'.alloc x) o := grown_trans' h (World.grownBy_alloc w' x o)
theorem NBox.kept {w w' : World} {gn : Nat} {N s t : Int} {a : Option Addr} {m c : Nat} {o : Option Nat} (h : NBox w gn N s t a m c) (hg : w.grownBy w' o) (hne : some gn ≠ o) : NBox w' gn N s t a m c := (hg.block gn h.lt hne).trans h
def cellsA (A : List Arc) : List Value := A.flatMap fun a => [iv a.1, iv a.2.1, iv a.2.2.1, iv a.2.2.2]
/-- The network under way: its variable in block gn, its arcs in a row of their own. -/
def NetS (w wr : World) (g gn : Nat) (ba : Option Addr) (bm bc : Nat) (bs : List Nat) (N s t : Nat) (A : List Arc) : Prop :=
  ∃ a c, NBox wr gn N s t a A.length c ∧ wr.ownsRow (gn + 1) 35 4 (.slice a A.length c) A.length (cellsA A) ∧ TpS wr g ba bm bc bs ∧ w.grownBy wr (some g) ∧ gn < wr.heap.size ∧ NBox wr w.heap.size 0 0 0 none 0 0
theorem grown_of_add {w w' : World} (h : Add w w') {o : Option Nat} : w.grownBy w' o := ⟨h.os, h.tape, h.output, h.size, fun k hk _ => h.block k hk⟩
theorem own_block' {w : World} {base e size n : Nat} {v : Value} {xs : List Value} (h : w.ownsRow base e size v n xs) : ∀ k, v.ownBlock = some k → base ≤ k ∧ k < w.heap.size := by
  intro k hk
  rcases h.2 with ⟨rfl, -⟩ | ⟨g, cap, cur, rfl, hb, hg, -⟩
  · cases hk
  · have e : g = k := by simpa [Value.ownBlock] using hk
    subst e
    exact ⟨hb, (Array.getElem?_eq_some_iff.1 hg).1⟩
theorem grown_row {a b c : World} {g : Nat} {row : Option Nat} (h : a.grownBy b (some g)) (k : b.grownBy c row) (hr : ∀ j, row = some j → a.heap.size ≤ j) : a.grownBy c (some g) :=
  ⟨k.os.trans h.os, k.tape.trans h.tape, k.output.trans h.output, Nat.le_trans h.size k.size, fun i hi hne => (k.block i (Nat.lt_of_lt_of_le hi h.size) (fun e => by have := hr i e.symm; omega)).trans (h.block i hi hne)⟩
theorem cellsA_snoc (A : List Arc) (a : Arc) : cellsA (A ++ [a]) = cellsA A ++ [iv a.1, iv a.2.1, iv a.2.2.1, iv a.2.2.2] := by simp [cellsA]
theorem net_push {w z4 w6 : World} {o : Obj} {g gn : Nat} {ba : Option Addr} {bm bc : Nat} {bs : List Nat} {N s t : Nat} {A : List Arc} {a : Option Addr} {l c g6 cap6 : Nat} {x y cp co : Nat}
    (hT : TpS z4 g ba bm bc bs) (hG : w.grownBy z4 (some g)) (hr : NBox z4 w.heap.size 0 0 0 none 0 0) (n6 : NBox w6 gn N s t a l c)
    (hown : w6.ownsRow (gn + 1) 35 4 (.slice (some ⟨g6, 0, none⟩) (l + 1) cap6) (l + 1) (cellsA A ++ [.int .i64 (x : Nat), .int .i64 (y : Nat), .int .i64 (cp : Nat), .int .i64 (co : Nat)]))
    (hgr : (z4.alloc o).grownBy w6 (Value.slice a l c).ownBlock) (hob : ∀ k, (Value.slice a l c).ownBlock = some k → gn + 1 ≤ k) (hl : l = A.length) (hgw : w.heap.size < gn) (hlt : g < w.heap.size) (hbb : ∀ b off, ba = some ⟨b, off, none⟩ → 0 < bm → b < w.heap.size) :
    NetS w (w6.setCell ⟨gn, 3, none⟩ (.slice (some ⟨g6, 0, none⟩) (l + 1) cap6)) g gn ba bm bc bs N s t (A ++ [((x : Int), (y : Int), (cp : Int), (co : Int))]) := by
  have hl2 : (A ++ [((x : Int), (y : Int), (cp : Int), (co : Int))]).length = l + 1 := by rw [List.length_append, hl]; rfl
  have hz := hG.size
  have hB : Below w.heap.size z4 (w6.setCell ⟨gn, 3, none⟩ (.slice (some ⟨g6, 0, none⟩) (l + 1) cap6)) :=
    (((Below.refl _ _).alloc hz o).grown hgr (by simp; omega) (fun k e => by have := hob k e; omega)).setCell (by dsimp only; omega) _
  have hg6 := own_block' hown g6 rfl
  have hrr : NBox w6 w.heap.size 0 0 0 none 0 0 := (hr.add (add_new z4 o)).kept hgr (fun e => by have := hob _ e.symm; omega)
  refine ⟨some ⟨g6, 0, none⟩, cap6, ?_, ?_, hT.low hB hlt hbb, ?_, by simpa using n6.lt, (heap_setCell_other w6 ⟨gn, 3, none⟩ _ _ (by dsimp only; omega)).trans hrr⟩
  · rw [hl2]; exact n6.set3 _ _ _
  · rw [hl2, cellsA_snoc]
    exact hown.kept (w' := w6.setCell ⟨gn, 3, none⟩ _) (row := some gn) ⟨rfl, rfl, rfl, by simp, fun k _ hk => heap_setCell_other w6 ⟨gn, 3, none⟩ k _ (fun e => hk (by simp [e]))⟩ (.inr fun e => by have := Option.some.inj (show some g6 = some gn from e); omega)
  · exact grown_setOther (grown_row (grown_trans' hG (World.grownBy_alloc z4 o _)) hgr fun j e => by have := hob j e; omega) (by omega) _ _
theorem infoArc : (Try.prog.info? 35).map (fun i => (i.zero, i.size, i.bytes)) = some (some (.agg #[.int .i64 0, .int .i64 0, .int .i64 0, .int .i64 0]), 4, 32) := by kernel_rfl
theorem cellsA_get : ∀ (A : List Arc) (i : Nat), i < A.length → (cellsA A)[i * 4]? = some (iv (at' A i).1) ∧ (cellsA A)[i * 4 + 1]? = some (iv (at' A i).2.1) ∧ (cellsA A)[i * 4 + 2]? = some (iv (at' A i).2.2.1) ∧ (cellsA A)[i * 4 + 3]? = some (iv (at' A i).2.2.2)
  | [], i, h => by simp at h
  | a :: A, 0, _ => ⟨rfl, rfl, rfl, rfl⟩
  | a :: A, i + 1, h => by
    have ih := cellsA_get A i (by simpa using h)
    have e : cellsA (a :: A) = [iv a.1, iv a.2.1, iv a.2.2.1, iv a.2.2.2] ++ cellsA A := rfl
    have e2 : at' (a :: A) (i + 1) = at' A i := by simp [at']
    rw [e, e2]
    refine ⟨?_, ?_, ?_, ?_⟩
    · rw [List.getElem?_append_right (by simp; omega)]; simp only [List.length_cons, List.length_nil]; rw [show (i + 1) * 4 - (0 + 1 + 1 + 1 + 1) = i * 4 by omega]; exact ih.1
    · rw [List.getElem?_append_right (by simp; omega)]; simp only [List.length_cons, List.length_nil]; rw [show (i + 1) * 4 + 1 - (0 + 1 + 1 + 1 + 1) = i * 4 + 1 by omega]; exact ih.2.1
    · rw [List.getElem?_append_right (by simp; omega)]; simp only [List.length_cons, List.length_nil]; rw [show (i + 1) * 4 + 2 - (0 + 1 + 1 + 1 + 1) = i * 4 + 2 by omega]; exact ih.2.2.1
    · rw [List.getElem?_append_right (by simp; omega)]; simp only [List.length_cons, List.length_nil]; rw [show (i + 1) * 4 + 3 - (0 + 1 + 1 + 1 + 1) = i * 4 + 3 by omega]; exact ih.2.2.2
/-- A row of arcs of the call's own reads as arcs. -/
theorem arcs_own {w : World} {base : Nat} {a : Option Addr} {c : Nat} {A : List Arc} (h : w.ownsRow base 35 4 (.slice a A.length c) A.length (cellsA A)) : ArcsA w (.slice a A.length c) A := by
  rcases h.2 with ⟨e, h0⟩ | ⟨g, cap, cur, e, hb, hg, hn, hc, hs, ht⟩
  · simp only [Value.slice.injEq] at e
    obtain ⟨rfl, -, rfl⟩ := e
    exact ⟨none, A.length, 0, rfl, rfl, by omega, by unfold maxLen; omega, fun i hi => by omega⟩
  · simp only [Value.slice.injEq, true_and] at e
    obtain ⟨rfl, rfl⟩ := e
    have hcs := h.cells (g := g) rfl
    refine ⟨_, A.length, c, rfl, rfl, hn, hc, fun i hi => ⟨g, 0, rfl, ?_⟩⟩
    obtain ⟨k0, k1, k2, k3⟩ := cellsA_get A i hi
    have e : ∀ j, (⟨g, 0, none⟩ : Addr).add j = ⟨g, j, none⟩ := fun j => by unfold Addr.add; split <;> simp_all
    have q0 := hcs _ _ k0
    have q1 := hcs _ _ k1
    have q2 := hcs _ _ k2
    have q3 := hcs _ _ k3
    rw [e] at q0 q1 q2 q3
    simp only [Nat.zero_add]
    exact ⟨q0, q1, q2, q3⟩
def put4 (w : World) (g : Nat) (N s t : Int) (u : Value) : World := (((w.setCell ⟨g, 0, none⟩ (.int .i64 N)).setCell ⟨g, 1, none⟩ (.int .i64 s)).setCell ⟨g, 2, none⟩ (.int .i64 t)).setCell ⟨g, 3, none⟩ u
theorem nbox_put4 {w : World} {g : Nat} {N0 s0 t0 : Int} {a0 : Option Addr} {m0 c0 : Nat} (h : NBox w g N0 s0 t0 a0 m0 c0) (N s t : Int) (a : Option Addr) (m c : Nat) : NBox (put4 w g N s t (.slice a m c)) g N s t a m c := by
  have h1 : NBox (w.setCell ⟨g, 0, none⟩ (.int .i64 N)) g N s0 t0 a0 m0 c0 := (heap_setCell_same w g 0 _ _ _ h).trans rfl
  have h2 : NBox ((w.setCell ⟨g, 0, none⟩ (.int .i64 N)).setCell ⟨g, 1, none⟩ (.int .i64 s)) g N s t0 a0 m0 c0 := (heap_setCell_same _ g 1 _ _ _ h1).trans rfl
  exact (h2.set2 t).set3 a m c
theorem put4_other {w : World} {g k : Nat} (hk : k ≠ g) (N s t : Int) (u : Value) : (put4 w g N s t u).heap[k]? = w.heap[k]? := by
  unfold put4
  rw [heap_setCell_other _ ⟨g, 3, none⟩ k _ hk, heap_setCell_other _ ⟨g, 2, none⟩ k _ hk, heap_setCell_other _ ⟨g, 1, none⟩ k _ hk, heap_setCell_other _ ⟨g, 0, none⟩ k _ hk]
theorem net_end {w wr : World} {g gn : Nat} {N s t : Nat} {A : List Arc} {a : Option Addr} {l c : Nat} (hown : wr.ownsRow (gn + 1) 35 4 (.slice a l c) l (cellsA A)) (hl : l = A.length) (hg : w.grownBy wr (some g)) (hgn : w.heap.size < gn)
    (hok : Small N s t A) : NetworkP w g (.returned (.agg #[.int .i64 (N : Nat), .int .i64 (s : Nat), .int .i64 (t : Nat), .slice a l c])) (put4 wr w.heap.size (N : Nat) (s : Nat) (t : Nat) (.slice a l c)) := by
  subst hl
  refine ⟨_, N, s, t, A, rfl, ⟨_, rfl, ?_⟩, hok, ?_⟩
  · refine arcs_own (base := gn + 1) (hown.kept (row := some w.heap.size) ⟨rfl, rfl, rfl, by simp [put4], fun k _ hk => put4_other (fun e => hk (by simp [e])) _ _ _ _⟩ (.inr fun e => ?_))
    have := (own_block' hown _ e).1
    omega
  · exact grown_setOther (grown_setOther (grown_setOther (grown_setOther hg (Nat.le_refl _) _ _) (Nat.le_refl _) _ _) (Nat.le_refl _) _ _) (Nat.le_refl _) _ _
end Go.Proofs.Ytaoibakbnimnkaa
