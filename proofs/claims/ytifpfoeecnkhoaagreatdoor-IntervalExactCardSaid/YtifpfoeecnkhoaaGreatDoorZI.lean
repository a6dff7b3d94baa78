/- Package interval: scaled.
(With the texts that are joined here: Intervals as values and in memory. | Package interval: ends. | Package interval: opposite. | Package interval: atMost, lesser, greater, holds, ends, Valid. | Intervals: the answers of the operations, and their mathematics. | Package interval: Valid, between. | Package interval: Add, Outward, Width, Point, Contains.) -/
import Derived.Test.YtifpfoeecnkhoaaGreatDoorZF
import Derived.Test.YtifpfoeecnkhoaaGreatDoorZG

namespace Go.Proofs.YtifpfoeecnkhoaaGreatDoor
open Go.RowKit NatM Go.Proofs.YtifpfoeecnkhoaaGreatDoor.Api

/-- Two ends. -/
abbrev Iv := Tri × Tri
/-- Block g is a variable of type api.Interval. -/
def Box6 (w : World) (g : Nat) (b : Bool) (an : Option Addr) (n cn : Nat) (ad : Option Addr) (d cd : Nat) (b' : Bool) (an' : Option Addr) (n' cn' : Nat) (ad' : Option Addr) (d' cd' : Nat) : Prop :=
  w.heap[g]? = some (.cells #[.bool b, .slice an n cn, .slice ad d cd, .bool b', .slice an' n' cn', .slice ad' d' cd'] 27 (0, 0))
variable {w w' : World} {g : Nat} {b : Bool} {an : Option Addr} {n cn : Nat} {ad : Option Addr} {d cd : Nat} {b' : Bool} {an' : Option Addr} {n' cn' : Nat} {ad' : Option Addr} {d' cd' : Nat}
theorem Box6.lt (h : Box6 w g b an n cn ad d cd b' an' n' cn' ad' d' cd') : g < w.heap.size := (Array.getElem?_eq_some_iff.1 h).1
theorem Box6.mono (h : Box6 w g b an n cn ad d cd b' an' n' cn' ad' d' cd') (hb : Add w w') : Box6 w' g b an n cn ad d cd b' an' n' cn' ad' d' cd' := (hb.block g h.lt).trans h
theorem Box6.c0 (h : Box6 w g b an n cn ad d cd b' an' n' cn' ad' d' cd') : w.cell? ⟨g, 0, none⟩ = some (.bool b) := by rw [cell_of_row w g 0 _ 27 (0, 0) h]; rfl
theorem Box6.c1 (h : Box6 w g b an n cn ad d cd b' an' n' cn' ad' d' cd') : w.cell? ⟨g, 1, none⟩ = some (.slice an n cn) := by rw [cell_of_row w g 1 _ 27 (0, 0) h]; rfl
theorem Box6.c2 (h : Box6 w g b an n cn ad d cd b' an' n' cn' ad' d' cd') : w.cell? ⟨g, 2, none⟩ = some (.slice ad d cd) := by rw [cell_of_row w g 2 _ 27 (0, 0) h]; rfl
theorem Box6.c3 (h : Box6 w g b an n cn ad d cd b' an' n' cn' ad' d' cd') : w.cell? ⟨g, 3, none⟩ = some (.bool b') := by rw [cell_of_row w g 3 _ 27 (0, 0) h]; rfl
theorem Box6.c4 (h : Box6 w g b an n cn ad d cd b' an' n' cn' ad' d' cd') : w.cell? ⟨g, 4, none⟩ = some (.slice an' n' cn') := by rw [cell_of_row w g 4 _ 27 (0, 0) h]; rfl
theorem Box6.c5 (h : Box6 w g b an n cn ad d cd b' an' n' cn' ad' d' cd') : w.cell? ⟨g, 5, none⟩ = some (.slice ad' d' cd') := by rw [cell_of_row w g 5 _ 27 (0, 0) h]; rfl
theorem Box6.fr (h : Box6 w g b an n cn ad d cd b' an' n' cn' ad' d' cd') (i : Nat) : w.frozen? ⟨g, i, none⟩ = false := frozen_of_row w g i _ 27 h
theorem Box6.not_int (h : Box6 w g b an n cn ad d cd b' an' n' cn' ad' d' cd') (i : Nat) (k : IntKind) (z : Int) : w.cell? ⟨g, i, none⟩ ≠ some (.int k z) := by
  rw [cell_of_row w g i _ 27 (0, 0) h]
  rcases i with _ | _ | _ | _ | _ | _ | i <;> simp
theorem box6_new (w : World) (b : Bool) (an : Option Addr) (n cn : Nat) (ad : Option Addr) (d cd : Nat) (b' : Bool) (an' : Option Addr) (n' cn' : Nat) (ad' : Option Addr) (d' cd' : Nat) : Box6 (w.alloc (.cells #[.bool b, .slice an n cn, .slice ad d cd, .bool b', .slice an' n' cn', .slice ad' d' cd'] 27)) w.heap.size b an n cn ad d cd b' an' n' cn' ad' d' cd' := heap_alloc_new w _
theorem Box6.cells (h : w.heap.size = g) : Box6 (w.alloc (.cells #[.bool b, .slice an n cn, .slice ad d cd, .bool b', .slice an' n' cn', .slice ad' d' cd'] 27)) g b an n cn ad d cd b' an' n' cn' ad' d' cd' := by subst h; exact box6_new w b an n cn ad d cd b' an' n' cn' ad' d' cd'
theorem laid6 (w : World) (b : Bool) (an : Option Addr) (n cn : Nat) (ad : Option Addr) (d cd : Nat) (b' : Bool) (an' : Option Addr) (n' cn' : Nat) (ad' : Option Addr) (d' cd' : Nat) : Add w (w.alloc (.cells #[.bool b, .slice an n cn, .slice ad d cd, .bool b', .slice an' n' cn', .slice ad' d' cd'] 27)) ∧ Box6 (w.alloc (.cells #[.bool b, .slice an n cn, .slice ad d cd, .bool b', .slice an' n' cn', .slice ad' d' cd'] 27)) w.heap.size b an n cn ad d cd b' an' n' cn' ad' d' cd' := ⟨add_new _ _, box6_new ..⟩
/-- What is stored into the variable. -/
def put6 (w : World) (g : Nat) (u0 u1 u2 u3 u4 u5 : Value) : World := (((((w.setCell ⟨g, 0, none⟩ u0).setCell ⟨g, 1, none⟩ u1).setCell ⟨g, 2, none⟩ u2).setCell ⟨g, 3, none⟩ u3).setCell ⟨g, 4, none⟩ u4).setCell ⟨g, 5, none⟩ u5
theorem put6_other {k : Nat} (u0 u1 u2 u3 u4 u5 : Value) (h : k ≠ g) : (put6 w g u0 u1 u2 u3 u4 u5).heap[k]? = w.heap[k]? := by
  unfold put6
  rw [heap_setCell_other _ _ _ _ h, heap_setCell_other _ _ _ _ h, heap_setCell_other _ _ _ _ h, heap_setCell_other _ _ _ _ h, heap_setCell_other _ _ _ _ h, heap_setCell_other _ _ _ _ h]
theorem put6_below {w0 : World} {base : Nat} (u0 u1 u2 u3 u4 u5 : Value) (h : Below base w0 w) (hg : base ≤ g) : Below base w0 (put6 w g u0 u1 u2 u3 u4 u5) :=
  (((((h.setCell hg u0).setCell hg u1).setCell hg u2).setCell hg u3).setCell hg u4).setCell hg u5
theorem Reads.put6 {v : Value} {xs : List Nat} (h : Reads w v xs) (hB : Box6 w g b an n cn ad d cd b' an' n' cn' ad' d' cd') (u0 u1 u2 u3 u4 u5 : Value) : Reads (put6 w g u0 u1 u2 u3 u4 u5) v xs := by
  obtain ⟨ao, m, c, rfl, hl, hc, hm, hx, hr⟩ := h
  refine ⟨ao, m, c, rfl, hl, hc, hm, hx, fun hn => ?_⟩
  obtain ⟨k, off, rfl, hcell⟩ := hr hn
  refine ⟨k, off, rfl, fun i hi => ?_⟩
  have hk : k ≠ g := by
    rintro rfl
    exact hB.not_int _ _ _ (hcell i hi)
  rw [cell_other (fun j hj => put6_other u0 u1 u2 u3 u4 u5 hj) _ hk]
  exact hcell i hi
theorem Num.put6 {v : Value} {N : Nat} (h : Num w v N) (hB : Box6 w g b an n cn ad d cd b' an' n' cn' ad' d' cd') (u0 u1 u2 u3 u4 u5 : Value) : Num (put6 w g u0 u1 u2 u3 u4 u5) v N := by
  obtain ⟨zs, h1, h2⟩ := h; exact ⟨zs, Reads.put6 h1 hB u0 u1 u2 u3 u4 u5, h2⟩
theorem FracT.put6 {v : Value} {x : Tri} (h : FracT w v x) (hB : Box6 w g b an n cn ad d cd b' an' n' cn' ad' d' cd') (u0 u1 u2 u3 u4 u5 : Value) : FracT (put6 w g u0 u1 u2 u3 u4 u5) v x := by
  obtain ⟨a1, l1, k1, a2, l2, k2, h1, h2, h3⟩ := h; exact ⟨a1, l1, k1, a2, l2, k2, h1, Num.put6 h2 hB u0 u1 u2 u3 u4 u5, Num.put6 h3 hB u0 u1 u2 u3 u4 u5⟩
theorem Box6.put (h : Box6 w g b an n cn ad d cd b' an' n' cn' ad' d' cd') (s1 : Bool) (a1 : Option Addr) (n1 k1 : Nat) (e1 : Option Addr) (d1 l1 : Nat) (s2 : Bool) (a2 : Option Addr) (n2 k2 : Nat) (e2 : Option Addr) (d2 l2 : Nat) :
    Box6 (put6 w g (.bool s1) (.slice a1 n1 k1) (.slice e1 d1 l1) (.bool s2) (.slice a2 n2 k2) (.slice e2 d2 l2)) g s1 a1 n1 k1 e1 d1 l1 s2 a2 n2 k2 e2 d2 l2 := by
  unfold put6 Box6
  have h1 := heap_setCell_same w g 0 _ 27 (.bool s1) h
  have h2 := heap_setCell_same _ g 1 _ 27 (.slice a1 n1 k1) h1
  have h3 := heap_setCell_same _ g 2 _ 27 (.slice e1 d1 l1) h2
  have h4 := heap_setCell_same _ g 3 _ 27 (.bool s2) h3
  have h5 := heap_setCell_same _ g 4 _ 27 (.slice a2 n2 k2) h4
  exact heap_setCell_same _ g 5 _ 27 (.slice e2 d2 l2) h5
theorem Box6.other (h : Box6 w g b an n cn ad d cd b' an' n' cn' ad' d' cd') {k : Nat} (hk : g ≠ k) (u0 u1 u2 u3 u4 u5 : Value) : Box6 (put6 w k u0 u1 u2 u3 u4 u5) g b an n cn ad d cd b' an' n' cn' ad' d' cd' := (put6_other u0 u1 u2 u3 u4 u5 hk).trans h
theorem Box6.putBox (h : Box6 w g b an n cn ad d cd b' an' n' cn' ad' d' cd') {k : Nat} (hk : g ≠ k) (u0 u1 u2 : Value) : Box6 (put3 w k u0 u1 u2) g b an n cn ad d cd b' an' n' cn' ad' d' cd' := (put3_other u0 u1 u2 hk).trans h
/-- A value that reads as an interval (the six cells of its ends, laid flat): its ends canonical; or as they came. -/
def IvT (w : World) (v : Value) (x : Iv) : Prop := ∃ an n cn ad d cd an' n' cn' ad' d' cd', v = .agg #[.bool x.1.1, .slice an n cn, .slice ad d cd, .bool x.2.1, .slice an' n' cn', .slice ad' d' cd'] ∧ Num w (.slice an n cn) x.1.2.1 ∧ Num w (.slice ad d cd) x.1.2.2 ∧ Num w (.slice an' n' cn') x.2.2.1 ∧ Num w (.slice ad' d' cd') x.2.2.2
def IvA (w : World) (v : Value) (x : Iv) : Prop := ∃ an n cn ad d cd an' n' cn' ad' d' cd', v = .agg #[.bool x.1.1, .slice an n cn, .slice ad d cd, .bool x.2.1, .slice an' n' cn', .slice ad' d' cd'] ∧ Nv w (.slice an n cn) x.1.2.1 ∧ Nv w (.slice ad d cd) x.1.2.2 ∧ Nv w (.slice an' n' cn') x.2.2.1 ∧ Nv w (.slice ad' d' cd') x.2.2.2
theorem IvT.mono {v : Value} {x : Iv} (h : IvT w v x) (hb : Add w w') : IvT w' v x := by
  obtain ⟨a1, a2, a3, a4, a5, a6, a7, a8, a9, b1, b2, b3, h0, h1, h2, h3, h4⟩ := h; exact ⟨a1, a2, a3, a4, a5, a6, a7, a8, a9, b1, b2, b3, h0, h1.mono hb, h2.mono hb, h3.mono hb, h4.mono hb⟩
theorem IvA.mono {v : Value} {x : Iv} (h : IvA w v x) (hb : Add w w') : IvA w' v x := by
  obtain ⟨a1, a2, a3, a4, a5, a6, a7, a8, a9, b1, b2, b3, h0, h1, h2, h3, h4⟩ := h; exact ⟨a1, a2, a3, a4, a5, a6, a7, a8, a9, b1, b2, b3, h0, h1.mono hb, h2.mono hb, h3.mono hb, h4.mono hb⟩
/-- Is it valid. -/
def okI (x : Iv) : Bool := okF x.1 && okF x.2 && decide (qv x.1 ≤ qv x.2)
/-- An interval and an error number; an interval alone. -/
def ResI (w : World) (p : Iv × Nat) (e : Ending) (w' : World) : Prop := ∃ v, e = .returned (.tuple #[v, .int .i64 (p.2 : Nat)]) ∧ IvT w' v p.1 ∧ Add w w'
theorem IvT.put6 {v : Value} {x : Iv} (h : IvT w v x) (hB : Box6 w g b an n cn ad d cd b' an' n' cn' ad' d' cd') (u0 u1 u2 u3 u4 u5 : Value) : IvT (put6 w g u0 u1 u2 u3 u4 u5) v x := by
  obtain ⟨a1, a2, a3, a4, a5, a6, a7, a8, a9, b1, b2, b3, h0, h1, h2, h3, h4⟩ := h; exact ⟨a1, a2, a3, a4, a5, a6, a7, a8, a9, b1, b2, b3, h0, Num.put6 h1 hB u0 u1 u2 u3 u4 u5, Num.put6 h2 hB u0 u1 u2 u3 u4 u5, Num.put6 h3 hB u0 u1 u2 u3 u4 u5, Num.put6 h4 hB u0 u1 u2 u3 u4 u5⟩
theorem ivT_zero (w : World) : IvT w (.agg #[.bool false, .slice none 0 0, .slice none 0 0, .bool false, .slice none 0 0, .slice none 0 0]) ((false, 0, 0), (false, 0, 0)) :=
  ⟨none, 0, 0, none, 0, 0, none, 0, 0, none, 0, 0, rfl, Num.nil w, Num.nil w, Num.nil w, Num.nil w⟩
def RetI (w : World) (x : Iv) (e : Ending) (w' : World) : Prop := ∃ v, e = .returned v ∧ IvT w' v x ∧ Add w w'
def RetIA (w : World) (x : Iv) (e : Ending) (w' : World) : Prop := ∃ v, e = .returned v ∧ IvA w' v x ∧ Add w w'
/-- An interval and a yes or no. -/
def ResB (w : World) (p : Iv × Bool) (e : Ending) (w' : World) : Prop := ∃ v, e = .returned (.tuple #[v, .bool p.2]) ∧ IvT w' v p.1 ∧ Add w w'
theorem resI_put {w wk : World} {p : Iv × Nat} {u0 u1 u2 u3 u4 u5 : Value} (hB : Box6 wk g b an n cn ad d cd b' an' n' cn' ad' d' cd') (hv : IvT wk (.agg #[u0, u1, u2, u3, u4, u5]) p.1) (hT : Add w wk) (hg : w.heap.size ≤ g) : ResI w p (.returned (.tuple #[.agg #[u0, u1, u2, u3, u4, u5], .int .i64 (p.2 : Nat)])) (put6 wk g u0 u1 u2 u3 u4 u5) :=
  ⟨_, rfl, IvT.put6 hv hB u0 u1 u2 u3 u4 u5, put6_below u0 u1 u2 u3 u4 u5 hT hg⟩
theorem retI_put {w wk : World} {x : Iv} {u0 u1 u2 u3 u4 u5 : Value} (hB : Box6 wk g b an n cn ad d cd b' an' n' cn' ad' d' cd') (hv : IvT wk (.agg #[u0, u1, u2, u3, u4, u5]) x) (hT : Add w wk) (hg : w.heap.size ≤ g) : RetI w x (.returned (.agg #[u0, u1, u2, u3, u4, u5])) (put6 wk g u0 u1 u2 u3 u4 u5) :=
  ⟨_, rfl, IvT.put6 hv hB u0 u1 u2 u3 u4 u5, put6_below u0 u1 u2 u3 u4 u5 hT hg⟩
theorem resB_put {w wk : World} {p : Iv × Bool} {u0 u1 u2 u3 u4 u5 : Value} (hB : Box6 wk g b an n cn ad d cd b' an' n' cn' ad' d' cd') (hv : IvT wk (.agg #[u0, u1, u2, u3, u4, u5]) p.1) (hT : Add w wk) (hg : w.heap.size ≤ g) : ResB w p (.returned (.tuple #[.agg #[u0, u1, u2, u3, u4, u5], .bool p.2])) (put6 wk g u0 u1 u2 u3 u4 u5) :=
  ⟨_, rfl, IvT.put6 hv hB u0 u1 u2 u3 u4 u5, put6_below u0 u1 u2 u3 u4 u5 hT hg⟩
theorem IvT.arg {v : Value} {x : Iv} (h : IvT w v x) (h1 : x.1.2.1 < pw 1000) (h2 : x.1.2.2 < pw 1000) (h3 : x.2.2.1 < pw 1000) (h4 : x.2.2.2 < pw 1000) : IvA w v x := by
  obtain ⟨a1, a2, a3, a4, a5, a6, a7, a8, a9, b1, b2, b3, h0, g1, g2, g3, g4⟩ := h; exact ⟨a1, a2, a3, a4, a5, a6, a7, a8, a9, b1, b2, b3, h0, num_nv g1 h1, num_nv g2 h2, num_nv g3 h3, num_nv g4 h4⟩
end Go.Proofs.YtifpfoeecnkhoaaGreatDoor

namespace Go.Proofs.YtifpfoeecnkhoaaGreatDoor
open Go.RowKit NatM Go.Proofs.YtifpfoeecnkhoaaGreatDoor.Api

/-- Block g is a variable of type [2]api.Frac. -/
def BoxE (w : World) (g : Nat) (b : Bool) (an : Option Addr) (n cn : Nat) (ad : Option Addr) (d cd : Nat) (b' : Bool) (an' : Option Addr) (n' cn' : Nat) (ad' : Option Addr) (d' cd' : Nat) : Prop :=
  w.heap[g]? = some (.cells #[.bool b, .slice an n cn, .slice ad d cd, .bool b', .slice an' n' cn', .slice ad' d' cd'] 58 (0, 0))
variable {w w' : World} {g : Nat} {b : Bool} {an : Option Addr} {n cn : Nat} {ad : Option Addr} {d cd : Nat} {b' : Bool} {an' : Option Addr} {n' cn' : Nat} {ad' : Option Addr} {d' cd' : Nat}
theorem BoxE.lt (h : BoxE w g b an n cn ad d cd b' an' n' cn' ad' d' cd') : g < w.heap.size := (Array.getElem?_eq_some_iff.1 h).1
theorem BoxE.mono (h : BoxE w g b an n cn ad d cd b' an' n' cn' ad' d' cd') (hb : Add w w') : BoxE w' g b an n cn ad d cd b' an' n' cn' ad' d' cd' := (hb.block g h.lt).trans h
theorem BoxE.c0 (h : BoxE w g b an n cn ad d cd b' an' n' cn' ad' d' cd') : w.cell? ⟨g, 0, none⟩ = some (.bool b) := by rw [cell_of_row w g 0 _ 58 (0, 0) h]; rfl
theorem BoxE.c1 (h : BoxE w g b an n cn ad d cd b' an' n' cn' ad' d' cd') : w.cell? ⟨g, 1, none⟩ = some (.slice an n cn) := by rw [cell_of_row w g 1 _ 58 (0, 0) h]; rfl
theorem BoxE.c2 (h : BoxE w g b an n cn ad d cd b' an' n' cn' ad' d' cd') : w.cell? ⟨g, 2, none⟩ = some (.slice ad d cd) := by rw [cell_of_row w g 2 _ 58 (0, 0) h]; rfl
theorem BoxE.c3 (h : BoxE w g b an n cn ad d cd b' an' n' cn' ad' d' cd') : w.cell? ⟨g, 3, none⟩ = some (.bool b') := by rw [cell_of_row w g 3 _ 58 (0, 0) h]; rfl
theorem BoxE.c4 (h : BoxE w g b an n cn ad d cd b' an' n' cn' ad' d' cd') : w.cell? ⟨g, 4, none⟩ = some (.slice an' n' cn') := by rw [cell_of_row w g 4 _ 58 (0, 0) h]; rfl
theorem BoxE.c5 (h : BoxE w g b an n cn ad d cd b' an' n' cn' ad' d' cd') : w.cell? ⟨g, 5, none⟩ = some (.slice ad' d' cd') := by rw [cell_of_row w g 5 _ 58 (0, 0) h]; rfl
theorem BoxE.fr (h : BoxE w g b an n cn ad d cd b' an' n' cn' ad' d' cd') (i : Nat) : w.frozen? ⟨g, i, none⟩ = false := frozen_of_row w g i _ 58 h
theorem BoxE.not_int (h : BoxE w g b an n cn ad d cd b' an' n' cn' ad' d' cd') (i : Nat) (k : IntKind) (z : Int) : w.cell? ⟨g, i, none⟩ ≠ some (.int k z) := by
  rw [cell_of_row w g i _ 58 (0, 0) h]
  rcases i with _ | _ | _ | _ | _ | _ | i <;> simp
theorem boxE_new (w : World) (b : Bool) (an : Option Addr) (n cn : Nat) (ad : Option Addr) (d cd : Nat) (b' : Bool) (an' : Option Addr) (n' cn' : Nat) (ad' : Option Addr) (d' cd' : Nat) : BoxE (w.alloc (.cells #[.bool b, .slice an n cn, .slice ad d cd, .bool b', .slice an' n' cn', .slice ad' d' cd'] 58)) w.heap.size b an n cn ad d cd b' an' n' cn' ad' d' cd' := heap_alloc_new w _
theorem BoxE.cells (h : w.heap.size = g) : BoxE (w.alloc (.cells #[.bool b, .slice an n cn, .slice ad d cd, .bool b', .slice an' n' cn', .slice ad' d' cd'] 58)) g b an n cn ad d cd b' an' n' cn' ad' d' cd' := by subst h; exact boxE_new w b an n cn ad d cd b' an' n' cn' ad' d' cd'
theorem laidE (w : World) (b : Bool) (an : Option Addr) (n cn : Nat) (ad : Option Addr) (d cd : Nat) (b' : Bool) (an' : Option Addr) (n' cn' : Nat) (ad' : Option Addr) (d' cd' : Nat) : Add w (w.alloc (.cells #[.bool b, .slice an n cn, .slice ad d cd, .bool b', .slice an' n' cn', .slice ad' d' cd'] 58)) ∧ BoxE (w.alloc (.cells #[.bool b, .slice an n cn, .slice ad d cd, .bool b', .slice an' n' cn', .slice ad' d' cd'] 58)) w.heap.size b an n cn ad d cd b' an' n' cn' ad' d' cd' := ⟨add_new _ _, boxE_new ..⟩
theorem BoxE.put (h : BoxE w g b an n cn ad d cd b' an' n' cn' ad' d' cd') (s1 : Bool) (a1 : Option Addr) (n1 k1 : Nat) (e1 : Option Addr) (d1 l1 : Nat) (s2 : Bool) (a2 : Option Addr) (n2 k2 : Nat) (e2 : Option Addr) (d2 l2 : Nat) :
    BoxE (put6 w g (.bool s1) (.slice a1 n1 k1) (.slice e1 d1 l1) (.bool s2) (.slice a2 n2 k2) (.slice e2 d2 l2)) g s1 a1 n1 k1 e1 d1 l1 s2 a2 n2 k2 e2 d2 l2 := by
  unfold put6 BoxE
  have h1 := heap_setCell_same w g 0 _ 58 (.bool s1) h
  have h2 := heap_setCell_same _ g 1 _ 58 (.slice a1 n1 k1) h1
  have h3 := heap_setCell_same _ g 2 _ 58 (.slice e1 d1 l1) h2
  have h4 := heap_setCell_same _ g 3 _ 58 (.bool s2) h3
  have h5 := heap_setCell_same _ g 4 _ 58 (.slice a2 n2 k2) h4
  exact heap_setCell_same _ g 5 _ 58 (.slice e2 d2 l2) h5
theorem startE (w : World) (b : Bool) (an : Option Addr) (n cn : Nat) (ad : Option Addr) (d cd : Nat) (b' : Bool) (an' : Option Addr) (n' cn' : Nat) (ad' : Option Addr) (d' cd' : Nat) : Add w ((w.alloc (.cells #[.bool b, .slice an n cn, .slice ad d cd, .bool b', .slice an' n' cn', .slice ad' d' cd'] 27)).alloc (.cells #[.bool false, .slice none 0 0, .slice none 0 0, .bool false, .slice none 0 0, .slice none 0 0] 58)) ∧ Box6 ((w.alloc (.cells #[.bool b, .slice an n cn, .slice ad d cd, .bool b', .slice an' n' cn', .slice ad' d' cd'] 27)).alloc (.cells #[.bool false, .slice none 0 0, .slice none 0 0, .bool false, .slice none 0 0, .slice none 0 0] 58)) w.heap.size b an n cn ad d cd b' an' n' cn' ad' d' cd' ∧ BoxE ((w.alloc (.cells #[.bool b, .slice an n cn, .slice ad d cd, .bool b', .slice an' n' cn', .slice ad' d' cd'] 27)).alloc (.cells #[.bool false, .slice none 0 0, .slice none 0 0, .bool false, .slice none 0 0, .slice none 0 0] 58)) (w.heap.size + 1) false none 0 0 none 0 0 false none 0 0 none 0 0 :=
  ⟨Add.trans (add_new _ _) (add_new _ _), (box6_new ..).mono (add_new _ _), BoxE.cells (by simp)⟩
theorem ends_build (b : Bool) (an : Option Addr) (n cn : Nat) (ad : Option Addr) (d cd : Nat) (b' : Bool) (an' : Option Addr) (n' cn' : Nat) (ad' : Option Addr) (d' cd' : Nat) (w : World) : Sem.run Tryz.prog (Instr.build 58 #[(0, .agg #[.bool b, .slice an n cn, .slice ad d cd]), (1, .agg #[.bool b', .slice an' n' cn', .slice ad' d' cd'])]) w = .ok (.agg #[.bool b, .slice an n cn, .slice ad d cd, .bool b', .slice an' n' cn', .slice ad' d' cd']) w := by kernel_rfl
theorem iv_build (b : Bool) (an : Option Addr) (n cn : Nat) (ad : Option Addr) (d cd : Nat) (b' : Bool) (an' : Option Addr) (n' cn' : Nat) (ad' : Option Addr) (d' cd' : Nat) (w : World) : Sem.run Tryz.prog (Instr.build 27 #[(0, .agg #[.bool b, .slice an n cn, .slice ad d cd]), (1, .agg #[.bool b', .slice an' n' cn', .slice ad' d' cd'])]) w = .ok (.agg #[.bool b, .slice an n cn, .slice ad d cd, .bool b', .slice an' n' cn', .slice ad' d' cd']) w := by kernel_rfl
set_option maxRecDepth 100000 in
set_option maxHeartbeats 2000000 in
theorem endsN (w : World) (b : Bool) (an : Option Addr) (n cn : Nat) (ad : Option Addr) (d cd : Nat) (b' : Bool) (an' : Option Addr) (n' cn' : Nat) (ad' : Option Addr) (d' cd' : Nat) : Calls Tryz.prog 51 #[.agg #[.bool b, .slice an n cn, .slice ad d cd, .bool b', .slice an' n' cn', .slice ad' d' cd']] w fun e w' => e = .returned (.agg #[.bool b, .slice an n cn, .slice ad d cd, .bool b', .slice an' n' cn', .slice ad' d' cd']) ∧ Add w w' := by
  obtain ⟨T, hA, hB⟩ := startE w b an n cn ad d cd b' an' n' cn' ad' d' cd'
  have hF : Add w ((w.alloc (.cells #[.bool b, .slice an n cn, .slice ad d cd, .bool b', .slice an' n' cn', .slice ad' d' cd'] 27)).alloc (.cells #[.bool b, .slice an n cn, .slice ad d cd, .bool b', .slice an' n' cn', .slice ad' d' cd'] 58)) := Add.trans (add_new _ _) (add_new _ _)
  have hP : BoxE ((w.alloc (.cells #[.bool b, .slice an n cn, .slice ad d cd, .bool b', .slice an' n' cn', .slice ad' d' cd'] 27)).alloc (.cells #[.bool b, .slice an n cn, .slice ad d cd, .bool b', .slice an' n' cn', .slice ad' d' cd'] 58)) (w.heap.size + 1) b an n cn ad d cd b' an' n' cn' ad' d' cd' := BoxE.cells (by simp)
  obtain ⟨W5, hW5⟩ : ∃ W5, W5 = ((w.alloc (.cells #[.bool b, .slice an n cn, .slice ad d cd, .bool b', .slice an' n' cn', .slice ad' d' cd'] 27)).alloc (.cells #[.bool b, .slice an n cn, .slice ad d cd, .bool b', .slice an' n' cn', .slice ad' d' cd'] 58)) := ⟨_, rfl⟩
  rw [← hW5] at hP hF
  have HF := Lib.hid hF
  have HW := Lib.hid hW5
  have hbu := ends_build b an n cn ad d cd b' an' n' cn' ad' d' cd'
  clear hF T hW5
  have ha0 := hA.c0
  have ha1 := hA.c1
  have ha2 := hA.c2
  have ha3 := hA.c3
  have ha4 := hA.c4
  have ha5 := hA.c5
  have hb0 := hB.c0
  have hb1 := hB.c1
  have hb2 := hB.c2
  have hb3 := hB.c3
  have hb4 := hB.c4
  have hb5 := hB.c5
  have hb6 := hB.fr 0
  have hb7 := hB.fr 1
  have hb8 := hB.fr 2
  have hb9 := hB.fr 3
  have hb10 := hB.fr 4
  have hb11 := hB.fr 5
  clear hA hB
  go_enter Tryz.func51, Tryz.ntmps51
  go_wp2_with fail
  rw [← HW.out]
  exact bodyPost_ret (v := .agg #[.bool b, .slice an n cn, .slice ad d cd, .bool b', .slice an' n' cn', .slice ad' d' cd']) (by simp [results, Tryz.results51, go_sem, hP.c0, hP.c1, hP.c2, hP.c3, hP.c4, hP.c5]) rfl ⟨rfl, HF.out⟩
end Go.Proofs.YtifpfoeecnkhoaaGreatDoor

namespace Go.Proofs.YtifpfoeecnkhoaaGreatDoor
open Go.RowKit NatM Go.Proofs.YtifpfoeecnkhoaaGreatDoor.Api

theorem startO (w : World) (b : Bool) (an : Option Addr) (n cn : Nat) (ad : Option Addr) (d cd : Nat) (b' : Bool) (an' : Option Addr) (n' cn' : Nat) (ad' : Option Addr) (d' cd' : Nat) : Add w ((w.alloc (.cells #[.bool b, .slice an n cn, .slice ad d cd, .bool b', .slice an' n' cn', .slice ad' d' cd'] 27)).alloc (.cells #[.bool false, .slice none 0 0, .slice none 0 0, .bool false, .slice none 0 0, .slice none 0 0] 27)) ∧ Box6 ((w.alloc (.cells #[.bool b, .slice an n cn, .slice ad d cd, .bool b', .slice an' n' cn', .slice ad' d' cd'] 27)).alloc (.cells #[.bool false, .slice none 0 0, .slice none 0 0, .bool false, .slice none 0 0, .slice none 0 0] 27)) w.heap.size b an n cn ad d cd b' an' n' cn' ad' d' cd' ∧ Box6 ((w.alloc (.cells #[.bool b, .slice an n cn, .slice ad d cd, .bool b', .slice an' n' cn', .slice ad' d' cd'] 27)).alloc (.cells #[.bool false, .slice none 0 0, .slice none 0 0, .bool false, .slice none 0 0, .slice none 0 0] 27)) (w.heap.size + 1) false none 0 0 none 0 0 false none 0 0 none 0 0 :=
  ⟨Add.trans (add_new _ _) (add_new _ _), (box6_new ..).mono (add_new _ _), Box6.cells (by simp)⟩
theorem add_drew (w : World) : Add w w.drew := Below.drew (Below.refl _ _)
theorem startO2 (w : World) (b : Bool) (an : Option Addr) (n cn : Nat) (ad : Option Addr) (d cd : Nat) (b' : Bool) (an' : Option Addr) (n' cn' : Nat) (ad' : Option Addr) (d' cd' : Nat) : Add w (((((w.alloc (.cells #[.bool b, .slice an n cn, .slice ad d cd, .bool b', .slice an' n' cn', .slice ad' d' cd'] 27)).alloc (.cells #[.bool false, .slice none 0 0, .slice none 0 0, .bool false, .slice none 0 0, .slice none 0 0] 27)).alloc (.cells #[.bool b', .slice an' n' cn', .slice ad' d' cd'] 25)).alloc (.cells #[.bool b, .slice an n cn, .slice ad d cd] 25)).drew) ∧ Box6 (((((w.alloc (.cells #[.bool b, .slice an n cn, .slice ad d cd, .bool b', .slice an' n' cn', .slice ad' d' cd'] 27)).alloc (.cells #[.bool false, .slice none 0 0, .slice none 0 0, .bool false, .slice none 0 0, .slice none 0 0] 27)).alloc (.cells #[.bool b', .slice an' n' cn', .slice ad' d' cd'] 25)).alloc (.cells #[.bool b, .slice an n cn, .slice ad d cd] 25)).drew) (w.heap.size + 1) false none 0 0 none 0 0 false none 0 0 none 0 0 ∧ Box (((((w.alloc (.cells #[.bool b, .slice an n cn, .slice ad d cd, .bool b', .slice an' n' cn', .slice ad' d' cd'] 27)).alloc (.cells #[.bool false, .slice none 0 0, .slice none 0 0, .bool false, .slice none 0 0, .slice none 0 0] 27)).alloc (.cells #[.bool b', .slice an' n' cn', .slice ad' d' cd'] 25)).alloc (.cells #[.bool b, .slice an n cn, .slice ad d cd] 25)).drew) (w.heap.size + 1 + 1) b' an' n' cn' ad' d' cd' ∧ Box (((((w.alloc (.cells #[.bool b, .slice an n cn, .slice ad d cd, .bool b', .slice an' n' cn', .slice ad' d' cd'] 27)).alloc (.cells #[.bool false, .slice none 0 0, .slice none 0 0, .bool false, .slice none 0 0, .slice none 0 0] 27)).alloc (.cells #[.bool b', .slice an' n' cn', .slice ad' d' cd'] 25)).alloc (.cells #[.bool b, .slice an n cn, .slice ad d cd] 25)).drew) (w.heap.size + 1 + 1 + 1) b an n cn ad d cd :=
  ⟨Add.trans (Add.trans (Add.trans (Add.trans (add_new _ _) (add_new _ _)) (add_new _ _)) (add_new _ _)) (add_drew _), (((Box6.cells (by simp)).mono (add_new _ _)).mono (add_new _ _)).mono (add_drew _),
    ((Box.cells (by simp)).mono (add_new _ _)).mono (add_drew _), (Box.cells (by simp)).mono (add_drew _)⟩
theorem startO3 (w : World) (b : Bool) (an : Option Addr) (n cn : Nat) (ad : Option Addr) (d cd : Nat) (b' : Bool) (an' : Option Addr) (n' cn' : Nat) (ad' : Option Addr) (d' cd' : Nat) : Add w (((((w.alloc (.cells #[.bool b, .slice an n cn, .slice ad d cd, .bool b', .slice an' n' cn', .slice ad' d' cd'] 27)).alloc (.cells #[.bool false, .slice none 0 0, .slice none 0 0, .bool false, .slice none 0 0, .slice none 0 0] 27)).alloc (.cells #[.bool b, .slice an n cn, .slice ad d cd] 25)).alloc (.cells #[.bool b', .slice an' n' cn', .slice ad' d' cd'] 25)).drew) ∧ Box6 (((((w.alloc (.cells #[.bool b, .slice an n cn, .slice ad d cd, .bool b', .slice an' n' cn', .slice ad' d' cd'] 27)).alloc (.cells #[.bool false, .slice none 0 0, .slice none 0 0, .bool false, .slice none 0 0, .slice none 0 0] 27)).alloc (.cells #[.bool b, .slice an n cn, .slice ad d cd] 25)).alloc (.cells #[.bool b', .slice an' n' cn', .slice ad' d' cd'] 25)).drew) (w.heap.size + 1) false none 0 0 none 0 0 false none 0 0 none 0 0 ∧ Box (((((w.alloc (.cells #[.bool b, .slice an n cn, .slice ad d cd, .bool b', .slice an' n' cn', .slice ad' d' cd'] 27)).alloc (.cells #[.bool false, .slice none 0 0, .slice none 0 0, .bool false, .slice none 0 0, .slice none 0 0] 27)).alloc (.cells #[.bool b, .slice an n cn, .slice ad d cd] 25)).alloc (.cells #[.bool b', .slice an' n' cn', .slice ad' d' cd'] 25)).drew) (w.heap.size + 1 + 1) b an n cn ad d cd ∧ Box (((((w.alloc (.cells #[.bool b, .slice an n cn, .slice ad d cd, .bool b', .slice an' n' cn', .slice ad' d' cd'] 27)).alloc (.cells #[.bool false, .slice none 0 0, .slice none 0 0, .bool false, .slice none 0 0, .slice none 0 0] 27)).alloc (.cells #[.bool b, .slice an n cn, .slice ad d cd] 25)).alloc (.cells #[.bool b', .slice an' n' cn', .slice ad' d' cd'] 25)).drew) (w.heap.size + 1 + 1 + 1) b' an' n' cn' ad' d' cd' :=
  ⟨Add.trans (Add.trans (Add.trans (Add.trans (add_new _ _) (add_new _ _)) (add_new _ _)) (add_new _ _)) (add_drew _), (((Box6.cells (by simp)).mono (add_new _ _)).mono (add_new _ _)).mono (add_drew _),
    ((Box.cells (by simp)).mono (add_new _ _)).mono (add_drew _), (Box.cells (by simp)).mono (add_drew _)⟩
theorem Box.flip {w : World} {g : Nat} {b an n cn ad d cd} (h : Box w g b an n cn ad d cd) (t : Bool) : Box (w.setCell ⟨g, 0, none⟩ (.bool t)) g t an n cn ad d cd := heap_setCell_same w g 0 _ 25 (.bool t) h
theorem Box.flop {w : World} {g k : Nat} {b an n cn ad d cd} (h : Box w g b an n cn ad d cd) (hk : g ≠ k) (v : Value) : Box (w.setCell ⟨k, 0, none⟩ v) g b an n cn ad d cd := (heap_setCell_other _ _ _ _ hk).trans h
theorem Box6.flop {w : World} {g k : Nat} {b : Bool} {an : Option Addr} {n cn : Nat} {ad : Option Addr} {d cd : Nat} {b' : Bool} {an' : Option Addr} {n' cn' : Nat} {ad' : Option Addr} {d' cd' : Nat} (h : Box6 w g b an n cn ad d cd b' an' n' cn' ad' d' cd') (hk : g ≠ k) (v : Value) : Box6 (w.setCell ⟨k, 0, none⟩ v) g b an n cn ad d cd b' an' n' cn' ad' d' cd' := (heap_setCell_other _ _ _ _ hk).trans h
set_option maxRecDepth 100000 in
set_option maxHeartbeats 2000000 in
theorem oppositeN (w : World) (b : Bool) (an : Option Addr) (n cn : Nat) (ad : Option Addr) (d cd : Nat) (b' : Bool) (an' : Option Addr) (n' cn' : Nat) (ad' : Option Addr) (d' cd' : Nat) : Calls Tryz.prog 36 #[.agg #[.bool b, .slice an n cn, .slice ad d cd, .bool b', .slice an' n' cn', .slice ad' d' cd']] w fun e w' => e = .returned (.agg #[.bool (!b'), .slice an' n' cn', .slice ad' d' cd', .bool (!b), .slice an n cn, .slice ad d cd]) ∧ Add w w' := by
  obtain ⟨T, hA, hR⟩ := startO w b an n cn ad d cd b' an' n' cn' ad' d' cd'
  have ha0 := hA.c0
  have ha1 := hA.c1
  have ha2 := hA.c2
  have ha3 := hA.c3
  have ha4 := hA.c4
  have ha5 := hA.c5
  go_enter Tryz.func36, Tryz.ntmps36
  go_wp2_with fail
  go_region
  · clear T hA hR ha0 ha1 ha2 ha3 ha4 ha5
    obtain ⟨T, hR, hL, hH⟩ := startO2 w b an n cn ad d cd b' an' n' cn' ad' d' cd'
    obtain ⟨W5, hW5⟩ : ∃ W5, W5 = (((((w.alloc (.cells #[.bool b, .slice an n cn, .slice ad d cd, .bool b', .slice an' n' cn', .slice ad' d' cd'] 27)).alloc (.cells #[.bool false, .slice none 0 0, .slice none 0 0, .bool false, .slice none 0 0, .slice none 0 0] 27)).alloc (.cells #[.bool b', .slice an' n' cn', .slice ad' d' cd'] 25)).alloc (.cells #[.bool b, .slice an n cn, .slice ad d cd] 25)).drew) := ⟨_, rfl⟩
    rw [← hW5] at T hR hL hH ⊢
    clear hW5
    have hl0 := hL.c0
    have hl1 := hL.c1
    have hl2 := hL.c2
    have hl3 := hL.fr 0
    have hl4 := hL.fr 1
    have hl5 := hL.fr 2
    have hh0 := hH.c0
    have hh1 := hH.c1
    have hh2 := hH.c2
    have hh3 := hH.fr 0
    have hh4 := hH.fr 1
    have hh5 := hH.fr 2
    go_wp2_with fail
    go_region
    obtain ⟨W6, hW6⟩ : ∃ W6, W6 = ((W5.setCell ⟨w.heap.size + 1 + 1, 0, none⟩ (.bool !b')).setCell ⟨w.heap.size + 1 + 1 + 1, 0, none⟩ (.bool !b)).drew := ⟨_, rfl⟩
    have T6 : Add w W6 := by rw [hW6]; exact Below.drew ((T.setCell (show w.heap.size ≤ w.heap.size + 1 + 1 by omega) _).setCell (show w.heap.size ≤ w.heap.size + 1 + 1 + 1 by omega) _)
    have hR6 : Box6 W6 (w.heap.size + 1) false none 0 0 none 0 0 false none 0 0 none 0 0 := by rw [hW6]; exact ((hR.flop (by omega) _).flop (by omega) _).mono (add_drew _)
    have hL6 : Box W6 (w.heap.size + 1 + 1) (!b') an' n' cn' ad' d' cd' := by rw [hW6]; exact ((hL.flip _).flop (by omega) _).mono (add_drew _)
    have hH6 : Box W6 (w.heap.size + 1 + 1 + 1) (!b) an n cn ad d cd := by rw [hW6]; exact ((hH.flop (by omega) _).flip _).mono (add_drew _)
    rw [← hW6]
    clear hW6 T hR hL hH hl0 hl1 hl2 hl3 hl4 hl5 hh0 hh1 hh2 hh3 hh4 hh5
    have hl0 := hL6.c0
    have hl1 := hL6.c1
    have hl2 := hL6.c2
    have hh0 := hH6.c0
    have hh1 := hH6.c1
    have hh2 := hH6.c2
    have hP := Box6.put hR6 (!b') an' n' cn' ad' d' cd' (!b) an n cn ad d cd
    have hF := put6_below (.bool (!b')) (.slice an' n' cn') (.slice ad' d' cd') (.bool (!b)) (.slice an n cn) (.slice ad d cd) T6 (show w.heap.size ≤ w.heap.size + 1 by omega)
    obtain ⟨W7, hW7⟩ : ∃ W7, W7 = put6 W6 (w.heap.size + 1) (.bool (!b')) (.slice an' n' cn') (.slice ad' d' cd') (.bool (!b)) (.slice an n cn) (.slice ad d cd) := ⟨_, rfl⟩
    rw [← hW7] at hP hF
    unfold put6 at hW7
    have HF := Lib.hid hF
    have HW := Lib.hid hW7
    have hbu := iv_build (!b') an' n' cn' ad' d' cd' (!b) an n cn ad d cd
    have hr0 := hR6.c0
    have hr1 := hR6.c1
    have hr2 := hR6.c2
    have hr3 := hR6.c3
    have hr4 := hR6.c4
    have hr5 := hR6.c5
    have hr6 := hR6.fr 0
    have hr7 := hR6.fr 1
    have hr8 := hR6.fr 2
    have hr9 := hR6.fr 3
    have hr10 := hR6.fr 4
    have hr11 := hR6.fr 5
    clear hF hW7 hR6 T6
    go_wp2_with fail
    rw [← HW.out]
    exact bodyPost_ret (v := .agg #[.bool (!b'), .slice an' n' cn', .slice ad' d' cd', .bool (!b), .slice an n cn, .slice ad d cd]) (by simp [results, Tryz.results36, go_sem, hP.c0, hP.c1, hP.c2, hP.c3, hP.c4, hP.c5]) rfl ⟨rfl, HF.out⟩
  · clear T hA hR ha0 ha1 ha2 ha3 ha4 ha5
    obtain ⟨T, hR, hH, hL⟩ := startO3 w b an n cn ad d cd b' an' n' cn' ad' d' cd'
    obtain ⟨W5, hW5⟩ : ∃ W5, W5 = (((((w.alloc (.cells #[.bool b, .slice an n cn, .slice ad d cd, .bool b', .slice an' n' cn', .slice ad' d' cd'] 27)).alloc (.cells #[.bool false, .slice none 0 0, .slice none 0 0, .bool false, .slice none 0 0, .slice none 0 0] 27)).alloc (.cells #[.bool b, .slice an n cn, .slice ad d cd] 25)).alloc (.cells #[.bool b', .slice an' n' cn', .slice ad' d' cd'] 25)).drew) := ⟨_, rfl⟩
    rw [← hW5] at T hR hL hH ⊢
    clear hW5
    have hl0 := hL.c0
    have hl1 := hL.c1
    have hl2 := hL.c2
    have hl3 := hL.fr 0
    have hl4 := hL.fr 1
    have hl5 := hL.fr 2
    have hh0 := hH.c0
    have hh1 := hH.c1
    have hh2 := hH.c2
    have hh3 := hH.fr 0
    have hh4 := hH.fr 1
    have hh5 := hH.fr 2
    go_wp2_with fail
    go_region
    obtain ⟨W6, hW6⟩ : ∃ W6, W6 = ((W5.setCell ⟨w.heap.size + 1 + 1 + 1, 0, none⟩ (.bool !b')).setCell ⟨w.heap.size + 1 + 1, 0, none⟩ (.bool !b)).drew := ⟨_, rfl⟩
    have T6 : Add w W6 := by rw [hW6]; exact Below.drew ((T.setCell (show w.heap.size ≤ w.heap.size + 1 + 1 + 1 by omega) _).setCell (show w.heap.size ≤ w.heap.size + 1 + 1 by omega) _)
    have hR6 : Box6 W6 (w.heap.size + 1) false none 0 0 none 0 0 false none 0 0 none 0 0 := by rw [hW6]; exact ((hR.flop (by omega) _).flop (by omega) _).mono (add_drew _)
    have hL6 : Box W6 (w.heap.size + 1 + 1 + 1) (!b') an' n' cn' ad' d' cd' := by rw [hW6]; exact ((hL.flip _).flop (by omega) _).mono (add_drew _)
    have hH6 : Box W6 (w.heap.size + 1 + 1) (!b) an n cn ad d cd := by rw [hW6]; exact ((hH.flop (by omega) _).flip _).mono (add_drew _)
    rw [← hW6]
    clear hW6 T hR hL hH hl0 hl1 hl2 hl3 hl4 hl5 hh0 hh1 hh2 hh3 hh4 hh5
    have hl0 := hL6.c0
    have hl1 := hL6.c1
    have hl2 := hL6.c2
    have hh0 := hH6.c0
    have hh1 := hH6.c1
    have hh2 := hH6.c2
    have hP := Box6.put hR6 (!b') an' n' cn' ad' d' cd' (!b) an n cn ad d cd
    have hF := put6_below (.bool (!b')) (.slice an' n' cn') (.slice ad' d' cd') (.bool (!b)) (.slice an n cn) (.slice ad d cd) T6 (show w.heap.size ≤ w.heap.size + 1 by omega)
    obtain ⟨W7, hW7⟩ : ∃ W7, W7 = put6 W6 (w.heap.size + 1) (.bool (!b')) (.slice an' n' cn') (.slice ad' d' cd') (.bool (!b)) (.slice an n cn) (.slice ad d cd) := ⟨_, rfl⟩
    rw [← hW7] at hP hF
    unfold put6 at hW7
    have HF := Lib.hid hF
    have HW := Lib.hid hW7
    have hbu := iv_build (!b') an' n' cn' ad' d' cd' (!b) an n cn ad d cd
    have hr0 := hR6.c0
    have hr1 := hR6.c1
    have hr2 := hR6.c2
    have hr3 := hR6.c3
    have hr4 := hR6.c4
    have hr5 := hR6.c5
    have hr6 := hR6.fr 0
    have hr7 := hR6.fr 1
    have hr8 := hR6.fr 2
    have hr9 := hR6.fr 3
    have hr10 := hR6.fr 4
    have hr11 := hR6.fr 5
    clear hF hW7 hR6 T6
    go_wp2_with fail
    rw [← HW.out]
    exact bodyPost_ret (v := .agg #[.bool (!b'), .slice an' n' cn', .slice ad' d' cd', .bool (!b), .slice an n cn, .slice ad d cd]) (by simp [results, Tryz.results36, go_sem, hP.c0, hP.c1, hP.c2, hP.c3, hP.c4, hP.c5]) rfl ⟨rfl, HF.out⟩
end Go.Proofs.YtifpfoeecnkhoaaGreatDoor

namespace Go.Proofs.YtifpfoeecnkhoaaGreatDoor
open Go.RowKit NatM Go.Proofs.YtifpfoeecnkhoaaGreatDoor.Api

set_option maxRecDepth 100000 in
set_option maxHeartbeats 2000000 in
theorem atMostN (t : Bool) {v v' : Value} {x y : Tri} {w : World} (hx : FracA w v x) (hy : FracA w v' y) (h : Hid (okF x = true ∧ okF y = true)) (ht : Hid (decide (qv x ≤ qv y) = t)) : Calls Tryz.prog 44 #[v, v'] w (BoolIs w t) := by
  have hx0 := hx
  have hy0 := hy
  obtain ⟨an, n, cn, ad, d, cd, rfl, uN, uD⟩ := hx
  obtain ⟨an', n', cn', ad', d', cd', rfl, uN', uD'⟩ := hy
  obtain ⟨T, hX, hY⟩ := start2 w x.1 an n cn ad d cd y.1 an' n' cn' ad' d' cd'
  replace hx0 := hx0.mono T
  replace hy0 := hy0.mono T
  obtain ⟨i, hi⟩ : ∃ i, cmpQ (qv x) (qv y) = i := ⟨_, rfl⟩
  have FC : Hid (cmpF x y = (i, 0)) := Lib.hid (by unfold cmpF; rw [if_pos h.out, hi])
  have di : decide (i ≤ 0) = t := by rw [← hi, ← ht.out, decide_eq_decide]; exact cmpQ_le
  clear uN uD uN' uD' hi h ht
  have hc0 := hX.c0
  have hc1 := hX.c1
  have hc2 := hX.c2
  have hd0 := hY.c0
  have hd1 := hY.c1
  have hd2 := hY.c2
  go_enter Tryz.func44, Tryz.ntmps44
  go_wp2_with fail
  refine (cmpN' (i, 0) hx0 hy0 FC).mono ?_
  rintro e w1 ⟨rfl, h1⟩
  replace T := Add.trans T h1
  clear h1 hX hY hx0 hy0 FC hc0 hc1 hc2 hd0 hd1 hd2
  go_wp2_with fail
  go_ret
  exact ⟨rfl, T⟩
/-- A call that returns the value v. -/
def RetV (w : World) (v : Value) (e : Ending) (w' : World) : Prop := e = .returned v ∧ Add w w'
set_option maxRecDepth 100000 in
set_option maxHeartbeats 2000000 in
theorem lesserN_true {v v' : Value} {x y : Tri} {w : World} (hx : FracA w v x) (hy : FracA w v' y) (h : Hid (okF x = true ∧ okF y = true)) (ht : Hid (decide (qv x ≤ qv y) = true)) : Calls Tryz.prog 39 #[v, v'] w (RetV w v) := by
  have hx0 := hx
  have hy0 := hy
  obtain ⟨an, n, cn, ad, d, cd, rfl, uN, uD⟩ := hx
  obtain ⟨an', n', cn', ad', d', cd', rfl, uN', uD'⟩ := hy
  obtain ⟨T, hX, hY, hB⟩ := start3 w x.1 an n cn ad d cd y.1 an' n' cn' ad' d' cd' false none 0 0 none 0 0
  replace hx0 := hx0.mono T
  replace hy0 := hy0.mono T
  clear uN uD uN' uD'
  have hc0 := hX.c0
  have hc1 := hX.c1
  have hc2 := hX.c2
  have hd0 := hY.c0
  have hd1 := hY.c1
  have hd2 := hY.c2
  go_enter Tryz.func39, Tryz.ntmps39
  go_wp2_with fail
  refine (atMostN true hx0 hy0 h ht).mono ?_
  rintro e w1 ⟨rfl, h1⟩
  replace hX := hX.mono h1
  replace hY := hY.mono h1
  replace hB := hB.mono h1
  replace T := Add.trans T h1
  clear h1 hx0 hy0 h ht hc0 hc1 hc2 hd0 hd1 hd2
  have hF : RetV w (.agg #[.bool x.1, .slice an n cn, .slice ad d cd]) (.returned (.agg #[.bool x.1, .slice an n cn, .slice ad d cd])) (put3 w1 (w.heap.size + 2) (.bool x.1) (.slice an n cn) (.slice ad d cd)) := ⟨rfl, put3_below (.bool x.1) (.slice an n cn) (.slice ad d cd) T (by omega)⟩
  have hc0 := hX.c0
  have hc1 := hX.c1
  have hc2 := hX.c2
  have hd0 := hY.c0
  have hd1 := hY.c1
  have hd2 := hY.c2
  have s0 := hB.c0
  have s1 := hB.c1
  have s2 := hB.c2
  have s3 := hB.fr 0
  have s4 := hB.fr 1
  have s5 := hB.fr 2
  clear hB T hX hY
  unfold put3 at hF
  have HF := Lib.hid hF
  clear hF
  go_wp2_with fail
  exact bodyPost_ret (v := .agg #[.bool x.1, .slice an n cn, .slice ad d cd]) (by simp [results, Tryz.results39, go_sem, s0, s1, s2]) rfl HF.out
set_option maxRecDepth 100000 in
set_option maxHeartbeats 2000000 in
theorem lesserN_false {v v' : Value} {x y : Tri} {w : World} (hx : FracA w v x) (hy : FracA w v' y) (h : Hid (okF x = true ∧ okF y = true)) (ht : Hid (decide (qv x ≤ qv y) = false)) : Calls Tryz.prog 39 #[v, v'] w (RetV w v') := by
  have hx0 := hx
  have hy0 := hy
  obtain ⟨an, n, cn, ad, d, cd, rfl, uN, uD⟩ := hx
  obtain ⟨an', n', cn', ad', d', cd', rfl, uN', uD'⟩ := hy
  obtain ⟨T, hX, hY, hB⟩ := start3 w x.1 an n cn ad d cd y.1 an' n' cn' ad' d' cd' false none 0 0 none 0 0
  replace hx0 := hx0.mono T
  replace hy0 := hy0.mono T
  clear uN uD uN' uD'
  have hc0 := hX.c0
  have hc1 := hX.c1
  have hc2 := hX.c2
  have hd0 := hY.c0
  have hd1 := hY.c1
  have hd2 := hY.c2
  go_enter Tryz.func39, Tryz.ntmps39
  go_wp2_with fail
  refine (atMostN false hx0 hy0 h ht).mono ?_
  rintro e w1 ⟨rfl, h1⟩
  replace hX := hX.mono h1
  replace hY := hY.mono h1
  replace hB := hB.mono h1
  replace T := Add.trans T h1
  clear h1 hx0 hy0 h ht hc0 hc1 hc2 hd0 hd1 hd2
  have hF : RetV w (.agg #[.bool y.1, .slice an' n' cn', .slice ad' d' cd']) (.returned (.agg #[.bool y.1, .slice an' n' cn', .slice ad' d' cd'])) (put3 w1 (w.heap.size + 2) (.bool y.1) (.slice an' n' cn') (.slice ad' d' cd')) := ⟨rfl, put3_below (.bool y.1) (.slice an' n' cn') (.slice ad' d' cd') T (by omega)⟩
  have hc0 := hX.c0
  have hc1 := hX.c1
  have hc2 := hX.c2
  have hd0 := hY.c0
  have hd1 := hY.c1
  have hd2 := hY.c2
  have s0 := hB.c0
  have s1 := hB.c1
  have s2 := hB.c2
  have s3 := hB.fr 0
  have s4 := hB.fr 1
  have s5 := hB.fr 2
  clear hB T hX hY
  unfold put3 at hF
  have HF := Lib.hid hF
  clear hF
  go_wp2_with fail
  exact bodyPost_ret (v := .agg #[.bool y.1, .slice an' n' cn', .slice ad' d' cd']) (by simp [results, Tryz.results39, go_sem, s0, s1, s2]) rfl HF.out
theorem lesser_pick {v v' : Value} {x y : Tri} {w : World} (hx : FracA w v x) (hy : FracA w v' y) (h : Hid (okF x = true ∧ okF y = true)) : ∃ u, (∀ w', Add w w' → Calls Tryz.prog 39 #[v, v'] w' (RetV w' u)) ∧ ((u = v ∧ qv x ≤ qv y) ∨ (u = v' ∧ ¬ qv x ≤ qv y)) := by
  by_cases c : qv x ≤ qv y
  · exact ⟨v, fun w' a => lesserN_true (hx.mono a) (hy.mono a) h (Lib.hid (decide_eq_true c)), .inl ⟨rfl, c⟩⟩
  · exact ⟨v', fun w' a => lesserN_false (hx.mono a) (hy.mono a) h (Lib.hid (decide_eq_false c)), .inr ⟨rfl, c⟩⟩
set_option maxRecDepth 100000 in
set_option maxHeartbeats 2000000 in
theorem greaterN_true {v v' : Value} {x y : Tri} {w : World} (hx : FracA w v x) (hy : FracA w v' y) (h : Hid (okF x = true ∧ okF y = true)) (ht : Hid (decide (qv x ≤ qv y) = true)) : Calls Tryz.prog 40 #[v, v'] w (RetV w v') := by
  have hx0 := hx
  have hy0 := hy
  obtain ⟨an, n, cn, ad, d, cd, rfl, uN, uD⟩ := hx
  obtain ⟨an', n', cn', ad', d', cd', rfl, uN', uD'⟩ := hy
  obtain ⟨T, hX, hY, hB⟩ := start3 w x.1 an n cn ad d cd y.1 an' n' cn' ad' d' cd' false none 0 0 none 0 0
  replace hx0 := hx0.mono T
  replace hy0 := hy0.mono T
  clear uN uD uN' uD'
  have hc0 := hX.c0
  have hc1 := hX.c1
  have hc2 := hX.c2
  have hd0 := hY.c0
  have hd1 := hY.c1
  have hd2 := hY.c2
  go_enter Tryz.func40, Tryz.ntmps40
  go_wp2_with fail
  refine (atMostN true hx0 hy0 h ht).mono ?_
  rintro e w1 ⟨rfl, h1⟩
  replace hX := hX.mono h1
  replace hY := hY.mono h1
  replace hB := hB.mono h1
  replace T := Add.trans T h1
  clear h1 hx0 hy0 h ht hc0 hc1 hc2 hd0 hd1 hd2
  have hF : RetV w (.agg #[.bool y.1, .slice an' n' cn', .slice ad' d' cd']) (.returned (.agg #[.bool y.1, .slice an' n' cn', .slice ad' d' cd'])) (put3 w1 (w.heap.size + 2) (.bool y.1) (.slice an' n' cn') (.slice ad' d' cd')) := ⟨rfl, put3_below (.bool y.1) (.slice an' n' cn') (.slice ad' d' cd') T (by omega)⟩
  have hc0 := hX.c0
  have hc1 := hX.c1
  have hc2 := hX.c2
  have hd0 := hY.c0
  have hd1 := hY.c1
  have hd2 := hY.c2
  have s0 := hB.c0
  have s1 := hB.c1
  have s2 := hB.c2
  have s3 := hB.fr 0
  have s4 := hB.fr 1
  have s5 := hB.fr 2
  clear hB T hX hY
  unfold put3 at hF
  have HF := Lib.hid hF
  clear hF
  go_wp2_with fail
  exact bodyPost_ret (v := .agg #[.bool y.1, .slice an' n' cn', .slice ad' d' cd']) (by simp [results, Tryz.results40, go_sem, s0, s1, s2]) rfl HF.out
set_option maxRecDepth 100000 in
set_option maxHeartbeats 2000000 in
theorem greaterN_false {v v' : Value} {x y : Tri} {w : World} (hx : FracA w v x) (hy : FracA w v' y) (h : Hid (okF x = true ∧ okF y = true)) (ht : Hid (decide (qv x ≤ qv y) = false)) : Calls Tryz.prog 40 #[v, v'] w (RetV w v) := by
  have hx0 := hx
  have hy0 := hy
  obtain ⟨an, n, cn, ad, d, cd, rfl, uN, uD⟩ := hx
  obtain ⟨an', n', cn', ad', d', cd', rfl, uN', uD'⟩ := hy
  obtain ⟨T, hX, hY, hB⟩ := start3 w x.1 an n cn ad d cd y.1 an' n' cn' ad' d' cd' false none 0 0 none 0 0
  replace hx0 := hx0.mono T
  replace hy0 := hy0.mono T
  clear uN uD uN' uD'
  have hc0 := hX.c0
  have hc1 := hX.c1
  have hc2 := hX.c2
  have hd0 := hY.c0
  have hd1 := hY.c1
  have hd2 := hY.c2
  go_enter Tryz.func40, Tryz.ntmps40
  go_wp2_with fail
  refine (atMostN false hx0 hy0 h ht).mono ?_
  rintro e w1 ⟨rfl, h1⟩
  replace hX := hX.mono h1
  replace hY := hY.mono h1
  replace hB := hB.mono h1
  replace T := Add.trans T h1
  clear h1 hx0 hy0 h ht hc0 hc1 hc2 hd0 hd1 hd2
  have hF : RetV w (.agg #[.bool x.1, .slice an n cn, .slice ad d cd]) (.returned (.agg #[.bool x.1, .slice an n cn, .slice ad d cd])) (put3 w1 (w.heap.size + 2) (.bool x.1) (.slice an n cn) (.slice ad d cd)) := ⟨rfl, put3_below (.bool x.1) (.slice an n cn) (.slice ad d cd) T (by omega)⟩
  have hc0 := hX.c0
  have hc1 := hX.c1
  have hc2 := hX.c2
  have hd0 := hY.c0
  have hd1 := hY.c1
  have hd2 := hY.c2
  have s0 := hB.c0
  have s1 := hB.c1
  have s2 := hB.c2
  have s3 := hB.fr 0
  have s4 := hB.fr 1
  have s5 := hB.fr 2
  clear hB T hX hY
  unfold put3 at hF
  have HF := Lib.hid hF
  clear hF
  go_wp2_with fail
  exact bodyPost_ret (v := .agg #[.bool x.1, .slice an n cn, .slice ad d cd]) (by simp [results, Tryz.results40, go_sem, s0, s1, s2]) rfl HF.out
theorem greater_pick {v v' : Value} {x y : Tri} {w : World} (hx : FracA w v x) (hy : FracA w v' y) (h : Hid (okF x = true ∧ okF y = true)) : ∃ u, (∀ w', Add w w' → Calls Tryz.prog 40 #[v, v'] w' (RetV w' u)) ∧ ((u = v' ∧ qv x ≤ qv y) ∨ (u = v ∧ ¬ qv x ≤ qv y)) := by
  by_cases c : qv x ≤ qv y
  · exact ⟨v', fun w' a => greaterN_true (hx.mono a) (hy.mono a) h (Lib.hid (decide_eq_true c)), .inl ⟨rfl, c⟩⟩
  · exact ⟨v, fun w' a => greaterN_false (hx.mono a) (hy.mono a) h (Lib.hid (decide_eq_false c)), .inr ⟨rfl, c⟩⟩
theorem startI1 (w : World) (b : Bool) (an : Option Addr) (n cn : Nat) (ad : Option Addr) (d cd : Nat) (b' : Bool) (an' : Option Addr) (n' cn' : Nat) (ad' : Option Addr) (d' cd' : Nat) (b2 : Bool) (an2 : Option Addr) (n2 cn2 : Nat) (ad2 : Option Addr) (d2 cd2 : Nat) :
    Add w ((w.alloc (.cells #[.bool b, .slice an n cn, .slice ad d cd, .bool b', .slice an' n' cn', .slice ad' d' cd'] 27)).alloc (.cells #[.bool b2, .slice an2 n2 cn2, .slice ad2 d2 cd2] 25)) ∧
    Box6 ((w.alloc (.cells #[.bool b, .slice an n cn, .slice ad d cd, .bool b', .slice an' n' cn', .slice ad' d' cd'] 27)).alloc (.cells #[.bool b2, .slice an2 n2 cn2, .slice ad2 d2 cd2] 25)) w.heap.size b an n cn ad d cd b' an' n' cn' ad' d' cd' ∧
    Box ((w.alloc (.cells #[.bool b, .slice an n cn, .slice ad d cd, .bool b', .slice an' n' cn', .slice ad' d' cd'] 27)).alloc (.cells #[.bool b2, .slice an2 n2 cn2, .slice ad2 d2 cd2] 25)) (w.heap.size + 1) b2 an2 n2 cn2 ad2 d2 cd2 :=
  ⟨Add.trans (add_new _ _) (add_new _ _), (box6_new ..).mono (add_new _ _), Box.cells (by simp)⟩
set_option maxRecDepth 100000 in
set_option maxHeartbeats 2000000 in
theorem holdsN (t : Bool) {v v' : Value} {a : Iv} {x : Tri} {w : World} (ha : IvA w v a) (hx : FracA w v' x) (h : Hid (okF a.1 = true ∧ okF a.2 = true ∧ okF x = true)) (ht : Hid (decide (qv a.1 ≤ qv x ∧ qv x ≤ qv a.2) = t)) : Calls Tryz.prog 53 #[v, v'] w (BoolIs w t) := by
  have hx0 := hx
  obtain ⟨an, n, cn, ad, d, cd, an', n', cn', ad', d', cd', rfl, uN, uD, uN', uD'⟩ := ha
  have hl1 : FracA w (.agg #[.bool a.1.1, .slice an n cn, .slice ad d cd]) a.1 := ⟨_, _, _, _, _, _, rfl, uN, uD⟩
  have hh1 : FracA w (.agg #[.bool a.2.1, .slice an' n' cn', .slice ad' d' cd']) a.2 := ⟨_, _, _, _, _, _, rfl, uN', uD'⟩
  obtain ⟨an2, n2, cn2, ad2, d2, cd2, rfl, uN2, uD2⟩ := hx
  obtain ⟨T, hA, hX⟩ := startI1 w a.1.1 an n cn ad d cd a.2.1 an' n' cn' ad' d' cd' x.1 an2 n2 cn2 ad2 d2 cd2
  replace hx0 := hx0.mono T
  replace hl1 := hl1.mono T
  replace hh1 := hh1.mono T
  obtain ⟨t1, ht1⟩ : ∃ t, decide (qv a.1 ≤ qv x) = t := ⟨_, rfl⟩
  have F1 : Hid (okF a.1 = true ∧ okF x = true) := Lib.hid ⟨h.out.1, h.out.2.2⟩
  have F2 : Hid (okF x = true ∧ okF a.2 = true) := Lib.hid ⟨h.out.2.2, h.out.2.1⟩
  have G1 := Lib.hid ht1
  clear uN uD uN' uD' uN2 uD2 h
  have ha0 := hA.c0
  have ha1 := hA.c1
  have ha2 := hA.c2
  have ha3 := hA.c3
  have ha4 := hA.c4
  have ha5 := hA.c5
  have hc0 := hX.c0
  have hc1 := hX.c1
  have hc2 := hX.c2
  cases t1 with
  | false =>
    have e : t = false := by
      rw [← ht.out, decide_eq_false_iff_not]
      exact fun g => (decide_eq_false_iff_not.1 ht1) g.1
    subst e
    clear ht1 ht F2
    go_enter Tryz.func53, Tryz.ntmps53
    go_wp2_with fail
    refine (atMostN false hl1 hx0 F1 G1).mono ?_
    rintro e w1 ⟨rfl, h1⟩
    replace T := Add.trans T h1
    clear h1 hA hX hl1 hh1 hx0 F1 G1 ha0 ha1 ha2 ha3 ha4 ha5 hc0 hc1 hc2
    go_wp2_with fail
    go_ret
    exact ⟨rfl, T⟩
  | true =>
    have G2 : Hid (decide (qv x ≤ qv a.2) = t) := Lib.hid (by
      rw [← ht.out, decide_eq_decide]
      exact ⟨fun g => ⟨decide_eq_true_eq.mp ht1, g⟩, fun g => g.2⟩)
    clear ht1 ht
    go_enter Tryz.func53, Tryz.ntmps53
    go_wp2_with fail
    refine (atMostN true hl1 hx0 F1 G1).mono ?_
    rintro e w1 ⟨rfl, h1⟩
    replace hA := hA.mono h1
    replace hX := hX.mono h1
    replace hh1 := hh1.mono h1
    replace hx0 := hx0.mono h1
    replace T := Add.trans T h1
    clear h1 hl1 F1 G1 ha0 ha1 ha2 ha3 ha4 ha5 hc0 hc1 hc2
    have ha0 := hA.c0
    have ha1 := hA.c1
    have ha2 := hA.c2
    have ha3 := hA.c3
    have ha4 := hA.c4
    have ha5 := hA.c5
    have hc0 := hX.c0
    have hc1 := hX.c1
    have hc2 := hX.c2
    go_wp2_with fail
    refine (atMostN t hx0 hh1 F2 G2).mono ?_
    rintro e w2 ⟨rfl, h2⟩
    replace T := Add.trans T h2
    clear h2 hA hX hh1 hx0 F2 G2 ha0 ha1 ha2 ha3 ha4 ha5 hc0 hc1 hc2
    go_wp2_with fail
    go_ret
    exact ⟨rfl, T⟩
end Go.Proofs.YtifpfoeecnkhoaaGreatDoor

namespace Go.Proofs.YtifpfoeecnkhoaaGreatDoor
open Go.RowKit NatM Go.Proofs.YtifpfoeecnkhoaaGreatDoor.Api

def zI : Iv := ((false, 0, 0), (false, 0, 0))
/-- Two ends, or the first error. -/
def pairF (p q : Tri × Nat) : Iv × Nat := if p.2 = 0 then (if q.2 = 0 then ((p.1, q.1), 0) else (zI, q.2)) else (zI, p.2)
def addI (a b : Iv) : Iv × Nat := if okI a = true ∧ okI b = true then pairF (addF a.1 b.1) (addF a.2 b.2) else (zI, 1)
def subI (a b : Iv) : Iv × Nat := if okI a = true ∧ okI b = true then pairF (subF a.1 b.2) (subF a.2 b.1) else (zI, 1)
def negI (a : Iv) : Iv := (negF a.2, negF a.1)
def mn (p q : Rat) : Rat := if p ≤ q then p else q
def mx (p q : Rat) : Rat := if p ≤ q then q else p
def lo2 (c p q : Rat) : Rat := mn (c * p) (c * q)
def hi2 (c p q : Rat) : Rat := mx (c * p) (c * q)
def lo4 (a b : Iv) : Rat := mn (lo2 (qv a.1) (qv b.1) (qv b.2)) (lo2 (qv a.2) (qv b.1) (qv b.2))
def hi4 (a b : Iv) : Rat := mx (hi2 (qv a.1) (qv b.1) (qv b.2)) (hi2 (qv a.2) (qv b.1) (qv b.2))
def mulI (a b : Iv) : Iv × Nat := if okI a = true ∧ okI b = true then ((can (lo4 a b), can (hi4 a b)), 0) else (zI, 1)
def scaI (x : Tri) (a : Iv) : Iv × Nat := if okF x = true ∧ okI a = true then ((can (lo2 (qv x) (qv a.1) (qv a.2)), can (hi2 (qv x) (qv a.1) (qv a.2))), 0) else (zI, 1)
def meetI (a b : Iv) : Iv × Bool := if okI a = true ∧ okI b = true ∧ mx (qv a.1) (qv b.1) ≤ mn (qv a.2) (qv b.2) then ((can (mx (qv a.1) (qv b.1)), can (mn (qv a.2) (qv b.2))), true) else (zI, false)
def widI (a : Iv) : Tri × Nat := if okI a = true then subF a.2 a.1 else ((false, 0, 0), 1)
def outI (a : Iv) (z : Int) : Iv × Nat := if okI a = true then pairF (roundF a.1 z a.1.1) (roundF a.2 z (!a.2.1)) else (zI, 1)
def ptI (x : Tri) : Iv × Nat := if okF x = true then ((can (qv x), can (qv x)), 0) else (zI, 1)
def inI (a : Iv) (x : Tri) : Bool := okI a && okF x && decide (qv a.1 ≤ qv x ∧ qv x ≤ qv a.2)
def subsI (a b : Iv) : Bool := okI a && okI b && decide (qv b.1 ≤ qv a.1 ∧ qv a.2 ≤ qv b.2)

theorem okI_iff {a : Iv} : okI a = true ↔ okF a.1 = true ∧ okF a.2 = true ∧ qv a.1 ≤ qv a.2 := by
  unfold okI; simp [Bool.and_eq_true, and_assoc]
theorem okF_neg (x : Tri) : okF (negF x) = okF x := rfl
theorem qv_neg (x : Tri) : qv (negF x) = -qv x := frac_not ..
theorem okI_neg (a : Iv) : okI (negI a) = okI a := by
  unfold okI negI
  rw [okF_neg, okF_neg, qv_neg, qv_neg, Bool.and_comm (okF a.2)]
  congr 1
  rw [decide_eq_decide]
  exact Rat.neg_le_neg_iff
theorem addI_neg (a b : Iv) : addI a (negI b) = subI a b := by
  unfold addI subI; rw [okI_neg]; rfl
theorem qv_sign {x : Tri} (h : x.2.2 ≠ 0) : (x.1 = true → qv x ≤ 0) ∧ (x.1 = false → 0 ≤ qv x) := by
  obtain ⟨b, N, D⟩ := x
  have e : (0 : Rat) = frac false 0 D := (frac_zero _ _).symm
  constructor
  · rintro rfl
    apply Rat.not_lt.1
    unfold qv
    rw [e, frac_lt h h]
    simp only [sgq, if_true]
    have := Int.mul_nonneg (Int.natCast_nonneg N) (Int.natCast_nonneg D)
    simp only [Bool.false_eq_true, if_false, Int.natCast_zero, Int.zero_mul, Int.neg_mul]
    omega
  · rintro rfl
    apply Rat.not_lt.1
    unfold qv
    rw [e, frac_lt h h]
    have := Int.mul_nonneg (Int.natCast_nonneg N) (Int.natCast_nonneg D)
    simp only [sgq, Bool.false_eq_true, if_false, Int.natCast_zero, Int.zero_mul]
    omega
theorem mn_le (p q : Rat) : mn p q ≤ p ∧ mn p q ≤ q := by unfold mn; grind
theorem le_mx (p q : Rat) : p ≤ mx p q ∧ q ≤ mx p q := by unfold mx; grind
theorem le_mn {p q r : Rat} (h1 : r ≤ p) (h2 : r ≤ q) : r ≤ mn p q := by unfold mn; grind
theorem mx_le {p q r : Rat} (h1 : p ≤ r) (h2 : q ≤ r) : mx p q ≤ r := by unfold mx; grind
theorem mn_or (p q : Rat) : mn p q = p ∨ mn p q = q := by unfold mn; grind
theorem mx_or (p q : Rat) : mx p q = p ∨ mx p q = q := by unfold mx; grind
theorem neg_mul_le {a b c : Rat} (ha : a ≤ b) (hc : c ≤ 0) : c * b ≤ c * a := by
  have h := Rat.mul_le_mul_of_nonneg_left (c := -c) ha (by grind)
  grind
/-- The two products of scaled, in their order. -/
theorem scaled_is {x : Tri} {a : Iv} (hx : okF x = true) (ha : qv a.1 ≤ qv a.2) (t : Bool) (ht : x.1 = t) :
    (if t then (can (qv x * qv a.2), can (qv x * qv a.1)) else (can (qv x * qv a.1), can (qv x * qv a.2))) = (can (lo2 (qv x) (qv a.1) (qv a.2)), can (hi2 (qv x) (qv a.1) (qv a.2))) := by
  have hs := qv_sign (okF_iff.1 hx).1
  unfold lo2 hi2 mn mx
  cases t with
  | true =>
    have := neg_mul_le ha (hs.1 ht)
    simp only [if_true]
    split
    · have e : qv x * qv a.1 = qv x * qv a.2 := by grind
      rw [e]
    · rfl
  | false =>
    have := Rat.mul_le_mul_of_nonneg_left ha (hs.2 ht)
    simp only [Bool.false_eq_true, if_false, if_pos this]
theorem lin_in {c p q t : Rat} (h1 : p ≤ t) (h2 : t ≤ q) : lo2 c p q ≤ c * t ∧ c * t ≤ hi2 c p q := by
  have m := mn_le (c * p) (c * q)
  have n := le_mx (c * p) (c * q)
  unfold lo2 hi2
  by_cases hc : 0 ≤ c
  · have := Rat.mul_le_mul_of_nonneg_left h1 hc
    have := Rat.mul_le_mul_of_nonneg_left h2 hc
    grind
  · have hc' : c ≤ 0 := by grind
    have := neg_mul_le h1 hc'
    have := neg_mul_le h2 hc'
    grind
theorem lo4_le (a b : Iv) : lo4 a b ≤ qv a.1 * qv b.1 ∧ lo4 a b ≤ qv a.1 * qv b.2 ∧ lo4 a b ≤ qv a.2 * qv b.1 ∧ lo4 a b ≤ qv a.2 * qv b.2 := by
  have h := mn_le (lo2 (qv a.1) (qv b.1) (qv b.2)) (lo2 (qv a.2) (qv b.1) (qv b.2))
  have h1 := mn_le (qv a.1 * qv b.1) (qv a.1 * qv b.2)
  have h2 := mn_le (qv a.2 * qv b.1) (qv a.2 * qv b.2)
  unfold lo4; unfold lo2 at h ⊢; grind
theorem le_hi4 (a b : Iv) : qv a.1 * qv b.1 ≤ hi4 a b ∧ qv a.1 * qv b.2 ≤ hi4 a b ∧ qv a.2 * qv b.1 ≤ hi4 a b ∧ qv a.2 * qv b.2 ≤ hi4 a b := by
  have h := le_mx (hi2 (qv a.1) (qv b.1) (qv b.2)) (hi2 (qv a.2) (qv b.1) (qv b.2))
  have h1 := le_mx (qv a.1 * qv b.1) (qv a.1 * qv b.2)
  have h2 := le_mx (qv a.2 * qv b.1) (qv a.2 * qv b.2)
  unfold hi4; unfold hi2 at h ⊢; grind
/-- A product of numbers of two intervals. -/
theorem mul_in {a b : Iv} {p q : Rat} (h1 : qv a.1 ≤ p) (h2 : p ≤ qv a.2) (h3 : qv b.1 ≤ q) (h4 : q ≤ qv b.2) : lo4 a b ≤ p * q ∧ p * q ≤ hi4 a b := by
  have e := lin_in (c := p) h3 h4
  have e1 := lin_in (c := qv b.1) h1 h2
  have e2 := lin_in (c := qv b.2) h1 h2
  have l := lo4_le a b
  have u := le_hi4 a b
  have f1 : lo4 a b ≤ p * qv b.1 := by
    have := mn_or (qv b.1 * qv a.1) (qv b.1 * qv a.2)
    unfold lo2 at e1
    grind
  have f2 : lo4 a b ≤ p * qv b.2 := by
    have := mn_or (qv b.2 * qv a.1) (qv b.2 * qv a.2)
    unfold lo2 at e2
    grind
  have g1 : p * qv b.1 ≤ hi4 a b := by
    have := mx_or (qv b.1 * qv a.1) (qv b.1 * qv a.2)
    unfold hi2 at e1
    grind
  have g2 : p * qv b.2 ≤ hi4 a b := by
    have := mx_or (qv b.2 * qv a.1) (qv b.2 * qv a.2)
    unfold hi2 at e2
    grind
  have k1 := le_mn f1 f2
  have k2 := mx_le g1 g2
  unfold lo2 hi2 at e
  exact ⟨Rat.le_trans k1 e.1, Rat.le_trans e.2 k2⟩
theorem lo4_or (a b : Iv) : lo4 a b = qv a.1 * qv b.1 ∨ lo4 a b = qv a.1 * qv b.2 ∨ lo4 a b = qv a.2 * qv b.1 ∨ lo4 a b = qv a.2 * qv b.2 := by
  have h := mn_or (lo2 (qv a.1) (qv b.1) (qv b.2)) (lo2 (qv a.2) (qv b.1) (qv b.2))
  have h1 := mn_or (qv a.1 * qv b.1) (qv a.1 * qv b.2)
  have h2 := mn_or (qv a.2 * qv b.1) (qv a.2 * qv b.2)
  unfold lo4; unfold lo2 at h ⊢; grind
theorem hi4_or (a b : Iv) : hi4 a b = qv a.1 * qv b.1 ∨ hi4 a b = qv a.1 * qv b.2 ∨ hi4 a b = qv a.2 * qv b.1 ∨ hi4 a b = qv a.2 * qv b.2 := by
  have h := mx_or (hi2 (qv a.1) (qv b.1) (qv b.2)) (hi2 (qv a.2) (qv b.1) (qv b.2))
  have h1 := mx_or (qv a.1 * qv b.1) (qv a.1 * qv b.2)
  have h2 := mx_or (qv a.2 * qv b.1) (qv a.2 * qv b.2)
  unfold hi4; unfold hi2 at h ⊢; grind
/-- Smaller factors, smaller products. -/
theorem mul_sub {a b c : Iv} (h1 : qv a.1 ≤ qv c.1) (h2 : qv c.1 ≤ qv c.2) (h3 : qv c.2 ≤ qv a.2) (hb : qv b.1 ≤ qv b.2) : lo4 a b ≤ lo4 c b ∧ hi4 c b ≤ hi4 a b := by
  have e1 := mul_in (a := a) (b := b) h1 (Rat.le_trans h2 h3) (Rat.le_refl) hb
  have e2 := mul_in (a := a) (b := b) h1 (Rat.le_trans h2 h3) hb (Rat.le_refl)
  have e3 := mul_in (a := a) (b := b) (Rat.le_trans h1 h2) h3 (Rat.le_refl) hb
  have e4 := mul_in (a := a) (b := b) (Rat.le_trans h1 h2) h3 hb (Rat.le_refl)
  have l := lo4_or c b
  have u := hi4_or c b
  grind
/-- Sizes of both ends. -/
def SzI (k : Nat) (a : Iv) : Prop := Sz k a.1 ∧ Sz k a.2
theorem SzI.ok {k : Nat} {a : Iv} (h : SzI k a) (hk : k ≤ 128) : okI a = decide (qv a.1 ≤ qv a.2) := by
  unfold okI; rw [h.1.ok hk, h.2.ok hk]; rfl
theorem SzI.up {i k : Nat} {a : Iv} (h : SzI i a) (hk : i ≤ k) : SzI k a := ⟨h.1.up hk, h.2.up hk⟩
theorem neg_sz {k : Nat} {x : Tri} (h : Sz k x) : Sz k (negF x) := h
theorem sub_sz {i j : Nat} {x y : Tri} (hx : Sz i x) (hy : Sz j y) (h : i + j + 1 ≤ 128) : subF x y = (can (qv x - qv y), 0) ∧ Sz (i + j + 1) (can (qv x - qv y)) := by
  have g := add_sz hx (neg_sz hy) h
  rw [qv_neg, ← Rat.sub_eq_add_neg] at g
  exact g
theorem addI_sz {i j : Nat} {a b : Iv} (ha : SzI i a) (hb : SzI j b) (oa : okI a = true) (ob : okI b = true) (h : i + j + 1 ≤ 128) :
    addI a b = ((can (qv a.1 + qv b.1), can (qv a.2 + qv b.2)), 0) ∧ SzI (i + j + 1) (can (qv a.1 + qv b.1), can (qv a.2 + qv b.2)) := by
  have g1 := add_sz ha.1 hb.1 h
  have g2 := add_sz ha.2 hb.2 h
  refine ⟨?_, g1.2, g2.2⟩
  unfold addI
  rw [if_pos ⟨oa, ob⟩, g1.1, g2.1]
  rfl
theorem subI_sz {i j : Nat} {a b : Iv} (ha : SzI i a) (hb : SzI j b) (oa : okI a = true) (ob : okI b = true) (h : i + j + 1 ≤ 128) :
    subI a b = ((can (qv a.1 - qv b.2), can (qv a.2 - qv b.1)), 0) ∧ SzI (i + j + 1) (can (qv a.1 - qv b.2), can (qv a.2 - qv b.1)) := by
  have g1 := sub_sz ha.1 hb.2 h
  have g2 := sub_sz ha.2 hb.1 h
  refine ⟨?_, g1.2, g2.2⟩
  unfold subI
  rw [if_pos ⟨oa, ob⟩, g1.1, g2.1]
  rfl
theorem mulI_sz {i j : Nat} {a b : Iv} (ha : SzI i a) (hb : SzI j b) (h : i + j ≤ 128) : SzI (i + j) (can (lo4 a b), can (hi4 a b)) := by
  have g1 := (mul_sz ha.1 hb.1 h).2
  have g2 := (mul_sz ha.1 hb.2 h).2
  have g3 := (mul_sz ha.2 hb.1 h).2
  have g4 := (mul_sz ha.2 hb.2 h).2
  constructor
  · show Sz (i + j) (can (lo4 a b))
    rcases lo4_or a b with e | e | e | e <;> rw [e] <;> assumption
  · show Sz (i + j) (can (hi4 a b))
    rcases hi4_or a b with e | e | e | e <;> rw [e] <;> assumption
/-- An end of few limbs that is valid. -/
theorem ok_sz {k : Nat} {x : Tri} (h : okF x = true) (h1 : x.2.1 < pw k) (h2 : x.2.2 < pw k) : Sz k x := ⟨(okF_iff.1 h).1, h1, h2⟩
/-- The number that divides an interval in the ratio of n to 255. -/
def wiQ (a : Iv) (n : Nat) : Rat := qv a.1 + (qv a.2 - qv a.1) * frac false n 255
theorem part_in {n : Nat} (h : n ≤ 255) : 0 ≤ frac false n 255 ∧ frac false n 255 ≤ 1 := by
  have e0 : (0 : Rat) = frac false 0 255 := (frac_zero _ _).symm
  have e1 : (1 : Rat) = frac false 255 255 := by decide +kernel
  constructor
  · apply Rat.not_lt.1
    rw [e0, frac_lt (by decide) (by decide)]
    simp only [sgq, Bool.false_eq_true, if_false]; omega
  · apply Rat.not_lt.1
    rw [e1, frac_lt (by decide) (by decide)]
    simp only [sgq, Bool.false_eq_true, if_false]; omega
theorem part_mono {m n : Nat} (h : m ≤ n) : frac false m 255 ≤ frac false n 255 := by
  apply Rat.not_lt.1
  rw [frac_lt (by decide) (by decide)]
  simp only [sgq, Bool.false_eq_true, if_false]; omega
theorem wi_in {a : Iv} {n : Nat} (h : n ≤ 255) (ha : qv a.1 ≤ qv a.2) : qv a.1 ≤ wiQ a n ∧ wiQ a n ≤ qv a.2 := by
  obtain ⟨h0, h1⟩ := part_in h
  have d : 0 ≤ qv a.2 - qv a.1 := by grind
  have m1 := Rat.mul_le_mul_of_nonneg_left h0 d
  have m2 := Rat.mul_le_mul_of_nonneg_left h1 d
  unfold wiQ
  grind
theorem wi_mono {a : Iv} {m n : Nat} (h : m ≤ n) (ha : qv a.1 ≤ qv a.2) : wiQ a m ≤ wiQ a n := by
  have d : 0 ≤ qv a.2 - qv a.1 := by grind
  have m1 := Rat.mul_le_mul_of_nonneg_left (part_mono h) d
  unfold wiQ
  grind
theorem part_sz {n : Nat} (h : n ≤ 255) : makeF (n : Int) 255 = (can (frac false n 255), 0) ∧ Sz 1 (can (frac false n 255)) := by
  have g := fit_of (q := frac false n 255) (neg := false) (S := n) (E := 255) (k := 1) rfl (by decide) (by rw [show pw 1 = 4294967296 from rfl]; omega) (by decide) (by decide)
  refine ⟨?_, g.2⟩
  rw [← g.1]
  unfold makeF
  rw [if_neg (by decide)]
  have e : decide ((n : Int) < 0) = false := by simp
  rw [e]
  rfl
theorem within_sz {a : Iv} {n : Nat} (ha : SzI 12 a) (h : n ≤ 255) :
    subF a.2 a.1 = (can (qv a.2 - qv a.1), 0) ∧ makeF (n : Int) 255 = (can (frac false n 255), 0) ∧
    mulF (can (qv a.2 - qv a.1)) (can (frac false n 255)) = (can ((qv a.2 - qv a.1) * frac false n 255), 0) ∧
    addF a.1 (can ((qv a.2 - qv a.1) * frac false n 255)) = (can (wiQ a n), 0) ∧
    Sz 25 (can (qv a.2 - qv a.1)) ∧ Sz 1 (can (frac false n 255)) ∧ Sz 26 (can ((qv a.2 - qv a.1) * frac false n 255)) ∧ Sz 39 (can (wiQ a n)) := by
  obtain ⟨s1, s2⟩ := sub_sz ha.2 ha.1 (by decide)
  obtain ⟨t1, t2⟩ := part_sz h
  obtain ⟨m1, m2⟩ := mul_sz s2 t2 (by decide)
  rw [qv_can, qv_can] at m1 m2
  obtain ⟨a1, a2⟩ := add_sz ha.1 m2 (by decide)
  rw [qv_can] at a1 a2
  exact ⟨s1, t1, m1, a1, s2, t2, m2, a2⟩
end Go.Proofs.YtifpfoeecnkhoaaGreatDoor

namespace Go.Proofs.YtifpfoeecnkhoaaGreatDoor
open Go.RowKit NatM Go.Proofs.YtifpfoeecnkhoaaGreatDoor.Api

theorem iv_zero (w : World) : Sem.run Tryz.prog (Instr.build 27 #[]) w = .ok (.agg #[.bool false, .slice none 0 0, .slice none 0 0, .bool false, .slice none 0 0, .slice none 0 0]) w := by kernel_rfl
theorem ends_at0 (b : Bool) (an : Option Addr) (n cn : Nat) (ad : Option Addr) (d cd : Nat) (b' : Bool) (an' : Option Addr) (n' cn' : Nat) (ad' : Option Addr) (d' cd' : Nat) (w : World) : Sem.run Tryz.prog (Instr.index 58 (.agg #[.bool b, .slice an n cn, .slice ad d cd, .bool b', .slice an' n' cn', .slice ad' d' cd']) (.int .i64 0)) w = .ok (.agg #[.bool b, .slice an n cn, .slice ad d cd]) w := by kernel_rfl
theorem ends_at1 (b : Bool) (an : Option Addr) (n cn : Nat) (ad : Option Addr) (d cd : Nat) (b' : Bool) (an' : Option Addr) (n' cn' : Nat) (ad' : Option Addr) (d' cd' : Nat) (w : World) : Sem.run Tryz.prog (Instr.index 58 (.agg #[.bool b, .slice an n cn, .slice ad d cd, .bool b', .slice an' n' cn', .slice ad' d' cd']) (.int .i64 1)) w = .ok (.agg #[.bool b', .slice an' n' cn', .slice ad' d' cd']) w := by kernel_rfl
set_option maxRecDepth 100000 in
set_option maxHeartbeats 2000000 in
theorem validIN (t : Bool) {v : Value} {a : Iv} {w : World} (ha : IvA w v a) (h : Hid (okI a = t)) : Calls Tryz.prog 24 #[v] w (BoolIs w t) := by
  obtain ⟨an, n, cn, ad, d, cd, an', n', cn', ad', d', cd', rfl, uN, uD, uN', uD'⟩ := ha
  have ql : FracA w (.agg #[.bool a.1.1, .slice an n cn, .slice ad d cd]) a.1 := ⟨_, _, _, _, _, _, rfl, uN, uD⟩
  have qh : FracA w (.agg #[.bool a.2.1, .slice an' n' cn', .slice ad' d' cd']) a.2 := ⟨_, _, _, _, _, _, rfl, uN', uD'⟩
  obtain ⟨T, hA⟩ := laid6 w a.1.1 an n cn ad d cd a.2.1 an' n' cn' ad' d' cd'
  clear uN uD uN' uD'
  have ha0 := hA.c0
  have ha1 := hA.c1
  have ha2 := hA.c2
  have ha3 := hA.c3
  have ha4 := hA.c4
  have ha5 := hA.c5
  go_enter Tryz.func24, Tryz.ntmps24
  go_wp2_with fail
  refine (endsN _ a.1.1 an n cn ad d cd a.2.1 an' n' cn' ad' d' cd').mono ?_
  rintro e w1 ⟨rfl, h1⟩
  replace hA := hA.mono h1
  replace T := Add.trans T h1
  clear h1 ha0 ha1 ha2 ha3 ha4 ha5
  go_wp2_with fail
  go_loopw [7] (fun i wr => ∃ k : Nat, k ≤ 2 ∧ i = .int .i64 (k : Nat) ∧ Hid (1 ≤ k → okF a.1 = true) ∧ Hid (2 ≤ k → okF a.2 = true) ∧ Box6 wr w.heap.size a.1.1 an n cn ad d cd a.2.1 an' n' cn' ad' d' cd' ∧ Add w wr) (fun i _ => 2 - (intOf i).toNat)
  case atStart => exact ⟨0, by omega, rfl, Lib.hid fun h => absurd h (by omega), Lib.hid fun h => absurd h (by omega), hA, T⟩
  case round =>
    clear hA T
    obtain ⟨k, hk, rfl, h1, h2, hA, T⟩ := hrel
    have e : k = 0 ∨ k = 1 ∨ k = 2 := by omega
    rcases e with rfl | rfl | rfl
    · have ix := ends_at0 a.1.1 an n cn ad d cd a.2.1 an' n' cn' ad' d' cd'
      obtain ⟨q, hq⟩ : ∃ q, okF a.1 = q := ⟨_, rfl⟩
      have FQ := Lib.hid hq
      have qe := ql.mono T
      cases q with
      | false =>
        have e : t = false := by rw [← h.out]; unfold okI; rw [hq]; simp
        subst e
        clear hq
        go_wp2_with fail
        refine (validN false (qe.mono (add_new _ _)) FQ).mono ?_
        rintro e w5 ⟨rfl, h5⟩
        have hF : BoolIs w false (.returned (.bool false)) w5 := ⟨rfl, Add.trans T (Add.trans (add_new _ _) h5)⟩
        clear h5 FQ qe ix hA T
        go_wp2_with fail
        go_ret
        exact hF
      | true =>
        clear hq
        go_wp2_with fail
        refine (validN true (qe.mono (add_new _ _)) FQ).mono ?_
        rintro e w5 ⟨rfl, h5⟩
        have t5 := Add.trans (add_new _ _) h5
        have hA5 := hA.mono t5
        have T5 := Add.trans T t5
        clear h5 t5 qe ix hA T
        go_wp2_with fail
        go_roundw
        case rel => exact ⟨1, by omega, rfl, Lib.hid fun _ => FQ.out, Lib.hid fun h => absurd h (by omega), hA5, T5⟩
        case measure => simp [intOf]
    · have ix := ends_at1 a.1.1 an n cn ad d cd a.2.1 an' n' cn' ad' d' cd'
      obtain ⟨q, hq⟩ : ∃ q, okF a.2 = q := ⟨_, rfl⟩
      have FQ := Lib.hid hq
      have qe := qh.mono T
      cases q with
      | false =>
        have e : t = false := by rw [← h.out]; unfold okI; rw [hq]; simp
        subst e
        clear hq
        go_wp2_with fail
        refine (validN false (qe.mono (add_new _ _)) FQ).mono ?_
        rintro e w5 ⟨rfl, h5⟩
        have hF : BoolIs w false (.returned (.bool false)) w5 := ⟨rfl, Add.trans T (Add.trans (add_new _ _) h5)⟩
        clear h5 FQ qe ix hA T
        go_wp2_with fail
        go_ret
        exact hF
      | true =>
        clear hq
        go_wp2_with fail
        refine (validN true (qe.mono (add_new _ _)) FQ).mono ?_
        rintro e w5 ⟨rfl, h5⟩
        have t5 := Add.trans (add_new _ _) h5
        have hA5 := hA.mono t5
        have T5 := Add.trans T t5
        clear h5 t5 qe ix hA T
        go_wp2_with fail
        go_roundw
        case rel => exact ⟨2, by omega, rfl, Lib.hid fun _ => h1.out (by omega), Lib.hid fun _ => FQ.out, hA5, T5⟩
        case measure => simp [intOf]
    · have o1 := h1.out (by omega)
      have o2 := h2.out (by omega)
      have FO : Hid (okF a.1 = true ∧ okF a.2 = true) := Lib.hid ⟨o1, o2⟩
      have FT : Hid (decide (qv a.1 ≤ qv a.2) = t) := Lib.hid (by rw [← h.out]; unfold okI; rw [o1, o2]; rfl)
      have q1 := ql.mono T
      have q2 := qh.mono T
      clear o1 o2 h1 h2 h
      have ha0 := hA.c0
      have ha1 := hA.c1
      have ha2 := hA.c2
      have ha3 := hA.c3
      have ha4 := hA.c4
      have ha5 := hA.c5
      go_wp2_with fail
      refine (atMostN t q1 q2 FO FT).mono ?_
      rintro e w5 ⟨rfl, h5⟩
      have hF : BoolIs w t (.returned (.bool t)) w5 := ⟨rfl, Add.trans T h5⟩
      clear h5 q1 q2 FO FT hA T
      go_wp2_with fail
      go_ret
      exact hF
theorem startB (w : World) (b : Bool) (an : Option Addr) (n cn : Nat) (ad : Option Addr) (d cd : Nat) (b' : Bool) (an' : Option Addr) (n' cn' : Nat) (ad' : Option Addr) (d' cd' : Nat) : Add w (((w.alloc (.cells #[.bool b, .slice an n cn, .slice ad d cd] 25)).alloc (.cells #[.bool b', .slice an' n' cn', .slice ad' d' cd'] 25)).alloc (.cells #[.bool false, .slice none 0 0, .slice none 0 0, .bool false, .slice none 0 0, .slice none 0 0] 27)) ∧ Box (((w.alloc (.cells #[.bool b, .slice an n cn, .slice ad d cd] 25)).alloc (.cells #[.bool b', .slice an' n' cn', .slice ad' d' cd'] 25)).alloc (.cells #[.bool false, .slice none 0 0, .slice none 0 0, .bool false, .slice none 0 0, .slice none 0 0] 27)) w.heap.size b an n cn ad d cd ∧ Box (((w.alloc (.cells #[.bool b, .slice an n cn, .slice ad d cd] 25)).alloc (.cells #[.bool b', .slice an' n' cn', .slice ad' d' cd'] 25)).alloc (.cells #[.bool false, .slice none 0 0, .slice none 0 0, .bool false, .slice none 0 0, .slice none 0 0] 27)) (w.heap.size + 1) b' an' n' cn' ad' d' cd' ∧ Box6 (((w.alloc (.cells #[.bool b, .slice an n cn, .slice ad d cd] 25)).alloc (.cells #[.bool b', .slice an' n' cn', .slice ad' d' cd'] 25)).alloc (.cells #[.bool false, .slice none 0 0, .slice none 0 0, .bool false, .slice none 0 0, .slice none 0 0] 27)) (w.heap.size + 2) false none 0 0 none 0 0 false none 0 0 none 0 0 :=
  ⟨Add.trans (Add.trans (add_new _ _) (add_new _ _)) (add_new _ _), ((box_new ..).mono (add_new _ _)).mono (add_new _ _), (Box.cells (by simp)).mono (add_new _ _), Box6.cells (by simp)⟩
theorem Nv.put3 {w : World} {v : Value} {N g : Nat} {b an n cn ad d cd} (h : Nv w v N) (hB : Box w g b an n cn ad d cd) (u0 u1 u2 : Value) : Nv (Go.Proofs.YtifpfoeecnkhoaaGreatDoor.put3 w g u0 u1 u2) v N := by
  obtain ⟨zs, h1, h2⟩ := h; exact ⟨zs, h1.put hB u0 u1 u2, h2⟩
theorem FracA.put3 {w : World} {v : Value} {x : Tri} {g : Nat} {b an n cn ad d cd} (h : FracA w v x) (hB : Box w g b an n cn ad d cd) (u0 u1 u2 : Value) : FracA (Go.Proofs.YtifpfoeecnkhoaaGreatDoor.put3 w g u0 u1 u2) v x := by
  obtain ⟨a1, l1, k1, a2, l2, k2, h1, h2, h3⟩ := h; exact ⟨a1, l1, k1, a2, l2, k2, h1, Nv.put3 h2 hB u0 u1 u2, Nv.put3 h3 hB u0 u1 u2⟩
theorem Tab.put3 {w : World} {g : Nat} {b an n cn ad d cd} (h : Tab w) (hB : Box w g b an n cn ad d cd) (u0 u1 u2 : Value) : Tab (Go.Proofs.YtifpfoeecnkhoaaGreatDoor.put3 w g u0 u1 u2) := by
  refine ⟨by unfold Go.Proofs.YtifpfoeecnkhoaaGreatDoor.put3; simpa [World.setCell] using h.1, fun j hj => ?_⟩
  have hk : 0 ≠ g := by
    rintro rfl
    exact hB.not_int _ _ _ (h.2 j hj)
  rw [cell_other (fun k hk => put3_other u0 u1 u2 hk) _ hk]
  exact h.2 j hj
set_option maxRecDepth 100000 in
set_option maxHeartbeats 2000000 in
theorem betweenN {v v' : Value} {x y : Tri} {w : World} (hx : FracA w v x) (hy : FracA w v' y) (hT : Tab w) (h : Hid (okF x = true ∧ okF y = true)) : Calls Tryz.prog 45 #[v, v'] w (RetI w (can (qv x), can (qv y))) := by
  have hx0 := hx
  have hy0 := hy
  obtain ⟨an, n, cn, ad, d, cd, rfl, uN, uD⟩ := hx
  obtain ⟨an', n', cn', ad', d', cd', rfl, uN', uD'⟩ := hy
  obtain ⟨T, hX, hY, hB⟩ := startB w x.1 an n cn ad d cd y.1 an' n' cn' ad' d' cd'
  replace hx0 := hx0.mono T
  replace hy0 := hy0.mono T
  replace hT := hT.mono T
  obtain ⟨⟨s1, N1, D1⟩, e1⟩ : ∃ t, can (qv x) = t := ⟨_, rfl⟩
  obtain ⟨⟨s2, N2, D2⟩, e2⟩ : ∃ t, can (qv y) = t := ⟨_, rfl⟩
  have F1 : Hid (redF x = ((s1, N1, D1), 0)) := Lib.hid (by rw [redF_ok h.out.1, e1])
  have F2 : Hid (redF y = ((s2, N2, D2), 0)) := Lib.hid (by rw [redF_ok h.out.2, e2])
  rw [e1, e2]
  clear uN uD uN' uD' h e1 e2
  have hc0 := hX.c0
  have hc1 := hX.c1
  have hc2 := hX.c2
  go_enter Tryz.func45, Tryz.ntmps45
  go_wp2_with fail
  refine ((reduceN' _ hx0 hT F1).mono fun _ _ g => g.ok).mono ?_
  rintro e w1 ⟨a1, n1, k1, e1, d1, l1, rfl, x1, y1, h1⟩
  replace hX := hX.mono h1
  replace hY := hY.mono h1
  replace hB := hB.mono h1
  replace hT := hT.mono h1
  replace hy0 := hy0.mono h1
  replace T := Add.trans T h1
  clear h1 hc0 hc1 hc2 hx0 F1
  have s0 := hX.c0
  have s1' := hX.c1
  have s2' := hX.c2
  have s3 := hX.fr 0
  have s4 := hX.fr 1
  have s5 := hX.fr 2
  replace hY := Box.other2 hY (show w.heap.size + 1 ≠ w.heap.size by omega) (.bool s1) (.slice a1 n1 k1) (.slice e1 d1 l1)
  replace hB := Box6.putBox hB (show w.heap.size + 2 ≠ w.heap.size by omega) (.bool s1) (.slice a1 n1 k1) (.slice e1 d1 l1)
  replace hT := Tab.put3 hT hX (.bool s1) (.slice a1 n1 k1) (.slice e1 d1 l1)
  replace hy0 := FracA.put3 hy0 hX (.bool s1) (.slice a1 n1 k1) (.slice e1 d1 l1)
  replace x1 := x1.put hX (.bool s1) (.slice a1 n1 k1) (.slice e1 d1 l1)
  replace y1 := y1.put hX (.bool s1) (.slice a1 n1 k1) (.slice e1 d1 l1)
  replace T := put3_below (.bool s1) (.slice a1 n1 k1) (.slice e1 d1 l1) T (Nat.le_refl _)
  replace hX := hX.put s1 a1 n1 k1 e1 d1 l1
  unfold put3 at hX hY hB hT hy0 x1 y1 T
  have hd0 := hY.c0
  have hd1 := hY.c1
  have hd2 := hY.c2
  go_wp2_with fail
  refine ((reduceN' _ hy0 hT F2).mono fun _ _ g => g.ok).mono ?_
  rintro e w2 ⟨a2, n2, k2, e2, d2, l2, rfl, x2, y2, h2⟩
  replace hX := hX.mono h2
  replace hY := hY.mono h2
  replace hB := hB.mono h2
  replace x1 := x1.mono h2
  replace y1 := y1.mono h2
  replace T := Add.trans T h2
  clear h2 hd0 hd1 hd2 hy0 F2 hT s0 s1' s2' s3 s4 s5
  have s0 := hY.c0
  have s1' := hY.c1
  have s2' := hY.c2
  have s3 := hY.fr 0
  have s4 := hY.fr 1
  have s5 := hY.fr 2
  replace hX := Box.other2 hX (show w.heap.size ≠ w.heap.size + 1 by omega) (.bool s2) (.slice a2 n2 k2) (.slice e2 d2 l2)
  replace hB := Box6.putBox hB (show w.heap.size + 2 ≠ w.heap.size + 1 by omega) (.bool s2) (.slice a2 n2 k2) (.slice e2 d2 l2)
  replace x1 := x1.put hY (.bool s2) (.slice a2 n2 k2) (.slice e2 d2 l2)
  replace y1 := y1.put hY (.bool s2) (.slice a2 n2 k2) (.slice e2 d2 l2)
  replace x2 := x2.put hY (.bool s2) (.slice a2 n2 k2) (.slice e2 d2 l2)
  replace y2 := y2.put hY (.bool s2) (.slice a2 n2 k2) (.slice e2 d2 l2)
  replace T := put3_below (.bool s2) (.slice a2 n2 k2) (.slice e2 d2 l2) T (show w.heap.size ≤ w.heap.size + 1 by omega)
  replace hY := hY.put s2 a2 n2 k2 e2 d2 l2
  unfold put3 at hX hY hB x1 y1 x2 y2 T
  have hc0 := hX.c0
  have hc1 := hX.c1
  have hc2 := hX.c2
  have hd0 := hY.c0
  have hd1 := hY.c1
  have hd2 := hY.c2
  have hP := Box6.put hB s1 a1 n1 k1 e1 d1 l1 s2 a2 n2 k2 e2 d2 l2
  have hF := retI_put (w := w) (x := ((s1, N1, D1), (s2, N2, D2))) hB (⟨a1, n1, k1, e1, d1, l1, a2, n2, k2, e2, d2, l2, rfl, x1, y1, x2, y2⟩) T (show w.heap.size ≤ w.heap.size + 2 by omega)
  obtain ⟨W7, hW7⟩ : ∃ W7, W7 = put6 ((((w2.setCell ⟨w.heap.size + 1, 0, none⟩ (.bool s2)).setCell ⟨w.heap.size + 1, 1, none⟩ (.slice a2 n2 k2)).setCell ⟨w.heap.size + 1, 2, none⟩ (.slice e2 d2 l2))) (w.heap.size + 2) (.bool s1) (.slice a1 n1 k1) (.slice e1 d1 l1) (.bool s2) (.slice a2 n2 k2) (.slice e2 d2 l2) := ⟨_, rfl⟩
  rw [← hW7] at hP hF
  unfold put6 at hW7
  have HF := Lib.hid hF
  have HW := Lib.hid hW7
  have hbu := iv_build s1 a1 n1 k1 e1 d1 l1 s2 a2 n2 k2 e2 d2 l2
  have hr0 := hB.c0
  have hr1 := hB.c1
  have hr2 := hB.c2
  have hr3 := hB.c3
  have hr4 := hB.c4
  have hr5 := hB.c5
  have hr6 := hB.fr 0
  have hr7 := hB.fr 1
  have hr8 := hB.fr 2
  have hr9 := hB.fr 3
  have hr10 := hB.fr 4
  have hr11 := hB.fr 5
  clear hF hW7 hB T x1 y1 x2 y2 hX hY
  go_wp2_with fail
  rw [← HW.out]
  exact bodyPost_ret (v := .agg #[.bool s1, .slice a1 n1 k1, .slice e1 d1 l1, .bool s2, .slice a2 n2 k2, .slice e2 d2 l2]) (by simp [results, Tryz.results45, go_sem, hP.c0, hP.c1, hP.c2, hP.c3, hP.c4, hP.c5]) rfl HF.out
end Go.Proofs.YtifpfoeecnkhoaaGreatDoor

namespace Go.Proofs.YtifpfoeecnkhoaaGreatDoor
open Go.RowKit NatM Go.Proofs.YtifpfoeecnkhoaaGreatDoor.Api

theorem startII (w : World) (a : Iv) (an : Option Addr) (n cn : Nat) (ad : Option Addr) (d cd : Nat) (an' : Option Addr) (n' cn' : Nat) (ad' : Option Addr) (d' cd' : Nat) (b : Iv) (an2 : Option Addr) (n2 cn2 : Nat) (ad2 : Option Addr) (d2 cd2 : Nat) (an3 : Option Addr) (n3 cn3 : Nat) (ad3 : Option Addr) (d3 cd3 : Nat) : Add w (((w.alloc (.cells #[.bool a.1.1, .slice an n cn, .slice ad d cd, .bool a.2.1, .slice an' n' cn', .slice ad' d' cd'] 27)).alloc (.cells #[.bool b.1.1, .slice an2 n2 cn2, .slice ad2 d2 cd2, .bool b.2.1, .slice an3 n3 cn3, .slice ad3 d3 cd3] 27)).alloc (.cells #[.bool false, .slice none 0 0, .slice none 0 0, .bool false, .slice none 0 0, .slice none 0 0] 27)) ∧ Box6 (((w.alloc (.cells #[.bool a.1.1, .slice an n cn, .slice ad d cd, .bool a.2.1, .slice an' n' cn', .slice ad' d' cd'] 27)).alloc (.cells #[.bool b.1.1, .slice an2 n2 cn2, .slice ad2 d2 cd2, .bool b.2.1, .slice an3 n3 cn3, .slice ad3 d3 cd3] 27)).alloc (.cells #[.bool false, .slice none 0 0, .slice none 0 0, .bool false, .slice none 0 0, .slice none 0 0] 27)) w.heap.size a.1.1 an n cn ad d cd a.2.1 an' n' cn' ad' d' cd' ∧ Box6 (((w.alloc (.cells #[.bool a.1.1, .slice an n cn, .slice ad d cd, .bool a.2.1, .slice an' n' cn', .slice ad' d' cd'] 27)).alloc (.cells #[.bool b.1.1, .slice an2 n2 cn2, .slice ad2 d2 cd2, .bool b.2.1, .slice an3 n3 cn3, .slice ad3 d3 cd3] 27)).alloc (.cells #[.bool false, .slice none 0 0, .slice none 0 0, .bool false, .slice none 0 0, .slice none 0 0] 27)) (w.heap.size + 1) b.1.1 an2 n2 cn2 ad2 d2 cd2 b.2.1 an3 n3 cn3 ad3 d3 cd3 ∧ Box6 (((w.alloc (.cells #[.bool a.1.1, .slice an n cn, .slice ad d cd, .bool a.2.1, .slice an' n' cn', .slice ad' d' cd'] 27)).alloc (.cells #[.bool b.1.1, .slice an2 n2 cn2, .slice ad2 d2 cd2, .bool b.2.1, .slice an3 n3 cn3, .slice ad3 d3 cd3] 27)).alloc (.cells #[.bool false, .slice none 0 0, .slice none 0 0, .bool false, .slice none 0 0, .slice none 0 0] 27)) (w.heap.size + 2) false none 0 0 none 0 0 false none 0 0 none 0 0 :=
  ⟨Add.trans (Add.trans (add_new _ _) (add_new _ _)) (add_new _ _), ((box6_new ..).mono (add_new _ _)).mono (add_new _ _), (Box6.cells (by simp)).mono (add_new _ _), Box6.cells (by simp)⟩
theorem startI (w : World) (a : Iv) (an : Option Addr) (n cn : Nat) (ad : Option Addr) (d cd : Nat) (an' : Option Addr) (n' cn' : Nat) (ad' : Option Addr) (d' cd' : Nat) : Add w ((w.alloc (.cells #[.bool a.1.1, .slice an n cn, .slice ad d cd, .bool a.2.1, .slice an' n' cn', .slice ad' d' cd'] 27)).alloc (.cells #[.bool false, .slice none 0 0, .slice none 0 0, .bool false, .slice none 0 0, .slice none 0 0] 27)) ∧ Box6 ((w.alloc (.cells #[.bool a.1.1, .slice an n cn, .slice ad d cd, .bool a.2.1, .slice an' n' cn', .slice ad' d' cd'] 27)).alloc (.cells #[.bool false, .slice none 0 0, .slice none 0 0, .bool false, .slice none 0 0, .slice none 0 0] 27)) w.heap.size a.1.1 an n cn ad d cd a.2.1 an' n' cn' ad' d' cd' ∧ Box6 ((w.alloc (.cells #[.bool a.1.1, .slice an n cn, .slice ad d cd, .bool a.2.1, .slice an' n' cn', .slice ad' d' cd'] 27)).alloc (.cells #[.bool false, .slice none 0 0, .slice none 0 0, .bool false, .slice none 0 0, .slice none 0 0] 27)) (w.heap.size + 1) false none 0 0 none 0 0 false none 0 0 none 0 0 :=
  ⟨Add.trans (add_new _ _) (add_new _ _), (box6_new ..).mono (add_new _ _), Box6.cells (by simp)⟩
set_option maxRecDepth 100000 in
set_option maxHeartbeats 2000000 in
theorem addIN_refuses {v v' : Value} {a b : Iv} {w : World} (ha : IvA w v a) (hb : IvA w v' b) (h : Hid (okI a = false ∨ okI b = false)) : Calls Tryz.prog 8 #[v, v'] w (ResI w (zI, 1)) := by
  have ha0 := ha
  have hb0 := hb
  obtain ⟨an, n, cn, ad, d, cd, an', n', cn', ad', d', cd', rfl, u1, u2, u3, u4⟩ := ha
  obtain ⟨an2, n2, cn2, ad2, d2, cd2, an3, n3, cn3, ad3, d3, cd3, rfl, q1, q2, q3, q4⟩ := hb
  have al : FracA w (.agg #[.bool a.1.1, .slice an n cn, .slice ad d cd]) a.1 := ⟨_, _, _, _, _, _, rfl, u1, u2⟩
  have ah : FracA w (.agg #[.bool a.2.1, .slice an' n' cn', .slice ad' d' cd']) a.2 := ⟨_, _, _, _, _, _, rfl, u3, u4⟩
  have bl : FracA w (.agg #[.bool b.1.1, .slice an2 n2 cn2, .slice ad2 d2 cd2]) b.1 := ⟨_, _, _, _, _, _, rfl, q1, q2⟩
  have bh : FracA w (.agg #[.bool b.2.1, .slice an3 n3 cn3, .slice ad3 d3 cd3]) b.2 := ⟨_, _, _, _, _, _, rfl, q3, q4⟩
  obtain ⟨T, hA, hB, hR⟩ := startII w a an n cn ad d cd an' n' cn' ad' d' cd' b an2 n2 cn2 ad2 d2 cd2 an3 n3 cn3 ad3 d3 cd3
  clear u1 u2 u3 u4 q1 q2 q3 q4
  replace ha0 := ha0.mono T
  replace hb0 := hb0.mono T
  replace al := al.mono T
  replace ah := ah.mono T
  replace bl := bl.mono T
  replace bh := bh.mono T
  clear al ah bl bh
  have ca0 := hA.c0
  have ca1 := hA.c1
  have ca2 := hA.c2
  have ca3 := hA.c3
  have ca4 := hA.c4
  have ca5 := hA.c5
  go_enter Tryz.func8, Tryz.ntmps8
  by_cases c : okI a = false
  · have FA := Lib.hid c
    clear c h
    go_wp2_with fail
    refine (validIN false ha0 FA).mono ?_
    rintro e w1 ⟨rfl, h1⟩
    replace hR := hR.mono h1
    replace T := Add.trans T h1
    clear h1 ha0 hb0 FA hA hB ca0 ca1 ca2 ca3 ca4 ca5
    have hP := Box6.put hR false none 0 0 none 0 0 false none 0 0 none 0 0
    have hF := resI_put (w := w) (p := (zI, 1)) hR (ivT_zero _) T (show w.heap.size ≤ w.heap.size + 2 by omega)
    obtain ⟨W7, hW7⟩ : ∃ W7, W7 = put6 (w1) (w.heap.size + 2) (.bool false) (.slice none 0 0) (.slice none 0 0) (.bool false) (.slice none 0 0) (.slice none 0 0) := ⟨_, rfl⟩
    rw [← hW7] at hP hF
    unfold put6 at hW7
    have HF := Lib.hid hF
    have HW := Lib.hid hW7
    have hbz := iv_zero
    have hr0 := hR.c0
    have hr1 := hR.c1
    have hr2 := hR.c2
    have hr3 := hR.c3
    have hr4 := hR.c4
    have hr5 := hR.c5
    have hr6 := hR.fr 0
    have hr7 := hR.fr 1
    have hr8 := hR.fr 2
    have hr9 := hR.fr 3
    have hr10 := hR.fr 4
    have hr11 := hR.fr 5
    clear hF hW7 hR T 
    go_wp2_with fail
    rw [← HW.out]
    exact bodyPost_ret (v := .tuple #[.agg #[.bool false, .slice none 0 0, .slice none 0 0, .bool false, .slice none 0 0, .slice none 0 0], .int .i64 1]) (by simp [results, Tryz.results8, go_sem, hP.c0, hP.c1, hP.c2, hP.c3, hP.c4, hP.c5]) rfl HF.out
  · have c2 : okI b = false := h.out.resolve_left c
    have c1 : okI a = true := by simpa using c
    have FA := Lib.hid c1
    have FB := Lib.hid c2
    clear c c1 c2 h
    go_wp2_with fail
    refine (validIN true ha0 FA).mono ?_
    rintro e w1 ⟨rfl, h1⟩
    replace hR := hR.mono h1
    replace hB := hB.mono h1
    replace hb0 := hb0.mono h1
    replace T := Add.trans T h1
    clear h1 ha0 FA hA ca0 ca1 ca2 ca3 ca4 ca5
    have cb0 := hB.c0
    have cb1 := hB.c1
    have cb2 := hB.c2
    have cb3 := hB.c3
    have cb4 := hB.c4
    have cb5 := hB.c5
    go_wp2_with fail
    refine (validIN false hb0 FB).mono ?_
    rintro e w2 ⟨rfl, h2⟩
    replace hR := hR.mono h2
    replace T := Add.trans T h2
    clear h2 hb0 FB hB cb0 cb1 cb2 cb3 cb4 cb5
    have hP := Box6.put hR false none 0 0 none 0 0 false none 0 0 none 0 0
    have hF := resI_put (w := w) (p := (zI, 1)) hR (ivT_zero _) T (show w.heap.size ≤ w.heap.size + 2 by omega)
    obtain ⟨W7, hW7⟩ : ∃ W7, W7 = put6 (w2) (w.heap.size + 2) (.bool false) (.slice none 0 0) (.slice none 0 0) (.bool false) (.slice none 0 0) (.slice none 0 0) := ⟨_, rfl⟩
    rw [← hW7] at hP hF
    unfold put6 at hW7
    have HF := Lib.hid hF
    have HW := Lib.hid hW7
    have hbz := iv_zero
    have hr0 := hR.c0
    have hr1 := hR.c1
    have hr2 := hR.c2
    have hr3 := hR.c3
    have hr4 := hR.c4
    have hr5 := hR.c5
    have hr6 := hR.fr 0
    have hr7 := hR.fr 1
    have hr8 := hR.fr 2
    have hr9 := hR.fr 3
    have hr10 := hR.fr 4
    have hr11 := hR.fr 5
    clear hF hW7 hR T 
    go_wp2_with fail
    rw [← HW.out]
    exact bodyPost_ret (v := .tuple #[.agg #[.bool false, .slice none 0 0, .slice none 0 0, .bool false, .slice none 0 0, .slice none 0 0], .int .i64 1]) (by simp [results, Tryz.results8, go_sem, hP.c0, hP.c1, hP.c2, hP.c3, hP.c4, hP.c5]) rfl HF.out
set_option maxRecDepth 100000 in
set_option maxHeartbeats 2000000 in
theorem addIN_works (s1 : Bool) (N1 D1 : Nat) (s2 : Bool) (N2 D2 : Nat) {v v' : Value} {a b : Iv} {w : World} (ha : IvA w v a) (hb : IvA w v' b) (hT : Tab w) (h : Hid (okI a = true ∧ okI b = true)) (g1 : Hid (addF a.1 b.1 = ((s1, N1, D1), 0))) (g2 : Hid (addF a.2 b.2 = ((s2, N2, D2), 0))) : Calls Tryz.prog 8 #[v, v'] w (ResI w (((s1, N1, D1), (s2, N2, D2)), 0)) := by
  have ha0 := ha
  have hb0 := hb
  obtain ⟨an, n, cn, ad, d, cd, an', n', cn', ad', d', cd', rfl, u1, u2, u3, u4⟩ := ha
  obtain ⟨an2, n2, cn2, ad2, d2, cd2, an3, n3, cn3, ad3, d3, cd3, rfl, q1, q2, q3, q4⟩ := hb
  have al : FracA w (.agg #[.bool a.1.1, .slice an n cn, .slice ad d cd]) a.1 := ⟨_, _, _, _, _, _, rfl, u1, u2⟩
  have ah : FracA w (.agg #[.bool a.2.1, .slice an' n' cn', .slice ad' d' cd']) a.2 := ⟨_, _, _, _, _, _, rfl, u3, u4⟩
  have bl : FracA w (.agg #[.bool b.1.1, .slice an2 n2 cn2, .slice ad2 d2 cd2]) b.1 := ⟨_, _, _, _, _, _, rfl, q1, q2⟩
  have bh : FracA w (.agg #[.bool b.2.1, .slice an3 n3 cn3, .slice ad3 d3 cd3]) b.2 := ⟨_, _, _, _, _, _, rfl, q3, q4⟩
  obtain ⟨T, hA, hB, hR⟩ := startII w a an n cn ad d cd an' n' cn' ad' d' cd' b an2 n2 cn2 ad2 d2 cd2 an3 n3 cn3 ad3 d3 cd3
  clear u1 u2 u3 u4 q1 q2 q3 q4
  replace ha0 := ha0.mono T
  replace hb0 := hb0.mono T
  replace al := al.mono T
  replace ah := ah.mono T
  replace bl := bl.mono T
  replace bh := bh.mono T
  replace hT := hT.mono T
  have FA := Lib.hid h.out.1
  have FB := Lib.hid h.out.2
  clear h
  have ca0 := hA.c0
  have ca1 := hA.c1
  have ca2 := hA.c2
  have ca3 := hA.c3
  have ca4 := hA.c4
  have ca5 := hA.c5
  go_enter Tryz.func8, Tryz.ntmps8
  go_wp2_with fail
  refine (validIN true ha0 FA).mono ?_
  rintro e w1 ⟨rfl, h1⟩
  replace hT := hT.mono h1
  replace hA := hA.mono h1
  replace hB := hB.mono h1
  replace hR := hR.mono h1
  replace al := al.mono h1
  replace ah := ah.mono h1
  replace bl := bl.mono h1
  replace bh := bh.mono h1
  replace hb0 := hb0.mono h1
  replace T := Add.trans T h1
  clear h1 ha0 FA ca0 ca1 ca2 ca3 ca4 ca5
  have cb0 := hB.c0
  have cb1 := hB.c1
  have cb2 := hB.c2
  have cb3 := hB.c3
  have cb4 := hB.c4
  have cb5 := hB.c5
  go_wp2_with fail
  refine (validIN true hb0 FB).mono ?_
  rintro e w2 ⟨rfl, h2⟩
  replace hT := hT.mono h2
  replace hA := hA.mono h2
  replace hB := hB.mono h2
  replace hR := hR.mono h2
  replace al := al.mono h2
  replace ah := ah.mono h2
  replace bl := bl.mono h2
  replace bh := bh.mono h2
  replace T := Add.trans T h2
  clear h2 hb0 FB cb0 cb1 cb2 cb3 cb4 cb5
  have ca0 := hA.c0
  have ca1 := hA.c1
  have ca2 := hA.c2
  have cb0 := hB.c0
  have cb1 := hB.c1
  have cb2 := hB.c2
  go_wp2_with fail
  refine ((addN' _ al bl hT g1).mono fun _ _ g => g.ok).mono ?_
  rintro e w3 ⟨a1, n1, k1, e1, d1, l1, rfl, x1, y1, h3⟩
  replace hT := hT.mono h3
  replace hA := hA.mono h3
  replace hB := hB.mono h3
  replace hR := hR.mono h3
  replace ah := ah.mono h3
  replace bh := bh.mono h3
  replace T := Add.trans T h3
  clear h3 al bl g1 ca0 ca1 ca2 cb0 cb1 cb2
  obtain ⟨tt, hV⟩ := laid_var w3 s1 a1 n1 k1 e1 d1 l1
  replace hT := hT.mono tt
  replace hA := hA.mono tt
  replace hB := hB.mono tt
  replace hR := hR.mono tt
  replace ah := ah.mono tt
  replace bh := bh.mono tt
  replace x1 := x1.mono tt
  replace y1 := y1.mono tt
  replace T := Add.trans T tt
  clear tt
  have ca3 := hA.c3
  have ca4 := hA.c4
  have ca5 := hA.c5
  have cb3 := hB.c3
  have cb4 := hB.c4
  have cb5 := hB.c5
  go_wp2_with fail
  refine ((addN' _ ah bh hT g2).mono fun _ _ g => g.ok).mono ?_
  rintro e w4 ⟨a2, m2, k2, e2, d4, l2, rfl, x2, y2, h4⟩
  replace hR := hR.mono h4
  replace hV := hV.mono h4
  replace x1 := x1.mono h4
  replace y1 := y1.mono h4
  replace T := Add.trans T h4
  clear h4 ah bh g2 hT hA hB ca3 ca4 ca5 cb3 cb4 cb5
  obtain ⟨tt, hU⟩ := laid_var w4 s2 a2 m2 k2 e2 d4 l2
  replace hR := hR.mono tt
  replace hV := hV.mono tt
  replace x1 := x1.mono tt
  replace y1 := y1.mono tt
  replace x2 := x2.mono tt
  replace y2 := y2.mono tt
  replace T := Add.trans T tt
  clear tt
  have hv0 := hV.c0
  have hv1 := hV.c1
  have hv2 := hV.c2
  have hu0 := hU.c0
  have hu1 := hU.c1
  have hu2 := hU.c2
  have hP := Box6.put hR s1 a1 n1 k1 e1 d1 l1 s2 a2 m2 k2 e2 d4 l2
  have hF := resI_put (w := w) (p := (((s1, N1, D1), (s2, N2, D2)), 0)) hR (⟨a1, n1, k1, e1, d1, l1, a2, m2, k2, e2, d4, l2, rfl, x1, y1, x2, y2⟩) T (show w.heap.size ≤ w.heap.size + 2 by omega)
  obtain ⟨W7, hW7⟩ : ∃ W7, W7 = put6 (w4.alloc (.cells #[.bool s2, .slice a2 m2 k2, .slice e2 d4 l2] 25)) (w.heap.size + 2) (.bool s1) (.slice a1 n1 k1) (.slice e1 d1 l1) (.bool s2) (.slice a2 m2 k2) (.slice e2 d4 l2) := ⟨_, rfl⟩
  rw [← hW7] at hP hF
  unfold put6 at hW7
  have HF := Lib.hid hF
  have HW := Lib.hid hW7
  have hbu := iv_build s1 a1 n1 k1 e1 d1 l1 s2 a2 m2 k2 e2 d4 l2
  have hr0 := hR.c0
  have hr1 := hR.c1
  have hr2 := hR.c2
  have hr3 := hR.c3
  have hr4 := hR.c4
  have hr5 := hR.c5
  have hr6 := hR.fr 0
  have hr7 := hR.fr 1
  have hr8 := hR.fr 2
  have hr9 := hR.fr 3
  have hr10 := hR.fr 4
  have hr11 := hR.fr 5
  clear hF hW7 hR T x1 y1 x2 y2 hV hU
  go_wp2_with fail
  rw [← HW.out]
  exact bodyPost_ret (v := .tuple #[.agg #[.bool s1, .slice a1 n1 k1, .slice e1 d1 l1, .bool s2, .slice a2 m2 k2, .slice e2 d4 l2], .int .i64 0]) (by simp [results, Tryz.results8, go_sem, hP.c0, hP.c1, hP.c2, hP.c3, hP.c4, hP.c5]) rfl HF.out
theorem startW (w : World) (a : Iv) (an : Option Addr) (n cn : Nat) (ad : Option Addr) (d cd : Nat) (an' : Option Addr) (n' cn' : Nat) (ad' : Option Addr) (d' cd' : Nat) : Add w ((w.alloc (.cells #[.bool a.1.1, .slice an n cn, .slice ad d cd, .bool a.2.1, .slice an' n' cn', .slice ad' d' cd'] 27)).alloc (.cells #[.bool false, .slice none 0 0, .slice none 0 0] 25)) ∧ Box6 ((w.alloc (.cells #[.bool a.1.1, .slice an n cn, .slice ad d cd, .bool a.2.1, .slice an' n' cn', .slice ad' d' cd'] 27)).alloc (.cells #[.bool false, .slice none 0 0, .slice none 0 0] 25)) w.heap.size a.1.1 an n cn ad d cd a.2.1 an' n' cn' ad' d' cd' ∧ Box ((w.alloc (.cells #[.bool a.1.1, .slice an n cn, .slice ad d cd, .bool a.2.1, .slice an' n' cn', .slice ad' d' cd'] 27)).alloc (.cells #[.bool false, .slice none 0 0, .slice none 0 0] 25)) (w.heap.size + 1) false none 0 0 none 0 0 :=
  ⟨Add.trans (add_new _ _) (add_new _ _), (box6_new ..).mono (add_new _ _), Box.cells (by simp)⟩
set_option maxRecDepth 100000 in
set_option maxHeartbeats 2000000 in
theorem widIN_refuses {v : Value} {a : Iv} {w : World} (ha : IvA w v a) (h : Hid (okI a = false)) : Calls Tryz.prog 19 #[v] w (ResF w ((false, 0, 0), 1)) := by
  have ha0 := ha
  obtain ⟨an, n, cn, ad, d, cd, an', n', cn', ad', d', cd', rfl, u1, u2, u3, u4⟩ := ha
  have al : FracA w (.agg #[.bool a.1.1, .slice an n cn, .slice ad d cd]) a.1 := ⟨_, _, _, _, _, _, rfl, u1, u2⟩
  have ah : FracA w (.agg #[.bool a.2.1, .slice an' n' cn', .slice ad' d' cd']) a.2 := ⟨_, _, _, _, _, _, rfl, u3, u4⟩
  obtain ⟨T, hA, hB⟩ := startW w a an n cn ad d cd an' n' cn' ad' d' cd'
  clear u1 u2 u3 u4
  replace ha0 := ha0.mono T
  replace al := al.mono T
  replace ah := ah.mono T
  clear al ah
  have ca0 := hA.c0
  have ca1 := hA.c1
  have ca2 := hA.c2
  have ca3 := hA.c3
  have ca4 := hA.c4
  have ca5 := hA.c5
  go_enter Tryz.func19, Tryz.ntmps19
  go_wp2_with fail
  refine (validIN false ha0 h).mono ?_
  rintro e w1 ⟨rfl, h1⟩
  replace hB := hB.mono h1
  replace T := Add.trans T h1
  clear h1 ha0 h hA ca0 ca1 ca2 ca3 ca4 ca5
  have hc0 := hB.c0
  have hc1 := hB.c1
  have hc2 := hB.c2
  have hc3 := hB.fr 0
  have hc4 := hB.fr 1
  have hc5 := hB.fr 2
  have hF := resF_put (w := w) (p := ((false, 0, 0), 1)) hB (fracT_zero _) T (by omega)
  clear hB T 
  unfold put3 at hF
  have HF := Lib.hid hF
  clear hF
  go_wp2_with fail
  exact bodyPost_ret (v := .tuple #[.agg #[.bool false, .slice none 0 0, .slice none 0 0], .int .i64 1]) (by simp [results, Tryz.results19, go_sem, hc0, hc1, hc2]) rfl HF.out
set_option maxRecDepth 100000 in
set_option maxHeartbeats 2000000 in
theorem widIN_works (p : Tri × Nat) {v : Value} {a : Iv} {w : World} (ha : IvA w v a) (hT : Tab w) (h : Hid (okI a = true)) (g1 : Hid (subF a.2 a.1 = p)) : Calls Tryz.prog 19 #[v] w (ResF w p) := by
  have ha0 := ha
  obtain ⟨an, n, cn, ad, d, cd, an', n', cn', ad', d', cd', rfl, u1, u2, u3, u4⟩ := ha
  have al : FracA w (.agg #[.bool a.1.1, .slice an n cn, .slice ad d cd]) a.1 := ⟨_, _, _, _, _, _, rfl, u1, u2⟩
  have ah : FracA w (.agg #[.bool a.2.1, .slice an' n' cn', .slice ad' d' cd']) a.2 := ⟨_, _, _, _, _, _, rfl, u3, u4⟩
  obtain ⟨T, hA, hB⟩ := startW w a an n cn ad d cd an' n' cn' ad' d' cd'
  clear u1 u2 u3 u4
  replace ha0 := ha0.mono T
  replace al := al.mono T
  replace ah := ah.mono T
  replace hT := hT.mono T
  have ca0 := hA.c0
  have ca1 := hA.c1
  have ca2 := hA.c2
  have ca3 := hA.c3
  have ca4 := hA.c4
  have ca5 := hA.c5
  go_enter Tryz.func19, Tryz.ntmps19
  go_wp2_with fail
  refine (validIN true ha0 h).mono ?_
  rintro e w1 ⟨rfl, h1⟩
  replace hT := hT.mono h1
  replace hA := hA.mono h1
  replace hB := hB.mono h1
  replace al := al.mono h1
  replace ah := ah.mono h1
  replace T := Add.trans T h1
  clear h1 ha0 h ca0 ca1 ca2 ca3 ca4 ca5
  have ca0 := hA.c0
  have ca1 := hA.c1
  have ca2 := hA.c2
  have ca3 := hA.c3
  have ca4 := hA.c4
  have ca5 := hA.c5
  go_wp2_with fail
  refine (subN' p ah al hT g1).mono ?_
  rintro e w2 ⟨vr, rfl, nr, h2⟩
  replace hB := hB.mono h2
  replace T := Add.trans T h2
  clear h2 al ah hT g1 hA ca0 ca1 ca2 ca3 ca4 ca5
  obtain ⟨an2, n2, cn2, ad2, d2, cd2, rfl, m1, m2⟩ := nr
  have s0 := hB.c0
  have s1 := hB.c1
  have s2 := hB.c2
  have s3 := hB.fr 0
  have s4 := hB.fr 1
  have s5 := hB.fr 2
  have hF := resF_put (w := w) (p := p) hB ⟨an2, n2, cn2, ad2, d2, cd2, rfl, m1, m2⟩ T (by omega)
  clear hB T m1 m2
  unfold put3 at hF
  have HF := Lib.hid hF
  clear hF
  go_wp2_with fail
  exact bodyPost_ret (v := .tuple #[.agg #[.bool p.1.1, .slice an2 n2 cn2, .slice ad2 d2 cd2], .int .i64 (p.2 : Nat)]) (by simp [results, Tryz.results19, go_sem, s0, s1, s2]) rfl HF.out
set_option maxRecDepth 100000 in
set_option maxHeartbeats 2000000 in
theorem containsN (t : Bool) {v v' : Value} {a : Iv} {x : Tri} {w : World} (ha : IvA w v a) (hx : FracA w v' x) (ht : Hid (inI a x = t)) : Calls Tryz.prog 26 #[v, v'] w (BoolIs w t) := by
  have ha0 := ha
  have hx0 := hx
  obtain ⟨an, n, cn, ad, d, cd, an', n', cn', ad', d', cd', rfl, u1, u2, u3, u4⟩ := ha
  obtain ⟨an4, n4, cn4, ad4, d4, cd4, rfl, u5, u6⟩ := hx
  obtain ⟨T, hA, hX⟩ := startI1 w a.1.1 an n cn ad d cd a.2.1 an' n' cn' ad' d' cd' x.1 an4 n4 cn4 ad4 d4 cd4
  clear u1 u2 u3 u4 u5 u6
  replace ha0 := ha0.mono T
  replace hx0 := hx0.mono T
  have ca0 := hA.c0
  have ca1 := hA.c1
  have ca2 := hA.c2
  have ca3 := hA.c3
  have ca4 := hA.c4
  have ca5 := hA.c5
  go_enter Tryz.func26, Tryz.ntmps26
  by_cases c : okI a = true
  · have FA := Lib.hid c
    go_wp2_with fail
    refine (validIN true ha0 FA).mono ?_
    rintro e w1 ⟨rfl, h1⟩
    replace hA := hA.mono h1
    replace hX := hX.mono h1
    replace ha0 := ha0.mono h1
    replace hx0 := hx0.mono h1
    replace T := Add.trans T h1
    clear h1 FA ca0 ca1 ca2 ca3 ca4 ca5
    have cx0 := hX.c0
    have cx1 := hX.c1
    have cx2 := hX.c2
    by_cases c2 : okF x = true
    · have FX := Lib.hid c2
      have o3 := okI_iff.1 c
      have HH : Hid (okF a.1 = true ∧ okF a.2 = true ∧ okF x = true) := Lib.hid ⟨o3.1, o3.2.1, c2⟩
      have HT : Hid (decide (qv a.1 ≤ qv x ∧ qv x ≤ qv a.2) = t) := Lib.hid (by rw [← ht.out]; unfold inI; rw [c, c2]; rfl)
      clear c c2 o3 ht
      go_wp2_with fail
      refine (validN true hx0 FX).mono ?_
      rintro e w2 ⟨rfl, h2⟩
      replace hA := hA.mono h2
      replace hX := hX.mono h2
      replace ha0 := ha0.mono h2
      replace hx0 := hx0.mono h2
      replace T := Add.trans T h2
      clear h2 FX cx0 cx1 cx2
      have ca0 := hA.c0
      have ca1 := hA.c1
      have ca2 := hA.c2
      have ca3 := hA.c3
      have ca4 := hA.c4
      have ca5 := hA.c5
      have cx0 := hX.c0
      have cx1 := hX.c1
      have cx2 := hX.c2
      go_wp2_with fail
      refine (holdsN t ha0 hx0 HH HT).mono ?_
      rintro e w3 ⟨rfl, h3⟩
      replace T := Add.trans T h3
      clear h3 hA hX ha0 hx0 HH HT cx0 cx1 cx2 ca0 ca1 ca2 ca3 ca4 ca5
      go_wp2_with fail
      go_ret
      exact ⟨rfl, T⟩
    · have FX : Hid (okF x = false) := Lib.hid (by simpa using c2)
      have e : t = false := by rw [← ht.out]; unfold inI; rw [FX.out]; simp
      subst e
      clear c c2 ht
      go_wp2_with fail
      refine (validN false hx0 FX).mono ?_
      rintro e w2 ⟨rfl, h2⟩
      replace T := Add.trans T h2
      clear h2 FX hA hX ha0 hx0 cx0 cx1 cx2
      go_wp2_with fail
      go_ret
      exact ⟨rfl, T⟩
  · have FA : Hid (okI a = false) := Lib.hid (by simpa using c)
    have e : t = false := by rw [← ht.out]; unfold inI; rw [FA.out]; simp
    subst e
    clear c ht
    go_wp2_with fail
    refine (validIN false ha0 FA).mono ?_
    rintro e w1 ⟨rfl, h1⟩
    replace T := Add.trans T h1
    clear h1 FA hA hX ha0 hx0 ca0 ca1 ca2 ca3 ca4 ca5
    go_wp2_with fail
    go_ret
    exact ⟨rfl, T⟩
end Go.Proofs.YtifpfoeecnkhoaaGreatDoor

namespace Go.Proofs.YtifpfoeecnkhoaaGreatDoor
open Go.RowKit NatM Go.Proofs.YtifpfoeecnkhoaaGreatDoor.Api

theorem BoxE.put0 {w : World} {g : Nat} {f1 : Bool} {i1 : Option Addr} {j1 c1 : Nat} {i2 : Option Addr} {j2 c2 : Nat} {f2 : Bool} {i3 : Option Addr} {j3 c3 : Nat} {i4 : Option Addr} {j4 c4 : Nat} (h : BoxE w g f1 i1 j1 c1 i2 j2 c2 f2 i3 j3 c3 i4 j4 c4) (s : Bool) (p : Option Addr) (m k : Nat) (p2 : Option Addr) (m2 k2 : Nat) : BoxE (((w.setCell ⟨g, 0, none⟩ (.bool s)).setCell ⟨g, 1, none⟩ (.slice p m k)).setCell ⟨g, 2, none⟩ (.slice p2 m2 k2)) g s p m k p2 m2 k2 f2 i3 j3 c3 i4 j4 c4 := by
  unfold BoxE
  have h1 := heap_setCell_same w g 0 _ 58 (.bool s) h
  have h2 := heap_setCell_same _ g 1 _ 58 (.slice p m k) h1
  exact heap_setCell_same _ g 2 _ 58 (.slice p2 m2 k2) h2
theorem BoxE.put1 {w : World} {g : Nat} {f1 : Bool} {i1 : Option Addr} {j1 c1 : Nat} {i2 : Option Addr} {j2 c2 : Nat} {f2 : Bool} {i3 : Option Addr} {j3 c3 : Nat} {i4 : Option Addr} {j4 c4 : Nat} (h : BoxE w g f1 i1 j1 c1 i2 j2 c2 f2 i3 j3 c3 i4 j4 c4) (s : Bool) (p : Option Addr) (m k : Nat) (p2 : Option Addr) (m2 k2 : Nat) : BoxE (((w.setCell ⟨g, 3, none⟩ (.bool s)).setCell ⟨g, 4, none⟩ (.slice p m k)).setCell ⟨g, 5, none⟩ (.slice p2 m2 k2)) g f1 i1 j1 c1 i2 j2 c2 s p m k p2 m2 k2 := by
  unfold BoxE
  have h1 := heap_setCell_same w g 3 _ 58 (.bool s) h
  have h2 := heap_setCell_same _ g 4 _ 58 (.slice p m k) h1
  exact heap_setCell_same _ g 5 _ 58 (.slice p2 m2 k2) h2
theorem set3_other {w : World} {g k : Nat} (x y z : Nat) (u0 u1 u2 : Value) (h : k ≠ g) : (((w.setCell ⟨g, x, none⟩ u0).setCell ⟨g, y, none⟩ u1).setCell ⟨g, z, none⟩ u2).heap[k]? = w.heap[k]? := by
  rw [heap_setCell_other _ _ _ _ h, heap_setCell_other _ _ _ _ h, heap_setCell_other _ _ _ _ h]
theorem set3_below {w0 w : World} {g base : Nat} (x y z : Nat) (u0 u1 u2 : Value) (h : Below base w0 w) (hg : base ≤ g) : Below base w0 (((w.setCell ⟨g, x, none⟩ u0).setCell ⟨g, y, none⟩ u1).setCell ⟨g, z, none⟩ u2) :=
  ((h.setCell hg u0).setCell hg u1).setCell hg u2
theorem Num.set3 {w : World} {v : Value} {N g : Nat} {f1 : Bool} {i1 : Option Addr} {j1 c1 : Nat} {i2 : Option Addr} {j2 c2 : Nat} {f2 : Bool} {i3 : Option Addr} {j3 c3 : Nat} {i4 : Option Addr} {j4 c4 : Nat} (h : Num w v N) (hB : BoxE w g f1 i1 j1 c1 i2 j2 c2 f2 i3 j3 c3 i4 j4 c4) (x y z : Nat) (u0 u1 u2 : Value) : Num (((w.setCell ⟨g, x, none⟩ u0).setCell ⟨g, y, none⟩ u1).setCell ⟨g, z, none⟩ u2) v N := by
  obtain ⟨zs, ⟨ao, m, c, rfl, hl, hc, hm, hx, hr⟩, h2⟩ := h
  refine ⟨zs, ⟨ao, m, c, rfl, hl, hc, hm, hx, fun hn => ?_⟩, h2⟩
  obtain ⟨k, off, rfl, hcell⟩ := hr hn
  refine ⟨k, off, rfl, fun i hi => ?_⟩
  have hk : k ≠ g := by
    rintro rfl
    exact hB.not_int _ _ _ (hcell i hi)
  rw [cell_other (fun j hj => set3_other x y z u0 u1 u2 hj) _ hk]
  exact hcell i hi
theorem startS_true (w : World) (an4 : Option Addr) (n4 : Nat) (cn4 : Nat) (ad4 : Option Addr) (d4 : Nat) (cd4 : Nat) (a : Iv) (an : Option Addr) (n cn : Nat) (ad : Option Addr) (d cd : Nat) (an' : Option Addr) (n' cn' : Nat) (ad' : Option Addr) (d' cd' : Nat) : Add w ((((w.alloc (.cells #[.bool true, .slice an4 n4 cn4, .slice ad4 d4 cd4] 25)).alloc (.cells #[.bool a.1.1, .slice an n cn, .slice ad d cd, .bool a.2.1, .slice an' n' cn', .slice ad' d' cd'] 27)).alloc (.cells #[.bool false, .slice none 0 0, .slice none 0 0, .bool false, .slice none 0 0, .slice none 0 0] 27)).alloc (.cells #[.bool false, .slice none 0 0, .slice none 0 0, .bool false, .slice none 0 0, .slice none 0 0] 58)) ∧ Box ((((w.alloc (.cells #[.bool true, .slice an4 n4 cn4, .slice ad4 d4 cd4] 25)).alloc (.cells #[.bool a.1.1, .slice an n cn, .slice ad d cd, .bool a.2.1, .slice an' n' cn', .slice ad' d' cd'] 27)).alloc (.cells #[.bool false, .slice none 0 0, .slice none 0 0, .bool false, .slice none 0 0, .slice none 0 0] 27)).alloc (.cells #[.bool false, .slice none 0 0, .slice none 0 0, .bool false, .slice none 0 0, .slice none 0 0] 58)) w.heap.size true an4 n4 cn4 ad4 d4 cd4 ∧ Box6 ((((w.alloc (.cells #[.bool true, .slice an4 n4 cn4, .slice ad4 d4 cd4] 25)).alloc (.cells #[.bool a.1.1, .slice an n cn, .slice ad d cd, .bool a.2.1, .slice an' n' cn', .slice ad' d' cd'] 27)).alloc (.cells #[.bool false, .slice none 0 0, .slice none 0 0, .bool false, .slice none 0 0, .slice none 0 0] 27)).alloc (.cells #[.bool false, .slice none 0 0, .slice none 0 0, .bool false, .slice none 0 0, .slice none 0 0] 58)) (w.heap.size + 1) a.1.1 an n cn ad d cd a.2.1 an' n' cn' ad' d' cd' ∧ Box6 ((((w.alloc (.cells #[.bool true, .slice an4 n4 cn4, .slice ad4 d4 cd4] 25)).alloc (.cells #[.bool a.1.1, .slice an n cn, .slice ad d cd, .bool a.2.1, .slice an' n' cn', .slice ad' d' cd'] 27)).alloc (.cells #[.bool false, .slice none 0 0, .slice none 0 0, .bool false, .slice none 0 0, .slice none 0 0] 27)).alloc (.cells #[.bool false, .slice none 0 0, .slice none 0 0, .bool false, .slice none 0 0, .slice none 0 0] 58)) (w.heap.size + 2) false none 0 0 none 0 0 false none 0 0 none 0 0 ∧ BoxE ((((w.alloc (.cells #[.bool true, .slice an4 n4 cn4, .slice ad4 d4 cd4] 25)).alloc (.cells #[.bool a.1.1, .slice an n cn, .slice ad d cd, .bool a.2.1, .slice an' n' cn', .slice ad' d' cd'] 27)).alloc (.cells #[.bool false, .slice none 0 0, .slice none 0 0, .bool false, .slice none 0 0, .slice none 0 0] 27)).alloc (.cells #[.bool false, .slice none 0 0, .slice none 0 0, .bool false, .slice none 0 0, .slice none 0 0] 58)) (w.heap.size + 3) false none 0 0 none 0 0 false none 0 0 none 0 0 :=
  ⟨Add.trans (Add.trans (Add.trans (add_new _ _) (add_new _ _)) (add_new _ _)) (add_new _ _), (((box_new ..).mono (add_new _ _)).mono (add_new _ _)).mono (add_new _ _), ((Box6.cells (by simp)).mono (add_new _ _)).mono (add_new _ _), (Box6.cells (by simp)).mono (add_new _ _), BoxE.cells (by simp)⟩
theorem startS_false (w : World) (an4 : Option Addr) (n4 : Nat) (cn4 : Nat) (ad4 : Option Addr) (d4 : Nat) (cd4 : Nat) (a : Iv) (an : Option Addr) (n cn : Nat) (ad : Option Addr) (d cd : Nat) (an' : Option Addr) (n' cn' : Nat) (ad' : Option Addr) (d' cd' : Nat) : Add w ((((w.alloc (.cells #[.bool false, .slice an4 n4 cn4, .slice ad4 d4 cd4] 25)).alloc (.cells #[.bool a.1.1, .slice an n cn, .slice ad d cd, .bool a.2.1, .slice an' n' cn', .slice ad' d' cd'] 27)).alloc (.cells #[.bool false, .slice none 0 0, .slice none 0 0, .bool false, .slice none 0 0, .slice none 0 0] 27)).alloc (.cells #[.bool false, .slice none 0 0, .slice none 0 0, .bool false, .slice none 0 0, .slice none 0 0] 58)) ∧ Box ((((w.alloc (.cells #[.bool false, .slice an4 n4 cn4, .slice ad4 d4 cd4] 25)).alloc (.cells #[.bool a.1.1, .slice an n cn, .slice ad d cd, .bool a.2.1, .slice an' n' cn', .slice ad' d' cd'] 27)).alloc (.cells #[.bool false, .slice none 0 0, .slice none 0 0, .bool false, .slice none 0 0, .slice none 0 0] 27)).alloc (.cells #[.bool false, .slice none 0 0, .slice none 0 0, .bool false, .slice none 0 0, .slice none 0 0] 58)) w.heap.size false an4 n4 cn4 ad4 d4 cd4 ∧ Box6 ((((w.alloc (.cells #[.bool false, .slice an4 n4 cn4, .slice ad4 d4 cd4] 25)).alloc (.cells #[.bool a.1.1, .slice an n cn, .slice ad d cd, .bool a.2.1, .slice an' n' cn', .slice ad' d' cd'] 27)).alloc (.cells #[.bool false, .slice none 0 0, .slice none 0 0, .bool false, .slice none 0 0, .slice none 0 0] 27)).alloc (.cells #[.bool false, .slice none 0 0, .slice none 0 0, .bool false, .slice none 0 0, .slice none 0 0] 58)) (w.heap.size + 1) a.1.1 an n cn ad d cd a.2.1 an' n' cn' ad' d' cd' ∧ Box6 ((((w.alloc (.cells #[.bool false, .slice an4 n4 cn4, .slice ad4 d4 cd4] 25)).alloc (.cells #[.bool a.1.1, .slice an n cn, .slice ad d cd, .bool a.2.1, .slice an' n' cn', .slice ad' d' cd'] 27)).alloc (.cells #[.bool false, .slice none 0 0, .slice none 0 0, .bool false, .slice none 0 0, .slice none 0 0] 27)).alloc (.cells #[.bool false, .slice none 0 0, .slice none 0 0, .bool false, .slice none 0 0, .slice none 0 0] 58)) (w.heap.size + 2) false none 0 0 none 0 0 false none 0 0 none 0 0 ∧ BoxE ((((w.alloc (.cells #[.bool false, .slice an4 n4 cn4, .slice ad4 d4 cd4] 25)).alloc (.cells #[.bool a.1.1, .slice an n cn, .slice ad d cd, .bool a.2.1, .slice an' n' cn', .slice ad' d' cd'] 27)).alloc (.cells #[.bool false, .slice none 0 0, .slice none 0 0, .bool false, .slice none 0 0, .slice none 0 0] 27)).alloc (.cells #[.bool false, .slice none 0 0, .slice none 0 0, .bool false, .slice none 0 0, .slice none 0 0] 58)) (w.heap.size + 3) false none 0 0 none 0 0 false none 0 0 none 0 0 :=
  ⟨Add.trans (Add.trans (Add.trans (add_new _ _) (add_new _ _)) (add_new _ _)) (add_new _ _), (((box_new ..).mono (add_new _ _)).mono (add_new _ _)).mono (add_new _ _), ((Box6.cells (by simp)).mono (add_new _ _)).mono (add_new _ _), (Box6.cells (by simp)).mono (add_new _ _), BoxE.cells (by simp)⟩
set_option maxRecDepth 100000 in
set_option maxHeartbeats 4000000 in
theorem scaledN_true (s1 : Bool) (N1 D1 : Nat) (s2 : Bool) (N2 D2 : Nat) {v v' : Value} {N D : Nat} {a : Iv} {w : World} (hx : FracA w v (true, N, D)) (ha : IvA w v' a) (hT : Tab w) (g1 : Hid (mulF (true, N, D) a.1 = ((s1, N1, D1), 0))) (g2 : Hid (mulF (true, N, D) a.2 = ((s2, N2, D2), 0))) : Calls Tryz.prog 38 #[v, v'] w (ResI w (((s2, N2, D2), (s1, N1, D1)), 0)) := by
  have hx0 := hx
  obtain ⟨an, n, cn, ad, d, cd, an', n', cn', ad', d', cd', rfl, u1, u2, u3, u4⟩ := ha
  have al : FracA w (.agg #[.bool a.1.1, .slice an n cn, .slice ad d cd]) a.1 := ⟨_, _, _, _, _, _, rfl, u1, u2⟩
  have ah : FracA w (.agg #[.bool a.2.1, .slice an' n' cn', .slice ad' d' cd']) a.2 := ⟨_, _, _, _, _, _, rfl, u3, u4⟩
  obtain ⟨an4, n4, cn4, ad4, d4, cd4, rfl, u5, u6⟩ := hx
  obtain ⟨T, hX, hA, hR, hE⟩ := startS_true w an4 n4 cn4 ad4 d4 cd4 a an n cn ad d cd an' n' cn' ad' d' cd'
  clear u1 u2 u3 u4 u5 u6
  have ca0 := hA.c0
  have ca1 := hA.c1
  have ca2 := hA.c2
  have ca3 := hA.c3
  have ca4 := hA.c4
  have ca5 := hA.c5
  go_enter Tryz.func38, Tryz.ntmps38
  go_wp2_with fail
  refine (endsN _ a.1.1 an n cn ad d cd a.2.1 an' n' cn' ad' d' cd').mono ?_
  rintro e w1 ⟨rfl, h1⟩
  replace hX := hX.mono h1
  replace hA := hA.mono h1
  replace hR := hR.mono h1
  replace hE := hE.mono h1
  replace T := Add.trans T h1
  clear h1 ca0 ca1 ca2 ca3 ca4 ca5
  go_wp2_with fail
  go_loopw [13] (fun i wr => ∃ (k : Nat) (f1 : Bool) (i1 : Option Addr) (j1 c1 : Nat) (i2 : Option Addr) (j2 c2 : Nat) (f2 : Bool) (i3 : Option Addr) (j3 c3 : Nat) (i4 : Option Addr) (j4 c4 : Nat), k ≤ 2 ∧ i = .int .i64 (k : Nat) ∧ Hid (1 ≤ k → f1 = s1 ∧ Num wr (.slice i1 j1 c1) N1 ∧ Num wr (.slice i2 j2 c2) D1) ∧ Hid (2 ≤ k → f2 = s2 ∧ Num wr (.slice i3 j3 c3) N2 ∧ Num wr (.slice i4 j4 c4) D2) ∧ Box wr w.heap.size true an4 n4 cn4 ad4 d4 cd4 ∧ Box6 wr (w.heap.size + 1) a.1.1 an n cn ad d cd a.2.1 an' n' cn' ad' d' cd' ∧ Box6 wr (w.heap.size + 2) false none 0 0 none 0 0 false none 0 0 none 0 0 ∧ BoxE wr (w.heap.size + 3) f1 i1 j1 c1 i2 j2 c2 f2 i3 j3 c3 i4 j4 c4 ∧ Add w wr) (fun i _ => 2 - (intOf i).toNat)
  case atStart => exact ⟨0, _, _, _, _, _, _, _, _, _, _, _, _, _, _, by omega, rfl, Lib.hid fun h => absurd h (by omega), Lib.hid fun h => absurd h (by omega), hX, hA, hR, hE, T⟩
  case round =>
    clear hX hA hR hE T
    obtain ⟨k, f1, i1, j1, c1, i2, j2, c2, f2, i3, j3, c3, i4, j4, c4, hk, rfl, h1, h2, hX, hA, hR, hE, T⟩ := hrel
    have e : k = 0 ∨ k = 1 ∨ k = 2 := by omega
    rcases e with rfl | rfl | rfl
    · clear h1 h2
      have ix := ends_at0 a.1.1 an n cn ad d cd a.2.1 an' n' cn' ad' d' cd'
      have qe := al.mono T
      have qx := hx0.mono T
      have qt := hT.mono T
      obtain ⟨tt, hV⟩ := laid_var wr a.1.1 an n cn ad d cd
      replace hX := hX.mono tt
      replace hA := hA.mono tt
      replace hR := hR.mono tt
      replace hE := hE.mono tt
      replace qe := qe.mono tt
      replace qx := qx.mono tt
      replace qt := qt.mono tt
      replace T := Add.trans T tt
      clear tt
      have cv0 := hV.c0
      have cv1 := hV.c1
      have cv2 := hV.c2
      have cx0 := hX.c0
      have cx1 := hX.c1
      have cx2 := hX.c2
      clear hV
      go_wp2_with fail
      refine ((mulN' _ qx qe qt g1).mono fun _ _ g => g.ok).mono ?_
      rintro e w5 ⟨a5, n5, k5, e5, d5, l5, rfl, x5, y5, h5⟩
      replace hX := hX.mono h5
      replace hA := hA.mono h5
      replace hR := hR.mono h5
      replace hE := hE.mono h5
      replace T := Add.trans T h5
      clear h5 qx qe qt ix cv0 cv1 cv2 cx0 cx1 cx2
      obtain ⟨tt, hU⟩ := laid_var w5 s1 a5 n5 k5 e5 d5 l5
      replace hX := hX.mono tt
      replace hA := hA.mono tt
      replace hR := hR.mono tt
      replace hE := hE.mono tt
      replace x5 := x5.mono tt
      replace y5 := y5.mono tt
      replace T := Add.trans T tt
      clear tt
      have cu0 := hU.c0
      have cu1 := hU.c1
      have cu2 := hU.c2
      have ce0 := hE.c0
      have cf0 := hE.fr 0
      have ce1 := hE.c1
      have cf1 := hE.fr 1
      have ce2 := hE.c2
      have cf2 := hE.fr 2
      have x6 := x5.set3 hE 0 1 2 (.bool s1) (.slice a5 n5 k5) (.slice e5 d5 l5)
      have y6 := y5.set3 hE 0 1 2 (.bool s1) (.slice a5 n5 k5) (.slice e5 d5 l5)
      have hX6 := (set3_other 0 1 2 (.bool s1) (.slice a5 n5 k5) (.slice e5 d5 l5) (show w.heap.size ≠ w.heap.size + 3 by omega)).trans hX
      have hA6 := (set3_other 0 1 2 (.bool s1) (.slice a5 n5 k5) (.slice e5 d5 l5) (show w.heap.size + 1 ≠ w.heap.size + 3 by omega)).trans hA
      have hR6 := (set3_other 0 1 2 (.bool s1) (.slice a5 n5 k5) (.slice e5 d5 l5) (show w.heap.size + 2 ≠ w.heap.size + 3 by omega)).trans hR
      have hE6 := hE.put0 s1 a5 n5 k5 e5 d5 l5
      have T6 := set3_below 0 1 2 (.bool s1) (.slice a5 n5 k5) (.slice e5 d5 l5) T (show w.heap.size ≤ w.heap.size + 3 by omega)
      clear hU hX hA hR hE T x5 y5 
      go_wp2_with fail
      go_roundw
      case rel => exact ⟨1, _, _, _, _, _, _, _, _, _, _, _, _, _, _, by omega, rfl, Lib.hid fun _ => ⟨rfl, x6, y6⟩, Lib.hid fun h => absurd h (by omega), hX6, hA6, hR6, hE6, T6⟩
      case measure => simp [intOf]
    · obtain ⟨F1, x1, y1⟩ := h1.out (by omega)
      clear h1 h2
      have ix := ends_at1 a.1.1 an n cn ad d cd a.2.1 an' n' cn' ad' d' cd'
      have qe := ah.mono T
      have qx := hx0.mono T
      have qt := hT.mono T
      obtain ⟨tt, hV⟩ := laid_var wr a.2.1 an' n' cn' ad' d' cd'
      replace hX := hX.mono tt
      replace hA := hA.mono tt
      replace hR := hR.mono tt
      replace hE := hE.mono tt
      replace qe := qe.mono tt
      replace qx := qx.mono tt
      replace qt := qt.mono tt
      replace x1 := x1.mono tt
      replace y1 := y1.mono tt
      replace T := Add.trans T tt
      clear tt
      have cv0 := hV.c0
      have cv1 := hV.c1
      have cv2 := hV.c2
      have cx0 := hX.c0
      have cx1 := hX.c1
      have cx2 := hX.c2
      clear hV
      go_wp2_with fail
      refine ((mulN' _ qx qe qt g2).mono fun _ _ g => g.ok).mono ?_
      rintro e w5 ⟨a5, n5, k5, e5, d5, l5, rfl, x5, y5, h5⟩
      replace hX := hX.mono h5
      replace hA := hA.mono h5
      replace hR := hR.mono h5
      replace hE := hE.mono h5
      replace x1 := x1.mono h5
      replace y1 := y1.mono h5
      replace T := Add.trans T h5
      clear h5 qx qe qt ix cv0 cv1 cv2 cx0 cx1 cx2
      obtain ⟨tt, hU⟩ := laid_var w5 s2 a5 n5 k5 e5 d5 l5
      replace hX := hX.mono tt
      replace hA := hA.mono tt
      replace hR := hR.mono tt
      replace hE := hE.mono tt
      replace x1 := x1.mono tt
      replace y1 := y1.mono tt
      replace x5 := x5.mono tt
      replace y5 := y5.mono tt
      replace T := Add.trans T tt
      clear tt
      have cu0 := hU.c0
      have cu1 := hU.c1
      have cu2 := hU.c2
      have ce0 := hE.c3
      have cf0 := hE.fr 3
      have ce1 := hE.c4
      have cf1 := hE.fr 4
      have ce2 := hE.c5
      have cf2 := hE.fr 5
      have x6 := x5.set3 hE 3 4 5 (.bool s2) (.slice a5 n5 k5) (.slice e5 d5 l5)
      have y6 := y5.set3 hE 3 4 5 (.bool s2) (.slice a5 n5 k5) (.slice e5 d5 l5)
      have x7 := x1.set3 hE 3 4 5 (.bool s2) (.slice a5 n5 k5) (.slice e5 d5 l5)
      have y7 := y1.set3 hE 3 4 5 (.bool s2) (.slice a5 n5 k5) (.slice e5 d5 l5)
      have hX6 := (set3_other 3 4 5 (.bool s2) (.slice a5 n5 k5) (.slice e5 d5 l5) (show w.heap.size ≠ w.heap.size + 3 by omega)).trans hX
      have hA6 := (set3_other 3 4 5 (.bool s2) (.slice a5 n5 k5) (.slice e5 d5 l5) (show w.heap.size + 1 ≠ w.heap.size + 3 by omega)).trans hA
      have hR6 := (set3_other 3 4 5 (.bool s2) (.slice a5 n5 k5) (.slice e5 d5 l5) (show w.heap.size + 2 ≠ w.heap.size + 3 by omega)).trans hR
      have hE6 := hE.put1 s2 a5 n5 k5 e5 d5 l5
      have T6 := set3_below 3 4 5 (.bool s2) (.slice a5 n5 k5) (.slice e5 d5 l5) T (show w.heap.size ≤ w.heap.size + 3 by omega)
      clear hU hX hA hR hE T x5 y5 x1 y1
      go_wp2_with fail
      go_roundw
      case rel => exact ⟨2, _, _, _, _, _, _, _, _, _, _, _, _, _, _, by omega, rfl, Lib.hid fun _ => ⟨F1, x7, y7⟩, Lib.hid fun _ => ⟨rfl, x6, y6⟩, hX6, hA6, hR6, hE6, T6⟩
      case measure => simp [intOf]
    · obtain ⟨rfl, x1, y1⟩ := h1.out (by omega)
      obtain ⟨rfl, x2, y2⟩ := h2.out (by omega)
      clear h1 h2 al ah hx0 hT hA g1 g2
      have cx0 := hX.c0
      have cx1 := hX.c1
      have cx2 := hX.c2
      have ce0 := hE.c0
      have ce1 := hE.c1
      have ce2 := hE.c2
      have ce3 := hE.c3
      have ce4 := hE.c4
      have ce5 := hE.c5
      have hP := Box6.put hR f2 i3 j3 c3 i4 j4 c4 f1 i1 j1 c1 i2 j2 c2
      have hF := resI_put (w := w) (p := (((f2, N2, D2), (f1, N1, D1)), 0)) hR (⟨i3, j3, c3, i4, j4, c4, i1, j1, c1, i2, j2, c2, rfl, x2, y2, x1, y1⟩) T (show w.heap.size ≤ w.heap.size + 2 by omega)
      obtain ⟨W7, hW7⟩ : ∃ W7, W7 = put6 (wr) (w.heap.size + 2) (.bool f2) (.slice i3 j3 c3) (.slice i4 j4 c4) (.bool f1) (.slice i1 j1 c1) (.slice i2 j2 c2) := ⟨_, rfl⟩
      rw [← hW7] at hP hF
      unfold put6 at hW7
      have HF := Lib.hid hF
      have HW := Lib.hid hW7
      have hbu := iv_build f2 i3 j3 c3 i4 j4 c4 f1 i1 j1 c1 i2 j2 c2
      have hr0 := hR.c0
      have hr1 := hR.c1
      have hr2 := hR.c2
      have hr3 := hR.c3
      have hr4 := hR.c4
      have hr5 := hR.c5
      have hr6 := hR.fr 0
      have hr7 := hR.fr 1
      have hr8 := hR.fr 2
      have hr9 := hR.fr 3
      have hr10 := hR.fr 4
      have hr11 := hR.fr 5
      clear hF hW7 hR T x1 y1 x2 y2 hX hE
      go_wp2_with fail
      rw [← HW.out]
      exact bodyPost_ret (v := .tuple #[.agg #[.bool f2, .slice i3 j3 c3, .slice i4 j4 c4, .bool f1, .slice i1 j1 c1, .slice i2 j2 c2], .int .i64 0]) (by simp [results, Tryz.results38, go_sem, hP.c0, hP.c1, hP.c2, hP.c3, hP.c4, hP.c5]) rfl HF.out
set_option maxRecDepth 100000 in
set_option maxHeartbeats 4000000 in
theorem scaledN_false (s1 : Bool) (N1 D1 : Nat) (s2 : Bool) (N2 D2 : Nat) {v v' : Value} {N D : Nat} {a : Iv} {w : World} (hx : FracA w v (false, N, D)) (ha : IvA w v' a) (hT : Tab w) (g1 : Hid (mulF (false, N, D) a.1 = ((s1, N1, D1), 0))) (g2 : Hid (mulF (false, N, D) a.2 = ((s2, N2, D2), 0))) : Calls Tryz.prog 38 #[v, v'] w (ResI w (((s1, N1, D1), (s2, N2, D2)), 0)) := by
  have hx0 := hx
  obtain ⟨an, n, cn, ad, d, cd, an', n', cn', ad', d', cd', rfl, u1, u2, u3, u4⟩ := ha
  have al : FracA w (.agg #[.bool a.1.1, .slice an n cn, .slice ad d cd]) a.1 := ⟨_, _, _, _, _, _, rfl, u1, u2⟩
  have ah : FracA w (.agg #[.bool a.2.1, .slice an' n' cn', .slice ad' d' cd']) a.2 := ⟨_, _, _, _, _, _, rfl, u3, u4⟩
  obtain ⟨an4, n4, cn4, ad4, d4, cd4, rfl, u5, u6⟩ := hx
  obtain ⟨T, hX, hA, hR, hE⟩ := startS_false w an4 n4 cn4 ad4 d4 cd4 a an n cn ad d cd an' n' cn' ad' d' cd'
  clear u1 u2 u3 u4 u5 u6
  have ca0 := hA.c0
  have ca1 := hA.c1
  have ca2 := hA.c2
  have ca3 := hA.c3
  have ca4 := hA.c4
  have ca5 := hA.c5
  go_enter Tryz.func38, Tryz.ntmps38
  go_wp2_with fail
  refine (endsN _ a.1.1 an n cn ad d cd a.2.1 an' n' cn' ad' d' cd').mono ?_
  rintro e w1 ⟨rfl, h1⟩
  replace hX := hX.mono h1
  replace hA := hA.mono h1
  replace hR := hR.mono h1
  replace hE := hE.mono h1
  replace T := Add.trans T h1
  clear h1 ca0 ca1 ca2 ca3 ca4 ca5
  go_wp2_with fail
  go_loopw [13] (fun i wr => ∃ (k : Nat) (f1 : Bool) (i1 : Option Addr) (j1 c1 : Nat) (i2 : Option Addr) (j2 c2 : Nat) (f2 : Bool) (i3 : Option Addr) (j3 c3 : Nat) (i4 : Option Addr) (j4 c4 : Nat), k ≤ 2 ∧ i = .int .i64 (k : Nat) ∧ Hid (1 ≤ k → f1 = s1 ∧ Num wr (.slice i1 j1 c1) N1 ∧ Num wr (.slice i2 j2 c2) D1) ∧ Hid (2 ≤ k → f2 = s2 ∧ Num wr (.slice i3 j3 c3) N2 ∧ Num wr (.slice i4 j4 c4) D2) ∧ Box wr w.heap.size false an4 n4 cn4 ad4 d4 cd4 ∧ Box6 wr (w.heap.size + 1) a.1.1 an n cn ad d cd a.2.1 an' n' cn' ad' d' cd' ∧ Box6 wr (w.heap.size + 2) false none 0 0 none 0 0 false none 0 0 none 0 0 ∧ BoxE wr (w.heap.size + 3) f1 i1 j1 c1 i2 j2 c2 f2 i3 j3 c3 i4 j4 c4 ∧ Add w wr) (fun i _ => 2 - (intOf i).toNat)
  case atStart => exact ⟨0, _, _, _, _, _, _, _, _, _, _, _, _, _, _, by omega, rfl, Lib.hid fun h => absurd h (by omega), Lib.hid fun h => absurd h (by omega), hX, hA, hR, hE, T⟩
  case round =>
    clear hX hA hR hE T
    obtain ⟨k, f1, i1, j1, c1, i2, j2, c2, f2, i3, j3, c3, i4, j4, c4, hk, rfl, h1, h2, hX, hA, hR, hE, T⟩ := hrel
    have e : k = 0 ∨ k = 1 ∨ k = 2 := by omega
    rcases e with rfl | rfl | rfl
    · clear h1 h2
      have ix := ends_at0 a.1.1 an n cn ad d cd a.2.1 an' n' cn' ad' d' cd'
      have qe := al.mono T
      have qx := hx0.mono T
      have qt := hT.mono T
      obtain ⟨tt, hV⟩ := laid_var wr a.1.1 an n cn ad d cd
      replace hX := hX.mono tt
      replace hA := hA.mono tt
      replace hR := hR.mono tt
      replace hE := hE.mono tt
      replace qe := qe.mono tt
      replace qx := qx.mono tt
      replace qt := qt.mono tt
      replace T := Add.trans T tt
      clear tt
      have cv0 := hV.c0
      have cv1 := hV.c1
      have cv2 := hV.c2
      have cx0 := hX.c0
      have cx1 := hX.c1
      have cx2 := hX.c2
      clear hV
      go_wp2_with fail
      refine ((mulN' _ qx qe qt g1).mono fun _ _ g => g.ok).mono ?_
      rintro e w5 ⟨a5, n5, k5, e5, d5, l5, rfl, x5, y5, h5⟩
      replace hX := hX.mono h5
      replace hA := hA.mono h5
      replace hR := hR.mono h5
      replace hE := hE.mono h5
      replace T := Add.trans T h5
      clear h5 qx qe qt ix cv0 cv1 cv2 cx0 cx1 cx2
      obtain ⟨tt, hU⟩ := laid_var w5 s1 a5 n5 k5 e5 d5 l5
      replace hX := hX.mono tt
      replace hA := hA.mono tt
      replace hR := hR.mono tt
      replace hE := hE.mono tt
      replace x5 := x5.mono tt
      replace y5 := y5.mono tt
      replace T := Add.trans T tt
      clear tt
      have cu0 := hU.c0
      have cu1 := hU.c1
      have cu2 := hU.c2
      have ce0 := hE.c0
      have cf0 := hE.fr 0
      have ce1 := hE.c1
      have cf1 := hE.fr 1
      have ce2 := hE.c2
      have cf2 := hE.fr 2
      have x6 := x5.set3 hE 0 1 2 (.bool s1) (.slice a5 n5 k5) (.slice e5 d5 l5)
      have y6 := y5.set3 hE 0 1 2 (.bool s1) (.slice a5 n5 k5) (.slice e5 d5 l5)
      have hX6 := (set3_other 0 1 2 (.bool s1) (.slice a5 n5 k5) (.slice e5 d5 l5) (show w.heap.size ≠ w.heap.size + 3 by omega)).trans hX
      have hA6 := (set3_other 0 1 2 (.bool s1) (.slice a5 n5 k5) (.slice e5 d5 l5) (show w.heap.size + 1 ≠ w.heap.size + 3 by omega)).trans hA
      have hR6 := (set3_other 0 1 2 (.bool s1) (.slice a5 n5 k5) (.slice e5 d5 l5) (show w.heap.size + 2 ≠ w.heap.size + 3 by omega)).trans hR
      have hE6 := hE.put0 s1 a5 n5 k5 e5 d5 l5
      have T6 := set3_below 0 1 2 (.bool s1) (.slice a5 n5 k5) (.slice e5 d5 l5) T (show w.heap.size ≤ w.heap.size + 3 by omega)
      clear hU hX hA hR hE T x5 y5 
      go_wp2_with fail
      go_roundw
      case rel => exact ⟨1, _, _, _, _, _, _, _, _, _, _, _, _, _, _, by omega, rfl, Lib.hid fun _ => ⟨rfl, x6, y6⟩, Lib.hid fun h => absurd h (by omega), hX6, hA6, hR6, hE6, T6⟩
      case measure => simp [intOf]
    · obtain ⟨F1, x1, y1⟩ := h1.out (by omega)
      clear h1 h2
      have ix := ends_at1 a.1.1 an n cn ad d cd a.2.1 an' n' cn' ad' d' cd'
      have qe := ah.mono T
      have qx := hx0.mono T
      have qt := hT.mono T
      obtain ⟨tt, hV⟩ := laid_var wr a.2.1 an' n' cn' ad' d' cd'
      replace hX := hX.mono tt
      replace hA := hA.mono tt
      replace hR := hR.mono tt
      replace hE := hE.mono tt
      replace qe := qe.mono tt
      replace qx := qx.mono tt
      replace qt := qt.mono tt
      replace x1 := x1.mono tt
      replace y1 := y1.mono tt
      replace T := Add.trans T tt
      clear tt
      have cv0 := hV.c0
      have cv1 := hV.c1
      have cv2 := hV.c2
      have cx0 := hX.c0
      have cx1 := hX.c1
      have cx2 := hX.c2
      clear hV
      go_wp2_with fail
      refine ((mulN' _ qx qe qt g2).mono fun _ _ g => g.ok).mono ?_
      rintro e w5 ⟨a5, n5, k5, e5, d5, l5, rfl, x5, y5, h5⟩
      replace hX := hX.mono h5
      replace hA := hA.mono h5
      replace hR := hR.mono h5
      replace hE := hE.mono h5
      replace x1 := x1.mono h5
      replace y1 := y1.mono h5
      replace T := Add.trans T h5
      clear h5 qx qe qt ix cv0 cv1 cv2 cx0 cx1 cx2
      obtain ⟨tt, hU⟩ := laid_var w5 s2 a5 n5 k5 e5 d5 l5
      replace hX := hX.mono tt
      replace hA := hA.mono tt
      replace hR := hR.mono tt
      replace hE := hE.mono tt
      replace x1 := x1.mono tt
      replace y1 := y1.mono tt
      replace x5 := x5.mono tt
      replace y5 := y5.mono tt
      replace T := Add.trans T tt
      clear tt
      have cu0 := hU.c0
      have cu1 := hU.c1
      have cu2 := hU.c2
      have ce0 := hE.c3
      have cf0 := hE.fr 3
      have ce1 := hE.c4
      have cf1 := hE.fr 4
      have ce2 := hE.c5
      have cf2 := hE.fr 5
      have x6 := x5.set3 hE 3 4 5 (.bool s2) (.slice a5 n5 k5) (.slice e5 d5 l5)
      have y6 := y5.set3 hE 3 4 5 (.bool s2) (.slice a5 n5 k5) (.slice e5 d5 l5)
      have x7 := x1.set3 hE 3 4 5 (.bool s2) (.slice a5 n5 k5) (.slice e5 d5 l5)
      have y7 := y1.set3 hE 3 4 5 (.bool s2) (.slice a5 n5 k5) (.slice e5 d5 l5)
      have hX6 := (set3_other 3 4 5 (.bool s2) (.slice a5 n5 k5) (.slice e5 d5 l5) (show w.heap.size ≠ w.heap.size + 3 by omega)).trans hX
      have hA6 := (set3_other 3 4 5 (.bool s2) (.slice a5 n5 k5) (.slice e5 d5 l5) (show w.heap.size + 1 ≠ w.heap.size + 3 by omega)).trans hA
      have hR6 := (set3_other 3 4 5 (.bool s2) (.slice a5 n5 k5) (.slice e5 d5 l5) (show w.heap.size + 2 ≠ w.heap.size + 3 by omega)).trans hR
      have hE6 := hE.put1 s2 a5 n5 k5 e5 d5 l5
      have T6 := set3_below 3 4 5 (.bool s2) (.slice a5 n5 k5) (.slice e5 d5 l5) T (show w.heap.size ≤ w.heap.size + 3 by omega)
      clear hU hX hA hR hE T x5 y5 x1 y1
      go_wp2_with fail
      go_roundw
      case rel => exact ⟨2, _, _, _, _, _, _, _, _, _, _, _, _, _, _, by omega, rfl, Lib.hid fun _ => ⟨F1, x7, y7⟩, Lib.hid fun _ => ⟨rfl, x6, y6⟩, hX6, hA6, hR6, hE6, T6⟩
      case measure => simp [intOf]
    · obtain ⟨rfl, x1, y1⟩ := h1.out (by omega)
      obtain ⟨rfl, x2, y2⟩ := h2.out (by omega)
      clear h1 h2 al ah hx0 hT hA g1 g2
      have cx0 := hX.c0
      have cx1 := hX.c1
      have cx2 := hX.c2
      have ce0 := hE.c0
      have ce1 := hE.c1
      have ce2 := hE.c2
      have ce3 := hE.c3
      have ce4 := hE.c4
      have ce5 := hE.c5
      have hP := Box6.put hR f1 i1 j1 c1 i2 j2 c2 f2 i3 j3 c3 i4 j4 c4
      have hF := resI_put (w := w) (p := (((f1, N1, D1), (f2, N2, D2)), 0)) hR (⟨i1, j1, c1, i2, j2, c2, i3, j3, c3, i4, j4, c4, rfl, x1, y1, x2, y2⟩) T (show w.heap.size ≤ w.heap.size + 2 by omega)
      obtain ⟨W7, hW7⟩ : ∃ W7, W7 = put6 (wr) (w.heap.size + 2) (.bool f1) (.slice i1 j1 c1) (.slice i2 j2 c2) (.bool f2) (.slice i3 j3 c3) (.slice i4 j4 c4) := ⟨_, rfl⟩
      rw [← hW7] at hP hF
      unfold put6 at hW7
      have HF := Lib.hid hF
      have HW := Lib.hid hW7
      have hbu := iv_build f1 i1 j1 c1 i2 j2 c2 f2 i3 j3 c3 i4 j4 c4
      have hr0 := hR.c0
      have hr1 := hR.c1
      have hr2 := hR.c2
      have hr3 := hR.c3
      have hr4 := hR.c4
      have hr5 := hR.c5
      have hr6 := hR.fr 0
      have hr7 := hR.fr 1
      have hr8 := hR.fr 2
      have hr9 := hR.fr 3
      have hr10 := hR.fr 4
      have hr11 := hR.fr 5
      clear hF hW7 hR T x1 y1 x2 y2 hX hE
      go_wp2_with fail
      rw [← HW.out]
      exact bodyPost_ret (v := .tuple #[.agg #[.bool f1, .slice i1 j1 c1, .slice i2 j2 c2, .bool f2, .slice i3 j3 c3, .slice i4 j4 c4], .int .i64 0]) (by simp [results, Tryz.results38, go_sem, hP.c0, hP.c1, hP.c2, hP.c3, hP.c4, hP.c5]) rfl HF.out
end Go.Proofs.YtifpfoeecnkhoaaGreatDoor
