/- Package maxflow: what a residual network is in memory. -/
import Derived.Test.YtaoibakbnimnkaaJR
import Derived.Test.YtaoibakbnimnkaaJA
import Derived.Test.YtaoibakbnimnkaaN7
import Derived.Deep.AppendLies
import Derived.Laws.OwnMore
namespace Go.Proofs.Ytaoibakbnimnkaa
open Go.RowKit NetM

theorem ty_ne {w : World} {g g' : Nat} {cur cur' : Array Value} {T T' : TypeId} {f f' : Nat × Nat} (h : w.heap[g]? = some (.cells cur T f)) (h' : w.heap[g']? = some (.cells cur' T' f')) (hT : T ≠ T') : g ≠ g' := by
  rintro rfl
  rw [h] at h'
  simp only [Option.some.injEq, Obj.cells.injEq] at h'
  exact hT h'.2.1
theorem grown_set (w : World) (g i : Nat) (u : Value) : w.grownBy (w.setCell ⟨g, i, none⟩ u) (some g) :=
  ⟨rfl, rfl, rfl, by simp, fun k _ hk => heap_setCell_other w ⟨g, i, none⟩ k u (fun e => hk (by simp [e]))⟩
theorem grownA_of {w w' : World} (h : Add w w') : w.grownBy w' none := ⟨h.os, h.tape, h.output, h.size, fun k hk _ => h.block k hk⟩
/-- What changes is block 'row', which is not gf, and not a row of integers but for gd. -/
def Far (w : World) (row : Option Nat) (gf : Nat) (Z : Nat → Prop) : Prop := ∀ k, row = some k → k ≠ gf ∧ ∀ cur f, w.heap[k]? = some (.cells cur 3 f) → Z k
theorem far_none (w : World) (gf : Nat) (Z : Nat → Prop) : Far w none gf Z := fun k h => by cases h
theorem far_ty {w : World} {g gf : Nat} {Z : Nat → Prop} {cur : Array Value} {T : TypeId} {f : Nat × Nat} (h : w.heap[g]? = some (.cells cur T f)) (hT : T ≠ 3) (hg : g ≠ gf) : Far w (some g) gf Z := by
  intro k e
  obtain rfl := Option.some.inj e
  refine ⟨hg, fun cur' f' h' => ?_⟩
  rw [h] at h'
  simp only [Option.some.injEq, Obj.cells.injEq] at h'
  exact absurd h'.2.1 hT
/-- What the rows keep off: the distances, and all that was laid later. -/
def ban (gd H : Nat) (k : Nat) : Prop := k = gd ∨ H ≤ k
theorem far_ban {w : World} {gf g : Nat} {Z : Nat → Prop} (hg : g ≠ gf) (hz : Z g) : Far w (some g) gf Z := by
  intro k e
  obtain rfl := Option.some.inj e
  exact ⟨hg, fun _ _ _ => hz⟩

/-! ### Rows of steps that are only read -/
def RowR (w : World) (Z : Nat → Prop) (v : Value) (xs : List Nat) : Prop := ∃ ao c, v = .slice ao xs.length c ∧ xs.length ≤ c ∧ c ≤ maxLen ∧
  (0 < xs.length → ∃ b off cur, ao = some ⟨b, off, none⟩ ∧ ¬ Z b ∧ w.heap[b]? = some (.cells cur 3 (0, 0)) ∧ ∀ i, i < xs.length → cur[off + i]? = some (natv (xs.getD i 0)))
theorem RowR.kept {w w' : World} {gf : Nat} {Z : Nat → Prop} {v : Value} {xs : List Nat} {row : Option Nat} (h : RowR w Z v xs) (hg : w.grownBy w' row) (hf : Far w row gf Z) : RowR w' Z v xs := by
  obtain ⟨ao, c, e, h1, h2, h3⟩ := h
  refine ⟨ao, c, e, h1, h2, fun hn => ?_⟩
  obtain ⟨b, off, cur, k1, k2, k3, k4⟩ := h3 hn
  refine ⟨b, off, cur, k1, k2, ?_, k4⟩
  rw [hg.block b (Array.getElem?_eq_some_iff.1 k3).1 (fun e => k2 ((hf b e.symm).2 _ _ k3))]; exact k3
theorem RowR.cell {w : World} {Z : Nat → Prop} {a : Option Addr} {n c : Nat} {xs : List Nat} (h : RowR w Z (.slice a n c) xs) {i : Nat} (hi : i < n) : n = xs.length ∧ ∃ b off, a = some ⟨b, off, none⟩ ∧ w.cell? ⟨b, off + i, none⟩ = some (.int .i64 ((xs.getD i 0 : Nat) : Int)) := by
  obtain ⟨ao, c', e, h1, h2, h3⟩ := h
  simp only [Value.slice.injEq] at e
  obtain ⟨rfl, rfl, rfl⟩ := e
  obtain ⟨b, off, cur, k1, k2, k3, k4⟩ := h3 (by omega)
  refine ⟨rfl, b, off, k1, ?_⟩
  rw [cell_of_row w b _ cur 3 (0, 0) k3]
  exact k4 i hi
theorem RowR.pop {w : World} {Z : Nat → Prop} {a : Option Addr} {n c x : Nat} {xs : List Nat} (h : RowR w Z (.slice a n c) (x :: xs)) {b off : Nat} (ha : a = some ⟨b, off, none⟩) {a' : Option Addr} (he : a' = if c = 1 then some ⟨b, off, none⟩ else some ⟨b, off + 1, none⟩) : RowR w Z (.slice a' (n - 1) (c - 1)) xs := by
  subst ha
  obtain ⟨ao, c', e, h1, h2, h3⟩ := h
  simp only [Value.slice.injEq] at e
  obtain ⟨rfl, rfl, rfl⟩ := e
  rw [List.length_cons] at h1 h3 ⊢
  refine ⟨a', c - 1, by simp, by omega, by omega, fun hn => ?_⟩
  obtain ⟨b', off', cur, k1, k2, k3, k4⟩ := h3 (by omega)
  simp only [Option.some.injEq, Addr.mk.injEq, and_true] at k1
  obtain ⟨rfl, rfl⟩ := k1
  rw [if_neg (by omega)] at he
  refine ⟨b, off + 1, cur, he, k2, k3, fun i hi => ?_⟩
  have := k4 (i + 1) (by omega)
  rw [show off + 1 + i = off + (i + 1) by omega, this]; simp
/-- A list of rows. -/
def HdB (w : World) (g : Nat) (Z : Nat → Prop) (N : Nat) (R : Nat → List Nat) : Prop := ∃ cur : Array Value, w.heap[g]? = some (.cells cur 25 (0, 0)) ∧ N ≤ cur.size ∧ ∀ x, x < N → ∃ v, cur[x]? = some v ∧ RowR w Z v (R x)
theorem HdB.kept {w w' : World} {g N : Nat} {Z : Nat → Prop} {R : Nat → List Nat} {row : Option Nat} (h : HdB w g Z N R) (hg : w.grownBy w' row) (hf : Far w row g Z) : HdB w' g Z N R := by
  obtain ⟨cur, h1, h2, h3⟩ := h
  refine ⟨cur, ?_, h2, fun x hx => ?_⟩
  · rw [hg.block g (Array.getElem?_eq_some_iff.1 h1).1 (fun e => (hf g e.symm).1 rfl)]; exact h1
  · obtain ⟨v, k1, k2⟩ := h3 x hx
    exact ⟨v, k1, k2.kept hg hf⟩
theorem HdB.get {w : World} {g N : Nat} {Z : Nat → Prop} {R : Nat → List Nat} (h : HdB w g Z N R) {x : Nat} (hx : x < N) : ∃ a c, w.cell? ⟨g, x, none⟩ = some (.slice a (R x).length c) ∧ RowR w Z (.slice a (R x).length c) (R x) ∧ (R x).length ≤ c ∧ c ≤ maxLen := by
  obtain ⟨cur, h1, h2, h3⟩ := h
  obtain ⟨v, k1, k2⟩ := h3 x hx
  obtain ⟨ao, c, rfl, e1, e2, -⟩ := id k2
  refine ⟨ao, c, ?_, k2, e1, e2⟩
  rw [cell_of_row w g x cur 25 (0, 0) h1]; exact k1
theorem HdB.free {w : World} {g N : Nat} {Z : Nat → Prop} {R : Nat → List Nat} (h : HdB w g Z N R) (i : Nat) : w.frozen? ⟨g, i, none⟩ = false := by
  obtain ⟨cur, h1, -⟩ := h
  exact frozen_of_row w g i cur 25 h1
theorem HdB.lt {w : World} {g N : Nat} {Z : Nat → Prop} {R : Nat → List Nat} (h : HdB w g Z N R) : g < w.heap.size := by
  obtain ⟨cur, h1, -⟩ := h
  exact (Array.getElem?_eq_some_iff.1 h1).1
/-- One row is put in the place of another. -/
theorem HdB.put {w : World} {g N : Nat} {Z : Nat → Prop} {R R' : Nat → List Nat} (h : HdB w g Z N R) {x : Nat} (hx : x < N) {v : Value} (hv : RowR w Z v (R' x)) (hR : ∀ y, y ≠ x → R' y = R y) : HdB (w.setCell ⟨g, x, none⟩ v) g Z N R' := by
  obtain ⟨cur, h1, h2, h3⟩ := h
  have hf : Far w (some g) (g + 1) Z := far_ty h1 (by decide) (by omega)
  refine ⟨cur.setIfInBounds x v, heap_setCell_same w g x cur 25 v h1, by simpa using h2, fun y hy => ?_⟩
  by_cases e : y = x
  · subst e
    exact ⟨v, by have : y < cur.size := by omega
                 simp [this], hv.kept (grown_set w g y v) hf⟩
  · obtain ⟨u, k1, k2⟩ := h3 y hy
    refine ⟨u, ?_, ?_⟩
    · rw [Array.getElem?_setIfInBounds_ne (fun h => e h.symm)]; exact k1
    · rw [hR y e]; exact k2.kept (grown_set w g x v) hf

/-! ### The steps -/
def StepsV (w : World) (gs : Nat) (sv : Value) (A : List Arc) (R : Nat → Int) : Prop := ∃ ad c, sv = .slice ad (2 * A.length) c ∧ 2 * A.length ≤ c ∧ c ≤ maxLen ∧
  (0 < A.length → ad = some ⟨gs, 0, none⟩ ∧ ∃ cur : Array Value, w.heap[gs]? = some (.cells cur 82 (0, 0)) ∧ ∀ j, j < 2 * A.length → cur[j * 2]? = some (.int .i64 (headS A j)) ∧ cur[j * 2 + 1]? = some (.int .i64 (R j)))
theorem StepsV.kept {w w' : World} {gs : Nat} {sv : Value} {A : List Arc} {R : Nat → Int} {row : Option Nat} (h : StepsV w gs sv A R) (hg : w.grownBy w' row) (hf : ∀ k, row = some k → 0 < A.length → k ≠ gs) : StepsV w' gs sv A R := by
  obtain ⟨ad, c, e, h1, h2, h3⟩ := h
  refine ⟨ad, c, e, h1, h2, fun hn => ?_⟩
  obtain ⟨e1, cur, k1, k2⟩ := h3 hn
  refine ⟨e1, cur, ?_, k2⟩
  rw [hg.block gs (Array.getElem?_eq_some_iff.1 k1).1 (fun e => hf gs e.symm hn rfl)]; exact k1
theorem StepsV.far {w : World} {gs g : Nat} {sv : Value} {A : List Arc} {R : Nat → Int} (h : StepsV w gs sv A R) {cur : Array Value} {T : TypeId} {f : Nat × Nat} (hg : w.heap[g]? = some (.cells cur T f)) (hT : T ≠ 82) : ∀ k, some g = some k → 0 < A.length → k ≠ gs := by
  intro k e hn
  obtain rfl := Option.some.inj e
  obtain ⟨ad, c, -, -, -, h3⟩ := h
  obtain ⟨-, cur', k1, -⟩ := h3 hn
  exact ty_ne hg k1 hT
theorem StepsV.get {w : World} {gs : Nat} {sv : Value} {A : List Arc} {R : Nat → Int} (h : StepsV w gs sv A R) {j : Nat} (hj : j < 2 * A.length) : ∃ c, sv = .slice (some ⟨gs, 0, none⟩) (2 * A.length) c ∧ 2 * A.length ≤ c ∧ c ≤ maxLen ∧
    w.cell? ⟨gs, j * 2, none⟩ = some (.int .i64 (headS A j)) ∧ w.cell? ⟨gs, j * 2 + 1, none⟩ = some (.int .i64 (R j)) ∧ w.frozen? ⟨gs, j * 2 + 1, none⟩ = false ∧ gs < w.heap.size := by
  obtain ⟨ad, c, rfl, h1, h2, h3⟩ := h
  obtain ⟨rfl, cur, k1, k2⟩ := h3 (by omega)
  obtain ⟨g1, g2⟩ := k2 j hj
  exact ⟨c, rfl, h1, h2, (cell_of_row w gs _ cur _ (0, 0) k1).trans g1, (cell_of_row w gs _ cur _ (0, 0) k1).trans g2, frozen_of_row w gs _ cur _ k1, (Array.getElem?_eq_some_iff.1 k1).1⟩
theorem StepsV.put {w : World} {gs : Nat} {sv : Value} {A : List Arc} {R : Nat → Int} (h : StepsV w gs sv A R) {j : Nat} (hj : j < 2 * A.length) (x : Int) : StepsV (w.setCell ⟨gs, j * 2 + 1, none⟩ (.int .i64 x)) gs sv A (fun k => if k = j then x else R k) := by
  obtain ⟨ad, c, e, h1, h2, h3⟩ := h
  refine ⟨ad, c, e, h1, h2, fun hn => ?_⟩
  obtain ⟨e1, cur, k1, k2⟩ := h3 hn
  refine ⟨e1, cur.setIfInBounds (j * 2 + 1) (.int .i64 x), heap_setCell_same w gs _ cur _ _ k1, fun k hk => ?_⟩
  obtain ⟨g1, g2⟩ := k2 k hk
  refine ⟨?_, ?_⟩
  · rw [Array.getElem?_setIfInBounds_ne (by omega)]; exact g1
  · by_cases c : k = j
    · subst c
      have : k * 2 + 1 < cur.size := (Array.getElem?_eq_some_iff.1 g2).1
      simp [this]
    · rw [Array.getElem?_setIfInBounds_ne (by omega)]
      show _ = some (Value.int .i64 (if k = j then x else R k))
      rw [if_neg c]; exact g2
theorem StepsV.congr {w : World} {gs : Nat} {sv : Value} {A : List Arc} {R R' : Nat → Int} (h : StepsV w gs sv A R) (hR : ∀ j, j < 2 * A.length → R j = R' j) : StepsV w gs sv A R' := by
  obtain ⟨ad, c, e, h1, h2, h3⟩ := h
  refine ⟨ad, c, e, h1, h2, fun hn => ?_⟩
  obtain ⟨e1, cur, k1, k2⟩ := h3 hn
  exact ⟨e1, cur, k1, fun j hj => by rw [← hR j hj]; exact k2 j hj⟩

/-! ### The whole -/
/-- The variable of the residual network in block gr. -/
def RBox (w : World) (gr : Nat) (s t : Nat) (sv fv uv dv : Value) : Prop := w.heap[gr]? = some (.cells #[.int .i64 s, .int .i64 t, sv, fv, uv, dv] 80 (0, 0))
theorem RBox.c0 {w : World} {gr s t : Nat} {sv fv uv dv : Value} (h : RBox w gr s t sv fv uv dv) : w.cell? ⟨gr, 0, none⟩ = some (.int .i64 s) := (cell_of_row w gr 0 _ _ _ h).trans rfl
theorem RBox.c1 {w : World} {gr s t : Nat} {sv fv uv dv : Value} (h : RBox w gr s t sv fv uv dv) : w.cell? ⟨gr, 1, none⟩ = some (.int .i64 t) := (cell_of_row w gr 1 _ _ _ h).trans rfl
theorem RBox.c2 {w : World} {gr s t : Nat} {sv fv uv dv : Value} (h : RBox w gr s t sv fv uv dv) : w.cell? ⟨gr, 2, none⟩ = some sv := (cell_of_row w gr 2 _ _ _ h).trans rfl
theorem RBox.c3 {w : World} {gr s t : Nat} {sv fv uv dv : Value} (h : RBox w gr s t sv fv uv dv) : w.cell? ⟨gr, 3, none⟩ = some fv := (cell_of_row w gr 3 _ _ _ h).trans rfl
theorem RBox.c4 {w : World} {gr s t : Nat} {sv fv uv dv : Value} (h : RBox w gr s t sv fv uv dv) : w.cell? ⟨gr, 4, none⟩ = some uv := (cell_of_row w gr 4 _ _ _ h).trans rfl
theorem RBox.c5 {w : World} {gr s t : Nat} {sv fv uv dv : Value} (h : RBox w gr s t sv fv uv dv) : w.cell? ⟨gr, 5, none⟩ = some dv := (cell_of_row w gr 5 _ _ _ h).trans rfl
theorem RBox.lt {w : World} {gr s t : Nat} {sv fv uv dv : Value} (h : RBox w gr s t sv fv uv dv) : gr < w.heap.size := (Array.getElem?_eq_some_iff.1 h).1
theorem RBox.free {w : World} {gr s t : Nat} {sv fv uv dv : Value} (h : RBox w gr s t sv fv uv dv) (i : Nat) : w.frozen? ⟨gr, i, none⟩ = false := frozen_of_row w gr i _ _ h
theorem RBox.kept {w w' : World} {gr s t : Nat} {sv fv uv dv : Value} {row : Option Nat} (h : RBox w gr s t sv fv uv dv) (hg : w.grownBy w' row) (hne : row ≠ some gr) : RBox w' gr s t sv fv uv dv := (hg.block gr h.lt (fun e => hne e.symm)).trans h
theorem RBox.set2 {w : World} {gr s t : Nat} {sv fv uv dv : Value} (h : RBox w gr s t sv fv uv dv) (x : Value) : RBox (w.setCell ⟨gr, 2, none⟩ x) gr s t x fv uv dv := by
  unfold RBox
  rw [heap_setCell_same w gr 2 _ _ _ h]; rfl
theorem RBox.set4 {w : World} {gr s t : Nat} {sv fv uv dv : Value} (h : RBox w gr s t sv fv uv dv) (x : Value) : RBox (w.setCell ⟨gr, 4, none⟩ x) gr s t sv fv x dv := by
  unfold RBox
  rw [heap_setCell_same w gr 4 _ _ _ h]; rfl
/-- The residual network, but for what may still be tried. w0: the world of the call that made it. -/
def ResB (w0 w : World) (A : List Arc) (N s t gr gs gf gd H : Nat) (sv uv : Value) (R : Nat → Int) (D : List Int) : Prop :=
  RBox w gr s t sv (.slice (some ⟨gf, 0, none⟩) N N) uv (.slice (some ⟨gd, 0, none⟩) N N) ∧ StepsV w gs sv A R ∧ HdB w gf (ban gd H) N (fromR A) ∧ IBlk w gd D ∧ D.length = N ∧ Add w0 w ∧ w0.heap.size ≤ gr ∧ w0.heap.size ≤ gd ∧ (0 < A.length → w0.heap.size ≤ gs)
/-- What may still be tried. -/
def Unt (w0 w : World) (N gu gf gd H : Nat) (uv : Value) (U : List (List Nat)) : Prop :=
  ∃ c, uv = .slice (some ⟨gu, 0, none⟩) N c ∧ N ≤ c ∧ c ≤ maxLen ∧ HdB w gu (ban gd H) N (ul U) ∧ U.length = N ∧ gu ≠ gf ∧ w0.heap.size ≤ gu ∧ H ≤ gu
theorem ResB.add {w0 w w' : World} {A : List Arc} {N s t gr gs gf gd H : Nat} {sv uv : Value} {R : Nat → Int} {D : List Int} (h : ResB w0 w A N s t gr gs gf gd H sv uv R D) (hb : Add w w') : ResB w0 w' A N s t gr gs gf gd H sv uv R D := by
  obtain ⟨h1, h2, h3, h4, h5, h6, h7⟩ := h
  have hg := grownA_of hb
  exact ⟨h1.kept hg (by simp), h2.kept hg (fun k e => by cases e), h3.kept hg (far_none _ _ _), Blk.add h4 hb, h5, Add.trans h6 hb, h7⟩
theorem Unt.add {w0 w w' : World} {N gu gf gd H : Nat} {uv : Value} {U : List (List Nat)} (h : Unt w0 w N gu gf gd H uv U) (hb : Add w w') : Unt w0 w' N gu gf gd H uv U := by
  obtain ⟨c, e, h1, h2, h3, h4⟩ := h
  exact ⟨c, e, h1, h2, h3.kept (grownA_of hb) (far_none _ _ _), h4⟩
theorem HdB.blk {w : World} {g N : Nat} {Z : Nat → Prop} {R : Nat → List Nat} (h : HdB w g Z N R) : ∃ cur : Array Value, w.heap[g]? = some (.cells cur 25 (0, 0)) := by
  obtain ⟨cur, h1, -⟩ := h
  exact ⟨cur, h1⟩
theorem Unt.top {w0 w : World} {N gu gf gd H : Nat} {uv : Value} {U : List (List Nat)} (h : Unt w0 w N gu gf gd H uv U) : H ≤ w.heap.size := by
  obtain ⟨c, e, h1, h2, h3, h4, h5, h6, h7⟩ := h
  have := h3.lt
  omega
/-- The room of a step is stored. -/
theorem ResB.room {w0 w : World} {A : List Arc} {N s t gr gs gf gd H : Nat} {sv uv : Value} {R : Nat → Int} {D : List Int} (h : ResB w0 w A N s t gr gs gf gd H sv uv R D) {j : Nat} (hj : j < 2 * A.length) (x : Int) :
    ResB w0 (w.setCell ⟨gs, j * 2 + 1, none⟩ (.int .i64 x)) A N s t gr gs gf gd H sv uv (fun k => if k = j then x else R k) D := by
  obtain ⟨h1, h2, h3, h4, h5, h6, h7, h8, h9⟩ := h
  have hg := grown_set w gs (j * 2 + 1) (.int .i64 x)
  obtain ⟨ad, c, e, k1, k2, k3⟩ := id h2
  obtain ⟨-, cur, k4, -⟩ := k3 (by omega)
  obtain ⟨cf, hcf⟩ := h3.blk
  refine ⟨h1.kept hg (fun e => ty_ne k4 h1 (by decide) (Option.some.inj e)), h2.put hj x, h3.kept hg (far_ty k4 (by decide) (ty_ne k4 hcf (by decide))), Blk.kept h4 hg (fun e => ty_ne k4 h4 (by decide) (Option.some.inj e).symm), h5, add_setLow h6 (h9 (by omega)) _ _, h7, h8, h9⟩
theorem Unt.room {w0 w : World} {A : List Arc} {N s t gr gs gf gd gu H : Nat} {sv uv uv' : Value} {R : Nat → Int} {D : List Int} {U : List (List Nat)} (h : ResB w0 w A N s t gr gs gf gd H sv uv' R D) (hu : Unt w0 w N gu gf gd H uv U) {j : Nat} (hj : j < 2 * A.length) (x : Int) :
    Unt w0 (w.setCell ⟨gs, j * 2 + 1, none⟩ (.int .i64 x)) N gu gf gd H uv U := by
  obtain ⟨ad, c, e, k1, k2, k3⟩ := id h.2.1
  obtain ⟨-, cur, k4, -⟩ := k3 (by omega)
  obtain ⟨c', e', h1, h2, h3, h4⟩ := hu
  obtain ⟨cf, hcf⟩ := h3.blk
  exact ⟨c', e', h1, h2, h3.kept (grown_set w gs _ _) (far_ty k4 (by decide) (ty_ne k4 hcf (by decide))), h4⟩
/-- A distance is stored. -/
theorem ResB.dist {w0 w : World} {A : List Arc} {N s t gr gs gf gd H : Nat} {sv uv : Value} {R : Nat → Int} {D : List Int} (h : ResB w0 w A N s t gr gs gf gd H sv uv R D) (j : Nat) (x : Int) :
    ResB w0 (w.setCell ⟨gd, j, none⟩ (.int .i64 x)) A N s t gr gs gf gd H sv uv R (D.set j x) := by
  obtain ⟨h1, h2, h3, h4, h5, h6, h7, h8, h9⟩ := h
  have hg := grown_set w gd j (.int .i64 x)
  obtain ⟨cf, hcf⟩ := h3.blk
  exact ⟨h1.kept hg (fun e => ty_ne h4 h1 (by decide) (Option.some.inj e)), h2.kept hg (h2.far h4 (by decide)), h3.kept hg (far_ban (ty_ne h4 hcf (by decide)) (.inl rfl)), IBlk.put h4 j x, by simpa using h5, add_setLow h6 h8 _ _, h7, h8, h9⟩
theorem Unt.dist {w0 w : World} {A : List Arc} {N s t gr gs gf gd gu H : Nat} {sv uv uv' : Value} {R : Nat → Int} {D : List Int} {U : List (List Nat)} (h : ResB w0 w A N s t gr gs gf gd H sv uv' R D) (hu : Unt w0 w N gu gf gd H uv U) (j : Nat) (x : Int) :
    Unt w0 (w.setCell ⟨gd, j, none⟩ (.int .i64 x)) N gu gf gd H uv U := by
  obtain ⟨c', e', h1, h2, h3, h4⟩ := hu
  obtain ⟨cf, hcf⟩ := h3.blk
  exact ⟨c', e', h1, h2, h3.kept (grown_set w gd _ _) (far_ban (ty_ne h.2.2.2.1 hcf (by decide)) (.inl rfl)), h4⟩
/-- A row of what may still be tried gets shorter. -/
theorem ResB.cut {w0 w : World} {A : List Arc} {N s t gr gs gf gd gu H : Nat} {sv uv uv' : Value} {R : Nat → Int} {D : List Int} {U : List (List Nat)} (h : ResB w0 w A N s t gr gs gf gd H sv uv' R D) (hu : Unt w0 w N gu gf gd H uv U) (x : Nat) (v : Value) :
    ResB w0 (w.setCell ⟨gu, x, none⟩ v) A N s t gr gs gf gd H sv uv' R D := by
  obtain ⟨h1, h2, h3, h4, h5, h6, h7, h8, h9⟩ := h
  obtain ⟨c', e', g1, g2, g3, g4, g5, g6⟩ := hu
  obtain ⟨cf, hcf⟩ := g3.blk
  have hg := grown_set w gu x v
  exact ⟨h1.kept hg (fun e => ty_ne hcf h1 (by decide) (Option.some.inj e)), h2.kept hg (h2.far hcf (by decide)), h3.kept hg (far_ty hcf (by decide) g5), Blk.kept h4 hg (fun e => ty_ne hcf h4 (by decide) (Option.some.inj e).symm), h5, add_setLow h6 g6.1 _ _, h7, h8, h9⟩
theorem Unt.cut {w0 w : World} {N gu gf gd H : Nat} {uv : Value} {U : List (List Nat)} (hu : Unt w0 w N gu gf gd H uv U) {x : Nat} (hx : x < N) {r : List Nat} {v : Value} (hv : RowR w (ban gd H) v r) : Unt w0 (w.setCell ⟨gu, x, none⟩ v) N gu gf gd H uv (U.set x r) := by
  obtain ⟨c', e', g1, g2, g3, g4, g5, g6⟩ := hu
  have hxU : x < U.length := by omega
  refine ⟨c', e', g1, g2, g3.put hx (by rw [ul_set hxU, if_pos rfl]; exact hv) (fun y hy => by rw [ul_set hxU, if_neg hy]), by simpa using g4, g5, g6⟩
end Go.Proofs.Ytaoibakbnimnkaa
