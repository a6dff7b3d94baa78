/- The reference of layer 13: what lies in memory while it searches for cheapest ways. -/
import Derived.Test.YtaoibakbnimnkaaN8
import Derived.Test.YtaoibakbnimnkaaJM
namespace Go.Proofs.Ytaoibakbnimnkaa
open Go.RowKit NetM

/-- Distances in block gd, arcs in block gb; n in its variable. w0: the world of the call. -/
def DSt (w0 w : World) (N s t : Nat) (a : Option Addr) (m c gd gb : Nat) (D Y : List Int) : Prop :=
  IBlk w gd D ∧ IBlk w gb Y ∧ NBox w w0.heap.size N s t a m c ∧ Add w0 w ∧ w0.heap.size < gd ∧ w0.heap.size < gb ∧ gd ≠ gb
theorem DSt.add {w0 w w' : World} {N s t : Nat} {a : Option Addr} {m c gd gb : Nat} {D Y : List Int} (h : DSt w0 w N s t a m c gd gb D Y) (hb : Add w w') : DSt w0 w' N s t a m c gd gb D Y := by
  obtain ⟨h1, h2, h3, h4, h5⟩ := h
  exact ⟨Blk.add h1 hb, Blk.add h2 hb, h3.add hb, Add.trans h4 hb, h5⟩
theorem DSt.one {w0 w : World} {N s t : Nat} {a : Option Addr} {m c gd gb : Nat} {D Y : List Int} (h : DSt w0 w N s t a m c gd gb D Y) (i : Nat) (v : Int) : DSt w0 (w.setCell ⟨gd, i, none⟩ (.int .i64 v)) N s t a m c gd gb (D.set i v) Y := by
  obtain ⟨h1, h2, h3, h4, h5, h6, h7⟩ := h
  exact ⟨IBlk.put h1 i v, Blk.other h2 (Ne.symm h7) _ _, (heap_setCell_other _ ⟨gd, i, none⟩ _ _ (by dsimp only; omega)).trans h3, add_setLow h4 (Nat.le_of_lt h5) _ _, h5, h6, h7⟩
theorem DSt.put {w0 w : World} {N s t : Nat} {a : Option Addr} {m c gd gb : Nat} {D Y : List Int} (h : DSt w0 w N s t a m c gd gb D Y) (i : Nat) (v q : Int) :
    DSt w0 ((w.setCell ⟨gd, i, none⟩ (.int .i64 v)).setCell ⟨gb, i, none⟩ (.int .i64 q)) N s t a m c gd gb (D.set i v) (Y.set i q) := by
  obtain ⟨h1, h2, h3, h4, h5, h6, h7⟩ := h.one i v
  exact ⟨Blk.other h1 h7 _ _, IBlk.put h2 i q, (heap_setCell_other _ ⟨gb, i, none⟩ _ _ (by dsimp only; omega)).trans h3, add_setLow h4 (Nat.le_of_lt h6) _ _, h5, h6, h7⟩
theorem madeD {w : World} {N s t : Nat} {a : Option Addr} {m c : Nat} {ZI : Array Value} (hI : ZI = ((List.replicate N (0 : Int)).map iv).toArray) :
    ∀ W, W = World.drew (((w.alloc (.cells #[.int .i64 N, .int .i64 s, .int .i64 t, .slice a m c] 24)).alloc (.cells ZI 3)).alloc (.cells ZI 3)) →
    DSt w W N s t a m c (w.heap.size + 1) (w.heap.size + 1 + 1) (List.replicate N 0) (List.replicate N 0) ∧ DSt w W N s t a m c (w.heap.size + 1 + 1) (w.heap.size + 1) (List.replicate N 0) (List.replicate N 0) := by
  subst hI
  rintro W rfl
  have e1 : (w.alloc (.cells #[.int .i64 N, .int .i64 s, .int .i64 t, .slice a m c] 24)).heap.size = w.heap.size + 1 := by simp
  have A1 := add_new w (.cells #[.int .i64 N, .int .i64 s, .int .i64 t, .slice a m c] 24)
  have H1 := heap_alloc_new (w.alloc (.cells #[.int .i64 N, .int .i64 s, .int .i64 t, .slice a m c] 24)) (.cells ((List.replicate N (0 : Int)).map iv).toArray 3)
  rw [e1] at H1
  have B1 : IBlk _ _ _ := H1
  have A2 := add_new (w.alloc (.cells #[.int .i64 N, .int .i64 s, .int .i64 t, .slice a m c] 24)) (.cells ((List.replicate N (0 : Int)).map iv).toArray 3)
  have H2 := heap_alloc_new ((w.alloc (.cells #[.int .i64 N, .int .i64 s, .int .i64 t, .slice a m c] 24)).alloc (.cells ((List.replicate N (0 : Int)).map iv).toArray 3)) (.cells ((List.replicate N (0 : Int)).map iv).toArray 3)
  have e2 : ((w.alloc (.cells #[.int .i64 N, .int .i64 s, .int .i64 t, .slice a m c] 24)).alloc (.cells ((List.replicate N (0 : Int)).map iv).toArray 3)).heap.size = w.heap.size + 1 + 1 := by simp
  rw [e2] at H2
  have A3 := add_new ((w.alloc (.cells #[.int .i64 N, .int .i64 s, .int .i64 t, .slice a m c] 24)).alloc (.cells ((List.replicate N (0 : Int)).map iv).toArray 3)) (.cells ((List.replicate N (0 : Int)).map iv).toArray 3)
  have B2 : IBlk _ _ _ := H2
  have k1 := Blk.add (Blk.add B1 A3) (b_drew (Below.refl _ _))
  have k2 := Blk.add B2 (b_drew (Below.refl _ _))
  have k3 := ((nbox_new w N s t a m c).add (Add.trans A2 A3)).add (b_drew (Below.refl _ _))
  have k4 := b_drew (Add.trans A1 (Add.trans A2 A3))
  exact ⟨⟨k1, k2, k3, k4, by omega, by omega, by omega⟩, ⟨k2, k1, k3, k4, by omega, by omega, by omega⟩⟩
/-- The list while it is filled. -/
def fillD (N k : Nat) : List Int := List.replicate k far ++ List.replicate (N - k) 0
theorem fillD_len {N k : Nat} (h : k ≤ N) : (fillD N k).length = N := by unfold fillD; simp; omega
theorem fillD_step {N k : Nat} (h : k < N) : (fillD N k).set k far = fillD N (k + 1) := by
  unfold fillD
  obtain ⟨n, hn⟩ : ∃ n, N - k = n + 1 := ⟨N - k - 1, by omega⟩
  have e : N - (k + 1) = n := by omega
  rw [hn, e, List.set_append_right _ _ (by simp), List.length_replicate, Nat.sub_self, List.replicate_succ, List.set_cons_zero, List.replicate_succ' (n := k), List.append_assoc]
  rfl
theorem fillD_zero (N : Nat) : fillD N 0 = List.replicate N 0 := by simp [fillD]
theorem fillD_all (N : Nat) : fillD N N = List.replicate N far := by simp [fillD]
/-- Arc k makes its end cheaper. -/
theorem relax_f {A : List Arc} {F : List Int} {N s t : Nat} {P : Nat → Int} {D Y : List Int} (h : DS A F N s P D Y) (hB : PotB A F N s t P) {k x y : Nat} {z u : Int} (hk : k < A.length) (hx : at' A k = ((x : Int), (y : Int), z, u)) (hxN : x < N) (hyN : y < N)
    (h1 : F.getD k 0 < z) (h2 : D.getD x 0 < far) (h3 : D.getD x 0 + u < D.getD y 0) : 0 ≤ D.getD x 0 + u ∧ DS A F N s P (D.set y (D.getD x 0 + u)) (Y.set y (k : Int)) ∧ sumD (D.set y (D.getD x 0 + u)) < sumD D := by
  have ec : cR A k = u := by unfold cR; rw [if_pos hk, hx]
  obtain ⟨-, -, g3, g4, g5⟩ := h.relax hB.1 hB.2.1 (i := k) hxN hyN (.inl ⟨hk, by rw [hx], by rw [hx], by rw [hx]; exact h1⟩) h2 (by rw [ec]; exact h3)
  rw [ec] at g3 g4 g5
  have := hB.2.2.1 y hyN
  exact ⟨by omega, g4, g5⟩
/-- Arc k back makes its start cheaper. -/
theorem relax_b {A : List Arc} {F : List Int} {N s t : Nat} {P : Nat → Int} {D Y : List Int} (h : DS A F N s P D Y) (hB : PotB A F N s t P) {k x y : Nat} {z u : Int} (hk : k < A.length) (hx : at' A k = ((x : Int), (y : Int), z, u)) (hxN : x < N) (hyN : y < N)
    (h1 : 0 < F.getD k 0) (h2 : D.getD y 0 < far) (h3 : D.getD y 0 - u < D.getD x 0) : 0 ≤ D.getD y 0 - u ∧ DS A F N s P (D.set x (D.getD y 0 - u)) (Y.set x ((A.length : Int) + (k : Int))) ∧ sumD (D.set x (D.getD y 0 - u)) < sumD D := by
  have ec : D.getD y 0 + cR A (A.length + k) = D.getD y 0 - u := by unfold cR; rw [if_neg (by omega), Nat.add_sub_cancel_left, hx]; dsimp only; omega
  obtain ⟨-, -, g3, g4, g5⟩ := h.relax hB.1 hB.2.1 (i := A.length + k) hyN hxN (.inr ⟨k, rfl, hk, by rw [hx], by rw [hx], h1⟩) h2 (by rw [ec]; exact h3)
  rw [ec] at g3 g4 g5
  have := hB.2.2.1 x hxN
  have e : ((A.length + k : Nat) : Int) = (A.length : Int) + (k : Int) := by omega
  rw [e] at g4
  exact ⟨by omega, g4, g5⟩
theorem closeD_step {A : List Arc} {F D : List Int} {k x y : Nat} {z u : Int} (h : ClosedD A F D k) (hx : at' A k = ((x : Int), (y : Int), z, u))
    (h1 : F.getD k 0 < z → D.getD x 0 < far → D.getD y 0 ≤ D.getD x 0 + u) (h2 : 0 < F.getD k 0 → D.getD y 0 < far → D.getD x 0 ≤ D.getD y 0 - u) : ClosedD A F D (k + 1) := by
  intro j hj hjl x' z' e1 e2
  by_cases c : j = k
  · subst c
    rw [hx] at e1 e2 ⊢
    dsimp only at e1 e2 ⊢
    have : x' = x := by omega
    subst this
    have : z' = y := by omega
    subst this
    exact ⟨h1, h2⟩
  · exact h j (by omega) hjl x' z' e1 e2
/-- The state behind the first test of a round: arc k leads from x to y. D0: the distances at the begin of the pass. -/
def HalfD (w0 W : World) (N s t : Nat) (a : Option Addr) (m c gd gb : Nat) (A : List Arc) (F : List Int) (P : Nat → Int) (D0 : List Int) (b : Bool) (k ga x y : Nat) (z u : Int) (D Y : List Int) : Prop :=
  DSt w0 W N s t a m c gd gb D Y ∧ DS A F N s P D Y ∧ ABox W ga x y z u ∧
  ((b = false ∧ D = D0 ∧ ClosedD A F D0 k ∧ (F.getD k 0 < z → D0.getD x 0 < far → D0.getD y 0 ≤ D0.getD x 0 + u)) ∨ (b = true ∧ sumD D < sumD D0))
/-- How a pass stands. -/
def PassD (A : List Arc) (F : List Int) (D0 : List Int) (b : Bool) (k : Nat) (D : List Int) : Prop := (b = false ∧ D = D0 ∧ ClosedD A F D0 k) ∨ (b = true ∧ sumD D < sumD D0)
theorem halfD_no {w0 wr : World} {N s t : Nat} {a : Option Addr} {m c gd gb : Nat} {A : List Arc} {F : List Int} {P : Nat → Int} {D0 : List Int} {b : Bool} {k x y : Nat} {z u : Int} {D Y : List Int}
    (h : DSt w0 wr N s t a m c gd gb D Y) (hd : DS A F N s P D Y) (hp : PassD A F D0 b k D) (hn : ¬ (F.getD k 0 < z ∧ D.getD x 0 < far ∧ D.getD x 0 + u < D.getD y 0)) (q : Nat) :
    HalfD w0 ((wr.alloc (.cells #[.int .i64 (x : Nat), .int .i64 (y : Nat), .int .i64 z, .int .i64 u] 35)).drewN q) N s t a m c gd gb A F P D0 b k wr.heap.size x y z u D Y := by
  have hA := Add.trans (add_new wr (.cells #[.int .i64 (x : Nat), .int .i64 (y : Nat), .int .i64 z, .int .i64 u] 35)) (add_drewN _ q)
  refine ⟨h.add hA, hd, (abox_new wr _ _ _ _).add (add_drewN _ q), ?_⟩
  rcases hp with ⟨h1, rfl, h3⟩ | ⟨h1, h2⟩
  · refine .inl ⟨h1, rfl, h3, fun e1 e2 => ?_⟩
    rcases Int.lt_or_le (D.getD x 0 + u) (D.getD y 0) with e3 | e3
    · exact absurd ⟨e1, e2, e3⟩ hn
    · exact e3
  · exact .inr ⟨h1, h2⟩
theorem halfD_yes {w0 wr W5 : World} {N s t : Nat} {a : Option Addr} {m c gd gb : Nat} {A : List Arc} {F : List Int} {P : Nat → Int} {D0 : List Int} {b : Bool} {k x y : Nat} {z u : Int} {D Y : List Int}
    (h : DSt w0 wr N s t a m c gd gb D Y) (hd : DS A F N s P D Y) (hp : PassD A F D0 b k D) (hB : PotB A F N s t P) (hk : k < A.length) (hx : at' A k = ((x : Int), (y : Int), z, u)) (hxN : x < N) (hyN : y < N)
    (h1 : F.getD k 0 < z) (h2 : D.getD x 0 < far) (h3 : D.getD x 0 + u < D.getD y 0) (q : Nat)
    (hW : W5 = ((((wr.alloc (.cells #[.int .i64 (x : Nat), .int .i64 (y : Nat), .int .i64 z, .int .i64 u] 35)).drewN q).setCell ⟨gd, y, none⟩ (.int .i64 (D.getD x 0 + u))).setCell ⟨gb, y, none⟩ (.int .i64 (k : Int)))) :
    HalfD w0 W5 N s t a m c gd gb A F P D0 true k wr.heap.size x y z u (D.set y (D.getD x 0 + u)) (Y.set y (k : Int)) := by
  subst hW
  have hA := Add.trans (add_new wr (.cells #[.int .i64 (x : Nat), .int .i64 (y : Nat), .int .i64 z, .int .i64 u] 35)) (add_drewN _ q)
  obtain ⟨g1, g2, g3⟩ := relax_f hd hB hk hx hxN hyN h1 h2 h3
  have hAB := (abox_new wr (x : Nat) (y : Nat) z u).add (add_drewN _ q)
  have l1 := Blk.lt h.1
  have l2 := Blk.lt h.2.1
  refine ⟨(h.add hA).put y _ _, g2, ?_, .inr ⟨rfl, ?_⟩⟩
  · unfold ABox
    rw [heap_setCell_other _ ⟨gb, y, none⟩ _ _ (by dsimp only; omega), heap_setCell_other _ ⟨gd, y, none⟩ _ _ (by dsimp only; omega)]
    exact hAB
  · rcases hp with ⟨-, rfl, -⟩ | ⟨-, e⟩
    · exact g3
    · omega
theorem ABox.c3 {w : World} {g : Nat} {x y z u : Int} (h : ABox w g x y z u) : w.cell? ⟨g, 3, none⟩ = some (.int .i64 u) := (cell_of_row w g 3 _ _ _ h).trans rfl
theorem halfD_end {w0 W : World} {N s t : Nat} {a : Option Addr} {m c gd gb : Nat} {A : List Arc} {F : List Int} {P : Nat → Int} {D0 : List Int} {b : Bool} {k ga x y : Nat} {z u : Int} {D Y : List Int}
    (h : HalfD w0 W N s t a m c gd gb A F P D0 b k ga x y z u D Y) (hx : at' A k = ((x : Int), (y : Int), z, u)) (hn : ¬ (0 < F.getD k 0 ∧ D.getD y 0 < far ∧ D.getD y 0 - u < D.getD x 0)) : PassD A F D0 b (k + 1) D := by
  obtain ⟨-, -, -, h⟩ := h
  rcases h with ⟨h1, rfl, h3, h4⟩ | h
  · refine .inl ⟨h1, rfl, closeD_step h3 hx h4 fun e1 e2 => ?_⟩
    rcases Int.lt_or_le (D.getD y 0 - u) (D.getD x 0) with e3 | e3
    · exact absurd ⟨e1, e2, e3⟩ hn
    · exact e3
  · exact .inr h
theorem halfD_two {w0 W : World} {N s t : Nat} {a : Option Addr} {m c gd gb : Nat} {A : List Arc} {F : List Int} {P : Nat → Int} {D0 : List Int} {b : Bool} {k ga x y : Nat} {z u : Int} {D Y : List Int}
    (h : HalfD w0 W N s t a m c gd gb A F P D0 b k ga x y z u D Y) (hB : PotB A F N s t P) (hk : k < A.length) (hx : at' A k = ((x : Int), (y : Int), z, u)) (hxN : x < N) (hyN : y < N)
    (h1 : 0 < F.getD k 0) (h2 : D.getD y 0 < far) (h3 : D.getD y 0 - u < D.getD x 0) {W6 W' : World} (hA : Add W W')
    (hW : W6 = (W'.setCell ⟨gd, x, none⟩ (.int .i64 (D.getD y 0 - u))).setCell ⟨gb, x, none⟩ (.int .i64 ((A.length : Int) + (k : Int)))) :
    DSt w0 W6 N s t a m c gd gb (D.set x (D.getD y 0 - u)) (Y.set x ((A.length : Int) + (k : Int))) ∧ DS A F N s P (D.set x (D.getD y 0 - u)) (Y.set x ((A.length : Int) + (k : Int))) ∧ PassD A F D0 true (k + 1) (D.set x (D.getD y 0 - u)) := by
  subst hW
  obtain ⟨hS, hD, -, hor⟩ := h
  obtain ⟨g1, g2, g3⟩ := relax_b hD hB hk hx hxN hyN h1 h2 h3
  refine ⟨(hS.add hA).put x _ _, g2, .inr ⟨rfl, ?_⟩⟩
  rcases hor with ⟨-, rfl, -⟩ | ⟨-, e⟩
  · exact g3
  · omega
theorem DS.sum {A : List Arc} {F : List Int} {N s t : Nat} {P : Nat → Int} {D Y : List Int} (h : DS A F N s P D Y) (hB : PotB A F N s t P) : 0 ≤ sumD D :=
  sumD_nonneg D fun x hx => by
    have h1 := h.2.2.2.1 x (by have := h.1; omega)
    have h2 := hB.2.2.1 x (by have := h.1; omega)
    omega
/-- What distances returns. -/
def DistP (w : World) (N s : Nat) (A : List Arc) (F : List Int) (P : Nat → Int) (e : Ending) (w' : World) : Prop :=
  ∃ gd gb D Y, e = .returned (.tuple #[.slice (some ⟨gd, 0, none⟩) N N, .slice (some ⟨gb, 0, none⟩) N N]) ∧ IBlk w' gd D ∧ IBlk w' gb Y ∧ DS A F N s P D Y ∧ ClosedD A F D A.length ∧ Add w w' ∧ w.heap.size ≤ gd ∧ w.heap.size ≤ gb ∧ gd ≠ gb
end Go.Proofs.Ytaoibakbnimnkaa
