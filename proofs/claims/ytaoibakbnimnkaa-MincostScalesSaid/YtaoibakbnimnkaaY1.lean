/- Package mincost: what a circulation is in memory. -/
import Derived.Test.YtaoibakbnimnkaaP7
import Derived.Test.YtaoibakbnimnkaaP8
import Derived.Test.YtaoibakbnimnkaaJA
import Derived.Deep.LoopGhost
import Derived.Deep.CutRange
import Derived.StillTailTactics
namespace Go.Proofs.Ytaoibakbnimnkaa
open Go.RowKit NetM

/-- The arcs. -/
def ArcsC (w : World) (ga : Nat) (va : Value) (A : List Arc) : Prop := ∃ c, va = .slice (some ⟨ga, 0, none⟩) A.length c ∧ A.length ≤ c ∧ c ≤ maxLen ∧ ∃ cur : Array Value, w.heap[ga]? = some (.cells cur 35 (0, 0)) ∧
  ∀ i, i < A.length → cur[i * 4]? = some (.int .i64 (at' A i).1) ∧ cur[i * 4 + 1]? = some (.int .i64 (at' A i).2.1) ∧ cur[i * 4 + 2]? = some (.int .i64 (at' A i).2.2.1) ∧ cur[i * 4 + 3]? = some (.int .i64 (at' A i).2.2.2)
theorem ArcsC.kept {w w' : World} {ga : Nat} {va : Value} {A : List Arc} {row : Option Nat} (h : ArcsC w ga va A) (hg : w.grownBy w' row) (hf : row ≠ some ga) : ArcsC w' ga va A := by
  obtain ⟨c, e, h1, h2, cur, k1, k2⟩ := h
  exact ⟨c, e, h1, h2, cur, (hg.block ga (Array.getElem?_eq_some_iff.1 k1).1 (fun e => hf e.symm)).trans k1, k2⟩
theorem ArcsC.get {w : World} {ga : Nat} {va : Value} {A : List Arc} (h : ArcsC w ga va A) {i : Nat} (hi : i < A.length) : ∃ c, va = .slice (some ⟨ga, 0, none⟩) A.length c ∧ A.length ≤ c ∧ c ≤ maxLen ∧
    w.cell? ⟨ga, i * 4, none⟩ = some (.int .i64 (at' A i).1) ∧ w.cell? ⟨ga, i * 4 + 1, none⟩ = some (.int .i64 (at' A i).2.1) ∧ w.cell? ⟨ga, i * 4 + 2, none⟩ = some (.int .i64 (at' A i).2.2.1) ∧ w.cell? ⟨ga, i * 4 + 3, none⟩ = some (.int .i64 (at' A i).2.2.2) := by
  obtain ⟨c, e, h1, h2, cur, k1, k2⟩ := h
  obtain ⟨g1, g2, g3, g4⟩ := k2 i hi
  exact ⟨c, e, h1, h2, (cell_of_row w ga _ cur _ (0, 0) k1).trans g1, (cell_of_row w ga _ cur _ (0, 0) k1).trans g2, (cell_of_row w ga _ cur _ (0, 0) k1).trans g3, (cell_of_row w ga _ cur _ (0, 0) k1).trans g4⟩
theorem ArcsC.blk {w : World} {ga : Nat} {va : Value} {A : List Arc} (h : ArcsC w ga va A) : ∃ cur : Array Value, w.heap[ga]? = some (.cells cur 35 (0, 0)) := by
  obtain ⟨c, e, h1, h2, cur, k1, k2⟩ := h
  exact ⟨cur, k1⟩
/-- The steps. -/
def StepsC (w : World) (gs : Nat) (sv : Value) (A : List Arc) (R : Nat → Int) : Prop := ∃ c, sv = .slice (some ⟨gs, 0, none⟩) (2 * A.length) c ∧ 2 * A.length ≤ c ∧ c ≤ maxLen ∧
  ∃ cur : Array Value, w.heap[gs]? = some (.cells cur 76 (0, 0)) ∧ ∀ j, j < 2 * A.length → cur[j * 3]? = some (.int .i64 (headS A j)) ∧ cur[j * 3 + 1]? = some (.int .i64 (R j)) ∧ cur[j * 3 + 2]? = some (.int .i64 (costS A j))
theorem StepsC.kept {w w' : World} {gs : Nat} {sv : Value} {A : List Arc} {R : Nat → Int} {row : Option Nat} (h : StepsC w gs sv A R) (hg : w.grownBy w' row) (hf : row ≠ some gs) : StepsC w' gs sv A R := by
  obtain ⟨c, e, h1, h2, cur, k1, k2⟩ := h
  exact ⟨c, e, h1, h2, cur, (hg.block gs (Array.getElem?_eq_some_iff.1 k1).1 (fun e => hf e.symm)).trans k1, k2⟩
theorem StepsC.blk {w : World} {gs : Nat} {sv : Value} {A : List Arc} {R : Nat → Int} (h : StepsC w gs sv A R) : ∃ cur : Array Value, w.heap[gs]? = some (.cells cur 76 (0, 0)) := by
  obtain ⟨c, e, h1, h2, cur, k1, k2⟩ := h
  exact ⟨cur, k1⟩
theorem StepsC.get {w : World} {gs : Nat} {sv : Value} {A : List Arc} {R : Nat → Int} (h : StepsC w gs sv A R) {j : Nat} (hj : j < 2 * A.length) : ∃ c, sv = .slice (some ⟨gs, 0, none⟩) (2 * A.length) c ∧ 2 * A.length ≤ c ∧ c ≤ maxLen ∧
    w.cell? ⟨gs, j * 3, none⟩ = some (.int .i64 (headS A j)) ∧ w.cell? ⟨gs, j * 3 + 1, none⟩ = some (.int .i64 (R j)) ∧ w.cell? ⟨gs, j * 3 + 2, none⟩ = some (.int .i64 (costS A j)) ∧ w.frozen? ⟨gs, j * 3 + 1, none⟩ = false ∧ gs < w.heap.size := by
  obtain ⟨c, rfl, h1, h2, cur, k1, k2⟩ := h
  obtain ⟨g1, g2, g3⟩ := k2 j hj
  exact ⟨c, rfl, h1, h2, (cell_of_row w gs _ cur _ (0, 0) k1).trans g1, (cell_of_row w gs _ cur _ (0, 0) k1).trans g2, (cell_of_row w gs _ cur _ (0, 0) k1).trans g3, frozen_of_row w gs _ cur _ k1, (Array.getElem?_eq_some_iff.1 k1).1⟩
theorem StepsC.put {w : World} {gs : Nat} {sv : Value} {A : List Arc} {R : Nat → Int} (h : StepsC w gs sv A R) (j : Nat) (x : Int) : StepsC (w.setCell ⟨gs, j * 3 + 1, none⟩ (.int .i64 x)) gs sv A (fun k => if k = j then x else R k) := by
  obtain ⟨c, e, h1, h2, cur, k1, k2⟩ := h
  refine ⟨c, e, h1, h2, cur.setIfInBounds (j * 3 + 1) (.int .i64 x), heap_setCell_same w gs _ cur _ _ k1, fun k hk => ?_⟩
  obtain ⟨g1, g2, g3⟩ := k2 k hk
  refine ⟨?_, ?_, ?_⟩
  · rw [Array.getElem?_setIfInBounds_ne (by omega)]; exact g1
  · by_cases c : k = j
    · subst c
      have : k * 3 + 1 < cur.size := (Array.getElem?_eq_some_iff.1 g2).1
      simp [this]
    · rw [Array.getElem?_setIfInBounds_ne (by omega)]
      show _ = some (Value.int .i64 (if k = j then x else R k))
      rw [if_neg c]; exact g2
  · rw [Array.getElem?_setIfInBounds_ne (by omega)]; exact g3
theorem StepsC.congr {w : World} {gs : Nat} {sv : Value} {A : List Arc} {R R' : Nat → Int} (h : StepsC w gs sv A R) (hR : ∀ j, j < 2 * A.length → R j = R' j) : StepsC w gs sv A R' := by
  obtain ⟨c, e, h1, h2, cur, k1, k2⟩ := h
  exact ⟨c, e, h1, h2, cur, k1, fun j hj => by rw [← hR j hj]; exact k2 j hj⟩
/-- The variable. -/
def CBox (w : World) (gr : Nat) (va sv fv pv xv tv : Value) : Prop := w.heap[gr]? = some (.cells #[va, sv, fv, pv, xv, tv] 60 (0, 0))
theorem CBox.c0 {w : World} {gr : Nat} {va sv fv pv xv tv : Value} (h : CBox w gr va sv fv pv xv tv) : w.cell? ⟨gr, 0, none⟩ = some va := (cell_of_row w gr 0 _ _ _ h).trans rfl
theorem CBox.c1 {w : World} {gr : Nat} {va sv fv pv xv tv : Value} (h : CBox w gr va sv fv pv xv tv) : w.cell? ⟨gr, 1, none⟩ = some sv := (cell_of_row w gr 1 _ _ _ h).trans rfl
theorem CBox.c2 {w : World} {gr : Nat} {va sv fv pv xv tv : Value} (h : CBox w gr va sv fv pv xv tv) : w.cell? ⟨gr, 2, none⟩ = some fv := (cell_of_row w gr 2 _ _ _ h).trans rfl
theorem CBox.c3 {w : World} {gr : Nat} {va sv fv pv xv tv : Value} (h : CBox w gr va sv fv pv xv tv) : w.cell? ⟨gr, 3, none⟩ = some pv := (cell_of_row w gr 3 _ _ _ h).trans rfl
theorem CBox.c4 {w : World} {gr : Nat} {va sv fv pv xv tv : Value} (h : CBox w gr va sv fv pv xv tv) : w.cell? ⟨gr, 4, none⟩ = some xv := (cell_of_row w gr 4 _ _ _ h).trans rfl
theorem CBox.c5 {w : World} {gr : Nat} {va sv fv pv xv tv : Value} (h : CBox w gr va sv fv pv xv tv) : w.cell? ⟨gr, 5, none⟩ = some tv := (cell_of_row w gr 5 _ _ _ h).trans rfl
theorem CBox.lt {w : World} {gr : Nat} {va sv fv pv xv tv : Value} (h : CBox w gr va sv fv pv xv tv) : gr < w.heap.size := (Array.getElem?_eq_some_iff.1 h).1
theorem CBox.kept {w w' : World} {gr : Nat} {va sv fv pv xv tv : Value} {row : Option Nat} (h : CBox w gr va sv fv pv xv tv) (hg : w.grownBy w' row) (hne : row ≠ some gr) : CBox w' gr va sv fv pv xv tv := (hg.block gr h.lt (fun e => hne e.symm)).trans h
/-- What the rows keep off. -/
def banC (gp gx : Nat) (k : Nat) : Prop := k = gp ∨ k = gx
abbrev sl (g N : Nat) : Value := .slice (some ⟨g, 0, none⟩) N N
/-- The circulation. w0: the world of the call that made it; R: the rooms, P: the potentials, X: what nodes have too much, T: the nodes that were tried. -/
def CB (w0 w : World) (A0 A : List Arc) (N gr ga gs gf gp gx gt : Nat) (va sv : Value) (R : Nat → Int) (P X : List Int) (T : List Bool) : Prop :=
  CBox w gr va sv (sl gf N) (sl gp N) (sl gx N) (sl gt N) ∧ ArcsC w ga va A0 ∧ StepsC w gs sv A R ∧ HdB w gf (banC gp gx) N (fromR A) ∧ IBlk w gp P ∧ IBlk w gx X ∧ BBlk w gt T ∧
  P.length = N ∧ X.length = N ∧ T.length = N ∧ gp ≠ gx ∧ Add w0 w ∧ w0.heap.size ≤ gr ∧ w0.heap.size ≤ gs ∧ w0.heap.size ≤ gp ∧ w0.heap.size ≤ gx ∧ w0.heap.size ≤ gt
theorem CB.add {w0 w w' : World} {A0 A : List Arc} {N gr ga gs gf gp gx gt : Nat} {va sv : Value} {R : Nat → Int} {P X : List Int} {T : List Bool} (h : CB w0 w A0 A N gr ga gs gf gp gx gt va sv R P X T) (hb : Add w w') : CB w0 w' A0 A N gr ga gs gf gp gx gt va sv R P X T := by
  obtain ⟨h1, h2, h3, h4, h5, h6, h7, h8, h9, h10, h11, h12, h13⟩ := h
  have hg := grownA_of hb
  exact ⟨h1.kept hg (by simp), h2.kept hg (by simp), h3.kept hg (by simp), h4.kept hg (far_none _ _ _), Blk.add h5 hb, Blk.add h6 hb, Blk.add h7 hb, h8, h9, h10, h11, Add.trans h12 hb, h13⟩
/-- A room is stored. -/
theorem CB.room {w0 w : World} {A0 A : List Arc} {N gr ga gs gf gp gx gt : Nat} {va sv : Value} {R : Nat → Int} {P X : List Int} {T : List Bool} (h : CB w0 w A0 A N gr ga gs gf gp gx gt va sv R P X T) (j : Nat) (x : Int) :
    CB w0 (w.setCell ⟨gs, j * 3 + 1, none⟩ (.int .i64 x)) A0 A N gr ga gs gf gp gx gt va sv (fun k => if k = j then x else R k) P X T := by
  obtain ⟨h1, h2, h3, h4, h5, h6, h7, h8, h9, h10, h11, h12, h13, h14, h15, h16, h17⟩ := h
  have hg := grown_set w gs (j * 3 + 1) (.int .i64 x)
  obtain ⟨cs, hcs⟩ := h3.blk
  obtain ⟨cf, hcf⟩ := h4.blk
  obtain ⟨ca, hca⟩ := h2.blk
  exact ⟨h1.kept hg (fun e => ty_ne hcs h1 (by decide) (Option.some.inj e)), h2.kept hg (fun e => ty_ne hcs hca (by decide) (Option.some.inj e)), h3.put j x, h4.kept hg (far_ty hcs (by decide) (ty_ne hcs hcf (by decide))),
    Blk.kept h5 hg (fun e => ty_ne hcs h5 (by decide) (Option.some.inj e).symm), Blk.kept h6 hg (fun e => ty_ne hcs h6 (by decide) (Option.some.inj e).symm), Blk.kept h7 hg (fun e => ty_ne hcs h7 (by decide) (Option.some.inj e).symm),
    h8, h9, h10, h11, add_setLow h12 h14 _ _, h13, h14, h15, h16, h17⟩
/-- A potential is stored. -/
theorem CB.pot {w0 w : World} {A0 A : List Arc} {N gr ga gs gf gp gx gt : Nat} {va sv : Value} {R : Nat → Int} {P X : List Int} {T : List Bool} (h : CB w0 w A0 A N gr ga gs gf gp gx gt va sv R P X T) (j : Nat) (x : Int) :
    CB w0 (w.setCell ⟨gp, j, none⟩ (.int .i64 x)) A0 A N gr ga gs gf gp gx gt va sv R (P.set j x) X T := by
  obtain ⟨h1, h2, h3, h4, h5, h6, h7, h8, h9, h10, h11, h12, h13, h14, h15, h16, h17⟩ := h
  have hg := grown_set w gp j (.int .i64 x)
  obtain ⟨cs, hcs⟩ := h3.blk
  obtain ⟨cf, hcf⟩ := h4.blk
  obtain ⟨ca, hca⟩ := h2.blk
  exact ⟨h1.kept hg (fun e => ty_ne h5 h1 (by decide) (Option.some.inj e)), h2.kept hg (fun e => ty_ne h5 hca (by decide) (Option.some.inj e)), h3.kept hg (fun e => ty_ne h5 hcs (by decide) (Option.some.inj e)), h4.kept hg (far_ban (ty_ne h5 hcf (by decide)) (.inl rfl)),
    IBlk.put h5 j x, Blk.kept h6 hg (fun e => h11 (Option.some.inj e).symm), Blk.kept h7 hg (fun e => ty_ne h5 h7 (by decide) (Option.some.inj e).symm),
    by simpa using h8, h9, h10, h11, add_setLow h12 h15 _ _, h13, h14, h15, h16, h17⟩
/-- A surplus is stored. -/
theorem CB.sur {w0 w : World} {A0 A : List Arc} {N gr ga gs gf gp gx gt : Nat} {va sv : Value} {R : Nat → Int} {P X : List Int} {T : List Bool} (h : CB w0 w A0 A N gr ga gs gf gp gx gt va sv R P X T) (j : Nat) (x : Int) :
    CB w0 (w.setCell ⟨gx, j, none⟩ (.int .i64 x)) A0 A N gr ga gs gf gp gx gt va sv R P (X.set j x) T := by
  obtain ⟨h1, h2, h3, h4, h5, h6, h7, h8, h9, h10, h11, h12, h13, h14, h15, h16, h17⟩ := h
  have hg := grown_set w gx j (.int .i64 x)
  obtain ⟨cs, hcs⟩ := h3.blk
  obtain ⟨cf, hcf⟩ := h4.blk
  obtain ⟨ca, hca⟩ := h2.blk
  exact ⟨h1.kept hg (fun e => ty_ne h6 h1 (by decide) (Option.some.inj e)), h2.kept hg (fun e => ty_ne h6 hca (by decide) (Option.some.inj e)), h3.kept hg (fun e => ty_ne h6 hcs (by decide) (Option.some.inj e)), h4.kept hg (far_ban (ty_ne h6 hcf (by decide)) (.inr rfl)),
    Blk.kept h5 hg (fun e => h11 (Option.some.inj e)), IBlk.put h6 j x, Blk.kept h7 hg (fun e => ty_ne h6 h7 (by decide) (Option.some.inj e).symm),
    h8, by simpa using h9, h10, h11, add_setLow h12 h16 _ _, h13, h14, h15, h16, h17⟩
/-- A mark is stored. -/
theorem CB.tri {w0 w : World} {A0 A : List Arc} {N gr ga gs gf gp gx gt : Nat} {va sv : Value} {R : Nat → Int} {P X : List Int} {T : List Bool} (h : CB w0 w A0 A N gr ga gs gf gp gx gt va sv R P X T) (j : Nat) (x : Bool) :
    CB w0 (w.setCell ⟨gt, j, none⟩ (.bool x)) A0 A N gr ga gs gf gp gx gt va sv R P X (T.set j x) := by
  obtain ⟨h1, h2, h3, h4, h5, h6, h7, h8, h9, h10, h11, h12, h13, h14, h15, h16, h17⟩ := h
  have hg := grown_set w gt j (.bool x)
  obtain ⟨cs, hcs⟩ := h3.blk
  obtain ⟨cf, hcf⟩ := h4.blk
  obtain ⟨ca, hca⟩ := h2.blk
  exact ⟨h1.kept hg (fun e => ty_ne h7 h1 (by decide) (Option.some.inj e)), h2.kept hg (fun e => ty_ne h7 hca (by decide) (Option.some.inj e)), h3.kept hg (fun e => ty_ne h7 hcs (by decide) (Option.some.inj e)), h4.kept hg (far_ty h7 (by decide) (ty_ne h7 hcf (by decide))),
    Blk.kept h5 hg (fun e => ty_ne h7 h5 (by decide) (Option.some.inj e).symm), Blk.kept h6 hg (fun e => ty_ne h7 h6 (by decide) (Option.some.inj e).symm), BBlk.put h7 j x,
    h8, h9, by simpa using h10, h11, add_setLow h12 h17 _ _, h13, h14, h15, h16, h17⟩
theorem CB.congr {w0 w : World} {A0 A : List Arc} {N gr ga gs gf gp gx gt : Nat} {va sv : Value} {R R' : Nat → Int} {P X : List Int} {T : List Bool} (h : CB w0 w A0 A N gr ga gs gf gp gx gt va sv R P X T) (hR : ∀ j, j < 2 * A.length → R j = R' j) : CB w0 w A0 A N gr ga gs gf gp gx gt va sv R' P X T := by
  obtain ⟨h1, h2, h3, h4⟩ := h
  exact ⟨h1, h2, h3.congr hR, h4⟩

/-- Rows of steps are kept. -/
def KeepR (gp gx : Nat) (w w' : World) : Prop := ∀ v xs, RowR w (banC gp gx) v xs → RowR w' (banC gp gx) v xs
theorem KeepR.refl (gp gx : Nat) (w : World) : KeepR gp gx w w := fun _ _ h => h
theorem KeepR.trans {gp gx : Nat} {a b c : World} (h : KeepR gp gx a b) (k : KeepR gp gx b c) : KeepR gp gx a c := fun v xs hr => k v xs (h v xs hr)
theorem KeepR.add {gp gx : Nat} {w w' : World} (hb : Add w w') : KeepR gp gx w w' := fun _ _ hr => hr.kept (grownA_of hb) (far_none w 0 _)
theorem CB.keepRoom {w0 w : World} {A0 A : List Arc} {N gr ga gs gf gp gx gt : Nat} {va sv : Value} {R : Nat → Int} {P X : List Int} {T : List Bool} (h : CB w0 w A0 A N gr ga gs gf gp gx gt va sv R P X T) (j : Nat) (x : Value) :
    KeepR gp gx w (w.setCell ⟨gs, j, none⟩ x) := fun _ _ hr => by
  obtain ⟨cs, hcs⟩ := h.2.2.1.blk
  exact hr.kept (gf := gs + 1) (grown_set w gs j x) (far_ty hcs (by decide) (by omega))
theorem CB.keepSur {w0 w : World} {A0 A : List Arc} {N gr ga gs gf gp gx gt : Nat} {va sv : Value} {R : Nat → Int} {P X : List Int} {T : List Bool} (_ : CB w0 w A0 A N gr ga gs gf gp gx gt va sv R P X T) (j : Nat) (x : Value) :
    KeepR gp gx w (w.setCell ⟨gx, j, none⟩ x) := fun _ _ hr => hr.kept (gf := gx + 1) (grown_set w gx j x) (far_ban (by omega) (.inr rfl))
theorem CB.keepTri {w0 w : World} {A0 A : List Arc} {N gr ga gs gf gp gx gt : Nat} {va sv : Value} {R : Nat → Int} {P X : List Int} {T : List Bool} (h : CB w0 w A0 A N gr ga gs gf gp gx gt va sv R P X T) (j : Nat) (x : Value) :
    KeepR gp gx w (w.setCell ⟨gt, j, none⟩ x) := fun _ _ hr => by
  have hb := h.2.2.2.2.2.2.1
  exact hr.kept (gf := gt + 1) (grown_set w gt j x) (far_ty hb (by decide) (by omega))

/-! ### reduced -/
theorem xor_two_at : ∀ a : Nat, a < 80 → ∀ b : Nat, b < 64 → bits BinOp.xor .i64 ((64 * a + b : Nat) : Int) 1 = ((twin (64 * a + b) : Nat) : Int) := by decide +kernel
theorem xor_two (k : Nat) (h : k < 5100) : bits BinOp.xor .i64 (k : Int) 1 = ((twin k : Nat) : Int) := by
  have := xor_two_at (k / 64) (by omega) (k % 64) (by omega)
  rwa [show 64 * (k / 64) + k % 64 = k by omega] at this
set_option maxRecDepth 100000 in
set_option maxHeartbeats 4000000 in
theorem reduced_any {w0 w : World} {A0 A : List Arc} {N gr ga gs gf gp gx gt : Nat} {va sv : Value} {R : Nat → Int} {P X : List Int} {T : List Bool} (h : CB w0 w A0 A N gr ga gs gf gp gx gt va sv R P X T)
    (hc : Cir A N) (hP : ∀ x, x < N → -200000000 ≤ P.getD x 0 ∧ P.getD x 0 ≤ 200000000) {j : Nat} (hj : j < 2 * A.length) :
    Calls Try.prog 52 #[.pointer (some ⟨gr, 0, none⟩), .int .i64 j] w fun e w' => e = .returned (.int .i64 (redS A P j)) ∧ ∃ n, w' = w.drewN n := by
  obtain ⟨c1, c3⟩ : w.cell? ⟨gr, 1, none⟩ = some sv ∧ w.cell? ⟨gr, 3, none⟩ = some (sl gp N) := ⟨h.1.c1, h.1.c3⟩
  obtain ⟨c, rfl, hc1, hc2, s0, s1, s2, -, -⟩ := h.2.2.1.get hj
  have hjt : twin j < 2 * A.length := twin_lt hj
  obtain ⟨-, -, -, -, t0, -, -, -, -⟩ := h.2.2.1.get hjt
  have hPl := h.2.2.2.2.2.2.2.1
  obtain ⟨e1, e2⟩ := tn_is hc.ok hj
  obtain ⟨e3, e4⟩ := hn_is hc.ok hj
  rw [head_twin, e1] at t0
  rw [e3] at s0
  have px : w.cell? ⟨gp, tn A j, none⟩ = some (.int .i64 (P.getD (tn A j) 0)) := IBlk.get h.2.2.2.2.1 _ (by omega)
  have py : w.cell? ⟨gp, hn A j, none⟩ = some (.int .i64 (P.getD (hn A j) 0)) := IBlk.get h.2.2.2.2.1 _ (by omega)
  have X1 := xor_two j (by have := hc.len; omega)
  have hcs := hc.cst j hj
  have hpx := hP _ e2
  have hpy := hP _ e4
  have HF : Hid (redS A P j = costS A j + P.getD (tn A j) 0 - P.getD (hn A j) 0) := Lib.hid rfl
  obtain ⟨x, hx⟩ : ∃ x, x = tn A j := ⟨_, rfl⟩
  obtain ⟨y, hy⟩ : ∃ y, y = hn A j := ⟨_, rfl⟩
  obtain ⟨p, hp⟩ : ∃ p, p = P.getD (tn A j) 0 := ⟨_, rfl⟩
  obtain ⟨q, hq⟩ : ∃ q, q = P.getD (hn A j) 0 := ⟨_, rfl⟩
  obtain ⟨co, hco⟩ : ∃ co, co = costS A j := ⟨_, rfl⟩
  obtain ⟨tw, htw⟩ : ∃ tw, tw = twin j := ⟨_, rfl⟩
  rw [← hp, ← hx] at px
  rw [← hq, ← hy] at py
  rw [← hp] at hpx
  rw [← hq] at hpy
  rw [← hco] at hcs s2
  rw [← hx, ← htw] at t0
  rw [← hy] at s0
  rw [← htw] at X1 hjt
  rw [← hx] at e2
  rw [← hy] at e4
  have HF2 : Hid (redS A P j = co + p - q) := Lib.hid (by rw [HF.out, hp, hq, hco])
  obtain ⟨m, hm⟩ : ∃ m, m = 2 * A.length := ⟨_, rfl⟩
  rw [← hm] at hj hjt hc1 c1
  have W1 : IntKind.i64.wrap (co + p) = co + p := IntWalk.i64_in _ (by omega)
  have W2 : IntKind.i64.wrap (co + p - q) = co + p - q := IntWalk.i64_in _ (by omega)
  unfold maxLen at hc2
  clear h hx hy hp hq hco htw hm HF hPl e1 e3 hP hc s1
  go_enter Try.func52, Try.ntmps52
  go_wp2_with fail
  go_quiet (fail)
  go_wp2_with fail
  go_ret
  exact ⟨by rw [HF2.out]; rfl, _, rfl⟩
end Go.Proofs.Ytaoibakbnimnkaa
