/- Package mincost: cheapest: the variable is laid (made by gen/cheap.py). -/
import Derived.Test.YtaoibakbnimnkaaYg
namespace Go.Proofs.Ytaoibakbnimnkaa
open Go.RowKit NetM

/-- Which of the operations that make something are done. -/
def lst (b2 b4 b5 b8 b11 b14 b17 : Bool) : Array Bool := #[true, true, b2, true, b4, b5, true, true, b8, true, true, b11, true, true, b14, true, true, b17, false, false, false]
def lft (l : Array Bool) : Nat := [2, 4, 5, 8, 11, 14, 17].countP fun i => !(l.getD i true)
def okb (b2 b4 b5 : Bool) : Bool := !b5 || (b2 && b4)
def caseB (i : Nat) (b2 b4 b5 b8 b11 b14 b17 : Bool) : Bool := (i == 2 && !b2) || (i == 4 && !b4) || (i == 5 && !b5 && b2 && b4) || (i == 8 && !b8) || (i == 11 && !b11) || (i == 14 && !b14) || (i == 17 && !b17)
theorem own_base {w : World} {b b' size n : Nat} {T : TypeId} {v : Value} {xs : List Value} (h : w.ownsRow b T size v n xs) (hb : b' ≤ b) : w.ownsRow b' T size v n xs := by
  refine ⟨h.1, ?_⟩
  rcases h.2 with q | ⟨g, cap, cur, e, q, r⟩
  · exact .inl q
  · exact .inr ⟨g, cap, cur, e, by omega, r⟩
def backCells (N s t : Nat) (am : Int) : List Value := [.int .i64 t, .int .i64 s, .int .i64 am, .int .i64 (-(N : Int) * 1000)]
/-- What was made so far. -/
def MadeC (Wb w : World) (A : List Arc) (N s t : Nat) (am : Int) (b2 b4 b5 b8 b11 b14 b17 : Bool) (v22 v24 v25 v28 v31 v34 v37 : Value) : Prop :=
  Add Wb w ∧ (b2 = true → b5 = false → w.ownsRow Wb.heap.size 35 4 v22 A.length (cellsA A)) ∧
  (b4 = true → b5 = false → ∃ g, v24 = .slice (some ⟨g, 0, none⟩) 1 1 ∧ w.heap[g]? = some (.cells (backCells N s t am).toArray 35 (0, 0))) ∧
  (b5 = true → w.ownsRow Wb.heap.size 35 4 v25 (A.length + 1) (cellsA A ++ backCells N s t am)) ∧
  (b8 = true → ∃ g, v28 = sl g N ∧ w.heap[g]? = some (.cells (List.replicate N (Value.slice none 0 0)).toArray 25 (0, 0)) ∧ Wb.heap.size ≤ g) ∧
  (b11 = true → ∃ g, v31 = sl g N ∧ IBlk w g (List.replicate N 0) ∧ Wb.heap.size ≤ g) ∧
  (b14 = true → ∃ g, v34 = sl g N ∧ IBlk w g (List.replicate N 0) ∧ Wb.heap.size ≤ g) ∧
  (b17 = true → ∃ g, v37 = sl g N ∧ BBlk w g (List.replicate N false) ∧ Wb.heap.size ≤ g) ∧
  (b11 = true → b14 = true → v31.ownBlock ≠ v34.ownBlock)
theorem MadeC.add {Wb w w' : World} {A : List Arc} {N s t : Nat} {am : Int} {b2 b4 b5 b8 b11 b14 b17 : Bool} {v22 v24 v25 v28 v31 v34 v37 : Value} (h : MadeC Wb w A N s t am b2 b4 b5 b8 b11 b14 b17 v22 v24 v25 v28 v31 v34 v37) (hb : Add w w') :
    MadeC Wb w' A N s t am b2 b4 b5 b8 b11 b14 b17 v22 v24 v25 v28 v31 v34 v37 := by
  obtain ⟨h1, h2, h3, h4, h5, h6, h7, h8, h9⟩ := h
  have hk : ∀ {n : Nat} {v : Value} {xs : List Value}, w.ownsRow Wb.heap.size 35 4 v n xs → w'.ownsRow Wb.heap.size 35 4 v n xs := fun {n v xs} q => q.kept (grownA_of hb) (by
    cases e : v.ownBlock with
    | none => exact .inl rfl
    | some k => exact .inr (by simp))
  refine ⟨Add.trans h1 hb, fun q r => hk (h2 q r), fun q r => ?_, fun q => hk (h4 q), fun q => ?_, fun q => ?_, fun q => ?_, fun q => ?_, h9⟩
  · obtain ⟨g, e, k⟩ := h3 q r; exact ⟨g, e, addB k hb⟩
  · obtain ⟨g, e, k, l⟩ := h5 q; exact ⟨g, e, addB k hb, l⟩
  · obtain ⟨g, e, k, l⟩ := h6 q; exact ⟨g, e, Blk.add k hb, l⟩
  · obtain ⟨g, e, k, l⟩ := h7 q; exact ⟨g, e, Blk.add k hb, l⟩
  · obtain ⟨g, e, k, l⟩ := h8 q; exact ⟨g, e, Blk.add k hb, l⟩
/-- The cells of the steps that a flow of nothing leaves. -/
def cellsC (A : List Arc) (k : Nat) : List Value := (List.range k).flatMap fun j => [iv (headS A j), iv 0, iv (costS A j)]
theorem cellsC_succ (A : List Arc) (k : Nat) : cellsC A (k + 1) = cellsC A k ++ [iv (headS A k), iv 0, iv (costS A k)] := by
  unfold cellsC
  rw [List.range_succ, List.flatMap_append]; simp
theorem cellsC_len (A : List Arc) (k : Nat) : (cellsC A k).length = k * 3 := by
  induction k with
  | zero => rfl
  | succ k ih => rw [cellsC_succ, List.length_append, ih]; simp; omega
theorem cellsC_get (A : List Arc) {k j : Nat} (h : j < k) : (cellsC A k)[j * 3]? = some (iv (headS A j)) ∧ (cellsC A k)[j * 3 + 1]? = some (iv 0) ∧ (cellsC A k)[j * 3 + 2]? = some (iv (costS A j)) := by
  induction k with
  | zero => omega
  | succ k ih =>
    rw [cellsC_succ]
    by_cases e : j = k
    · subst e
      rw [List.getElem?_append_right (by rw [cellsC_len]; omega), List.getElem?_append_right (by rw [cellsC_len]; omega), List.getElem?_append_right (by rw [cellsC_len]; omega), cellsC_len]
      rw [show j * 3 - j * 3 = 0 by omega, show j * 3 + 1 - j * 3 = 1 by omega, show j * 3 + 2 - j * 3 = 2 by omega]
      exact ⟨rfl, rfl, rfl⟩
    · rw [List.getElem?_append_left (by rw [cellsC_len]; omega), List.getElem?_append_left (by rw [cellsC_len]; omega), List.getElem?_append_left (by rw [cellsC_len]; omega)]
      exact ih (by omega)
theorem cellsC_two (A : List Arc) {k : Nat} {x y z u : Int} (h : at' A k = (x, y, z, u)) : cellsC A (2 * k + 2) = cellsC A (2 * k) ++ [iv y, iv 0, iv u, iv x, iv 0, iv (-u)] := by
  rw [show 2 * k + 2 = 2 * k + 1 + 1 from rfl, cellsC_succ, cellsC_succ, List.append_assoc]
  have e1 : headS A (2 * k) = y := by unfold headS; rw [show 2 * k % 2 = 0 by omega, show 2 * k / 2 = k by omega, h]; rfl
  have e2 : headS A (2 * k + 1) = x := by unfold headS; rw [show (2 * k + 1) % 2 = 1 by omega, show (2 * k + 1) / 2 = k by omega, h]; rfl
  have e3 : costS A (2 * k) = u := by unfold costS; rw [show 2 * k % 2 = 0 by omega, show 2 * k / 2 = k by omega, h]; rfl
  have e4 : costS A (2 * k + 1) = -u := by unfold costS; rw [show (2 * k + 1) % 2 = 1 by omega, show (2 * k + 1) / 2 = k by omega, h]; rfl
  rw [e1, e2, e3, e4]; rfl
/-- While the steps are laid: k arcs are done. -/
def BC (w0 w : World) (base : Nat) (A : List Arc) (N gr gf gp gx gt k : Nat) (va sv : Value) (R : Nat → List Nat) : Prop :=
  CBox w gr va sv (sl gf N) (sl gp N) (sl gx N) (sl gt N) ∧ w.ownsRow w0.heap.size 35 4 va A.length (cellsA A) ∧ w.ownsRow base 76 3 sv (2 * k) (cellsC A (2 * k)) ∧ RowsB w base gf gp N R ∧
  IBlk w gp (List.replicate N 0) ∧ IBlk w gx (List.replicate N 0) ∧ BBlk w gt (List.replicate N false) ∧ gp ≠ gx ∧ Add w0 w ∧ base ≤ w.heap.size ∧ gp < base ∧ gx < base ∧ w0.heap.size ≤ base ∧ w0.heap.size ≤ gr ∧ w0.heap.size ≤ gf ∧ w0.heap.size ≤ gp ∧ w0.heap.size ≤ gx ∧ w0.heap.size ≤ gt
theorem made_bcC {w0 Wb w : World} {A : List Arc} {N s t : Nat} {am : Int} {v22 v24 v25 v28 v31 v34 v37 : Value} (h0 : Add w0 Wb) (hM : MadeC Wb w A N s t am true true true true true true true v22 v24 v25 v28 v31 v34 v37) :
    ∃ gf gp gx gt, v28 = sl gf N ∧ v31 = sl gp N ∧ v34 = sl gx N ∧ v37 = sl gt N ∧
      BC w0 (w.alloc (.cells #[v25, .slice none 0 0, v28, v31, v34, v37] 60)) (w.alloc (.cells #[v25, .slice none 0 0, v28, v31, v34, v37] 60)).heap.size (A ++ [backA N s t am]) N w.heap.size gf gp gx gt 0 v25 (.slice none 0 0) (fun _ => []) := by
  have hC := add_new w (.cells #[v25, .slice none 0 0, v28, v31, v34, v37] 60)
  have hx := hM.add hC
  obtain ⟨h1, -, -, h4, h5, h6, h7, h8, h9⟩ := hx
  obtain ⟨gf, rfl, f1, f2⟩ := h5 rfl
  obtain ⟨gp, rfl, p1, p2⟩ := h6 rfl
  obtain ⟨gx, rfl, x1, x2⟩ := h7 rfl
  obtain ⟨gt, rfl, t1, t2⟩ := h8 rfl
  have hs := h0.size
  have hs2 := hM.1.size
  have lp := Blk.lt p1
  have lx := Blk.lt x1
  refine ⟨gf, gp, gx, gt, rfl, rfl, rfl, rfl, heap_alloc_new w _, ?_, World.ownsRow_nil _ _ _ _, ⟨_, f1, by simp, fun x hx => ⟨.slice none 0 0, by simp [hx], World.ownsRow_nil _ _ _ _, by simp [Value.ownBlock]⟩, fun x y v u hx hy _ hv _ _ => ?_⟩, p1, x1, t1, ?_, Add.trans h0 h1, Nat.le_refl _, lp, lx, ?_, by omega, by omega, by omega, by omega, by omega⟩
  · have := own_base (h4 rfl) hs
    rw [List.length_append, List.length_singleton, cellsA_appendY]
    exact this
  · have : v = .slice none 0 0 := by simp [hx] at hv; exact hv.symm
    rw [this]; rfl
  · intro e
    exact h9 rfl rfl (by rw [e])
  · have := hC.size
    omega
theorem new_ints (w : World) (N : Nat) : IBlk (w.alloc (.cells (List.replicate N (Value.int .i64 0)).toArray 3)) w.heap.size (List.replicate N 0) := by
  have h := heap_alloc_new w (.cells (List.replicate N (Value.int .i64 0)).toArray 3)
  unfold IBlk Blk
  rw [List.map_replicate]; exact h
theorem new_bools (w : World) (N : Nat) : BBlk (w.alloc (.cells (List.replicate N (Value.bool false)).toArray 4)) w.heap.size (List.replicate N false) := by
  have h := heap_alloc_new w (.cells (List.replicate N (Value.bool false)).toArray 4)
  unfold BBlk Blk
  rw [List.map_replicate]; exact h
def cheapF (gnw gb N s t : Nat) (am : Int) (a : Option Addr) (m c : Nat) (v22 v24 v25 v28 v31 v34 v37 : Value) : Act := { tmps := #[.agg #[.int .i64 N, .int .i64 s, .int .i64 t, .slice a m c], .int .i64 am, .pointer (some ⟨gnw, 0, none⟩), undef, .pointer none, .pointer (some ⟨gb, 0, none⟩), undef, undef, undef, undef, .pointer (some ⟨gnw, 2, none⟩), .int .i64 t, .pointer (some ⟨gnw, 1, none⟩), .int .i64 s, .int .i64 am, .pointer (some ⟨gnw, 0, none⟩), .int .i64 N, .int .i64 (-(N : Int)), .int .i64 (-(N : Int) * 1000), .agg #[.int .i64 t, .int .i64 s, .int .i64 am, .int .i64 (-(N : Int) * 1000)], .pointer (some ⟨gnw, 3, none⟩), .slice a m c, v22, .agg #[.int .i64 t, .int .i64 s, .int .i64 am, .int .i64 (-(N : Int) * 1000)], v24, v25, .pointer (some ⟨gnw, 0, none⟩), .int .i64 N, v28, .pointer (some ⟨gnw, 0, none⟩), .int .i64 N, v31, .pointer (some ⟨gnw, 0, none⟩), .int .i64 N, v34, .pointer (some ⟨gnw, 0, none⟩), .int .i64 N, v37, undef, undef, undef, undef, undef, undef, undef, undef, undef, undef, undef, undef, undef, undef, undef, undef, undef, undef, undef, undef, undef, undef, undef, undef, undef, undef, undef, undef, undef, undef, undef, undef, undef, undef, undef, undef, undef, undef, undef, undef, undef, undef, undef, undef, undef, undef, undef, undef, undef, undef, undef, undef, undef, undef, undef, undef, undef, undef, undef, undef, undef, undef, undef, undef, undef, undef, undef, undef, undef, undef, undef, undef, undef, undef, undef, undef, undef, undef, undef, undef, undef, undef], defers := [] }
def CheapI (Wb : World) (gnw gb N s t : Nat) (am : Int) (a : Option Addr) (m c : Nat) (A : List Arc) (listed : Array Bool) (f : Act) (w : World) : Prop :=
  ∃ b2 b4 b5 b8 b11 b14 b17 v22 v24 v25 v28 v31 v34 v37, listed = lst b2 b4 b5 b8 b11 b14 b17 ∧ okb b2 b4 b5 = true ∧ f = cheapF gnw gb N s t am a m c v22 v24 v25 v28 v31 v34 v37 ∧ MadeC Wb w A N s t am b2 b4 b5 b8 b11 b14 b17 v22 v24 v25 v28 v31 v34 v37
/-- The step from what is ready. -/
theorem cheap_step {Wb : World} {gnw gb N s t : Nat} {am : Int} {a : Option Addr} {m c : Nat} {A : List Arc} {P : Program} {ops : Array Oper} {Q : Exit → Act → World → Prop} {S : World → Prop}
    (hd : ∀ b2 b4 b5 b8 b11 b14 b17 : Bool, okb b2 b4 b5 = true → 0 < lft (lst b2 b4 b5 b8 b11 b14 b17) → Region.ready .any ops (lst b2 b4 b5 b8 b11 b14 b17) ≠ [] ∧ ∀ i ∈ Region.ready .any ops (lst b2 b4 b5 b8 b11 b14 b17), caseB i b2 b4 b5 b8 b11 b14 b17 = true)
    (hop : ∀ i ∈ [2, 4, 5, 8, 11, 14, 17], ∀ b2 b4 b5 b8 b11 b14 b17 v22 v24 v25 v28 v31 v34 v37 w, okb b2 b4 b5 = true → caseB i b2 b4 b5 b8 b11 b14 b17 = true → MadeC Wb w A N s t am b2 b4 b5 b8 b11 b14 b17 v22 v24 v25 v28 v31 v34 v37 →
      wpOp P ops Q i (fun a' w' => S w' ∧ CheapI Wb gnw gb N s t am a m c A ((lst b2 b4 b5 b8 b11 b14 b17).setIfInBounds i true) a' w') (cheapF gnw gb N s t am a m c v22 v24 v25 v28 v31 v34 v37) w) :
    ∀ listed f w, CheapI Wb gnw gb N s t am a m c A listed f w → 0 < lft listed → Region.ready .any ops listed ≠ [] ∧ ∀ i ∈ Region.ready .any ops listed, lft (listed.setIfInBounds i true) < lft listed ∧
      wpOp P ops Q i (fun a' w' => (S w' ∧ ((listed.setIfInBounds i true).getD 20 true = false → True)) ∧ CheapI Wb gnw gb N s t am a m c A (listed.setIfInBounds i true) a' w') f w := by
  rintro listed f w ⟨b2, b4, b5, b8, b11, b14, b17, v22, v24, v25, v28, v31, v34, v37, rfl, hok, rfl, hM⟩ h0
  obtain ⟨h1, h2⟩ := hd b2 b4 b5 b8 b11 b14 b17 hok h0
  refine ⟨h1, fun i hi => ?_⟩
  have hc := h2 i hi
  have hi7 : i ∈ [2, 4, 5, 8, 11, 14, 17] := by
    unfold caseB at hc
    simp only [Bool.or_eq_true, Bool.and_eq_true, beq_iff_eq] at hc
    simp only [List.mem_cons, List.not_mem_nil, or_false]
    omega
  refine ⟨?_, wpOp_mono (fun a' w' h => ⟨⟨h.1, fun _ => trivial⟩, h.2⟩) (hop i hi7 _ _ _ _ _ _ _ _ _ _ _ _ _ _ _ hok hc hM)⟩
  have key : ∀ i ∈ [2, 4, 5, 8, 11, 14, 17], ∀ b2 b4 b5 b8 b11 b14 b17 : Bool, caseB i b2 b4 b5 b8 b11 b14 b17 = true → lft ((lst b2 b4 b5 b8 b11 b14 b17).setIfInBounds i true) < lft (lst b2 b4 b5 b8 b11 b14 b17) := by decide +kernel
  exact key i hi7 _ _ _ _ _ _ _ hc
end Go.Proofs.Ytaoibakbnimnkaa
