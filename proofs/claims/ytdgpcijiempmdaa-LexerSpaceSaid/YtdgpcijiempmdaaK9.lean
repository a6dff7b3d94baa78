/- Lists of tokens in memory; what a scan keeps from token to token. -/
import Derived.Test.YtdgpcijiempmdaaK8
import Derived.Laws.AppendOwn
import Derived.Laws.OwnMore
import Derived.Deep.DeepCutAuto
namespace Go.Proofs.Ytdgpcijiempmdaa
open Go.RowKit LxM

theorem infoTok : (Try.prog.info? 32).map (fun i => (i.zero, i.size, i.bytes)) = some (some (.agg #[.int .i64 0, .string ⟨#[]⟩, .int .i64 0, .int .i64 0]), 4, 40) := by kernel_rfl
theorem info_tok : ∃ i, Try.prog.info? 32 = some i ∧ i.zero = some (.agg #[.int .i64 0, .string ⟨#[]⟩, .int .i64 0, .int .i64 0]) ∧ i.size = 4 ∧ i.bytes = 40 := by
  have h := infoTok
  cases e : Try.prog.info? 32 with
  | none => rw [e] at h; cases h
  | some i =>
    rw [e] at h
    simp only [Option.map_some, Option.some.injEq, Prod.mk.injEq] at h
    exact ⟨i, rfl, h.1, h.2.1, h.2.2⟩
def cells1 (t : Tok) : List Value := [.int .i64 (t.kind : Nat), .string t.text, .int .i64 (t.line : Nat), .int .i64 (t.col : Nat)]
def cellsT (ts : List Tok) : List Value := ts.flatMap cells1
theorem cellsT_append (ts : List Tok) (t : Tok) : cellsT (ts ++ [t]) = cellsT ts ++ cells1 t := by simp [cellsT]
theorem cellsT_length (ts : List Tok) : (cellsT ts).length = ts.length * 4 := by
  induction ts with
  | nil => rfl
  | cons t ts ih =>
    have : cellsT (t :: ts) = cells1 t ++ cellsT ts := by simp [cellsT]
    rw [this, List.length_append, ih, List.length_cons]
    show 4 + _ = _
    omega
theorem cellsT_get : ∀ (ts : List Tok) (i : Nat) (_ : i < ts.length) (j : Nat) (_ : j < 4), (cellsT ts)[i * 4 + j]? = (cells1 (ts.getD i ⟨0, ⟨#[]⟩, 0, 0⟩))[j]?
  | [], i, h, _, _ => by simp at h
  | t :: ts, 0, _, j, hj => by
    have : cellsT (t :: ts) = cells1 t ++ cellsT ts := by simp [cellsT]
    rw [this, List.getElem?_append_left (by show 0 * 4 + j < 4; omega)]
    simp
  | t :: ts, i + 1, h, j, hj => by
    have : cellsT (t :: ts) = cells1 t ++ cellsT ts := by simp [cellsT]
    rw [this, List.getElem?_append_right (by show 4 ≤ _; omega)]
    have e : (i + 1) * 4 + j - (cells1 t).length = i * 4 + j := by show _ - 4 = _; omega
    rw [e, cellsT_get ts i (by simpa using h) j hj]
    rfl
/-- A list of tokens that the call made itself. -/
def ToksO (w : World) (base : Nat) (v : Value) (ts : List Tok) : Prop := w.ownsRow base 32 4 v ts.length (cellsT ts)
/-- A list of tokens. -/
def ToksB (w : World) (v : Value) (ts : List Tok) : Prop := ∃ (ao : Option Addr) (n c : Nat), v = .slice ao n c ∧ ts.length = n ∧ n ≤ 100000 ∧
  ∀ i, i < n → ∃ b, ao = some ⟨b, 0, none⟩ ∧ b < w.heap.size ∧ ∀ j, j < 4 → w.cell? ⟨b, i * 4 + j, none⟩ = (cells1 (ts.getD i ⟨0, ⟨#[]⟩, 0, 0⟩))[j]?
theorem ToksB.mono {w w' : World} {v : Value} {ts : List Tok} (h : ToksB w v ts) (hb : Add w w') : ToksB w' v ts := by
  obtain ⟨ao, n, c, rfl, h1, h2, h3⟩ := h
  refine ⟨ao, n, c, rfl, h1, h2, fun i hi => ?_⟩
  obtain ⟨b, e, hl, hc⟩ := h3 i hi
  exact ⟨b, e, Nat.lt_of_lt_of_le hl hb.size, fun j hj => (hb.cell (p := ⟨b, i * 4 + j, none⟩) hl).trans (hc j hj)⟩
theorem ToksB.nil (w : World) : ToksB w (.slice none 0 0) [] := ⟨none, 0, 0, rfl, rfl, by decide, fun i hi => by omega⟩
theorem ToksO.nil (w : World) (base : Nat) : ToksO w base (.slice none 0 0) [] := World.ownsRow_nil _ _ _ _
theorem ToksO.toks {w : World} {base : Nat} {v : Value} {ts : List Tok} (h : ToksO w base v ts) (hn : ts.length ≤ 100000) : ToksB w v ts := by
  rcases h.2 with ⟨rfl, h0⟩ | ⟨g, cap, cur, rfl, hb, hg, -⟩
  · exact ⟨none, 0, 0, rfl, h0, by omega, fun i hi => by omega⟩
  · refine ⟨some ⟨g, 0, none⟩, ts.length, cap, rfl, rfl, hn, fun i hi => ⟨g, rfl, (Array.getElem?_eq_some_iff.1 hg).1, fun j hj => ?_⟩⟩
    have hk : i * 4 + j < (cellsT ts).length := by rw [cellsT_length]; omega
    have k := World.ownsRow.cells h (g := g) rfl (i * 4 + j) _ (List.getElem?_eq_getElem hk)
    rw [Addr.add_lit, Nat.zero_add] at k
    rw [k, ← List.getElem?_eq_getElem hk, cellsT_get ts i hi j hj]
theorem own_block {w : World} {base e size n : Nat} {v : Value} {xs : List Value} (h : w.ownsRow base e size v n xs) : ∀ k, v.ownBlock = some k → base ≤ k ∧ k < w.heap.size := by
  intro k hk
  rcases h.2 with ⟨rfl, -⟩ | ⟨g, cap, cur, rfl, hb, hg, -⟩
  · cases hk
  · have e : g = k := by simpa [Value.ownBlock] using hk
    subst e
    exact ⟨hb, (Array.getElem?_eq_some_iff.1 hg).1⟩
theorem ownsRow_add {w w' : World} {base e n size : Nat} {v : Value} {xs : List Value} (h : w.ownsRow base e size v n xs) (hb : Add w w') : w'.ownsRow base e size v n xs := by
  refine ⟨h.1, ?_⟩
  rcases h.2 with hn | ⟨g', cap, cur, e, hg, hgg, rest⟩
  · exact .inl hn
  · refine .inr ⟨g', cap, cur, e, hg, ?_, rest⟩
    rw [hb.block g' (Array.getElem?_eq_some_iff.1 hgg).1]; exact hgg
theorem cells_four_new (w : World) (x y z u : Value) (t : TypeId) : ∀ j q, [x, y, z, u][j]? = some q → (w.alloc (.cells #[x, y, z, u] t)).cell? ((⟨w.heap.size, 0, none⟩ : Addr).add j) = some q := by
  intro j q hj
  rw [Addr.add_lit, Nat.zero_add, cell_of_row _ w.heap.size j _ t (0, 0) (heap_alloc_new w _)]
  simpa using hj
theorem cells_four_at {W : World} {g : Nat} (h : W.heap.size = g) (x y z u : Value) (t : TypeId) : ∀ j q, [x, y, z, u][j]? = some q → (W.alloc (.cells #[x, y, z, u] t)).cell? ((⟨g, 0, none⟩ : Addr).add j) = some q := by
  subst h; exact cells_four_new W x y z u t
theorem size_alloc_one (w : World) (o : Obj) : (w.alloc o).heap.size = w.heap.size + 1 := by simp
/-- A position in a variable. -/
def PosB (w : World) (g l c : Nat) : Prop := w.heap[g]? = some (.cells #[.int .i64 (l : Nat), .int .i64 (c : Nat)] 26 (0, 0))
theorem PosB.lt {w : World} {g l c : Nat} (h : PosB w g l c) : g < w.heap.size := (Array.getElem?_eq_some_iff.1 h).1
theorem PosB.mono {w w' : World} {g l c : Nat} (h : PosB w g l c) (hb : Add w w') : PosB w' g l c := (hb.block g h.lt).trans h
theorem PosB.c0 {w : World} {g l c : Nat} (h : PosB w g l c) : w.cell? ⟨g, 0, none⟩ = some (.int .i64 (l : Nat)) := by rw [cell_of_row w g 0 _ _ (0, 0) h]; rfl
theorem PosB.c1 {w : World} {g l c : Nat} (h : PosB w g l c) : w.cell? ⟨g, 1, none⟩ = some (.int .i64 (c : Nat)) := by rw [cell_of_row w g 1 _ _ (0, 0) h]; rfl
theorem PosB.fr {w : World} {g l c : Nat} (h : PosB w g l c) (j : Nat) : w.frozen? ⟨g, j, none⟩ = false := frozen_of_row w g j _ _ h
theorem pos_new (w : World) (l c : Nat) : PosB (w.alloc (.cells #[.int .i64 (l : Nat), .int .i64 (c : Nat)] 26)) w.heap.size l c := heap_alloc_new w _
def put2 (w : World) (g : Nat) (u0 u1 : Value) : World := (w.setCell ⟨g, 0, none⟩ u0).setCell ⟨g, 1, none⟩ u1
theorem pos_put {w : World} {g l c : Nat} (h : PosB w g l c) (l' c' : Nat) : PosB (put2 w g (.int .i64 (l' : Nat)) (.int .i64 (c' : Nat))) g l' c' := by
  unfold PosB at h ⊢
  unfold put2
  have h1 := heap_setCell_same w g 0 _ _ (.int .i64 (l' : Nat)) h
  rw [heap_setCell_same _ g 1 _ _ _ h1]
  rfl
theorem below_put2 {b g : Nat} {w w' : World} (h : Below b w w') (hg : b ≤ g) (u0 u1 : Value) : Below b w (put2 w' g u0 u1) := (h.setCell hg _).setCell hg _

/-- What a scan keeps: the scanner, the tokens so far, the variable of the position, and all that was there. -/
structure ScanI (w wr : World) (s : ByteArray) (i : Nat) (v : Value) (ts : List Tok) : Prop where
  sc : Sc wr (w.heap.size + 1) s i
  toks : ToksO wr (w.heap.size + 2) v ts
  pos : PosB wr w.heap.size 0 0
  add : Add w wr
theorem ScanI.size {w wr : World} {s : ByteArray} {i : Nat} {v : Value} {ts : List Tok} (h : ScanI w wr s i v ts) : w.heap.size + 2 ≤ wr.heap.size := h.sc.lt
theorem ScanI.next {w wr w1 : World} {s : ByteArray} {i : Nat} {v : Value} {ts : List Tok} (h : ScanI w wr s i v ts) (hb : Add wr w1) : ScanI w w1 s i v ts :=
  ⟨h.sc.mono hb, ownsRow_add h.toks hb, h.pos.mono hb, Add.trans h.add hb⟩
theorem ScanI.move {w wr w1 : World} {s : ByteArray} {i j : Nat} {v : Value} {ts : List Tok} (h : ScanI w wr s i v ts) (hm : Mv wr w1 (w.heap.size + 1) s j) : ScanI w w1 s j v ts := by
  refine ⟨hm.2, World.ownsRow.kept h.toks hm.1 ?_, (hm.1.5 _ h.pos.lt (by intro e; injection e with e; omega)).trans h.pos, Below.grown h.add hm.1 h.add.size (fun k e => by injection e with e; omega)⟩
  cases e : v.ownBlock with
  | none => exact .inl rfl
  | some k =>
    have := (own_block h.toks k e).1
    exact .inr (by intro e2; injection e2 with e2; omega)
theorem ScanI.push0 {w wr w3 : World} {s : ByteArray} {i : Nat} {v v' : Value} {ts : List Tok} {t : Tok} (h2 : ScanI w wr s i v ts) (hg : wr.grownBy w3 v.ownBlock)
    (ho : w3.ownsRow (w.heap.size + 2) 32 4 v' (ts.length + 1) (cellsT ts ++ cells1 t)) : ScanI w w3 s i v' (ts ++ [t]) := by
  have hne : ∀ k, k < w.heap.size + 2 → some k ≠ v.ownBlock := by
    intro k hk e
    have := (own_block h2.toks k e.symm).1
    omega
  refine ⟨(hg.5 _ h2.sc.lt (hne _ (by omega))).trans h2.sc, ?_, (hg.5 _ h2.pos.lt (hne _ (by omega))).trans h2.pos, Below.grown h2.add hg h2.add.size (fun k e => by have := (own_block h2.toks k e).1; omega)⟩
  unfold ToksO
  rw [List.length_append, cellsT_append]
  exact ho
theorem ScanI.push {w wr w3 : World} {s : ByteArray} {i : Nat} {v v' : Value} {ts : List Tok} {t : Tok} {o1 o2 : Obj} (h : ScanI w wr s i v ts) (hg : ((wr.alloc o1).alloc o2).grownBy w3 v.ownBlock)
    (ho : w3.ownsRow (w.heap.size + 2) 32 4 v' (ts.length + 1) (cellsT ts ++ cells1 t)) : ScanI w w3 s i v' (ts ++ [t]) :=
  (h.next (Add.trans (add_new _ _) (add_new _ _))).push0 hg ho
theorem ScanI.push_tok {w wr w3 : World} {s : ByteArray} {i : Nat} {v : Value} {ts : List Tok} {t : Tok} {o1 o2 : Obj} (h : ScanI w wr s i v ts) (hg : ((wr.alloc o1).alloc o2).grownBy w3 v.ownBlock)
    (ht : TokB (wr.alloc o1) wr.heap.size t) : TokB w3 wr.heap.size t := by
  have h2 := ht.mono (add_new (wr.alloc o1) o2)
  refine (hg.5 _ h2.lt ?_).trans h2
  intro e
  have := (own_block h.toks _ e.symm).2
  omega
end Go.Proofs.Ytdgpcijiempmdaa
