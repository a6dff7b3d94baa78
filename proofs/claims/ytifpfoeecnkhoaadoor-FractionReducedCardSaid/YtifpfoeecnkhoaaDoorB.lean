/- How a slice of limbs reads in a world, and what stays of it when blocks are added. -/
import Derived.Test.YtifpfoeecnkhoaaDoorProg
import Derived.Test.YtifpfoeecnkhoaaDoorPm
import Derived.WalkKit
import Derived.WalkSpells
import Derived.WalkLawsBesides
import Derived.Lib.Hide
namespace Go.Proofs.YtifpfoeecnkhoaaDoor
open Go.RowKit NatM

theorem info26 : (Tryd.prog.info? 26).map (fun i => (i.zero, i.size, i.bytes)) = some (some (.int .u32 0), 1, 4) := by kernel_rfl

/-- The slice value v holds in w the limbs xs. -/
def Reads (w : World) (v : Value) (xs : List Nat) : Prop :=
  ∃ (ao : Option Addr) (n c : Nat), v = .slice ao n c ∧ xs.length = n ∧ n ≤ c ∧ c ≤ maxLen ∧ Limbs xs ∧
    (0 < n → ∃ b off, ao = some ⟨b, off, none⟩ ∧ ∀ i, i < n → w.cell? ⟨b, off + i, none⟩ = some (.int .u32 (xs.getD i 0 : Nat)))

theorem Reads.mono {w w' : World} {v : Value} {xs : List Nat} (h : Reads w v xs) (hb : Below w.heap.size w w') : Reads w' v xs := by
  obtain ⟨ao, n, c, rfl, hl, hc, hm, hx, hr⟩ := h
  refine ⟨ao, n, c, rfl, hl, hc, hm, hx, fun hn => ?_⟩
  obtain ⟨b, off, e, g⟩ := hr hn
  refine ⟨b, off, e, fun i hi => ?_⟩
  have h1 := g i hi
  exact (hb.cell (p := ⟨b, off + i, none⟩) (World.block_lt_of_cell? w _ h1)).trans h1

theorem Reads.nil (w : World) : Reads w (.slice none 0 0) [] :=
  ⟨none, 0, 0, rfl, rfl, Nat.le_refl _, by unfold maxLen; omega, Limbs.nil, fun h => by omega⟩

theorem Reads.limbs {w : World} {v : Value} {xs : List Nat} (h : Reads w v xs) : Limbs xs := by
  obtain ⟨_, _, _, _, _, _, _, hx, _⟩ := h; exact hx

/-- What a call made itself reads. -/
theorem Reads.own {w : World} {base : Nat} {g n cap : Nat} {xs : List Nat} (h : w.ownsRow base 26 1 (.slice (some ⟨g, 0, none⟩) n cap) n (xs.map fun x => Value.int .u32 (x : Nat))) (hc : n ≤ cap) (hm : cap ≤ maxLen) (hx : Limbs xs) :
    Reads w (.slice (some ⟨g, 0, none⟩) n cap) xs := by
  have hl : xs.length = n := by have := h.1; simpa using this
  refine ⟨_, n, cap, rfl, hl, hc, hm, hx, fun _ => ⟨g, 0, rfl, fun i hi => ?_⟩⟩
  have := h.cellAt i (by omega)
  rw [Nat.zero_add, this]
  simp [List.getD, hl, hi]

def lim (x : Nat) : Value := .int .u32 (x : Nat)

/-- Block g is a row of n limbs that the call made itself, from block 'base' on. -/
def Own (w : World) (base g n : Nat) (zs : List Nat) : Prop := w.ownsRow base 26 1 (.slice (some ⟨g, 0, none⟩) n n) n (zs.map lim)

theorem Own.length {w : World} {base g n : Nat} {zs : List Nat} (h : Own w base g n zs) : zs.length = n := by have := h.1; simpa using this
theorem Own.cell {w : World} {base g n : Nat} {zs : List Nat} (h : Own w base g n zs) (i : Nat) (hi : i < n) : w.cell? ⟨g, i, none⟩ = some (.int .u32 (zs.getD i 0 : Nat)) := by
  have hl := h.length
  have := h.cellAt i (by omega)
  rw [this]
  simp [List.getD, hl, hi, lim]
theorem Own.free {w : World} {base g n : Nat} {zs : List Nat} (h : Own w base g n zs) (i : Nat) : w.frozen? ⟨g, i, none⟩ = false := h.frozenAt i
theorem Own.set {w : World} {base g n : Nat} {zs : List Nat} (h : Own w base g n zs) (i s : Nat) : Own (w.setCell ⟨g, i, none⟩ (.int .u32 (s : Nat))) base g n (zs.set i s) := by
  have := (h.stored i (lim s)).1
  rw [← List.map_set] at this
  exact this
theorem Own.made {w : World} {base g n : Nat} (h : w.ownsRow base 26 1 (.slice (some ⟨g, 0, none⟩) n n) n (madeCells #[Value.int .u32 0] n).toList) : Own w base g n (List.replicate n 0) := by
  unfold Own
  rw [List.map_replicate]
  rw [toList_madeCells_one] at h
  exact h
theorem Own.lt {w : World} {base g n : Nat} {zs : List Nat} (h : Own w base g n zs) : base ≤ g ∧ g < w.heap.size := World.ownsRow.lt h g rfl
theorem Own.reads {w : World} {base g n : Nat} {zs : List Nat} (h : Own w base g n zs) (hm : n ≤ maxLen) (hx : Limbs zs) : Reads w (.slice (some ⟨g, 0, none⟩) n n) zs := Reads.own h (Nat.le_refl _) hm hx
theorem Own.below {w w' : World} {base g n : Nat} {zs : List Nat} (h : Own w base g n zs) (hb : Below w.heap.size w w') : Own w' base g n zs := by
  have hl := h.lt.2
  refine ⟨h.1, ?_⟩
  rcases h.2 with hn | ⟨g', cap, cur, e, hg, hgg, rest⟩
  · exact .inl hn
  · refine .inr ⟨g', cap, cur, e, hg, ?_, rest⟩
    rw [hb.block g' (Array.getElem?_eq_some_iff.1 hgg).1]; exact hgg

theorem Own.heap {w : World} {base g n : Nat} {zs : List Nat} (h : Own w base g n zs) : w.heap[g]? = some (.cells (zs.map lim).toArray 26 (0, 0)) := by
  rcases h.2 with ⟨e, _⟩ | ⟨g', cap, cur, e, hg, hgg, hn, hm, hs, ht⟩
  · simp at e
  · simp only [Value.slice.injEq, Option.some.injEq, Addr.mk.injEq, and_true, true_and] at e
    obtain ⟨rfl, rfl⟩ := e
    rw [hgg]
    have : cur = (zs.map lim).toArray := by
      rw [← ht, List.take_of_length_le (by simp; omega)]
    rw [this]
theorem Own.of_heap {w : World} {base g n : Nat} {zs : List Nat} (h : w.heap[g]? = some (.cells (zs.map lim).toArray 26 (0, 0))) (hb : base ≤ g) (hl : zs.length = n) (hm : n ≤ maxLen) : Own w base g n zs :=
  ⟨by simpa using hl, .inr ⟨g, n, _, rfl, hb, h, Nat.le_refl _, hm, by simpa using hl, by rw [List.take_of_length_le (by simp; omega)]⟩⟩

/-- Block g is a row of limbs that may be written. -/
def Row (w : World) (g : Nat) (zs : List Nat) : Prop := w.heap[g]? = some (.cells (zs.map lim).toArray 26 (0, 0))
theorem Own.row {w : World} {base g n : Nat} {zs : List Nat} (h : Own w base g n zs) : Row w g zs := h.heap
theorem Row.own {w : World} {base g n : Nat} {zs : List Nat} (h : Row w g zs) (hb : base ≤ g) (hl : zs.length = n) (hm : n ≤ maxLen) : Own w base g n zs := Own.of_heap h hb hl hm
theorem Row.lt {w : World} {g : Nat} {zs : List Nat} (h : Row w g zs) : g < w.heap.size := (Array.getElem?_eq_some_iff.1 h).1
theorem Row.cell {w : World} {g : Nat} {zs : List Nat} (h : Row w g zs) (i : Nat) (hi : i < zs.length) : w.cell? ⟨g, i, none⟩ = some (.int .u32 (zs.getD i 0 : Nat)) := by
  rw [cell_of_row w g i _ 26 (0, 0) h]
  simp [List.getD, hi, lim]
theorem Row.free {w : World} {g : Nat} {zs : List Nat} (h : Row w g zs) (i : Nat) : w.frozen? ⟨g, i, none⟩ = false := frozen_of_row w g i _ 26 h
theorem Row.set {w : World} {g : Nat} {zs : List Nat} (h : Row w g zs) (i s : Nat) : Row (w.setCell ⟨g, i, none⟩ (.int .u32 (s : Nat))) g (zs.set i s) := by
  unfold Row
  rw [heap_setCell_same w g i _ 26 _ h]
  simp [List.map_set, lim]
theorem Row.kept {w w' : World} {g : Nat} {zs : List Nat} {row : Option Nat} (h : Row w g zs) (hg : w.grownBy w' row) (hne : some g ≠ row) : Row w' g zs := (hg.block g h.lt hne).trans h
theorem Row.below {w w' : World} {g : Nat} {zs : List Nat} (h : Row w g zs) (hb : Below w.heap.size w w') : Row w' g zs := (hb.block g h.lt).trans h
theorem Row.reads {w : World} {g m c : Nat} {zs : List Nat} (h : Row w g zs) (hm : m ≤ zs.length) (hc : m ≤ c) (hc' : c ≤ maxLen) (hx : Limbs zs) : Reads w (.slice (some ⟨g, 0, none⟩) m c) (zs.take m) := by
  refine ⟨_, m, c, rfl, by rw [List.length_take]; omega, hc, hc', hx.take _, fun _ => ⟨g, 0, rfl, fun i hi => ?_⟩⟩
  rw [Nat.zero_add, h.cell i (by omega), getD_take _ _ _ hi]
theorem grown_setCell {w : World} {g : Nat} (i : Nat) (u : Value) : w.grownBy (w.setCell ⟨g, i, none⟩ u) (some g) :=
  ⟨rfl, rfl, rfl, by simp, fun k _ hk => heap_setCell_other w ⟨g, i, none⟩ k u (fun e => hk (by simp [e]))⟩
theorem grown_trans {a b c : World} {row : Option Nat} (h : a.grownBy b row) (k : b.grownBy c row) : a.grownBy c row :=
  ⟨k.os.trans h.os, k.tape.trans h.tape, k.output.trans h.output, Nat.le_trans h.size k.size, fun i hi hne => (k.block i (Nat.lt_of_lt_of_le hi h.size) hne).trans (h.block i hi hne)⟩
theorem grown_drewN {a b : World} {row : Option Nat} (h : a.grownBy b row) (n : Nat) : a.grownBy (b.drewN n) row := ⟨h.os, h.tape, h.output, h.size, h.block⟩
theorem grown_of_below {a b : World} (h : Below a.heap.size a b) (row : Option Nat) : a.grownBy b row := ⟨h.os, h.tape, h.output, h.size, fun i hi _ => h.block i hi⟩

/-- The world is the same but for a count of draws, or has new blocks only. -/
abbrev Add (w w' : World) : Prop := Below w.heap.size w w'
theorem Add.trans {a b c : World} (h : Add a b) (k : Add b c) : Add a c := Below.trans h (k.mono h.size)

/-- v reads in w as the canonical list of limbs of the number N. -/
def Num (w : World) (v : Value) (N : Nat) : Prop := ∃ zs, Reads w v zs ∧ Canon zs ∧ val zs = N
theorem Num.mono {w w' : World} {v : Value} {N : Nat} (h : Num w v N) (hb : Add w w') : Num w' v N := by
  obtain ⟨zs, h1, h2, h3⟩ := h; exact ⟨zs, h1.mono hb, h2, h3⟩
theorem Num.nil (w : World) : Num w (.slice none 0 0) 0 := ⟨[], Reads.nil w, rfl, rfl⟩

/-- A result without an error. -/
def OkP (w : World) (N : Nat) (e : Ending) (w' : World) : Prop := ∃ v, e = .returned (.tuple #[v, .int .i64 0]) ∧ Num w' v N ∧ Add w w'
/-- An error. -/
def ErrP (w : World) (k : Int) (e : Ending) (w' : World) : Prop := e = .returned (.tuple #[.slice none 0 0, .int .i64 k]) ∧ Add w w'
end Go.Proofs.YtifpfoeecnkhoaaDoor
