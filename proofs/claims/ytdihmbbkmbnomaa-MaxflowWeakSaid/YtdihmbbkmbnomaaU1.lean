/- Rows of any element type: blocks that a call made itself, known whole; slices that are only read; slices of structs that are only read. -/
import Derived.Test.YtdihmbbkmbnomaaProg
import Derived.WalkKit
import Derived.WalkSpells
import Derived.WalkLawsBesides
import Derived.Lib.Hide
import Derived.Laws.Rows
namespace Go.Proofs.Ytdihmbbkmbnomaa
open Go.RowKit

/-- The world is the same but for a count of draws, or has new blocks only. -/
abbrev Add (w w' : World) : Prop := Below w.heap.size w w'
theorem Add.trans {a b c : World} (h : Add a b) (k : Add b c) : Add a c := Below.trans h (k.mono h.size)
theorem add_refl (w : World) : Add w w := Below.refl _ _
theorem add_new (w : World) (o : Obj) : Add w (w.alloc o) := (Below.refl _ _).alloc (Nat.le_refl _) _
/-- Block g holds the one-cell elements vs of type T and may be written. -/
def Blk (w : World) (g : Nat) (T : TypeId) (vs : List Value) : Prop := w.heap[g]? = some (.cells vs.toArray T (0, 0))
theorem Blk.lt {w : World} {g : Nat} {T : TypeId} {vs : List Value} (h : Blk w g T vs) : g < w.heap.size := (Array.getElem?_eq_some_iff.1 h).1
theorem Blk.cell {w : World} {g : Nat} {T : TypeId} {vs : List Value} (h : Blk w g T vs) (i : Nat) (hi : i < vs.length) : w.cell? ⟨g, i, none⟩ = some (vs.getD i undef) := by
  rw [cell_of_row w g i _ T (0, 0) h]
  simp [List.getD, hi]
theorem Blk.free {w : World} {g : Nat} {T : TypeId} {vs : List Value} (h : Blk w g T vs) (i : Nat) : w.frozen? ⟨g, i, none⟩ = false := frozen_of_row w g i _ T h
theorem Blk.set {w : World} {g : Nat} {T : TypeId} {vs : List Value} (h : Blk w g T vs) (i : Nat) (u : Value) : Blk (w.setCell ⟨g, i, none⟩ u) g T (vs.set i u) := by
  unfold Blk
  rw [heap_setCell_same w g i _ T _ h]
  simp
theorem Blk.other {w : World} {g g' : Nat} {T : TypeId} {vs : List Value} (h : Blk w g T vs) (hne : g ≠ g') (i : Nat) (u : Value) : Blk (w.setCell ⟨g', i, none⟩ u) g T vs := by
  unfold Blk
  rw [heap_setCell_other w ⟨g', i, none⟩ g u hne]; exact h
theorem Blk.add {w w' : World} {g : Nat} {T : TypeId} {vs : List Value} (h : Blk w g T vs) (hb : Add w w') : Blk w' g T vs := (hb.block g h.lt).trans h
theorem Blk.kept {w w' : World} {g : Nat} {T : TypeId} {vs : List Value} {row : Option Nat} (h : Blk w g T vs) (hg : w.grownBy w' row) (hne : some g ≠ row) : Blk w' g T vs := (hg.block g h.lt hne).trans h
theorem Blk.new (w : World) (T : TypeId) (vs : List Value) : Blk (w.alloc (.cells vs.toArray T)) w.heap.size T vs := by
  exact heap_alloc_new w _
/-- What a call that works on blocks from g on leaves: blocks below g are as they were. -/
theorem Blk.low {w w' : World} {g b : Nat} {T : TypeId} {vs : List Value} (h : Blk w g T vs) (hb : Below b w w') (hg : g < b) : Blk w' g T vs := (hb.block g hg).trans h

/-- v reads in w as the one-cell elements vs. -/
def Rd (w : World) (v : Value) (vs : List Value) : Prop :=
  ∃ (ao : Option Addr) (n c : Nat), v = .slice ao n c ∧ vs.length = n ∧ n ≤ c ∧ c ≤ maxLen ∧
    (0 < n → ∃ b off, ao = some ⟨b, off, none⟩ ∧ ∀ i, i < n → w.cell? ⟨b, off + i, none⟩ = some (vs.getD i undef))
theorem Rd.below {w w' : World} {b : Nat} {v : Value} {vs : List Value} (h : Rd w v vs) (hb : Below b w w') (hl : w.heap.size ≤ b) : Rd w' v vs := by
  obtain ⟨ao, n, c, rfl, hl1, hc, hm, hr⟩ := h
  refine ⟨ao, n, c, rfl, hl1, hc, hm, fun hn => ?_⟩
  obtain ⟨g, off, e, k⟩ := hr hn
  refine ⟨g, off, e, fun i hi => ?_⟩
  have h1 := k i hi
  exact (hb.cell (p := ⟨g, off + i, none⟩) (Nat.lt_of_lt_of_le (World.block_lt_of_cell? w _ h1) hl)).trans h1
theorem Rd.add {w w' : World} {v : Value} {vs : List Value} (h : Rd w v vs) (hb : Add w w') : Rd w' v vs := h.below hb (Nat.le_refl _)
theorem Rd.nil (w : World) : Rd w (.slice none 0 0) [] := ⟨none, 0, 0, rfl, rfl, Nat.le_refl _, by unfold maxLen; omega, fun h => by omega⟩
theorem Blk.rd {w : World} {g : Nat} {T : TypeId} {vs : List Value} (h : Blk w g T vs) {n c : Nat} (hn : n ≤ vs.length) (hc : n ≤ c) (hm : c ≤ maxLen) : Rd w (.slice (some ⟨g, 0, none⟩) n c) (vs.take n) := by
  refine ⟨_, n, c, rfl, by rw [List.length_take]; omega, hc, hm, fun _ => ⟨g, 0, rfl, fun i hi => ?_⟩⟩
  rw [Nat.zero_add, h.cell i (by omega)]
  simp [List.getD, hi]
theorem Blk.rdAll {w : World} {g : Nat} {T : TypeId} {vs : List Value} (h : Blk w g T vs) {n c : Nat} (hn : vs.length = n) (hc : n ≤ c) (hm : c ≤ maxLen) : Rd w (.slice (some ⟨g, 0, none⟩) n c) vs := by
  have := h.rd (n := n) (c := c) (by omega) hc hm
  rwa [List.take_of_length_le (by omega)] at this

def iv (x : Int) : Value := .int .i64 x
def bv (x : Bool) : Value := .bool x
theorem getD_iv (xs : List Int) (i : Nat) (hi : i < xs.length) : (xs.map iv).getD i undef = .int .i64 (xs.getD i 0) := by simp [List.getD, hi, iv]
theorem getD_bv (xs : List Bool) (i : Nat) (hi : i < xs.length) : (xs.map bv).getD i undef = .bool (xs.getD i false) := by simp [List.getD, hi, bv]
/-- A row of integers, of booleans, that the call made. -/
abbrev IBlk (w : World) (g : Nat) (xs : List Int) : Prop := Blk w g 3 (xs.map iv)
abbrev BBlk (w : World) (g : Nat) (xs : List Bool) : Prop := Blk w g 4 (xs.map bv)
theorem IBlk.get {w : World} {g : Nat} {xs : List Int} (h : IBlk w g xs) (i : Nat) (hi : i < xs.length) : w.cell? ⟨g, i, none⟩ = some (.int .i64 (xs.getD i 0)) := by
  rw [Blk.cell h i (by simpa using hi), getD_iv xs i hi]
theorem BBlk.get {w : World} {g : Nat} {xs : List Bool} (h : BBlk w g xs) (i : Nat) (hi : i < xs.length) : w.cell? ⟨g, i, none⟩ = some (.bool (xs.getD i false)) := by
  rw [Blk.cell h i (by simpa using hi), getD_bv xs i hi]
theorem IBlk.put {w : World} {g : Nat} {xs : List Int} (h : IBlk w g xs) (i : Nat) (x : Int) : IBlk (w.setCell ⟨g, i, none⟩ (.int .i64 x)) g (xs.set i x) := by
  have := Blk.set h i (.int .i64 x)
  unfold IBlk
  rw [List.map_set]; exact this
theorem BBlk.put {w : World} {g : Nat} {xs : List Bool} (h : BBlk w g xs) (i : Nat) (x : Bool) : BBlk (w.setCell ⟨g, i, none⟩ (.bool x)) g (xs.set i x) := by
  have := Blk.set h i (.bool x)
  unfold BBlk
  rw [List.map_set]; exact this
/-- Integers, booleans that are only read. -/
abbrev RdI (w : World) (v : Value) (xs : List Int) : Prop := Rd w v (xs.map iv)
abbrev RdB (w : World) (v : Value) (xs : List Bool) : Prop := Rd w v (xs.map bv)
theorem RdI.open {w : World} {v : Value} {xs : List Int} (h : RdI w v xs) : ∃ ao c, v = .slice ao xs.length c ∧ xs.length ≤ c ∧ c ≤ maxLen ∧
    (0 < xs.length → ∃ b off, ao = some ⟨b, off, none⟩ ∧ ∀ i, i < xs.length → w.cell? ⟨b, off + i, none⟩ = some (.int .i64 (xs.getD i 0))) := by
  obtain ⟨ao, n, c, rfl, hl, hc, hm, hr⟩ := h
  rw [List.length_map] at hl
  subst hl
  refine ⟨ao, c, rfl, hc, hm, fun hn => ?_⟩
  obtain ⟨b, off, e, k⟩ := hr hn
  exact ⟨b, off, e, fun i hi => by rw [k i hi, getD_iv xs i hi]⟩
theorem RdB.open {w : World} {v : Value} {xs : List Bool} (h : RdB w v xs) : ∃ ao c, v = .slice ao xs.length c ∧ xs.length ≤ c ∧ c ≤ maxLen ∧
    (0 < xs.length → ∃ b off, ao = some ⟨b, off, none⟩ ∧ ∀ i, i < xs.length → w.cell? ⟨b, off + i, none⟩ = some (.bool (xs.getD i false))) := by
  obtain ⟨ao, n, c, rfl, hl, hc, hm, hr⟩ := h
  rw [List.length_map] at hl
  subst hl
  refine ⟨ao, c, rfl, hc, hm, fun hn => ?_⟩
  obtain ⟨b, off, e, k⟩ := hr hn
  exact ⟨b, off, e, fun i hi => by rw [k i hi, getD_bv xs i hi]⟩
end Go.Proofs.Ytdihmbbkmbnomaa
