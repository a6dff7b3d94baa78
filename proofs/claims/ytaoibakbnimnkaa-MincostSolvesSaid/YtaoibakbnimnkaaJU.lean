/- Rows of any element type: blocks that a call made itself, known whole; slices that are only read; slices of structs that are only read. | A queue that the call made: a slice with room, cut in front and appended to. -/
import Derived.Test.YtaoibakbnimnkaaProg
import Derived.WalkKit
import Derived.WalkSpells
import Derived.WalkLawsBesides
import Derived.Lib.Hide
import Derived.Laws.Rows
import Derived.ArgAppend
import Derived.Lib.AppendZeros

namespace Go.Proofs.Ytaoibakbnimnkaa
open Go.RowKit

/-- The world is the same but for a count of draws, or has new blocks only. -/
abbrev Add (w w' : World) : Prop := Below w.heap.size w w'
theorem Add.trans {a b c : World} (h : Add a b) (k : Add b c) : Add a c := Below.trans h (k.mono h.size)
theorem add_refl (w : World) : Add w w := Below.refl _ _
theorem add_new (w : World) (o : Obj) : Add w (w.alloc o) := (Below.refl _ _).alloc (Nat.le_refl _) _
/-- Block g holds the one-cell elements vs of type T and may be written. -/
def Blk (w : World) (g : Nat) (T : TypeId) (vs : List Value) : Prop := w.heap[g]? = some (.cells vs.toArray T (0, 0))
theorem Blk.lt {w : World} {g : Nat} {T : TypeId} {vs : List Value} (h : Blk w g T vs) : g < w.heap.size := (Array.getElem?_eq_some_iff.1 h).1
theorem Blk.cell {w : World} {g : Nat} {T : TypeId} {vs : List Value} (h : Blk w g T vs) (i : Nat) (hi : i < vs.length) : w.cell? ⟨g, i, none⟩ = some (vs.getD i undef) := by
  rw [cell_of_row w g i _ T (0, 0) h]
  simp [List.getD, hi]
theorem Blk.free {w : World} {g : Nat} {T : TypeId} {vs : List Value} (h : Blk w g T vs) (i : Nat) : w.frozen? ⟨g, i, none⟩ = false := frozen_of_row w g i _ T h
theorem Blk.set {w : World} {g : Nat} {T : TypeId} {vs : List Value} (h : Blk w g T vs) (i : Nat) (u : Value) : Blk (w.setCell ⟨g, i, none⟩ u) g T (vs.set i u) := by
  unfold Blk
  rw [heap_setCell_same w g i _ T _ h]
  simp
theorem Blk.other {w : World} {g g' : Nat} {T : TypeId} {vs : List Value} (h : Blk w g T vs) (hne : g ≠ g') (i : Nat) (u : Value) : Blk (w.setCell ⟨g', i, none⟩ u) g T vs := by
  unfold Blk
  rw [heap_setCell_other w ⟨g', i, none⟩ g u hne]; exact h
theorem Blk.add {w w' : World} {g : Nat} {T : TypeId} {vs : List Value} (h : Blk w g T vs) (hb : Add w w') : Blk w' g T vs := (hb.block g h.lt).trans h
theorem Blk.kept {w w' : World} {g : Nat} {T : TypeId} {vs : List Value} {row : Option Nat} (h : Blk w g T vs) (hg : w.grownBy w' row) (hne : some g ≠ row) : Blk w' g T vs := (hg.block g h.lt hne).trans h
theorem Blk.new (w : World) (T : TypeId) (vs : List Value) : Blk (w.alloc (.cells vs.toArray T)) w.heap.size T vs := by
  exact heap_alloc_new w _
/-- What a call that works on blocks from g on leaves: blocks below g are as they were. -/
theorem Blk.low {w w' : World} {g b : Nat} {T : TypeId} {vs : List Value} (h : Blk w g T vs) (hb : Below b w w') (hg : g < b) : Blk w' g T vs := (hb.block g hg).trans h

/-- v reads in w as the one-cell elements vs. -/
def Rd (w : World) (v : Value) (vs : List Value) : Prop :=
  ∃ (ao : Option Addr) (n c : Nat), v = .slice ao n c ∧ vs.length = n ∧ n ≤ c ∧ c ≤ maxLen ∧
    (0 < n → ∃ b off, ao = some ⟨b, off, none⟩ ∧ ∀ i, i < n → w.cell? ⟨b, off + i, none⟩ = some (vs.getD i undef))
theorem Rd.below {w w' : World} {b : Nat} {v : Value} {vs : List Value} (h : Rd w v vs) (hb : Below b w w') (hl : w.heap.size ≤ b) : Rd w' v vs := by
  obtain ⟨ao, n, c, rfl, hl1, hc, hm, hr⟩ := h
  refine ⟨ao, n, c, rfl, hl1, hc, hm, fun hn => ?_⟩
  obtain ⟨g, off, e, k⟩ := hr hn
  refine ⟨g, off, e, fun i hi => ?_⟩
  have h1 := k i hi
  exact (hb.cell (p := ⟨g, off + i, none⟩) (Nat.lt_of_lt_of_le (World.block_lt_of_cell? w _ h1) hl)).trans h1
theorem Rd.add {w w' : World} {v : Value} {vs : List Value} (h : Rd w v vs) (hb : Add w w') : Rd w' v vs := h.below hb (Nat.le_refl _)
theorem Rd.nil (w : World) : Rd w (.slice none 0 0) [] := ⟨none, 0, 0, rfl, rfl, Nat.le_refl _, by unfold maxLen; omega, fun h => by omega⟩
theorem Blk.rd {w : World} {g : Nat} {T : TypeId} {vs : List Value} (h : Blk w g T vs) {n c : Nat} (hn : n ≤ vs.length) (hc : n ≤ c) (hm : c ≤ maxLen) : Rd w (.slice (some ⟨g, 0, none⟩) n c) (vs.take n) := by
  refine ⟨_, n, c, rfl, by rw [List.length_take]; omega, hc, hm, fun _ => ⟨g, 0, rfl, fun i hi => ?_⟩⟩
  rw [Nat.zero_add, h.cell i (by omega)]
  simp [List.getD, hi]
theorem Blk.rdAll {w : World} {g : Nat} {T : TypeId} {vs : List Value} (h : Blk w g T vs) {n c : Nat} (hn : vs.length = n) (hc : n ≤ c) (hm : c ≤ maxLen) : Rd w (.slice (some ⟨g, 0, none⟩) n c) vs := by
  have := h.rd (n := n) (c := c) (by omega) hc hm
  rwa [List.take_of_length_le (by omega)] at this

def iv (x : Int) : Value := .int .i64 x
def bv (x : Bool) : Value := .bool x
theorem getD_iv (xs : List Int) (i : Nat) (hi : i < xs.length) : (xs.map iv).getD i undef = .int .i64 (xs.getD i 0) := by simp [List.getD, hi, iv]
theorem getD_bv (xs : List Bool) (i : Nat) (hi : i < xs.length) : (xs.map bv).getD i undef = .bool (xs.getD i false) := by simp [List.getD, hi, bv]
/-- A row of integers, of booleans, that the call made. -/
abbrev IBlk (w : World) (g : Nat) (xs : List Int) : Prop := Blk w g 3 (xs.map iv)
abbrev BBlk (w : World) (g : Nat) (xs : List Bool) : Prop := Blk w g 4 (xs.map bv)
theorem IBlk.get {w : World} {g : Nat} {xs : List Int} (h : IBlk w g xs) (i : Nat) (hi : i < xs.length) : w.cell? ⟨g, i, none⟩ = some (.int .i64 (xs.getD i 0)) := by
  rw [Blk.cell h i (by simpa using hi), getD_iv xs i hi]
theorem BBlk.get {w : World} {g : Nat} {xs : List Bool} (h : BBlk w g xs) (i : Nat) (hi : i < xs.length) : w.cell? ⟨g, i, none⟩ = some (.bool (xs.getD i false)) := by
  rw [Blk.cell h i (by simpa using hi), getD_bv xs i hi]
theorem IBlk.put {w : World} {g : Nat} {xs : List Int} (h : IBlk w g xs) (i : Nat) (x : Int) : IBlk (w.setCell ⟨g, i, none⟩ (.int .i64 x)) g (xs.set i x) := by
  have := Blk.set h i (.int .i64 x)
  unfold IBlk
  rw [List.map_set]; exact this
theorem BBlk.put {w : World} {g : Nat} {xs : List Bool} (h : BBlk w g xs) (i : Nat) (x : Bool) : BBlk (w.setCell ⟨g, i, none⟩ (.bool x)) g (xs.set i x) := by
  have := Blk.set h i (.bool x)
  unfold BBlk
  rw [List.map_set]; exact this
/-- Integers, booleans that are only read. -/
abbrev RdI (w : World) (v : Value) (xs : List Int) : Prop := Rd w v (xs.map iv)
abbrev RdB (w : World) (v : Value) (xs : List Bool) : Prop := Rd w v (xs.map bv)
theorem RdI.open {w : World} {v : Value} {xs : List Int} (h : RdI w v xs) : ∃ ao c, v = .slice ao xs.length c ∧ xs.length ≤ c ∧ c ≤ maxLen ∧
    (0 < xs.length → ∃ b off, ao = some ⟨b, off, none⟩ ∧ ∀ i, i < xs.length → w.cell? ⟨b, off + i, none⟩ = some (.int .i64 (xs.getD i 0))) := by
  obtain ⟨ao, n, c, rfl, hl, hc, hm, hr⟩ := h
  rw [List.length_map] at hl
  subst hl
  refine ⟨ao, c, rfl, hc, hm, fun hn => ?_⟩
  obtain ⟨b, off, e, k⟩ := hr hn
  exact ⟨b, off, e, fun i hi => by rw [k i hi, getD_iv xs i hi]⟩
theorem RdB.open {w : World} {v : Value} {xs : List Bool} (h : RdB w v xs) : ∃ ao c, v = .slice ao xs.length c ∧ xs.length ≤ c ∧ c ≤ maxLen ∧
    (0 < xs.length → ∃ b off, ao = some ⟨b, off, none⟩ ∧ ∀ i, i < xs.length → w.cell? ⟨b, off + i, none⟩ = some (.bool (xs.getD i false))) := by
  obtain ⟨ao, n, c, rfl, hl, hc, hm, hr⟩ := h
  rw [List.length_map] at hl
  subst hl
  refine ⟨ao, c, rfl, hc, hm, fun hn => ?_⟩
  obtain ⟨b, off, e, k⟩ := hr hn
  exact ⟨b, off, e, fun i hi => by rw [k i hi, getD_bv xs i hi]⟩
end Go.Proofs.Ytaoibakbnimnkaa

namespace Go.Proofs.Ytaoibakbnimnkaa
open Go.RowKit

/-- v lies in block g, which the call made, from 'off' on, and holds the one-cell elements xs. -/
def Que (w : World) (base g off : Nat) (T : TypeId) (v : Value) (xs : List Value) : Prop :=
  ∃ cap cur, v = .slice (some ⟨g, off, none⟩) xs.length cap ∧ base ≤ g ∧ w.heap[g]? = some (.cells cur T (0, 0)) ∧ xs.length ≤ cap ∧ cap ≤ maxLen ∧ off + cap ≤ cur.size ∧ ∀ i, i < xs.length → cur[off + i]? = some (xs.getD i undef)
theorem Que.lt {w : World} {base g off : Nat} {T : TypeId} {v : Value} {xs : List Value} (h : Que w base g off T v xs) : base ≤ g ∧ g < w.heap.size := by
  obtain ⟨cap, cur, -, h1, h2, -⟩ := h
  exact ⟨h1, (Array.getElem?_eq_some_iff.1 h2).1⟩
theorem Que.add {w w' : World} {base g off : Nat} {T : TypeId} {v : Value} {xs : List Value} (h : Que w base g off T v xs) (hb : Add w w') : Que w' base g off T v xs := by
  have hlt := h.lt.2
  obtain ⟨cap, cur, e, h1, h2, h3⟩ := h
  exact ⟨cap, cur, e, h1, (hb.block g hlt).trans h2, h3⟩
theorem Que.other {w : World} {base g off g' : Nat} {T : TypeId} {v : Value} {xs : List Value} (h : Que w base g off T v xs) (hne : g ≠ g') (i : Nat) (u : Value) : Que (w.setCell ⟨g', i, none⟩ u) base g off T v xs := by
  obtain ⟨cap, cur, e, h1, h2, h3⟩ := h
  exact ⟨cap, cur, e, h1, (heap_setCell_other w ⟨g', i, none⟩ g u hne).trans h2, h3⟩
theorem Que.start (w : World) (T : TypeId) (u : Value) {base : Nat} (hb : base ≤ w.heap.size) : Que (w.alloc (.cells #[u] T)) base w.heap.size 0 T (.slice (some ⟨w.heap.size, 0, none⟩) 1 1) [u] := by
  refine ⟨1, #[u], rfl, hb, heap_alloc_new w _, Nat.le_refl _, by unfold maxLen; omega, by simp, fun i hi => ?_⟩
  have : i = 0 := by simpa using hi
  subst this; rfl
theorem Que.head {w : World} {base g off : Nat} {T : TypeId} {v x : Value} {xs : List Value} (h : Que w base g off T v (x :: xs)) : w.cell? ⟨g, off, none⟩ = some x := by
  obtain ⟨cap, cur, -, -, h2, -, -, -, h3⟩ := h
  rw [cell_of_row w g off cur T (0, 0) h2]
  have := h3 0 (by simp)
  simpa using this
/-- The first element is taken. -/
theorem Que.pop {w : World} {base g off cap : Nat} {T : TypeId} {x : Value} {xs : List Value} {n : Nat} {a : Option Addr} (h : Que w base g off T (.slice (some ⟨g, off, none⟩) n cap) (x :: xs))
    (ha : a = if cap = 1 then some ⟨g, off, none⟩ else some ⟨g, off + 1, none⟩) : ∃ off', Que w base g off' T (.slice a (n - 1) (cap - 1)) xs := by
  obtain ⟨cap', cur, e, h1, h2, h3, h4, h5, h6⟩ := h
  simp only [Value.slice.injEq, true_and] at e
  obtain ⟨rfl, rfl⟩ := e
  rw [List.length_cons] at h3
  by_cases c : cap = 1
  · have : xs = [] := List.eq_nil_of_length_eq_zero (by omega)
    subst this
    rw [if_pos c] at ha
    subst ha
    exact ⟨off, 0, cur, by simp [c], h1, h2, Nat.le_refl _, by unfold maxLen; omega, by omega, fun i hi => by simp at hi⟩
  · rw [if_neg c] at ha
    subst ha
    refine ⟨off + 1, cap - 1, cur, by simp, h1, h2, by omega, by omega, by omega, fun i hi => ?_⟩
    have := h6 (i + 1) (by rw [List.length_cons]; omega)
    rw [show off + 1 + i = off + (i + 1) by omega]
    rw [this]; rfl
theorem run_que {P : Program} {w : World} {base g off : Nat} {T : TypeId} {v u : Value} {xs : List Value} (t ty : TypeId) (i : TypeInfo) (z : Value) (bytes : Nat) (ht : P.underlying t = some (.slice T)) (hi : P.info? T = some i) (hz : i.zero = some z)
    (hsize : i.size = 1) (hby : i.bytes = bytes) (hzs : z.cells.size = 1) (h : Que w base g off T v xs) (ad : Addr) (c : Nat) (hc : w.cell? ad = some u) (h1 : u.oneCell' = true)
    (h63 : xs.length + 1 ≤ maxLen) (hbytes : (xs.length + 1) * bytes ≤ 140737488355328) :
    ∃ v' w' g' off', (Builtin.append_ #[t, t] ty #[v, .slice (some ad) 1 c]).run P w = .ok v' w' ∧ Que w' base g' off' T v' (xs ++ [u]) ∧ w.grownBy w' (some g) ∧ (g' = g ∨ g' = w.heap.size) := by
  have hlt := h.lt
  obtain ⟨cap, cur, rfl, k1, k2, k3, k4, k5, k6⟩ := h
  have hadd : ad.add 0 = ad := by unfold Addr.add; split <;> simp_all
  have hnews : ∀ j u', ([u] : List Value)[j]? = some u' → w.cell? (ad.add j) = some u' := by
    intro j u' hj
    cases j with
    | zero => simp at hj; subst hj; rw [hadd]; exact hc
    | succ j => simp at hj
  by_cases hr : xs.length + 1 ≤ cap
  · have hin : off + xs.length < cur.size := by omega
    have hrun := run_append_room_cells (P := P) w t ty T i ht hi g off xs.length cap ad 1 c [u] (by rw [hsize]; rfl) hnews (by intro u' hu'; simp at hu'; subst hu'; exact h1) hr
      (by intro j hj; simp at hj; subst hj; rw [cell_of_row w g _ cur T (0, 0) k2, hsize]; simp [hin])
      (by intro j hj; exact frozen_of_row w g _ cur T k2)
    rw [hsize, Nat.mul_one] at hrun
    have e : w.setCells g (off + xs.length) [u] = w.setCell ⟨g, off + xs.length, none⟩ u := rfl
    rw [e] at hrun
    refine ⟨_, _, g, off, hrun, ⟨cap, cur.setIfInBounds (off + xs.length) u, by simp, k1, ?_, by simp; omega, k4, by simp; omega, fun j hj => ?_⟩, ?_, .inl rfl⟩
    · rw [heap_setCell_same w g _ cur T u k2]
    · rw [List.length_append, List.length_singleton] at hj
      by_cases ej : j = xs.length
      · subst ej; simp [hin, List.getD]
      · rw [Array.getElem?_setIfInBounds_ne (by omega), k6 j (by omega)]
        simp only [List.getD]; rw [List.getElem?_append_left (by omega)]
    · exact ⟨rfl, rfl, rfl, by simp, fun k _ hk => heap_setCell_other w ⟨g, _, none⟩ k u (fun e => hk (by simp [e]))⟩
  · have hx : ∀ j u', xs[j]? = some u' → w.cell? ((⟨g, off, none⟩ : Addr).add j) = some u' := by
      intro j u' hj
      have hjl := (List.getElem?_eq_some_iff.1 hj).1
      have e : (⟨g, off, none⟩ : Addr).add j = ⟨g, off + j, none⟩ := by unfold Addr.add; split <;> simp_all
      rw [e, cell_of_row w g _ cur T (0, 0) k2, k6 j hjl]
      simp only [List.getD, hj, Option.getD_some]
    subst hby
    have hrun := run_append_grow (P := P) w t ty T i z ht hi hz ⟨g, off, none⟩ xs.length cap xs (by rw [hsize]; omega) hx ad 1 c [u] (by rw [hsize]; rfl) hnews (by omega) (by unfold maxLen at h63; omega) (growslice_fits (by omega) hbytes)
    have hge := grownCap_ge w (xs.length + 1) cap T
    have hcm := grownCap_le_maxLen w (xs.length + 1) cap T h63
    refine ⟨_, _, w.heap.size, 0, hrun, ⟨grownCap w (xs.length + 1) cap T, _, by simp, by omega, heap_alloc_new w.drew _, by simp; omega, hcm, ?_, fun j hj => ?_⟩, ?_, .inr rfl⟩
    · simp only [Array.size_append, List.size_toArray, size_zeroCells, hzs, List.length_singleton]; omega
    · rw [List.length_append, List.length_singleton] at hj
      rw [Nat.zero_add]
      rw [Array.getElem?_append_left (by simp; omega)]
      have : (xs.toArray ++ [u].toArray)[j]? = (xs ++ [u])[j]? := by simp
      rw [this]
      simp only [List.getD]
      rw [List.getElem?_eq_getElem (by simp; omega)]; rfl
    · exact ⟨rfl, rfl, rfl, by simp, fun j hj _ => heap_alloc_old w.drew _ hj⟩
end Go.Proofs.Ytaoibakbnimnkaa
