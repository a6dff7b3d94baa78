/- How a slice of limbs reads in a world, and what stays of it when blocks are added. | The helpers cut, large, limb, sign and the additions of single limbs return what they promise. | The additions and subtractions of package natural, its comparison, Make, Trim, and the comparison of limbs, return what they promise. -/
import Derived.Test.YtbeoeackahmpbaaGreatDoorProg
import Derived.Test.YtbeoeackahmpbaaGreatDoorJA
import Derived.WalkKit
import Derived.WalkSpells
import Derived.WalkLawsBesides
import Derived.Lib.Hide
import Derived.Laws.BitsAllLaws
import Derived.Deep.QuietTactic
import Derived.BigQuiet
import Derived.Laws.CopyOwn
import Derived.StillTailTactics

namespace Go.Proofs.YtbeoeackahmpbaaGreatDoor
open Go.RowKit NatM

theorem info93 : (Tryz.prog.info? 93).map (fun i => (i.zero, i.size, i.bytes)) = some (some (.int .u32 0), 1, 4) := by kernel_rfl

/-- The slice value v holds in w the limbs xs. -/
def Reads (w : World) (v : Value) (xs : List Nat) : Prop :=
  ∃ (ao : Option Addr) (n c : Nat), v = .slice ao n c ∧ xs.length = n ∧ n ≤ c ∧ c ≤ maxLen ∧ Limbs xs ∧
    (0 < n → ∃ b off, ao = some ⟨b, off, none⟩ ∧ ∀ i, i < n → w.cell? ⟨b, off + i, none⟩ = some (.int .u32 (xs.getD i 0 : Nat)))

theorem Reads.mono {w w' : World} {v : Value} {xs : List Nat} (h : Reads w v xs) (hb : Below w.heap.size w w') : Reads w' v xs := by
  obtain ⟨ao, n, c, rfl, hl, hc, hm, hx, hr⟩ := h
  refine ⟨ao, n, c, rfl, hl, hc, hm, hx, fun hn => ?_⟩
  obtain ⟨b, off, e, g⟩ := hr hn
  refine ⟨b, off, e, fun i hi => ?_⟩
  have h1 := g i hi
  exact (hb.cell (p := ⟨b, off + i, none⟩) (World.block_lt_of_cell? w _ h1)).trans h1

theorem Reads.nil (w : World) : Reads w (.slice none 0 0) [] :=
  ⟨none, 0, 0, rfl, rfl, Nat.le_refl _, by unfold maxLen; omega, Limbs.nil, fun h => by omega⟩

theorem Reads.limbs {w : World} {v : Value} {xs : List Nat} (h : Reads w v xs) : Limbs xs := by
  obtain ⟨_, _, _, _, _, _, _, hx, _⟩ := h; exact hx

/-- What a call made itself reads. -/
theorem Reads.own {w : World} {base : Nat} {g n cap : Nat} {xs : List Nat} (h : w.ownsRow base 93 1 (.slice (some ⟨g, 0, none⟩) n cap) n (xs.map fun x => Value.int .u32 (x : Nat))) (hc : n ≤ cap) (hm : cap ≤ maxLen) (hx : Limbs xs) :
    Reads w (.slice (some ⟨g, 0, none⟩) n cap) xs := by
  have hl : xs.length = n := by have := h.1; simpa using this
  refine ⟨_, n, cap, rfl, hl, hc, hm, hx, fun _ => ⟨g, 0, rfl, fun i hi => ?_⟩⟩
  have := h.cellAt i (by omega)
  rw [Nat.zero_add, this]
  simp [List.getD, hl, hi]

def lim (x : Nat) : Value := .int .u32 (x : Nat)

/-- Block g is a row of n limbs that the call made itself, from block 'base' on. -/
def Own (w : World) (base g n : Nat) (zs : List Nat) : Prop := w.ownsRow base 93 1 (.slice (some ⟨g, 0, none⟩) n n) n (zs.map lim)

theorem Own.length {w : World} {base g n : Nat} {zs : List Nat} (h : Own w base g n zs) : zs.length = n := by have := h.1; simpa using this
theorem Own.cell {w : World} {base g n : Nat} {zs : List Nat} (h : Own w base g n zs) (i : Nat) (hi : i < n) : w.cell? ⟨g, i, none⟩ = some (.int .u32 (zs.getD i 0 : Nat)) := by
  have hl := h.length
  have := h.cellAt i (by omega)
  rw [this]
  simp [List.getD, hl, hi, lim]
theorem Own.free {w : World} {base g n : Nat} {zs : List Nat} (h : Own w base g n zs) (i : Nat) : w.frozen? ⟨g, i, none⟩ = false := h.frozenAt i
theorem Own.set {w : World} {base g n : Nat} {zs : List Nat} (h : Own w base g n zs) (i s : Nat) : Own (w.setCell ⟨g, i, none⟩ (.int .u32 (s : Nat))) base g n (zs.set i s) := by
  have := (h.stored i (lim s)).1
  rw [← List.map_set] at this
  exact this
theorem Own.made {w : World} {base g n : Nat} (h : w.ownsRow base 93 1 (.slice (some ⟨g, 0, none⟩) n n) n (madeCells #[Value.int .u32 0] n).toList) : Own w base g n (List.replicate n 0) := by
  unfold Own
  rw [List.map_replicate]
  rw [toList_madeCells_one] at h
  exact h
theorem Own.lt {w : World} {base g n : Nat} {zs : List Nat} (h : Own w base g n zs) : base ≤ g ∧ g < w.heap.size := World.ownsRow.lt h g rfl
theorem Own.reads {w : World} {base g n : Nat} {zs : List Nat} (h : Own w base g n zs) (hm : n ≤ maxLen) (hx : Limbs zs) : Reads w (.slice (some ⟨g, 0, none⟩) n n) zs := Reads.own h (Nat.le_refl _) hm hx
theorem Own.below {w w' : World} {base g n : Nat} {zs : List Nat} (h : Own w base g n zs) (hb : Below w.heap.size w w') : Own w' base g n zs := by
  have hl := h.lt.2
  refine ⟨h.1, ?_⟩
  rcases h.2 with hn | ⟨g', cap, cur, e, hg, hgg, rest⟩
  · exact .inl hn
  · refine .inr ⟨g', cap, cur, e, hg, ?_, rest⟩
    rw [hb.block g' (Array.getElem?_eq_some_iff.1 hgg).1]; exact hgg

theorem Own.heap {w : World} {base g n : Nat} {zs : List Nat} (h : Own w base g n zs) : w.heap[g]? = some (.cells (zs.map lim).toArray 93 (0, 0)) := by
  rcases h.2 with ⟨e, _⟩ | ⟨g', cap, cur, e, hg, hgg, hn, hm, hs, ht⟩
  · simp at e
  · simp only [Value.slice.injEq, Option.some.injEq, Addr.mk.injEq, and_true, true_and] at e
    obtain ⟨rfl, rfl⟩ := e
    rw [hgg]
    have : cur = (zs.map lim).toArray := by
      rw [← ht, List.take_of_length_le (by simp; omega)]
    rw [this]
theorem Own.of_heap {w : World} {base g n : Nat} {zs : List Nat} (h : w.heap[g]? = some (.cells (zs.map lim).toArray 93 (0, 0))) (hb : base ≤ g) (hl : zs.length = n) (hm : n ≤ maxLen) : Own w base g n zs :=
  ⟨by simpa using hl, .inr ⟨g, n, _, rfl, hb, h, Nat.le_refl _, hm, by simpa using hl, by rw [List.take_of_length_le (by simp; omega)]⟩⟩

/-- Block g is a row of limbs that may be written. -/
def Row (w : World) (g : Nat) (zs : List Nat) : Prop := w.heap[g]? = some (.cells (zs.map lim).toArray 93 (0, 0))
theorem Own.row {w : World} {base g n : Nat} {zs : List Nat} (h : Own w base g n zs) : Row w g zs := h.heap
theorem Row.own {w : World} {base g n : Nat} {zs : List Nat} (h : Row w g zs) (hb : base ≤ g) (hl : zs.length = n) (hm : n ≤ maxLen) : Own w base g n zs := Own.of_heap h hb hl hm
theorem Row.lt {w : World} {g : Nat} {zs : List Nat} (h : Row w g zs) : g < w.heap.size := (Array.getElem?_eq_some_iff.1 h).1
theorem Row.cell {w : World} {g : Nat} {zs : List Nat} (h : Row w g zs) (i : Nat) (hi : i < zs.length) : w.cell? ⟨g, i, none⟩ = some (.int .u32 (zs.getD i 0 : Nat)) := by
  rw [cell_of_row w g i _ 93 (0, 0) h]
  simp [List.getD, hi, lim]
theorem Row.free {w : World} {g : Nat} {zs : List Nat} (h : Row w g zs) (i : Nat) : w.frozen? ⟨g, i, none⟩ = false := frozen_of_row w g i _ 93 h
theorem Row.set {w : World} {g : Nat} {zs : List Nat} (h : Row w g zs) (i s : Nat) : Row (w.setCell ⟨g, i, none⟩ (.int .u32 (s : Nat))) g (zs.set i s) := by
  unfold Row
  rw [heap_setCell_same w g i _ 93 _ h]
  simp [List.map_set, lim]
theorem Row.kept {w w' : World} {g : Nat} {zs : List Nat} {row : Option Nat} (h : Row w g zs) (hg : w.grownBy w' row) (hne : some g ≠ row) : Row w' g zs := (hg.block g h.lt hne).trans h
theorem Row.below {w w' : World} {g : Nat} {zs : List Nat} (h : Row w g zs) (hb : Below w.heap.size w w') : Row w' g zs := (hb.block g h.lt).trans h
theorem Row.reads {w : World} {g m c : Nat} {zs : List Nat} (h : Row w g zs) (hm : m ≤ zs.length) (hc : m ≤ c) (hc' : c ≤ maxLen) (hx : Limbs zs) : Reads w (.slice (some ⟨g, 0, none⟩) m c) (zs.take m) := by
  refine ⟨_, m, c, rfl, by rw [List.length_take]; omega, hc, hc', hx.take _, fun _ => ⟨g, 0, rfl, fun i hi => ?_⟩⟩
  rw [Nat.zero_add, h.cell i (by omega), getD_take _ _ _ hi]
theorem grown_setCell {w : World} {g : Nat} (i : Nat) (u : Value) : w.grownBy (w.setCell ⟨g, i, none⟩ u) (some g) :=
  ⟨rfl, rfl, rfl, by simp, fun k _ hk => heap_setCell_other w ⟨g, i, none⟩ k u (fun e => hk (by simp [e]))⟩
theorem grown_trans {a b c : World} {row : Option Nat} (h : a.grownBy b row) (k : b.grownBy c row) : a.grownBy c row :=
  ⟨k.os.trans h.os, k.tape.trans h.tape, k.output.trans h.output, Nat.le_trans h.size k.size, fun i hi hne => (k.block i (Nat.lt_of_lt_of_le hi h.size) hne).trans (h.block i hi hne)⟩
theorem grown_drewN {a b : World} {row : Option Nat} (h : a.grownBy b row) (n : Nat) : a.grownBy (b.drewN n) row := ⟨h.os, h.tape, h.output, h.size, h.block⟩
theorem grown_of_below {a b : World} (h : Below a.heap.size a b) (row : Option Nat) : a.grownBy b row := ⟨h.os, h.tape, h.output, h.size, fun i hi _ => h.block i hi⟩

/-- The world is the same but for a count of draws, or has new blocks only. -/
abbrev Add (w w' : World) : Prop := Below w.heap.size w w'
theorem Add.trans {a b c : World} (h : Add a b) (k : Add b c) : Add a c := Below.trans h (k.mono h.size)

/-- v reads in w as the canonical list of limbs of the number N. -/
def Num (w : World) (v : Value) (N : Nat) : Prop := ∃ zs, Reads w v zs ∧ Canon zs ∧ val zs = N
theorem Num.mono {w w' : World} {v : Value} {N : Nat} (h : Num w v N) (hb : Add w w') : Num w' v N := by
  obtain ⟨zs, h1, h2, h3⟩ := h; exact ⟨zs, h1.mono hb, h2, h3⟩
theorem Num.nil (w : World) : Num w (.slice none 0 0) 0 := ⟨[], Reads.nil w, rfl, rfl⟩

/-- A result without an error. -/
def OkP (w : World) (N : Nat) (e : Ending) (w' : World) : Prop := ∃ v, e = .returned (.tuple #[v, .int .i64 0]) ∧ Num w' v N ∧ Add w w'
/-- An error. -/
def ErrP (w : World) (k : Int) (e : Ending) (w' : World) : Prop := e = .returned (.tuple #[.slice none 0 0, .int .i64 k]) ∧ Add w w'
end Go.Proofs.YtbeoeackahmpbaaGreatDoor

namespace Go.Proofs.YtbeoeackahmpbaaGreatDoor
open Go.RowKit NatM

/-- What cut returns: the part without the zeros at the end, in the same memory. -/
def CutP (w : World) (v : Value) (xs : List Nat) (e : Ending) (w' : World) : Prop :=
  ∃ v', e = .returned v' ∧ w = w' ∧ Reads w v' (trim xs) ∧ ∃ ao c, v = .slice ao xs.length c ∧ v' = .slice ao (tlen xs) (tlen xs)
theorem cut_any (v : Value) (xs : List Nat) (w : World) (h : Reads w v xs) :
    Calls Tryz.prog 99 #[v] w (CutP w v xs) := by
  obtain ⟨ao, n, c, rfl, hl, hc, hm, hx, hr⟩ := h
  have hfin : ∀ k, k ≤ n → tlen xs = k → CutP w (.slice ao n c) xs (.returned (.slice ao k k)) w := by
    intro k hk ht
    refine ⟨_, rfl, rfl, ⟨ao, k, k, rfl, by rw [length_trim, ht], Nat.le_refl _, by omega, hx.take _, fun hk0 => ?_⟩, ao, c, by rw [hl], by rw [ht]⟩
    obtain ⟨b, off, e, g⟩ := hr (by omega)
    refine ⟨b, off, e, fun i hi => ?_⟩
    rw [g i (by omega)]; unfold trim; rw [getD_take _ _ _ (by omega)]
  have HF := Lib.hid hfin
  clear hfin
  unfold maxLen at hm
  have hmm : n ≤ 9223372036854775807 := by omega
  have HL := Lib.hid hl
  clear hl
  go_enter Tryz.func99, Tryz.ntmps99
  go_wp2_with fail
  go_loop [3] (fun v => ∃ k : Nat, k ≤ n ∧ v = .int .i64 k ∧ tlen xs ≤ k) (fun v => (intOf v).toNat)
  case atStart => exact ⟨n, Nat.le_refl _, rfl, by rw [← HL.out]; exact tlen_le xs⟩
  case round =>
    obtain ⟨k, hk, rfl, ht⟩ := hrel
    by_cases h0 : k = 0
    · subst h0
      go_wp2_with fail
      go_ret
      exact HF.out 0 (by omega) (by omega)
    · obtain ⟨j, rfl⟩ : ∃ j, k = j + 1 := ⟨k - 1, by omega⟩
      obtain ⟨b, off, rfl, g⟩ := hr (by omega)
      have hcell := g j (by omega)
      clear g hr
      obtain ⟨x, hx'⟩ : ∃ x, x = xs.getD j 0 := ⟨_, rfl⟩
      rw [← hx'] at hcell
      have HX := Lib.hid hx'
      clear hx'
      by_cases hz : x = 0
      · subst hz
        go_wp2_with fail
        go_round
        case rel => 
          refine ⟨j, by omega, by go_num, ?_⟩
          rcases Nat.lt_or_ge (tlen xs) (j + 1) with h1 | h1
          · omega
          · have h2 : tlen xs = j + 1 := by omega
            have := tlen_top xs (by omega)
            rw [h2] at this
            exact absurd HX.out.symm this
        case measure => simp [intOf]
      · have hz1 : ((x : Int) == 0) = false := by simpa using hz
        have ht2 : tlen xs = j + 1 := by
          rcases Nat.lt_or_ge (tlen xs) (j + 1) with h1 | h1
          · have := tlen_above xs j (by omega)
            rw [← HX.out] at this
            exact absurd this hz
          · omega
        have HT := Lib.hid ht2
        clear ht2
        go_wp2_with fail
        go_ret
        exact HF.out (j + 1) (by omega) HT.out

/-- large tells whether the canonical form has more than 512 limbs. -/
def LargeP (w : World) (b : Bool) (e : Ending) (w' : World) : Prop := e = .returned (.bool b) ∧ w = w'
theorem large_is (b : Bool) (v : Value) (xs : List Nat) (w : World) (h : Reads w v xs) (hb : decide (512 < tlen xs) = b) :
    Calls Tryz.prog 123 #[v] w (LargeP w b) := by
  have hb' : decide ((512 : Int) < (tlen xs : Nat)) = b := by rw [← hb, decide_eq_decide]; omega
  have HB := Lib.hid hb'
  clear hb hb'
  go_enter Tryz.func123, Tryz.ntmps123
  go_wp2_with (go_at_call 99; refine (cut_any _ _ _ h).mono ?_; rintro e w' ⟨v', rfl, rfl, _, ao, c, _, rfl⟩)
  go_ret
  exact ⟨by rw [← HB.out]; rfl, rfl⟩

/-- sign. -/
def SignP (w : World) (b : Bool) (e : Ending) (w' : World) : Prop := e = .returned (.int .i64 (if b then -1 else 1)) ∧ w = w'
theorem sign_any (b : Bool) (w : World) : Calls Tryz.prog 140 #[.bool b] w (SignP w b) := by
  cases b
  · go_enter Tryz.func140, Tryz.ntmps140
    go_wp2_with fail
    go_ret
    exact ⟨rfl, rfl⟩
  · go_enter Tryz.func140, Tryz.ntmps140
    go_wp2_with fail
    go_ret
    exact ⟨rfl, rfl⟩

/-- limb: the limb at i, 0 behind the end. -/
def LimbP (w : World) (xs : List Nat) (i : Int) (e : Ending) (w' : World) : Prop := ∃ x : Nat, e = .returned (.int .u32 (x : Nat)) ∧ w = w' ∧ x < 4294967296 ∧ Hid (x = xs.getD i.toNat 0)
theorem limb_any (v : Value) (xs : List Nat) (i : Int) (w : World) (h : Reads w v xs) (h0 : 0 ≤ i) :
    Calls Tryz.prog 150 #[v, .int .i64 i] w (LimbP w xs i) := by
  obtain ⟨ao, n, c, rfl, hl, hc, hm, hx, hr⟩ := h
  unfold maxLen at hm
  obtain ⟨k, rfl⟩ := Int.eq_ofNat_of_zero_le h0
  by_cases hk : k < n
  · obtain ⟨b, off, rfl, g⟩ := hr (by omega)
    have hcell := g k hk
    obtain ⟨x, hxe⟩ : ∃ x, x = xs.getD k 0 := ⟨_, rfl⟩
    rw [← hxe] at hcell
    have hF : LimbP w xs (k : Int) (.returned (.int .u32 (x : Nat))) w := ⟨x, rfl, rfl, by rw [hxe]; exact hx.getD k, Lib.hid (by rw [Int.toNat_natCast]; exact hxe)⟩
    clear g hr hl hxe
    have hk' : decide ((k : Int) < (n : Nat)) = true := by simpa using hk
    go_enter Tryz.func150, Tryz.ntmps150
    go_wp2_with fail
    go_ret
    exact hF
  · have e0 : xs.getD (Int.toNat (k : Int)) 0 = 0 := by
      rw [Int.toNat_natCast]
      simp [List.getD, List.getElem?_eq_none (by omega : xs.length ≤ k)]
    have hF : LimbP w xs (k : Int) (.returned (.int .u32 0)) w := ⟨0, rfl, rfl, by decide, Lib.hid e0.symm⟩
    clear hl e0
    have hk' : decide ((k : Int) < (n : Nat)) = false := by simpa using hk
    go_enter Tryz.func150, Tryz.ntmps150
    go_wp2_with fail
    go_ret
    exact hF

/-- bits.Add32. -/
def Add32P (w : World) (x y c : Nat) (e : Ending) (w' : World) : Prop :=
  ∃ s c' : Nat, e = .returned (.tuple #[.int .u32 (s : Nat), .int .u32 (c' : Nat)]) ∧ w = w' ∧ s < 4294967296 ∧ c' ≤ 1 ∧ Hid (s + 4294967296 * c' = x + y + c)
theorem add32_any (x y c : Nat) (w : World) (hx : x < 4294967296) (hy : y < 4294967296) (hc : c ≤ 1) :
    Calls Tryz.prog 158 #[.int .u32 (x : Nat), .int .u32 (y : Nat), .int .u32 (c : Nat)] w (Add32P w x y c) := by
  have HF : Add32P w x y c (.returned (.tuple #[.int .u32 (((x : Int) + y + c) % 4294967296), .int .u32 (((x : Int) + y + c) / 4294967296)])) w :=
    ⟨(x + y + c) % 4294967296, (x + y + c) / 4294967296, by simp, rfl, by omega, by omega, Lib.hid (by omega)⟩
  go_enter Tryz.func158, Tryz.ntmps158
  go_wp2_with fail
  go_ret2
  exact HF

/-- bits.Sub32. -/
def Sub32P (w : World) (x y c : Nat) (e : Ending) (w' : World) : Prop :=
  ∃ s c' : Nat, e = .returned (.tuple #[.int .u32 (s : Nat), .int .u32 (c' : Nat)]) ∧ w = w' ∧ s < 4294967296 ∧ c' ≤ 1 ∧ Hid (s + y + c = x + 4294967296 * c')
theorem top_bit {a : Nat} (h : a < 4294967296) : a / 2 ^ 31 = 0 ∨ a / 2 ^ 31 = 1 := by omega
theorem sub32_bits (x y c : Nat) (hx : x < 4294967296) (hy : y < 4294967296) (hc : c ≤ 1) :
    bits BinOp.or IntKind.u32 (bits BinOp.and IntKind.u32 (bits BinOp.xor IntKind.u32 IntKind.u32.max ↑x) ↑y) (bits BinOp.and IntKind.u32 (bits BinOp.xor IntKind.u32 IntKind.u32.max (bits BinOp.xor IntKind.u32 ↑x ↑y)) (((x : Int) - y - c) % 4294967296)) / 2147483648 = ((if x < y + c then 1 else 0 : Nat) : Int) := by
  obtain ⟨d, hd, e⟩ : ∃ d : Nat, ((x : Int) - y - c) % 4294967296 = d ∧ (d + y + c = x ∨ d + y + c = x + 4294967296) := by
    by_cases h : x < y + c
    · exact ⟨x + 4294967296 - y - c, by omega, .inr (by omega)⟩
    · exact ⟨x - y - c, by omega, .inl (by omega)⟩
  have hd' : d < 4294967296 := by omega
  have hm : IntKind.u32.max = ((4294967295 : Nat) : Int) := by rfl
  have b1 : (4294967295 ^^^ x) < 4294967296 := Nat.xor_lt_two_pow (n := 32) (by decide) hx
  have b2 : (x ^^^ y) < 4294967296 := Nat.xor_lt_two_pow (n := 32) hx hy
  have b3 : (4294967295 ^^^ (x ^^^ y)) < 4294967296 := Nat.xor_lt_two_pow (n := 32) (by decide) b2
  have b4 : ((4294967295 ^^^ x) &&& y) < 4294967296 := Nat.and_lt_two_pow (n := 32) _ hy
  have b5 : ((4294967295 ^^^ (x ^^^ y)) &&& d) < 4294967296 := Nat.and_lt_two_pow (n := 32) _ hd'
  rw [hd, hm, u32_xor_nat _ _ (by decide) hx, u32_and_nat _ _ b1 hy, u32_xor_nat _ _ hx hy, u32_xor_nat _ _ (by decide) b2, u32_and_nat _ _ b3 hd', u32_or_nat _ _ b4 b5]
  have e1 : ((((4294967295 ^^^ x) &&& y) ||| ((4294967295 ^^^ (x ^^^ y)) &&& d)) / 2 ^ 31 : Nat) = if x < y + c then 1 else 0 := by
    rw [Nat.or_div_two_pow, Nat.and_div_two_pow, Nat.and_div_two_pow, Nat.xor_div_two_pow, Nat.xor_div_two_pow, Nat.xor_div_two_pow]
    rcases top_bit hx with h1 | h1 <;> rcases top_bit hy with h2 | h2 <;> rcases top_bit hd' with h3 | h3 <;> rw [h1, h2, h3] <;> (simp; omega)
  rw [← e1]
  omega
theorem sub32_any (x y c : Nat) (w : World) (hx : x < 4294967296) (hy : y < 4294967296) (hc : c ≤ 1) :
    Calls Tryz.prog 159 #[.int .u32 (x : Nat), .int .u32 (y : Nat), .int .u32 (c : Nat)] w (Sub32P w x y c) := by
  have HF : Sub32P w x y c (.returned (.tuple #[.int .u32 (((x : Int) - y - c) % 4294967296), .int .u32 (bits BinOp.or IntKind.u32 (bits BinOp.and IntKind.u32 (bits BinOp.xor IntKind.u32 IntKind.u32.max ↑x) ↑y) (bits BinOp.and IntKind.u32 (bits BinOp.xor IntKind.u32 IntKind.u32.max (bits BinOp.xor IntKind.u32 ↑x ↑y)) (((x : Int) - y - c) % 4294967296)) / 2147483648)])) w := by
    rw [sub32_bits x y c hx hy hc]
    by_cases h : x < y + c
    · exact ⟨x + 4294967296 - y - c, 1, by rw [if_pos h, show ((x : Int) - y - c) % 4294967296 = ((x + 4294967296 - y - c : Nat) : Int) from by omega], rfl, by omega, by omega, Lib.hid (by omega)⟩
    · exact ⟨x - y - c, 0, by rw [if_neg h, show ((x : Int) - y - c) % 4294967296 = ((x - y - c : Nat) : Int) from by omega], rfl, by omega, by omega, Lib.hid (by omega)⟩
  go_enter Tryz.func159, Tryz.ntmps159
  go_wp2_with fail
  go_ret2
  exact HF

/-- What sum returns. -/
def SumP (w : World) (xs ys : List Nat) (e : Ending) (w' : World) : Prop :=
  ∃ v zs, e = .returned v ∧ Reads w' v zs ∧ val zs = val xs + val ys ∧ zs.length = max xs.length ys.length + 1 ∧ Add w w'
theorem sum_any (va vb : Value) (xs ys : List Nat) (w : World) (ha : Reads w va xs) (hb : Reads w vb ys) (hs : xs.length ≤ 1000000) (hs' : ys.length ≤ 1000000) :
    Calls Tryz.prog 151 #[va, vb] w (SumP w xs ys) := by
  obtain ⟨i0, hi, hz0, hz1, hz2⟩ := info_parts info93
  obtain ⟨aa, n, ca, rfl, hln, hc, hm, hx, hr⟩ := id ha
  obtain ⟨ab, m, cb, rfl, hlm, hc', hm', hx', hr'⟩ := id hb
  clear hr hr'
  unfold maxLen at hm hm'
  have HLn := Lib.hid hln
  have HLm := Lib.hid hlm
  rw [hln] at hs
  rw [hlm] at hs'
  clear hln hlm
  rcases Nat.lt_or_ge n m with hlt | hge
  · have h1 : (n : Int) < m := by omega
    go_enter Tryz.func151, Tryz.ntmps151
    go_wp2_with (at_make; refine wpList_make_full _ rfl _ _ 35 rfl w.heap.size 93 i0 (.int .u32 0) 1 Tryz.underlying35 hi hz0 hz1 _ _ _ _ (m + 1) rfl rfl (by omega) (by omega) (by rw [hz2]; omega) (by unfold maxLen; omega) (Nat.le_refl _) ?_)
    intro w1 hown hgr
    have hadd : Add w w1 := (Below.refl _ _).grown hgr (Nat.le_refl _) (by simp)
    have hown := Own.made hown
    clear hgr
    go_wp2_with fail
    go_loopw [7, 18] (fun c i wr => ∃ (k cc : Nat) (zs : List Nat), k ≤ m ∧ i = .int .i64 k ∧ c = .int .u32 cc ∧ cc ≤ 1 ∧ Own wr w.heap.size w.heap.size (m + 1) zs ∧ Limbs zs ∧ SumAt xs ys zs k cc ∧ Add w wr) (fun _ i _ => m - (intOf i).toNat)
    case atStart => exact ⟨0, 0, _, Nat.zero_le _, rfl, rfl, by omega, hown, Limbs.replicate _, sum_zero _ _ _, hadd⟩
    case round =>
      obtain ⟨k, cc, zs, hk, rfl, rfl, hcc, hown, hzs, hsum, hadd⟩ := hrel
      have hb0 := hadd.size
      by_cases hlt' : k < m
      · have hcell := hown.cell k (by omega)
        have hfree := hown.free k
        go_wp2_with (first
          | (go_at_call 150; ((with_reducible refine (limb_any (.slice aa n ca) xs _ _ (ha.mono hadd) (by omega)).mono ?_); rintro e w' ⟨x, rfl, rfl, hxl, HX⟩))
          | (go_at_call 150; ((with_reducible refine (limb_any (.slice ab m cb) ys _ _ (hb.mono hadd) (by omega)).mono ?_); rintro e w' ⟨y, rfl, rfl, hyl, HY⟩))
          | (go_at_call 158; refine (add32_any x y cc _ hxl hyl hcc).mono ?_; rintro e w' ⟨s, c', rfl, rfl, hsl, hc1, HS⟩))
        go_roundw
        case rel =>
          have hz := hown.length
          refine ⟨k + 1, c', zs.set k s, by omega, by go_num, rfl, hc1, hown.set k s, hzs.set k s hsl, sum_step hsum (by omega) ?_, hadd.setCell (Nat.le_refl _) _⟩
          have e1 := HX.out
          have e2 := HY.out
          rw [Int.toNat_natCast] at e1 e2
          rw [← e1, ← e2]; exact HS.out
        case measure => simp [intOf]; omega
      · obtain rfl : k = m := by omega
        have hcell := hown.cell k (by omega)
        have hfree := hown.free k
        go_wp2_with fail
        go_ret
        have hz := hown.length
        refine ⟨_, _, rfl, (hown.set k cc).reads (by unfold maxLen; omega) (hzs.set k cc (by omega)), ?_, ?_, hadd.setCell (Nat.le_refl _) _⟩
        · have h2 := hsum
          unfold SumAt at h2
          rw [List.take_of_length_le (l := xs) (by rw [HLn.out]; omega), List.take_of_length_le (l := ys) (by rw [HLm.out]; omega)] at h2
          rw [← h2]
          have h3 : (zs.set k cc).take (k + 1) = zs.set k cc := List.take_of_length_le (by simp; omega)
          rw [← h3, val_take_succ, take_set_lt, getD_set_self _ _ _ (by omega)]
        · rw [List.length_set, hz, HLn.out, HLm.out]; omega
  · have h1 : (m : Int) ≤ n := by omega
    go_enter Tryz.func151, Tryz.ntmps151
    go_wp2_with (at_make; refine wpList_make_full _ rfl _ _ 35 rfl w.heap.size 93 i0 (.int .u32 0) 1 Tryz.underlying35 hi hz0 hz1 _ _ _ _ (n + 1) rfl rfl (by omega) (by omega) (by rw [hz2]; omega) (by unfold maxLen; omega) (Nat.le_refl _) ?_)
    intro w1 hown hgr
    have hadd : Add w w1 := (Below.refl _ _).grown hgr (Nat.le_refl _) (by simp)
    have hown := Own.made hown
    clear hgr
    go_wp2_with fail
    go_loopw [7, 18] (fun c i wr => ∃ (k cc : Nat) (zs : List Nat), k ≤ n ∧ i = .int .i64 k ∧ c = .int .u32 cc ∧ cc ≤ 1 ∧ Own wr w.heap.size w.heap.size (n + 1) zs ∧ Limbs zs ∧ SumAt xs ys zs k cc ∧ Add w wr) (fun _ i _ => n - (intOf i).toNat)
    case atStart => exact ⟨0, 0, _, Nat.zero_le _, rfl, rfl, by omega, hown, Limbs.replicate _, sum_zero _ _ _, hadd⟩
    case round =>
      obtain ⟨k, cc, zs, hk, rfl, rfl, hcc, hown, hzs, hsum, hadd⟩ := hrel
      have hb0 := hadd.size
      by_cases hlt' : k < n
      · have hcell := hown.cell k (by omega)
        have hfree := hown.free k
        go_wp2_with (first
          | (go_at_call 150; ((with_reducible refine (limb_any (.slice aa n ca) xs _ _ (ha.mono hadd) (by omega)).mono ?_); rintro e w' ⟨x, rfl, rfl, hxl, HX⟩))
          | (go_at_call 150; ((with_reducible refine (limb_any (.slice ab m cb) ys _ _ (hb.mono hadd) (by omega)).mono ?_); rintro e w' ⟨y, rfl, rfl, hyl, HY⟩))
          | (go_at_call 158; refine (add32_any x y cc _ hxl hyl hcc).mono ?_; rintro e w' ⟨s, c', rfl, rfl, hsl, hc1, HS⟩))
        go_roundw
        case rel =>
          have hz := hown.length
          refine ⟨k + 1, c', zs.set k s, by omega, by go_num, rfl, hc1, hown.set k s, hzs.set k s hsl, sum_step hsum (by omega) ?_, hadd.setCell (Nat.le_refl _) _⟩
          have e1 := HX.out
          have e2 := HY.out
          rw [Int.toNat_natCast] at e1 e2
          rw [← e1, ← e2]; exact HS.out
        case measure => simp [intOf]; omega
      · obtain rfl : k = n := by omega
        have hcell := hown.cell k (by omega)
        have hfree := hown.free k
        go_wp2_with fail
        go_ret
        have hz := hown.length
        refine ⟨_, _, rfl, (hown.set k cc).reads (by unfold maxLen; omega) (hzs.set k cc (by omega)), ?_, ?_, hadd.setCell (Nat.le_refl _) _⟩
        · have h2 := hsum
          unfold SumAt at h2
          rw [List.take_of_length_le (l := xs) (by rw [HLn.out]; omega), List.take_of_length_le (l := ys) (by rw [HLm.out]; omega)] at h2
          rw [← h2]
          have h3 : (zs.set k cc).take (k + 1) = zs.set k cc := List.take_of_length_le (by simp; omega)
          rw [← h3, val_take_succ, take_set_lt, getD_set_self _ _ _ (by omega)]
        · rw [List.length_set, hz, HLn.out, HLm.out]; omega
end Go.Proofs.YtbeoeackahmpbaaGreatDoor

namespace Go.Proofs.YtbeoeackahmpbaaGreatDoor
open Go.RowKit NatM

theorem checked_ok (v : Value) (xs : List Nat) (w : World) (h : Reads w v xs) (hN : val xs < pw 512) :
    Calls Tryz.prog 124 #[v] w (OkP w (val xs)) := by
  have hb : decide (512 < tlen xs) = false := by
    rw [decide_eq_false_iff_not, tlen_gt_iff h.limbs]; omega
  have HB := Lib.hid hb
  clear hb hN
  go_enter Tryz.func124, Tryz.ntmps124
  go_wp2_with (first
    | (go_at_call 123; refine (large_is false _ _ _ h HB.out).mono ?_; rintro e w' ⟨rfl, rfl⟩)
    | (go_at_call 99; refine (cut_any _ _ _ h).mono ?_; rintro e w' ⟨v', rfl, rfl, hv, ao, c, _, rfl⟩))
  go_ret2
  exact ⟨_, rfl, ⟨_, hv, Canon.trim _, val_trim _⟩, Below.refl _ _⟩

theorem checked_big (v : Value) (xs : List Nat) (w : World) (h : Reads w v xs) (hN : pw 512 ≤ val xs) :
    Calls Tryz.prog 124 #[v] w (ErrP w 2) := by
  have hb : decide (512 < tlen xs) = true := by
    rw [decide_eq_true_iff, tlen_gt_iff h.limbs]; omega
  have HB := Lib.hid hb
  clear hb hN
  go_enter Tryz.func124, Tryz.ntmps124
  go_wp2_with (go_at_call 123; refine (large_is true _ _ _ h HB.out).mono ?_; rintro e w' ⟨rfl, rfl⟩)
  go_ret2
  exact ⟨rfl, Below.refl _ _⟩

/-- Add without an error. -/
theorem add_ok (va vb : Value) (xs ys : List Nat) (w : World) (ha : Reads w va xs) (hb : Reads w vb ys) (hs : xs.length ≤ 1000000) (hs' : ys.length ≤ 1000000) (hN : val xs + val ys < pw 512) :
    Calls Tryz.prog 139 #[va, vb] w (OkP w (val xs + val ys)) := by
  have l1 := tlen_le xs
  have l2 := tlen_le ys
  have HN := Lib.hid hN
  clear hN
  go_enter Tryz.func139, Tryz.ntmps139
  go_wp2_with fail
  refine (cut_any _ _ _ ha).mono ?_; rintro e w' ⟨va', rfl, rfl, hva, _⟩
  go_wp2_with fail
  refine (cut_any _ _ _ hb).mono ?_; rintro e w' ⟨vb', rfl, rfl, hvb, _⟩
  go_wp2_with fail
  refine (sum_any _ _ _ _ _ hva hvb (by rw [length_trim]; omega) (by rw [length_trim]; omega)).mono ?_
  rintro e w' ⟨v, zs, rfl, hz, hzv, _, hadd⟩
  rw [val_trim, val_trim] at hzv
  have HV := Lib.hid hzv
  clear hzv
  go_wp2_with fail
  refine (checked_ok _ _ _ hz (by rw [HV.out]; exact HN.out)).mono ?_
  rintro e w'' ⟨v', rfl, hn, hadd'⟩
  go_wp2_with fail
  go_ret2
  exact ⟨_, rfl, by rw [← HV.out]; exact hn, Add.trans hadd hadd'⟩

theorem add_big (va vb : Value) (xs ys : List Nat) (w : World) (ha : Reads w va xs) (hb : Reads w vb ys) (hs : xs.length ≤ 1000000) (hs' : ys.length ≤ 1000000) (hN : pw 512 ≤ val xs + val ys) :
    Calls Tryz.prog 139 #[va, vb] w (ErrP w 2) := by
  have l1 := tlen_le xs
  have l2 := tlen_le ys
  have HN := Lib.hid hN
  clear hN
  go_enter Tryz.func139, Tryz.ntmps139
  go_wp2_with fail
  refine (cut_any _ _ _ ha).mono ?_; rintro e w' ⟨va', rfl, rfl, hva, _⟩
  go_wp2_with fail
  refine (cut_any _ _ _ hb).mono ?_; rintro e w' ⟨vb', rfl, rfl, hvb, _⟩
  go_wp2_with fail
  refine (sum_any _ _ _ _ _ hva hvb (by rw [length_trim]; omega) (by rw [length_trim]; omega)).mono ?_
  rintro e w' ⟨v, zs, rfl, hz, hzv, _, hadd⟩
  rw [val_trim, val_trim] at hzv
  have HV := Lib.hid hzv
  clear hzv
  go_wp2_with fail
  refine (checked_big _ _ _ hz (by rw [HV.out]; exact HN.out)).mono ?_
  rintro e w'' ⟨rfl, hadd'⟩
  go_wp2_with fail
  go_ret2
  exact ⟨rfl, Add.trans hadd hadd'⟩

/-- A number behind the result. -/
def NumP (w : World) (N : Nat) (e : Ending) (w' : World) : Prop := ∃ v, e = .returned v ∧ Num w' v N ∧ Add w w'

theorem reads_two (w : World) (a b : Nat) (ha : a < 4294967296) (hb : b < 4294967296) :
    Reads (w.alloc (.cells #[.int .u32 (a : Nat), .int .u32 (b : Nat)] 93)) (.slice (some ⟨w.heap.size, 0, none⟩) 2 2) [a, b] := by
  refine ⟨_, 2, 2, rfl, rfl, Nat.le_refl _, by unfold maxLen; omega, Limbs.cons ha (Limbs.cons hb Limbs.nil), fun _ => ⟨_, 0, rfl, fun i hi => ?_⟩⟩
  have : i = 0 ∨ i = 1 := by omega
  rcases this with rfl | rfl
  · simp
  · simp

theorem make_any (z : Int) (w : World) (h0 : 0 ≤ z) (hv : z < 18446744073709551616) :
    Calls Tryz.prog 112 #[.int .u64 z] w (NumP w z.toNat) := by
  obtain ⟨v, rfl⟩ := Int.eq_ofNat_of_zero_le h0
  have hr := reads_two w (v % 4294967296) (v / 4294967296) (by omega) (by omega)
  have e1 : ((v % 4294967296 : Nat) : Int) = (v : Int) % 4294967296 := by omega
  have e2 : ((v / 4294967296 : Nat) : Int) = (v : Int) / 4294967296 := by omega
  rw [e1, e2] at hr
  clear e1 e2
  have hval : val [v % 4294967296, v / 4294967296] = (Int.ofNat v).toNat := by
    simp only [val, Int.ofNat_eq_natCast, Int.toNat_natCast]; omega
  have HV := Lib.hid hval
  clear hval
  go_enter Tryz.func112, Tryz.ntmps112
  go_wp2_with fail
  refine (cut_any _ _ _ hr).mono ?_; rintro e w' ⟨v', rfl, rfl, hv', _⟩
  go_wp2_with fail
  go_ret
  exact ⟨_, rfl, ⟨_, hv', Canon.trim _, (val_trim _).trans HV.out⟩, (Below.refl _ _).alloc (Nat.le_refl _) _⟩

def cmpI (A B : Nat) : Int := if A < B then -1 else if A = B then 0 else 1
theorem cmpI_lt {A B : Nat} (h : A < B) : cmpI A B = -1 := by simp [cmpI, h]
theorem cmpI_eq {A B : Nat} (h : A = B) : cmpI A B = 0 := by simp [cmpI, h]
theorem cmpI_gt {A B : Nat} (h : B < A) : cmpI A B = 1 := by unfold cmpI; rw [if_neg (by omega), if_neg (by omega)]

/-- What Cmp returns. -/
def CmpP (w : World) (A B : Nat) (e : Ending) (w' : World) : Prop := e = .returned (.int .i64 (cmpI A B)) ∧ ∃ n, w' = w.drewN n

theorem drew3 (w : World) (a b c : Nat) : ∃ n, ((w.drewN a).drewN b).drewN c = w.drewN n := ⟨a + b + c, by rw [World.drewN_drewN, World.drewN_drewN, Nat.add_assoc]⟩

set_option maxHeartbeats 400000 in
theorem cmp_any (va vb : Value) (xs ys : List Nat) (w : World) (ha : Reads w va xs) (hb : Reads w vb ys) :
    Calls Tryz.prog 129 #[va, vb] w (CmpP w (val xs) (val ys)) := by
  obtain ⟨A, hA⟩ : ∃ A, A = val xs := ⟨_, rfl⟩
  obtain ⟨B, hB⟩ : ∃ B, B = val ys := ⟨_, rfl⟩
  rw [← hA, ← hB]
  rw [← val_trim xs] at hA
  rw [← val_trim ys] at hB
  have HA := Lib.hid hA
  have HB := Lib.hid hB
  clear hA hB
  go_enter Tryz.func129, Tryz.ntmps129
  go_wp2_with fail
  refine (cut_any _ _ _ ha).mono ?_; rintro e w' ⟨va', rfl, rfl, hva, -⟩
  go_wp2_with fail
  refine (cut_any _ _ _ hb).mono ?_; rintro e w' ⟨vb', rfl, rfl, hvb, -⟩
  have cx := Canon.trim xs
  have cy := Canon.trim ys
  generalize trim xs = ps at hva cx HA
  generalize trim ys = qs at hvb cy HB
  obtain ⟨aa, n, ca, rfl, hln, hc, hm, hx, hr⟩ := hva
  obtain ⟨ab, m, cb, rfl, hlm, hc', hm', hx', hr'⟩ := hvb
  clear ha hb
  unfold maxLen at hm hm'
  rcases Nat.lt_trichotomy n m with hnm | rfl | hnm
  · have hF := cmpI_lt (len_lt (xs := ps) (ys := qs) hx cy (by omega))
    have HF := Lib.hid hF
    clear hF hln hlm
    have hne : ((n : Int) != m) = true := by simp; omega
    have hlt : decide ((n : Int) < m) = true := by simp; omega
    go_wp2_with (go_at_call 140; refine (sign_any true _).mono ?_; rintro e w' ⟨rfl, rfl⟩)
    go_ret
    exact ⟨by rw [HA.out, HB.out, HF.out]; rfl, 0, rfl⟩
  · have hne : ((n : Int) != n) = false := by simp
    have HLn := Lib.hid hln
    have HLm := Lib.hid hlm
    clear hln hlm
    go_wp2_with fail
    go_loopw [5] (fun i wr => ∃ (k : Nat), k ≤ n ∧ i = .int .i64 ((k : Int) - 1) ∧ Agree ps qs k ∧ ∃ q, wr = w.drewN q) (fun i _ => (intOf i + 1).toNat)
    case atStart => exact ⟨n, Nat.le_refl _, rfl, by rw [← HLn.out]; exact agree_top (by rw [HLn.out, HLm.out]), 0, rfl⟩
    case round =>
      obtain ⟨k, hk, rfl, hag, q, rfl⟩ := hrel
      by_cases h0 : k = 0
      · subst h0
        have HF := Lib.hid (cmpI_eq (congrArg val (agree_zero hag)))
        go_wp2_with fail
        go_ret
        exact ⟨by rw [HA.out, HB.out, HF.out]; rfl, q, rfl⟩
      · obtain ⟨j, rfl⟩ : ∃ j, k = j + 1 := ⟨k - 1, by omega⟩
        obtain ⟨b, off, rfl, g⟩ := hr (by omega)
        obtain ⟨b', off', rfl, g'⟩ := hr' (by omega)
        have hcell := g j (by omega)
        have hcell' := g' j (by omega)
        obtain ⟨x, hxe⟩ : ∃ x, x = ps.getD j 0 := ⟨_, rfl⟩
        obtain ⟨y, hye⟩ : ∃ y, y = qs.getD j 0 := ⟨_, rfl⟩
        rw [← hxe] at hcell
        rw [← hye] at hcell'
        have HX := Lib.hid hxe
        have HY := Lib.hid hye
        clear hxe hye g g' hr hr'
        have hjn : j < n := by omega
        rcases Nat.lt_trichotomy x y with hxy | rfl | hxy
        · have hne' : ((x : Int) != y) = true := by simp; omega
          have hlt' : decide ((x : Int) < y) = true := by simp; omega
          have HF := Lib.hid (cmpI_lt (agree_lt hx (by rw [HLn.out, HLm.out]) (by rw [HLn.out]; omega) hag (by rw [← HX.out, ← HY.out]; exact hxy)))
          go_wp2_with fail
          go_quiet (fail)
          go_wp2_with fail
          go_quiet ((go_at_call 140; exact (sign_any true _).mono fun _ _ h => ⟨h.1, _, h.2.symm⟩))
          go_wp2_with fail
          go_ret
          exact ⟨by rw [HA.out, HB.out, HF.out]; rfl, by first | exact drew3 _ _ _ _ | exact ⟨_, rfl⟩⟩
        · have hne' : ((x : Int) != x) = false := by simp
          go_wp2_with fail
          go_quiet (fail)
          go_wp2_with fail
          go_roundw
          case rel => exact ⟨j, by omega, by go_num, agree_step (by rw [HLn.out, HLm.out]) (by rw [HLn.out]; omega) hag (by rw [← HX.out, ← HY.out]), _, rfl⟩
          case measure => simp [intOf]
        · have hne' : ((x : Int) != y) = true := by simp; omega
          have hlt' : decide (x < y) = false := by simp; omega
          have hag' : Agree qs ps (j + 1) := hag.symm
          have HF := Lib.hid (cmpI_gt (agree_lt hx' (by rw [HLn.out, HLm.out]) (by rw [HLm.out]; omega) hag' (by rw [← HX.out, ← HY.out]; exact hxy)))
          go_wp2_with fail
          go_quiet (fail)
          go_wp2_with fail
          go_quiet ((go_at_call 140; exact (sign_any false _).mono fun _ _ h => ⟨h.1, _, h.2.symm⟩))
          go_wp2_with fail
          go_ret
          exact ⟨by rw [HA.out, HB.out, HF.out]; rfl, by first | exact drew3 _ _ _ _ | exact ⟨_, rfl⟩⟩
  · have hF := cmpI_gt (len_lt (xs := qs) (ys := ps) hx' cx (by omega))
    have HF := Lib.hid hF
    clear hF hln hlm
    have hne : ((n : Int) != m) = true := by simp; omega
    have hlt : decide (n < m) = false := by simp; omega
    go_wp2_with (go_at_call 140; refine (sign_any false _).mono ?_; rintro e w' ⟨rfl, rfl⟩)
    go_ret
    exact ⟨by rw [HA.out, HB.out, HF.out]; rfl, 0, rfl⟩
end Go.Proofs.YtbeoeackahmpbaaGreatDoor
