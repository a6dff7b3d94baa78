/- Package lexer: the scanner in memory; rowEnd, atEnd, pos, moveTo. -/
import Derived.Test.YtdgpcijiempmdaaK1
import Derived.OneCell
import Derived.Maps.AppendAt
import Derived.Deep.Draws
import Derived.Deep.Quiet
import Derived.Deep.RegionHeld3
import Derived.StillTailTactics
import Derived.IntWalk
import Derived.Deep.Cut
import Derived.Shelf.Abstract
namespace Go.Proofs.Ytdgpcijiempmdaa
open Go.RowKit LxM

abbrev Add (w w' : World) : Prop := Below w.heap.size w w'
theorem Add.trans {a b c : World} (h : Add a b) (k : Add b c) : Add a c := Below.trans h (k.mono h.size)
theorem add_new (w : World) (o : Obj) : Add w (w.alloc o) := (Below.refl _ _).alloc (Nat.le_refl _) _
theorem grown_drew {w w' : World} {r : Option Nat} (h : w.grownBy w' r) : w.grownBy w'.drew r := ⟨h.1, h.2, h.3, h.4, h.5⟩
theorem grown_setCell {w w' : World} {g : Nat} (h : w.grownBy w' (some g)) (j : Nat) (u : Value) : w.grownBy (w'.setCell ⟨g, j, none⟩ u) (some g) := by
  refine ⟨h.1, h.2, h.3, by simpa using h.4, fun k hk hne => ?_⟩
  rw [Below.heap_setCell _ _ _ _ (fun e => hne (by rw [e]))]
  exact h.5 k hk hne
theorem grown_refl (w : World) (r : Option Nat) : w.grownBy w r := ⟨rfl, rfl, rfl, Nat.le_refl _, fun _ _ _ => rfl⟩

/-- The scanner of the text s in block g; the next byte is that at i. -/
def Sc (w : World) (g : Nat) (s : ByteArray) (i : Nat) : Prop :=
  w.heap[g]? = some (.cells #[.string s, .int .i64 (i : Nat), .int .i64 (lin s i : Nat), .int .i64 (beg s i : Nat)] 39 (0, 0))
theorem Sc.lt {w : World} {g : Nat} {s i} (h : Sc w g s i) : g < w.heap.size := (Array.getElem?_eq_some_iff.1 h).1
theorem Sc.mono {w w' : World} {g : Nat} {s i} (h : Sc w g s i) (hb : Add w w') : Sc w' g s i := (hb.block g h.lt).trans h
theorem Sc.c0 {w : World} {g : Nat} {s i} (h : Sc w g s i) : w.cell? ⟨g, 0, none⟩ = some (.string s) := by rw [cell_of_row w g 0 _ 39 (0, 0) h]; rfl
theorem Sc.c1 {w : World} {g : Nat} {s i} (h : Sc w g s i) : w.cell? ⟨g, 1, none⟩ = some (.int .i64 (i : Nat)) := by rw [cell_of_row w g 1 _ 39 (0, 0) h]; rfl
theorem Sc.c2 {w : World} {g : Nat} {s i} (h : Sc w g s i) : w.cell? ⟨g, 2, none⟩ = some (.int .i64 (lin s i : Nat)) := by rw [cell_of_row w g 2 _ 39 (0, 0) h]; rfl
theorem Sc.c3 {w : World} {g : Nat} {s i} (h : Sc w g s i) : w.cell? ⟨g, 3, none⟩ = some (.int .i64 (beg s i : Nat)) := by rw [cell_of_row w g 3 _ 39 (0, 0) h]; rfl
theorem Sc.fr {w : World} {g : Nat} {s i} (h : Sc w g s i) (j : Nat) : w.frozen? ⟨g, j, none⟩ = false := frozen_of_row w g j _ 39 h
theorem sc_new (w : World) (s : ByteArray) : Sc (w.alloc (.cells #[.string s, .int .i64 0, .int .i64 1, .int .i64 0] 39)) w.heap.size s 0 := heap_alloc_new w _
theorem sc_step {w : World} {g : Nat} {s i} (h : Sc w g s i) (hc : bt s i ≠ 10) : Sc (w.setCell ⟨g, 1, none⟩ (.int .i64 ((i + 1 : Nat) : Int))) g s (i + 1) := by
  unfold Sc at h ⊢
  rw [heap_setCell_same w g 1 _ 39 _ h, lin_no hc, beg_no hc]
  rfl
theorem sc_line {w : World} {g : Nat} {s i} (h : Sc w g s i) (hc : bt s i = 10) : Sc (((w.setCell ⟨g, 2, none⟩ (.int .i64 ((lin s i + 1 : Nat) : Int))).setCell ⟨g, 3, none⟩ (.int .i64 ((i + 1 : Nat) : Int))).setCell ⟨g, 1, none⟩ (.int .i64 ((i + 1 : Nat) : Int))) g s (i + 1) := by
  unfold Sc at h ⊢
  have h1 := heap_setCell_same w g 2 _ 39 (.int .i64 ((lin s i + 1 : Nat) : Int)) h
  have h2 := heap_setCell_same _ g 3 _ 39 (.int .i64 ((i + 1 : Nat) : Int)) h1
  rw [heap_setCell_same _ g 1 _ 39 _ h2, lin_lf hc, beg_lf hc]
  rfl
/-- The scanner in block g goes to j; no other block that was there changes. -/
def Mv (w w' : World) (g : Nat) (s : ByteArray) (j : Nat) : Prop := w.grownBy w' (some g) ∧ Sc w' g s j
theorem Mv.trans {a b c : World} {g : Nat} {s : ByteArray} {i j : Nat} (h : Mv a b g s i) (k : Mv b c g s j) : Mv a c g s j := ⟨h.1.trans k.1, k.2⟩
theorem Mv.drew {w w' : World} {g : Nat} {s : ByteArray} {i : Nat} (h : Mv w w' g s i) : Mv w w'.drew g s i := ⟨grown_drew h.1, h.2⟩
def MvP (w : World) (g : Nat) (s : ByteArray) (j : Nat) (e : Ending) (w' : World) : Prop := e = .returned (.tuple #[]) ∧ Mv w w' g s j

/-- A number is returned, and nothing changes. -/
def RetI (w : World) (n : Nat) (e : Ending) (w' : World) : Prop := e = .returned (.int .i64 (n : Nat)) ∧ w = w'

set_option maxRecDepth 100000 in
theorem rowEnd_any (F : Nat) (p : Nat → Bool) (s : ByteArray) (i : Nat) (w : World) (hs : s.size ≤ 1000000) (hi : i ≤ s.size) (eF : ∀ args w, (callFunc F args).run Try.prog w = .ok (.enter F args) w) (C : Hid (∀ (c : Nat) (w : World), c < 256 → Calls Try.prog F #[.int .u8 (c : Nat)] w (RetBo w (p c)))) :
    Calls Try.prog 27 #[.string s, .int .i64 (i : Nat), .func (.func F) #[] #[]] w (RetI w (rowE p s i)) := by
  go_enter Try.func27, Try.ntmps27
  go_wp2
  go_loop [7] (fun n => ∃ k : Nat, k ≤ s.size ∧ i ≤ k ∧ n = .int .i64 (k : Nat) ∧ Hid (rowE p s k = rowE p s i)) (fun n => s.size - (intOf n).toNat)
  case atStart => exact ⟨i, hi, Nat.le_refl _, rfl, rfl⟩
  case round =>
    obtain ⟨k, hk, hik, rfl, he⟩ := hrel
    by_cases hlt : k < s.size
    · have hb := bt_in hlt
      have CK : ∀ w, Calls Try.prog F #[.int .u8 (s[k].toNat : Nat)] w (RetBo w (p (bt s k))) := fun w => by rw [hb]; exact C.out _ _ (bt_lt _ _)
      cases hp : p (bt s k)
      · rw [hp] at CK
        have HK := Lib.hid CK
        have HE := Lib.hid (show rowE p s i = k by rw [← he.out]; exact rowE_out (by rw [hp]; simp))
        clear CK hp hb
        go_wp2_with (go_at_fn F; (with_reducible refine (HK.out _).mono ?_); rintro e w' ⟨rfl, rfl⟩)
        go_ret
        exact ⟨by rw [HE.out]; rfl, rfl⟩
      · rw [hp] at CK
        have HK := Lib.hid CK
        have HE := Lib.hid (show rowE p s (k + 1) = rowE p s i by rw [← he.out, rowE_in hlt hp])
        clear CK hp hb
        go_wp2_with (go_at_fn F; (with_reducible refine (HK.out _).mono ?_); rintro e w' ⟨rfl, rfl⟩)
        go_round
        case rel => exact ⟨k + 1, by omega, by omega, by go_num, HE⟩
        case measure => simp [intOf]; omega
    · have HE := Lib.hid (show rowE p s i = k by rw [← he.out]; exact rowE_out (by omega))
      go_wp2_with fail
      go_ret
      exact ⟨by rw [HE.out]; rfl, rfl⟩

theorem atEnd_any (g : Nat) (s : ByteArray) (i : Nat) (w : World) (h : Sc w g s i) :
    Calls Try.prog 18 #[.pointer (some ⟨g, 0, none⟩)] w (fun e w' => e = .returned (.bool (decide (i = s.size))) ∧ ∃ n, w' = w.drewN n) := by
  have c0 := h.c0
  have c1 := h.c1
  have hd : ((i : Int) == (s.size : Int)) = decide (i = s.size) := by rw [Bool.eq_iff_iff]; simp; omega
  clear h
  go_enter Try.func18, Try.ntmps18
  go_wp2_with fail
  go_quiet (fail)
  go_wp2_with fail
  go_ret
  exact ⟨by first | rw [hd] | rfl, _, rfl⟩
end Go.Proofs.Ytdgpcijiempmdaa
