/- Package lexer: pos and moveTo. -/
import Derived.Test.YtdgpcijiempmdaaK2
namespace Go.Proofs.Ytdgpcijiempmdaa
open Go.RowKit LxM

/-- A position is returned. -/
def RetP (w : World) (l c : Nat) (e : Ending) (w' : World) : Prop := e = .returned (.agg #[.int .i64 (l : Nat), .int .i64 (c : Nat)]) ∧ Add w w'

set_option maxRecDepth 100000 in
set_option maxHeartbeats 1000000 in
theorem pos_any {g : Nat} {s : ByteArray} {i : Nat} {w : World} (h : Sc w g s i) (hs : i ≤ 1000000) :
    Calls Try.prog 16 #[.pointer (some ⟨g, 0, none⟩)] w (RetP w (lin s i) (col s i)) := by
  have hbl := beg_le s i
  have hll := lin_le s i
  have hg := h.lt
  obtain ⟨b, hb⟩ : ∃ b, b = beg s i := ⟨_, rfl⟩
  obtain ⟨l, hl⟩ : ∃ l, l = lin s i := ⟨_, rfl⟩
  obtain ⟨c, hc⟩ : ∃ c, c = col s i := ⟨_, rfl⟩
  have hcc : (c : Int) = 1 + (i : Int) - (b : Int) := by rw [hc, hb]; unfold col; omega
  rw [← hl, ← hc]
  rw [← hb] at hbl
  rw [← hl] at hll
  have HC := Lib.hid hcc
  have e1 : IntKind.i64.wrap (1 + (i : Int)) = 1 + (i : Int) := by rw [IntKind.wrap_i64]; omega
  have e2 : IntKind.i64.wrap (1 + (i : Int) - (b : Int)) = (c : Int) := by rw [IntKind.wrap_i64]; omega
  have HS := Lib.hid h
  have HL := Lib.hid hl
  have HB := Lib.hid hb
  clear h hl hb hc hcc
  go_enter Try.func16, Try.ntmps16
  go_wp2_with fail
  obtain ⟨W, hW⟩ : ∃ W, W = w.alloc (.cells #[.int .i64 0, .int .i64 0] 26) := ⟨_, rfl⟩
  have hSW : Sc W g s i := by rw [hW]; exact HS.out.mono (add_new w _)
  have c1 := hSW.c1
  have c2 := hSW.c2
  have c3 := hSW.c3
  rw [← HL.out] at c2
  rw [← HB.out] at c3
  have hR : W.heap[w.heap.size]? = some (.cells #[.int .i64 0, .int .i64 0] 26 (0, 0)) := by rw [hW]; exact heap_alloc_new w _
  have q0 : W.cell? ⟨w.heap.size, 0, none⟩ = some (.int .i64 0) := by rw [cell_of_row W _ 0 _ _ _ hR]; rfl
  have q1 : W.cell? ⟨w.heap.size, 1, none⟩ = some (.int .i64 0) := by rw [cell_of_row W _ 1 _ _ _ hR]; rfl
  have r0 := frozen_of_row W w.heap.size 0 _ _ hR
  have r1 := frozen_of_row W w.heap.size 1 _ _ hR
  have HA := Lib.hid (show Add w W by rw [hW]; exact add_new w _)
  rw [← hW]
  clear hW hSW hR
  go_still_tail 15, (by kernel_rfl)
  change wpList _ _ _ _ _ W.drew
  go_wp2_with fail
  exact bodyPost_ret (v := .agg #[.int .i64 l, .int .i64 c]) (by simp [results, Try.results16, go_sem, q0, q1]) rfl ⟨rfl, ((Below.drew HA.out).setCell (Nat.le_refl _) _).setCell (Nat.le_refl _) _⟩

/-- The index of the next byte, as it lies in memory. -/
def nxt (w : World) (g : Nat) : Nat := match w.cell? ⟨g, 1, none⟩ with | some (.int _ n) => n.toNat | _ => 0
theorem Sc.nxt {w : World} {g : Nat} {s i} (h : Sc w g s i) : Proofs.Ytdgpcijiempmdaa.nxt w g = i := by unfold Proofs.Ytdgpcijiempmdaa.nxt; rw [h.c1]; rfl
theorem mv_line {w wr : World} {g : Nat} {s : ByteArray} {k l : Nat} (h : Mv w wr g s k) (hc : bt s k = 10) (hl : l = lin s k) (n : Nat) :
    Mv w ((((wr.drewN n).setCell ⟨g, 2, none⟩ (.int .i64 ((l : Int) + 1))).setCell ⟨g, 3, none⟩ (.int .i64 ((k : Int) + 1))).setCell ⟨g, 1, none⟩ (.int .i64 ((k : Int) + 1))) g s (k + 1) := by
  subst hl
  have hg : w.grownBy (wr.drewN n) (some g) := ⟨h.1.1, h.1.2, h.1.3, h.1.4, h.1.5⟩
  exact ⟨grown_setCell (grown_setCell (grown_setCell hg 2 _) 3 _) 1 _, sc_line (w := wr.drewN n) h.2 hc⟩
theorem mv_step {w wr : World} {g : Nat} {s : ByteArray} {k : Nat} (h : Mv w wr g s k) (hc : bt s k ≠ 10) (n : Nat) :
    Mv w ((wr.drewN n).setCell ⟨g, 1, none⟩ (.int .i64 ((k : Int) + 1))) g s (k + 1) := by
  have hg : w.grownBy (wr.drewN n) (some g) := ⟨h.1.1, h.1.2, h.1.3, h.1.4, h.1.5⟩
  exact ⟨grown_setCell hg 1 _, sc_step (w := wr.drewN n) h.2 hc⟩
theorem nxt_lt {w wr wx : World} {g : Nat} {s : ByteArray} {k j : Nat} (h : Mv w wr g s k) (h' : Mv w wx g s (k + 1)) (hk : k < j) : j - nxt wx g < j - nxt wr g := by
  rw [h.2.nxt, h'.2.nxt]; omega

set_option maxRecDepth 100000 in
set_option maxHeartbeats 1000000 in
theorem moveTo_any {g : Nat} {s : ByteArray} {i j : Nat} {w : World} (h : Sc w g s i) (hij : i ≤ j) (hj : j ≤ s.size) (hs : j ≤ 1000000) (hsz : s.size ≤ maxLen) :
    Calls Try.prog 15 #[.pointer (some ⟨g, 0, none⟩), .int .i64 (j : Nat)] w (MvP w g s j) := by
  unfold maxLen at hsz
  have HS := Lib.hid h
  clear h
  go_enter Try.func15, Try.ntmps15
  go_wp2_with fail
  go_loopw [] (fun wr => ∃ k : Nat, i ≤ k ∧ k ≤ j ∧ Mv w wr g s k) (fun wr => j - nxt wr g)
  case atStart => exact ⟨i, Nat.le_refl _, hij, grown_refl _ _, HS.out⟩
  case round =>
    obtain ⟨k, h1, h2, h3⟩ := hrel
    have c0 := h3.2.c0
    have c1 := h3.2.c1
    have c2 := h3.2.c2
    have c3 := h3.2.c3
    have f1 := h3.2.fr 1
    have f2 := h3.2.fr 2
    have f3 := h3.2.fr 3
    have H3 := Lib.hid h3
    by_cases hlt : k < j
    · have hk : k < s.size := by omega
      have hb := bt_in hk
      have hl := lin_le s k
      obtain ⟨l, el⟩ : ∃ l, l = lin s k := ⟨_, rfl⟩
      obtain ⟨b, eb⟩ : ∃ b, b = beg s k := ⟨_, rfl⟩
      rw [← el] at c2 hl
      rw [← eb] at c3
      have EL := Lib.hid el
      clear h3 el eb
      by_cases hc : bt s k = 10
      · have hx : ((s[k].toNat : Int) == 10) = true := by rw [hb, hc]; rfl
        have HC := Lib.hid hc
        clear hc hb
        go_wp2_with fail
        go_quiet (fail)
        go_wp2_with fail
        go_roundw
        case rel => exact ⟨k + 1, by omega, by omega, mv_line H3.out HC.out EL.out _⟩
        case measure => exact nxt_lt H3.out (mv_line H3.out HC.out EL.out _) hlt
      · have hx : ((s[k].toNat : Int) == 10) = false := by rw [hb]; simp; omega
        have HC := Lib.hid hc
        clear hc hb
        go_wp2_with fail
        go_quiet (fail)
        go_wp2_with fail
        go_roundw
        case rel => exact ⟨k + 1, by omega, by omega, mv_step H3.out HC.out _⟩
        case measure => exact nxt_lt H3.out (mv_step H3.out HC.out _) hlt
    · obtain rfl : k = j := by omega
      clear h3
      go_wp2_with fail
      go_end0
      exact ⟨rfl, H3.out⟩
end Go.Proofs.Ytdgpcijiempmdaa
