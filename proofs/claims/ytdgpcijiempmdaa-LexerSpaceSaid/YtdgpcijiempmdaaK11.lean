/- The reference of lexer: place. -/
import Derived.Test.YtdgpcijiempmdaaK10
namespace Go.Proofs.Ytdgpcijiempmdaa
open Go.RowKit LxM

theorem col_lf {s : ByteArray} {k : Nat} (h : bt s k = 10) : col s (k + 1) = 1 := by unfold col; rw [beg_lf h]; omega
theorem col_no {s : ByteArray} {k : Nat} (h : bt s k ≠ 10) : col s (k + 1) = col s k + 1 := by unfold col; rw [beg_no h]; have := beg_le s k; omega
theorem pos_one {w : World} {g l c : Nat} (h : PosB w g l c) (c' : Nat) : PosB (w.setCell ⟨g, 1, none⟩ (.int .i64 (c' : Nat))) g l c' := by
  unfold PosB at h ⊢
  rw [heap_setCell_same _ g 1 _ _ _ h]
  rfl
theorem pos_other {w : World} {g k l c : Nat} (h : PosB w g l c) (hne : g ≠ k) (j : Nat) (u : Value) : PosB (w.setCell ⟨k, j, none⟩ u) g l c := by
  unfold PosB at h ⊢
  rw [Below.heap_setCell _ _ _ _ hne]; exact h
/-- The variables of place. -/
structure PlaceI (w wr : World) (s : ByteArray) (k : Nat) : Prop where
  res : PosB wr w.heap.size 0 0
  p : PosB wr (w.heap.size + 1) (lin s k) (col s k)
  add : Add w wr

set_option maxRecDepth 100000 in
set_option maxHeartbeats 2000000 in
theorem place_any (s : ByteArray) (n : Nat) (w : World) (hn : n ≤ s.size) (hs : s.size ≤ 1000000) : Calls Try.prog 20 #[.string s, .int .i64 (n : Nat)] w (RetP w (lin s n) (col s n)) := by
  have hst : PlaceI w ((w.alloc (.cells #[.int .i64 0, .int .i64 0] 26)).alloc (.cells #[.int .i64 1, .int .i64 1] 26)) s 0 :=
    ⟨(pos_new w 0 0).mono (add_new _ _), by show PosB _ (w.heap.size + 1) 1 1; have := pos_new (w.alloc (.cells #[.int .i64 0, .int .i64 0] 26)) 1 1; simpa using this, Add.trans (add_new _ _) (add_new _ _)⟩
  have HST := Lib.hid hst
  clear hst
  go_enter Try.func20, Try.ntmps20
  go_wp2_with fail
  go_loopw [6] (fun i wr => ∃ k : Nat, k ≤ n ∧ i = .int .i64 (k : Nat) ∧ PlaceI w wr s k) (fun i _ => n - (intOf i).toNat)
  case atStart => exact ⟨0, Nat.zero_le _, rfl, HST.out⟩
  case round =>
    obtain ⟨k, hk, rfl, hI⟩ := hrel
    have hl := lin_le s k
    have hc : col s k ≤ 1 + k := by unfold col; omega
    obtain ⟨l, el⟩ : ∃ l, l = lin s k := ⟨_, rfl⟩
    obtain ⟨c, ec⟩ : ∃ c, c = col s k := ⟨_, rfl⟩
    have p0 := hI.p.c0
    have p1 := hI.p.c1
    have f0 := hI.p.fr 0
    have f1 := hI.p.fr 1
    have r0 := hI.res.c0
    have r1 := hI.res.c1
    have q0 := hI.res.fr 0
    have q1 := hI.res.fr 1
    rw [← el] at p0 hl
    rw [← ec] at p1 hc
    have HI := Lib.hid hI
    have EL := Lib.hid el
    have EC := Lib.hid ec
    clear hI el ec
    by_cases hlt : k < n
    · have hks : k < s.size := by omega
      have hb := bt_in hks
      by_cases h10 : bt s k = 10
      · have hx : ((s[k].toNat : Int) == 10) = true := by rw [hb, h10]; rfl
        have HN : Hid (PlaceI w (((wr.setCell ⟨w.heap.size + 1, 1, none⟩ (.int .i64 ((c : Int) + 1))).setCell ⟨w.heap.size + 1, 0, none⟩ (.int .i64 ((l : Int) + 1))).setCell ⟨w.heap.size + 1, 1, none⟩ (.int .i64 1)) s (k + 1)) := Lib.hid (by
          have h1 := pos_one HI.out.p (c + 1)
          have h2 := pos_put h1 (l + 1) 1
          refine ⟨pos_other (pos_other (pos_other HI.out.res (by omega) _ _) (by omega) _ _) (by omega) _ _, ?_, ((HI.out.add.setCell (by show _ ≤ w.heap.size + 1; omega) _).setCell (by show _ ≤ w.heap.size + 1; omega) _).setCell (by show _ ≤ w.heap.size + 1; omega) _⟩
          rw [lin_lf h10, col_lf h10, ← EL.out]
          exact h2)
        clear hb h10
        go_wp2_with fail
        go_roundw
        case rel => exact ⟨k + 1, by omega, by go_num, HN.out⟩
        case measure => simp [intOf]; omega
      · have hx : ((s[k].toNat : Int) == 10) = false := by rw [hb]; simp; omega
        have HN : Hid (PlaceI w (wr.setCell ⟨w.heap.size + 1, 1, none⟩ (.int .i64 ((c : Int) + 1))) s (k + 1)) := Lib.hid (by
          refine ⟨pos_other HI.out.res (by omega) _ _, ?_, HI.out.add.setCell (by show _ ≤ w.heap.size + 1; omega) _⟩
          rw [lin_no h10, col_no h10, ← EC.out]
          exact pos_one HI.out.p (c + 1))
        clear hb h10
        go_wp2_with fail
        go_roundw
        case rel => exact ⟨k + 1, by omega, by go_num, HN.out⟩
        case measure => simp [intOf]; omega
    · obtain rfl : k = n := by omega
      obtain ⟨W9, hW9⟩ : ∃ W9, W9 = put2 wr w.heap.size (.int .i64 (l : Nat)) (.int .i64 (c : Nat)) := ⟨_, rfl⟩
      have HF : Hid (PosB W9 w.heap.size l c) := Lib.hid (by rw [hW9]; exact pos_put HI.out.res l c)
      have HB : Hid (Add w W9) := Lib.hid (by rw [hW9]; exact below_put2 HI.out.add (Nat.le_refl w.heap.size) _ _)
      unfold put2 at hW9
      have HW := Lib.hid hW9
      clear hW9
      go_wp2_with fail
      rw [← HW.out]
      have g0 := HF.out.c0
      have g1 := HF.out.c1
      clear HW HF p0 p1 f0 f1 r0 r1 q0 q1
      exact bodyPost_ret (v := .agg #[.int .i64 (l : Nat), .int .i64 (c : Nat)]) (by simp [results, Try.results20, go_sem, g0, g1]) rfl ⟨by rw [EL.out, EC.out], HB.out⟩
end Go.Proofs.Ytdgpcijiempmdaa
