/- Package lexer: Scan. -/
import Derived.Test.YtdgpcijiempmdaaK9
namespace Go.Proofs.Ytdgpcijiempmdaa
open Go.RowKit LxM

/-- What Scan returns. -/
def ScanP (w : World) (r : Res) (e : Ending) (w' : World) : Prop :=
  ∃ v, e = .returned (.tuple #[v, .int .i64 (r.err : Nat), .agg #[.int .i64 (r.line : Nat), .int .i64 (r.col : Nat)]]) ∧ ToksB w' v r.toks ∧ Add w w'
/-- The state of Scan at the head of its loop. -/
def ScanL (w wr : World) (s : ByteArray) (v : Value) : Prop := ∃ i ts, i ≤ s.size ∧ ts.length ≤ i ∧ Stops s i ∧ scan s i ts = scan s 0 [] ∧ ScanI w wr s i v ts
theorem scan_start (w : World) (s : ByteArray) : ∃ W, W = (w.alloc (.cells #[.int .i64 0, .int .i64 0] 26)).alloc (.cells #[.string s, .int .i64 0, .int .i64 1, .int .i64 0] 39) ∧ ScanI w W s 0 (.slice none 0 0) [] := by
  refine ⟨_, rfl, ?_, ToksO.nil _ _, (pos_new w 0 0).mono (add_new _ _), Add.trans (add_new _ _) (add_new _ _)⟩
  have := sc_new (w.alloc (.cells #[.int .i64 0, .int .i64 0] 26)) s
  simpa using this
theorem mv_drewN {w w' : World} {g n : Nat} {s : ByteArray} {j : Nat} (h : Mv (w.drewN n) w' g s j) : Mv w w' g s j := ⟨⟨h.1.1, h.1.2, h.1.3, h.1.4, h.1.5⟩, h.2⟩
theorem add_drewN (w : World) (n : Nat) : Add w (w.drewN n) := ⟨rfl, rfl, rfl, Nat.le_refl _, fun _ _ => rfl⟩

set_option maxRecDepth 100000 in
set_option maxHeartbeats 4000000 in
theorem scan_long (s : ByteArray) (w : World) (hs : s.size ≤ 1000000) (hl : 8000 < s.size) : Calls Try.prog 9 #[.string s] w (ScanP w (bad s 2 8000)) := by
  have d1 : decide ((8000 : Int) < (s.size : Int)) = true := decide_eq_true (by omega)
  obtain ⟨l, el⟩ : ∃ l, l = lin s 8000 := ⟨_, rfl⟩
  obtain ⟨c, ec⟩ : ∃ c, c = col s 8000 := ⟨_, rfl⟩
  have CM : Hid (∀ w', ScanI w w' s 0 (.slice none 0 0) [] → Calls Try.prog 15 #[.pointer (some ⟨w.heap.size + 1, 0, none⟩), .int .i64 8000] w' (MvP w' (w.heap.size + 1) s 8000)) := Lib.hid fun w' hh => moveTo_any (j := 8000) hh.sc (by omega) (by omega) (by omega) (by unfold maxLen; omega)
  have CP : Hid (∀ w', ScanI w w' s 8000 (.slice none 0 0) [] → Calls Try.prog 16 #[.pointer (some ⟨w.heap.size + 1, 0, none⟩)] w' (fun e2 w2 => e2 = .returned (.agg #[.int .i64 (l : Nat), .int .i64 (c : Nat)]) ∧ Add w' w2)) := Lib.hid fun w' hh => by rw [el, ec]; exact pos_any hh.sc (by omega)
  have hr : bad s 2 8000 = ⟨2, [], l, c⟩ := by rw [el, ec]; rfl
  rw [hr]
  clear hr el ec hl
  go_enter Try.func9, Try.ntmps9
  go_wp2_with fail
  obtain ⟨W, hW, hI⟩ := scan_start w s
  rw [← hW]
  clear hW
  refine (CM.out _ hI).mono ?_
  rintro e w1 ⟨rfl, hm⟩
  have h1 := hI.move hm
  clear hm hI
  have H1 := Lib.hid h1
  clear h1
  go_wp2_with fail
  refine (CP.out _ H1.out).mono ?_
  rintro e w2 ⟨rfl, ha⟩
  have h2 := H1.out.next ha
  clear ha
  have p0 := h2.pos.c0
  have p1 := h2.pos.c1
  have f0 := h2.pos.fr 0
  have f1 := h2.pos.fr 1
  have HF := Lib.hid (pos_put h2.pos l c)
  have HB := Lib.hid (below_put2 h2.add (Nat.le_refl w.heap.size) (.int .i64 (l : Nat)) (.int .i64 (c : Nat)))
  clear h2
  go_wp2_with fail
  obtain ⟨W9, hW9⟩ : ∃ W9, W9 = put2 w2 w.heap.size (.int .i64 (l : Nat)) (.int .i64 (c : Nat)) := ⟨_, rfl⟩
  rw [← hW9] at HF HB
  unfold put2 at hW9
  rw [← hW9]
  have q0 := HF.out.c0
  have q1 := HF.out.c1
  clear hW9 HF p0 p1 f0 f1
  exact bodyPost_ret (v := .tuple #[.slice none 0 0, .int .i64 ((2 : Nat) : Int), .agg #[.int .i64 (l : Nat), .int .i64 (c : Nat)]]) (by simp [results, Try.results9, go_sem, q0, q1]) rfl ⟨_, rfl, ToksB.nil _, HB.out⟩

set_option maxRecDepth 100000 in
set_option maxHeartbeats 8000000 in
theorem scan_short (s : ByteArray) (w : World) (hl : s.size ≤ 8000) : Calls Try.prog 9 #[.string s] w (ScanP w (scan s 0 [])) := by
  have d1 : decide ((8000 : Int) < (s.size : Int)) = false := decide_eq_false (by omega)
  obtain ⟨i2, hi2, hq0, hq1, hq2⟩ := info_tok
  obtain ⟨r, er⟩ : ∃ r, r = scan s 0 [] := ⟨_, rfl⟩
  rw [← er]
  have ER := Lib.hid er
  clear er
  have CS : Hid (∀ wr i v ts, i ≤ s.size → ScanI w wr s i v ts → Calls Try.prog 17 #[.pointer (some ⟨w.heap.size + 1, 0, none⟩)] wr (SkP wr (w.heap.size + 1) s i)) := Lib.hid fun wr i v ts hi h => skip_any h.sc hi (by omega)
  go_enter Try.func9, Try.ntmps9
  go_wp2_with fail
  obtain ⟨W, hW, hI⟩ := scan_start w s
  rw [← hW]
  clear hW
  refine (CS.out _ 0 _ _ (by omega) hI).mono ?_
  rintro e w1 ⟨rfl, j, -, j2, j3, j4, hm⟩
  have h1 := hI.move hm
  have H1 := Lib.hid (show ScanL w w1 s (.slice none 0 0) from ⟨j, [], j2, Nat.zero_le _, j4, (j3 []).symm, h1⟩)
  clear hm hI h1 j2 j3 j4
  go_wp2_with fail
  go_loopw [6] (fun v wr => ScanL w wr s v) (fun _ wr => s.size - nxt wr (w.heap.size + 1))
  case atStart => exact H1.out
  case round =>
    obtain ⟨i, ts, hi, htl, hst, hsc, hI⟩ := hrel
    have CA : Hid (Calls Try.prog 18 #[.pointer (some ⟨w.heap.size + 1, 0, none⟩)] wr (fun e w' => e = .returned (.bool (decide (i = s.size))) ∧ ∃ m, w' = wr.drewN m)) := Lib.hid (atEnd_any _ s i _ hI.sc)
    have HI := Lib.hid hI
    have HSC := Lib.hid hsc
    by_cases hlt : i < s.size
    · have hd : decide (i = s.size) = false := decide_eq_false (by omega)
      rw [hd] at CA
      obtain ⟨⟨⟨k, t, l, c⟩, n⟩, hr⟩ : ∃ r, tokR s i = r := ⟨_, rfl⟩
      have hround := round_at hlt hst
      unfold Round at hround
      rw [hr] at hround
      have CT : Hid (∀ m, Calls Try.prog 19 #[.pointer (some ⟨w.heap.size + 1, 0, none⟩)] (wr.drewN m) (fun e2 w2 => e2 = .returned (.tuple #[.agg #[.int .i64 (k : Nat), .string t, .int .i64 (l : Nat), .int .i64 (c : Nat)], .int .i64 (n : Nat)]) ∧ Add (wr.drewN m) w2)) := Lib.hid fun m => by
        have := token_any (w := wr.drewN m) hI.sc hlt (by omega)
        rw [hr] at this
        exact this
      clear hd hr hI hsc hst
      rcases hround with ⟨hn, hbad⟩ | ⟨hn, g1, g2, hgo⟩
      · have hn1 : ((n : Int) == 0) = false := by
          have : n ≠ 0 := hn
          simp; omega
        have hn2 : ((n : Int) != 0) = true := by simp only [bne, hn1, Bool.not_false]
        obtain ⟨l0, el⟩ : ∃ l, l = lin s i := ⟨_, rfl⟩
        obtain ⟨c0, ec⟩ : ∃ c, c = col s i := ⟨_, rfl⟩
        have CP : Hid (∀ w', ScanI w w' s i u6 ts → Calls Try.prog 16 #[.pointer (some ⟨w.heap.size + 1, 0, none⟩)] w' (fun e2 w2 => e2 = .returned (.agg #[.int .i64 (l0 : Nat), .int .i64 (c0 : Nat)]) ∧ Add w' w2)) := Lib.hid fun w' hh => by rw [el, ec]; exact pos_any hh.sc (by omega)
        have hres : r = ⟨n, [], l0, c0⟩ := by rw [ER.out, ← HSC.out, hbad, el, ec]; rfl
        have HRES := Lib.hid hres
        clear el ec hbad hn hres
        go_wp2_with fail
        refine CA.out.mono ?_
        rintro e wa ⟨rfl, m, rfl⟩
        go_wp2_with fail
        refine (CT.out m).mono ?_
        rintro e w2 ⟨rfl, ha⟩
        have H2 := Lib.hid ((HI.out.next (add_drewN wr m)).next ha)
        clear ha
        go_wp2_with fail
        refine (CP.out _ (H2.out.next (add_new _ _))).mono ?_
        rintro e w3 ⟨rfl, ha⟩
        have h2 := (H2.out.next (add_new _ _)).next ha
        clear ha
        have p0 := h2.pos.c0
        have p1 := h2.pos.c1
        have f0 := h2.pos.fr 0
        have f1 := h2.pos.fr 1
        have HF := Lib.hid (pos_put h2.pos l0 c0)
        have HB := Lib.hid (below_put2 h2.add (Nat.le_refl w.heap.size) (.int .i64 (l0 : Nat)) (.int .i64 (c0 : Nat)))
        clear h2
        go_wp2_with fail
        obtain ⟨W9, hW9⟩ : ∃ W9, W9 = put2 w3 w.heap.size (.int .i64 (l0 : Nat)) (.int .i64 (c0 : Nat)) := ⟨_, rfl⟩
        rw [← hW9] at HF HB
        unfold put2 at hW9
        rw [← hW9]
        have q0 := HF.out.c0
        have q1 := HF.out.c1
        clear hW9 HF p0 p1 f0 f1
        exact bodyPost_ret (v := .tuple #[.slice none 0 0, .int .i64 (n : Nat), .agg #[.int .i64 (l0 : Nat), .int .i64 (c0 : Nat)]]) (by simp [results, Try.results9, go_sem, q0, q1]) rfl ⟨_, by rw [HRES.out], by rw [HRES.out]; exact ToksB.nil _, HB.out⟩
      · obtain rfl : n = 0 := hn
        have g1' : i < i + t.size := g1
        have g2' : i + t.size ≤ s.size := g2
        have HGO : Hid (∀ ts, scan s i ts = scan s (i + t.size) (ts ++ [⟨k, t, l, c⟩])) := Lib.hid hgo
        have CM : Hid (∀ w', Sc w' (w.heap.size + 1) s i → Calls Try.prog 15 #[.pointer (some ⟨w.heap.size + 1, 0, none⟩), .int .i64 ((i : Int) + (t.size : Int))] w' (MvP w' (w.heap.size + 1) s (i + t.size))) := Lib.hid fun w' hh => by
          have := moveTo_any (j := i + t.size) hh (by omega) g2' (by omega) (by unfold maxLen; omega)
          rw [Int.natCast_add] at this
          exact this
        clear hgo g1 g2
        go_wp2_with fail
        refine CA.out.mono ?_
        rintro e wa ⟨rfl, m, rfl⟩
        go_wp2_with fail
        refine (CT.out m).mono ?_
        rintro e w2 ⟨rfl, ha⟩
        have h2 := (HI.out.next (add_drewN wr m)).next ha
        have hownV := h2.toks
        unfold ToksO at hownV
        have hsz := h2.size
        have H2 := Lib.hid h2
        clear ha h2
        obtain ⟨q, eq⟩ : ∃ q, q = ts.length := ⟨_, rfl⟩
        rw [← eq] at hownV htl
        have EQ := Lib.hid eq
        clear eq
        go_wp2_with (at_builtin; refine wpList_append_own_at _ rfl _ _ 23 rfl (w.heap.size + 2) 32 i2 (.agg #[.int .i64 0, .string ⟨#[]⟩, .int .i64 0, .int .i64 0]) 4 40 Try.underlying23 hi2 hq0 hq1 hq2 rfl (by decide) _ _ _ rfl (World.ownsRow.alloc (World.ownsRow.alloc hownV _) _) ⟨w2.heap.size + 1, 0, none⟩ 1 1 [.int .i64 (k : Nat), .string t, .int .i64 (l : Nat), .int .i64 (c : Nat)] rfl rfl (cells_four_at (size_alloc_one _ _) _ _ _ _ _) (by intro u hu; simp at hu; rcases hu with rfl | rfl | rfl | rfl <;> rfl) (by unfold maxLen; omega) (by omega) (by simp; omega) ?_)
        intro v' w3 hown3 hgr3 _ _
        have h3 := H2.out.push (t := ⟨k, t, l, c⟩) hgr3 (by rw [← EQ.out]; exact hown3)
        have ht3 := H2.out.push_tok (t := ⟨k, t, l, c⟩) hgr3 (heap_alloc_new _ _)
        have m1 := h3.sc.c1
        have m2 := ht3.c1
        have H3 := Lib.hid h3
        clear h3 ht3 hown3 hgr3 hownV
        go_wp2_with fail
        refine (CM.out _ H3.out.sc).mono ?_
        rintro e w4 ⟨rfl, hm⟩
        have H4 := Lib.hid (H3.out.move hm)
        clear hm m1 m2
        go_wp2_with fail
        refine (CS.out _ _ _ _ g2' H4.out).mono ?_
        rintro e w5 ⟨rfl, j, j1, j2, j3, j4, hm⟩
        have h5 := H4.out.move hm
        have HL := Lib.hid (show ScanL w w5 s v' ∧ s.size - nxt w5 (w.heap.size + 1) < s.size - nxt wr (w.heap.size + 1) from by
          refine ⟨⟨j, ts ++ [⟨k, t, l, c⟩], j2, ?_, j4, ?_, h5⟩, ?_⟩
          · rw [List.length_append, ← EQ.out]; show q + 1 ≤ j; omega
          · rw [← j3, ← HGO.out, HSC.out]
          · rw [h5.sc.nxt, HI.out.sc.nxt]; omega)
        clear hm h5 j1 j2 j3 j4
        go_wp2_with fail
        go_roundw
        case rel => exact HL.out.1
        case measure => exact HL.out.2
    · obtain rfl : i = s.size := by omega
      have hd : decide (s.size = s.size) = true := decide_eq_true rfl
      rw [hd] at CA
      obtain ⟨l0, el⟩ : ∃ l, l = lin s s.size := ⟨_, rfl⟩
      obtain ⟨c0, ec⟩ : ∃ c, c = col s s.size := ⟨_, rfl⟩
      have CP : Hid (∀ m, Calls Try.prog 16 #[.pointer (some ⟨w.heap.size + 1, 0, none⟩)] (wr.drewN m) (fun e2 w2 => e2 = .returned (.agg #[.int .i64 (l0 : Nat), .int .i64 (c0 : Nat)]) ∧ Add (wr.drewN m) w2)) := Lib.hid fun m => by rw [el, ec]; exact pos_any (w := wr.drewN m) hI.sc (by omega)
      have hres : r = ⟨0, ts ++ [⟨4, ⟨#[]⟩, l0, c0⟩], 0, 0⟩ := by rw [ER.out, ← hsc, scan_end (Nat.le_refl _), el, ec]; rfl
      have HRES := Lib.hid hres
      clear el ec hres hI hsc hd hst
      go_wp2_with fail
      refine CA.out.mono ?_
      rintro e wa ⟨rfl, m, rfl⟩
      go_wp2_with fail
      refine (CP.out m).mono ?_
      rintro e w2 ⟨rfl, ha⟩
      have h2 := (HI.out.next (add_drewN wr m)).next ha
      have hownV := h2.toks
      unfold ToksO at hownV
      have hsz := h2.size
      have H2 := Lib.hid h2
      clear ha h2
      obtain ⟨q, eq⟩ : ∃ q, q = ts.length := ⟨_, rfl⟩
      rw [← eq] at hownV htl
      have EQ := Lib.hid eq
      clear eq
      go_wp2_with (at_builtin; refine wpList_append_own_at _ rfl _ _ 23 rfl (w.heap.size + 2) 32 i2 (.agg #[.int .i64 0, .string ⟨#[]⟩, .int .i64 0, .int .i64 0]) 4 40 Try.underlying23 hi2 hq0 hq1 hq2 rfl (by decide) _ _ _ rfl (World.ownsRow.alloc hownV _) ⟨w2.heap.size, 0, none⟩ 1 1 [.int .i64 4, .string ⟨#[]⟩, .int .i64 (l0 : Nat), .int .i64 (c0 : Nat)] rfl rfl (cells_four_new _ _ _ _ _ _) (by intro u hu; simp at hu; rcases hu with rfl | rfl | rfl | rfl <;> rfl) (by unfold maxLen; omega) (by omega) (by simp; omega) ?_)
      intro v' w3 hown3 hgr3 _ _
      have h3 := (H2.out.next (add_new _ _)).push0 (t := ⟨4, ⟨#[]⟩, l0, c0⟩) hgr3 (by rw [← EQ.out]; exact hown3)
      have p0 := h3.pos.c0
      have p1 := h3.pos.c1
      have f0 := h3.pos.fr 0
      have f1 := h3.pos.fr 1
      obtain ⟨W9, hW9⟩ : ∃ W9, W9 = put2 w3 w.heap.size (.int .i64 0) (.int .i64 0) := ⟨_, rfl⟩
      have HF : Hid (PosB W9 w.heap.size 0 0) := Lib.hid (by rw [hW9]; exact pos_put h3.pos 0 0)
      have HB : Hid (Add w W9) := Lib.hid (by rw [hW9]; exact below_put2 h3.add (Nat.le_refl w.heap.size) _ _)
      have HT : Hid (ToksB W9 v' (ts ++ [⟨4, ⟨#[]⟩, l0, c0⟩])) := Lib.hid (by
        refine ToksO.toks (base := w.heap.size + 2) ?_ (by rw [List.length_append, ← EQ.out]; show q + 1 ≤ _; omega)
        rw [hW9]
        unfold put2
        exact ownsRow_setCell_below (ownsRow_setCell_below h3.toks (by show w.heap.size < _; omega) _) (by show w.heap.size < _; omega) _)
      unfold put2 at hW9
      have HW := Lib.hid hW9
      clear h3 hown3 hgr3 hownV hW9
      go_wp2_with fail
      rw [← HW.out]
      have q0 := HF.out.c0
      have q1 := HF.out.c1
      clear HW HF p0 p1 f0 f1
      exact bodyPost_ret (v := .tuple #[v', .int .i64 ((0 : Nat) : Int), .agg #[.int .i64 ((0 : Nat) : Int), .int .i64 ((0 : Nat) : Int)]]) (by simp [results, Try.results9, go_sem, q0, q1]) rfl ⟨_, by rw [HRES.out], by rw [HRES.out]; exact HT.out, HB.out⟩
theorem scan_any (s : ByteArray) (w : World) (hs : s.size ≤ 1000000) : Calls Try.prog 9 #[.string s] w (ScanP w (scanT s)) := by
  unfold scanT
  by_cases h : 8000 < s.size
  · rw [if_pos h]; exact scan_long s w hs h
  · rw [if_neg h]; exact scan_short s w (by omega)
end Go.Proofs.Ytdgpcijiempmdaa
