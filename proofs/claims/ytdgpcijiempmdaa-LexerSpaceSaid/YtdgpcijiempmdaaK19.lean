/- Layer 8: LexerNames. -/
import Derived.Test.YtdgpcijiempmdaaK18
import Derived.Test.YtdgpcijiempmdaaKn
namespace Go.Proofs.Ytdgpcijiempmdaa
open Go.RowKit LxM

/-- What Scan returns for a short text. -/
theorem scan_at (s : ByteArray) (w : World) (hl : s.size ≤ 8000) {r : Res} (hr : scan s 0 [] = r) : Calls Try.prog 9 #[.string s] w (ScanP w r) := by
  have := scan_any s w (by omega)
  unfold scanT at this
  rw [if_neg (by omega), hr] at this
  exact this

set_option maxRecDepth 100000 in
set_option maxHeartbeats 4000000 in
theorem names_yes (s : ByteArray) (w : World) (hl : s.size ≤ 200) (t : Tok) (hr : scan s 0 [] = ⟨0, [⟨1, s, 1, 1⟩, t], 0, 0⟩) (hb : nameB s = true) : Calls Try.prog 4 #[.string s] w (LawB w) := by
  have d : decide ((200 : Int) < (s.size : Int)) = false := decide_eq_false (by omega)
  have CS : Hid (∀ w, Calls Try.prog 9 #[.string s] w (ScanP w ⟨0, [⟨1, s, 1, 1⟩, t], 0, 0⟩)) := Lib.hid fun w => scan_at s w (by omega) hr
  have HI : Hid (∀ w, Calls Try.prog 12 #[.string s] w (RetBo w true)) := Lib.hid fun w => by rw [← hb]; exact isName_any s w (by omega)
  have HR : Hid (∀ w, Calls Try.prog 13 #[.string s] w (RetBo w true)) := Lib.hid fun w => by rw [← hb]; exact refIsName_any s w (by omega)
  clear hr hb
  go_enter Try.func4, Try.ntmps4
  go_wp2_with fail
  refine (CS.out w).mono ?_
  rintro e w1 ⟨v, rfl, hT, ha⟩
  have HA := Lib.hid ha
  obtain ⟨ao, c, rfl, -⟩ := hT.isSlice
  have hT' : ToksB w1 (.slice ao 2 c) [⟨1, s, 1, 1⟩, t] := hT
  obtain ⟨b, rfl, x0, x1, -, -⟩ := hT'.cell (i := 0) (by decide)
  replace x0 : w1.cell? ⟨b, 0, none⟩ = some (.int .i64 1) := x0
  replace x1 : w1.cell? ⟨b, 1, none⟩ = some (.string s) := x1
  have hlt := World.block_lt_of_cell? w1 _ x0
  dsimp only at hlt
  clear hT hT'
  clear ha
  try dsimp only
  go_wp2_with (first | (go_at_call 12; (with_reducible refine (HI.out _).mono ?_); rintro e' w' ⟨rfl, rfl⟩) | (go_at_call 13; (with_reducible refine (HR.out _).mono ?_); rintro e' w' ⟨rfl, rfl⟩))
  refine (awake_any _).mono ?_
  rintro e w4 ⟨rfl, ha⟩
  have HF := Lib.hid (show Add w w4 from Add.trans (Add.trans HA.out (add_new _ _)) ha)
  clear ha
  go_wp2_with fail
  go_ret
  exact ⟨rfl, HF.out⟩

set_option maxRecDepth 100000 in
set_option maxHeartbeats 4000000 in
theorem names_err (s : ByteArray) (w : World) (hl : s.size ≤ 200) (n l c : Nat) (ts : List Tok) (hn : n ≠ 0) (hr : scan s 0 [] = ⟨n, ts, l, c⟩) (hb : nameB s = false) : Calls Try.prog 4 #[.string s] w (LawB w) := by
  have d : decide ((200 : Int) < (s.size : Int)) = false := decide_eq_false (by omega)
  have CS : Hid (∀ w, Calls Try.prog 9 #[.string s] w (ScanP w ⟨n, ts, l, c⟩)) := Lib.hid fun w => scan_at s w (by omega) hr
  have HI : Hid (∀ w, Calls Try.prog 12 #[.string s] w (RetBo w false)) := Lib.hid fun w => by rw [← hb]; exact isName_any s w (by omega)
  have HR : Hid (∀ w, Calls Try.prog 13 #[.string s] w (RetBo w false)) := Lib.hid fun w => by rw [← hb]; exact refIsName_any s w (by omega)
  clear hr hb
  go_enter Try.func4, Try.ntmps4
  go_wp2_with fail
  refine (CS.out w).mono ?_
  rintro e w1 ⟨v, rfl, hT, ha⟩
  have HA := Lib.hid ha
  obtain ⟨ao, c', rfl, -⟩ := hT.isSlice
  have hn1 : ((n : Int) == 0) = false := by simp; omega
  clear hT hn
  clear ha
  try dsimp only
  go_wp2_with (first | (go_at_call 12; (with_reducible refine (HI.out _).mono ?_); rintro e' w' ⟨rfl, rfl⟩) | (go_at_call 13; (with_reducible refine (HR.out _).mono ?_); rintro e' w' ⟨rfl, rfl⟩))
  refine (awake_any _).mono ?_
  rintro e w4 ⟨rfl, ha⟩
  have HF := Lib.hid (show Add w w4 from Add.trans (Add.trans HA.out (add_new _ _)) ha)
  clear ha
  go_wp2_with fail
  go_ret
  exact ⟨rfl, HF.out⟩

set_option maxRecDepth 100000 in
set_option maxHeartbeats 4000000 in
theorem names_len (s : ByteArray) (w : World) (hl : s.size ≤ 200) (l c : Nat) (ts : List Tok) (hn : ts.length ≠ 2) (hr : scan s 0 [] = ⟨0, ts, l, c⟩) (hb : nameB s = false) : Calls Try.prog 4 #[.string s] w (LawB w) := by
  have d : decide ((200 : Int) < (s.size : Int)) = false := decide_eq_false (by omega)
  have CS : Hid (∀ w, Calls Try.prog 9 #[.string s] w (ScanP w ⟨0, ts, l, c⟩)) := Lib.hid fun w => scan_at s w (by omega) hr
  have HI : Hid (∀ w, Calls Try.prog 12 #[.string s] w (RetBo w false)) := Lib.hid fun w => by rw [← hb]; exact isName_any s w (by omega)
  have HR : Hid (∀ w, Calls Try.prog 13 #[.string s] w (RetBo w false)) := Lib.hid fun w => by rw [← hb]; exact refIsName_any s w (by omega)
  clear hr hb
  go_enter Try.func4, Try.ntmps4
  go_wp2_with fail
  refine (CS.out w).mono ?_
  rintro e w1 ⟨v, rfl, hT, ha⟩
  have HA := Lib.hid ha
  obtain ⟨ao, c', rfl, -⟩ := hT.isSlice
  obtain ⟨q, eq⟩ : ∃ q, q = ts.length := ⟨_, rfl⟩
  have hn1 : ((q : Int) == 2) = false := by simp; omega
  dsimp only
  rw [← eq]
  clear hT hn eq
  clear ha
  try dsimp only
  go_wp2_with (first | (go_at_call 12; (with_reducible refine (HI.out _).mono ?_); rintro e' w' ⟨rfl, rfl⟩) | (go_at_call 13; (with_reducible refine (HR.out _).mono ?_); rintro e' w' ⟨rfl, rfl⟩))
  refine (awake_any _).mono ?_
  rintro e w4 ⟨rfl, ha⟩
  have HF := Lib.hid (show Add w w4 from Add.trans (Add.trans HA.out (add_new _ _)) ha)
  clear ha
  go_wp2_with fail
  go_ret
  exact ⟨rfl, HF.out⟩

set_option maxRecDepth 100000 in
set_option maxHeartbeats 4000000 in
theorem names_kind (s : ByteArray) (w : World) (hl : s.size ≤ 200) (l c : Nat) (t u : Tok) (hn : t.kind ≠ 1) (hr : scan s 0 [] = ⟨0, [t, u], l, c⟩) (hb : nameB s = false) : Calls Try.prog 4 #[.string s] w (LawB w) := by
  have d : decide ((200 : Int) < (s.size : Int)) = false := decide_eq_false (by omega)
  have CS : Hid (∀ w, Calls Try.prog 9 #[.string s] w (ScanP w ⟨0, [t, u], l, c⟩)) := Lib.hid fun w => scan_at s w (by omega) hr
  have HI : Hid (∀ w, Calls Try.prog 12 #[.string s] w (RetBo w false)) := Lib.hid fun w => by rw [← hb]; exact isName_any s w (by omega)
  have HR : Hid (∀ w, Calls Try.prog 13 #[.string s] w (RetBo w false)) := Lib.hid fun w => by rw [← hb]; exact refIsName_any s w (by omega)
  clear hr hb
  go_enter Try.func4, Try.ntmps4
  go_wp2_with fail
  refine (CS.out w).mono ?_
  rintro e w1 ⟨v, rfl, hT, ha⟩
  have HA := Lib.hid ha
  obtain ⟨ao, c', rfl, -⟩ := hT.isSlice
  have hT' : ToksB w1 (.slice ao 2 c') [t, u] := hT
  obtain ⟨b, rfl, x0, x1, -, -⟩ := hT'.cell (i := 0) (by decide)
  obtain ⟨q, eq⟩ : ∃ q, q = t.kind := ⟨_, rfl⟩
  replace x0 : w1.cell? ⟨b, 0, none⟩ = some (.int .i64 (q : Nat)) := by rw [eq]; exact x0
  have hn1 : ((q : Int) == 1) = false := by simp; omega
  have hlt := World.block_lt_of_cell? w1 _ x0
  dsimp only at hlt
  clear hT hT' x1 hn eq
  clear ha
  try dsimp only
  go_wp2_with (first | (go_at_call 12; (with_reducible refine (HI.out _).mono ?_); rintro e' w' ⟨rfl, rfl⟩) | (go_at_call 13; (with_reducible refine (HR.out _).mono ?_); rintro e' w' ⟨rfl, rfl⟩))
  refine (awake_any _).mono ?_
  rintro e w4 ⟨rfl, ha⟩
  have HF := Lib.hid (show Add w w4 from Add.trans (Add.trans HA.out (add_new _ _)) ha)
  clear ha
  go_wp2_with fail
  go_ret
  exact ⟨rfl, HF.out⟩

set_option maxRecDepth 100000 in
set_option maxHeartbeats 4000000 in
theorem names_text (s : ByteArray) (w : World) (hl : s.size ≤ 200) (l c : Nat) (x : ByteArray) (tl tc : Nat) (u : Tok) (hn : x ≠ s) (hr : scan s 0 [] = ⟨0, [⟨1, x, tl, tc⟩, u], l, c⟩) (hb : nameB s = false) : Calls Try.prog 4 #[.string s] w (LawB w) := by
  have d : decide ((200 : Int) < (s.size : Int)) = false := decide_eq_false (by omega)
  have CS : Hid (∀ w, Calls Try.prog 9 #[.string s] w (ScanP w ⟨0, [⟨1, x, tl, tc⟩, u], l, c⟩)) := Lib.hid fun w => scan_at s w (by omega) hr
  have HI : Hid (∀ w, Calls Try.prog 12 #[.string s] w (RetBo w false)) := Lib.hid fun w => by rw [← hb]; exact isName_any s w (by omega)
  have HR : Hid (∀ w, Calls Try.prog 13 #[.string s] w (RetBo w false)) := Lib.hid fun w => by rw [← hb]; exact refIsName_any s w (by omega)
  clear hr hb
  go_enter Try.func4, Try.ntmps4
  go_wp2_with fail
  refine (CS.out w).mono ?_
  rintro e w1 ⟨v, rfl, hT, ha⟩
  have HA := Lib.hid ha
  obtain ⟨ao, c', rfl, -⟩ := hT.isSlice
  have hT' : ToksB w1 (.slice ao 2 c') [⟨1, x, tl, tc⟩, u] := hT
  obtain ⟨b, rfl, x0, x1, -, -⟩ := hT'.cell (i := 0) (by decide)
  replace x0 : w1.cell? ⟨b, 0, none⟩ = some (.int .i64 1) := x0
  replace x1 : w1.cell? ⟨b, 1, none⟩ = some (.string x) := x1
  have hn1 : (x.toList == s.toList) = false := by
    rw [beq_eq_false_iff_ne]
    intro e
    rw [ByteArray.toList_eq, ByteArray.toList_eq] at e
    exact hn (ByteArray.ext (Array.toList_inj.1 e))
  have hlt := World.block_lt_of_cell? w1 _ x0
  dsimp only at hlt
  clear hT hT' hn
  clear ha
  try dsimp only
  go_wp2_with (first | (go_at_call 12; (with_reducible refine (HI.out _).mono ?_); rintro e' w' ⟨rfl, rfl⟩) | (go_at_call 13; (with_reducible refine (HR.out _).mono ?_); rintro e' w' ⟨rfl, rfl⟩))
  refine (awake_any _).mono ?_
  rintro e w4 ⟨rfl, ha⟩
  have HF := Lib.hid (show Add w w4 from Add.trans (Add.trans HA.out (add_new _ _)) ha)
  clear ha
  go_wp2_with fail
  go_ret
  exact ⟨rfl, HF.out⟩

set_option maxRecDepth 100000 in
theorem names_any (s : ByteArray) (w : World) (hs : s.size ≤ maxLen) : Calls Try.prog 4 #[.string s] w (LawB w) := by
  unfold maxLen at hs
  by_cases hl : 200 < s.size
  · have d : decide ((200 : Int) < (s.size : Int)) = true := decide_eq_true (by omega)
    go_enter Try.func4, Try.ntmps4
    go_wp2_with fail
    refine (awake_any w).mono ?_
    rintro e w1 ⟨rfl, ha⟩
    go_wp2_with fail
    go_ret
    exact ⟨rfl, ha⟩
  · cases hb : nameB s
    · obtain ⟨⟨n, ts, l, c⟩, hr⟩ : ∃ r, scan s 0 [] = r := ⟨_, rfl⟩
      by_cases hn : n = 0
      · subst hn
        by_cases h2 : ts.length = 2
        · obtain ⟨t, u, rfl⟩ : ∃ t u, ts = [t, u] := by
            match ts, h2 with
            | [t, u], _ => exact ⟨t, u, rfl⟩
          by_cases hk : t.kind = 1
          · by_cases hx : t.text = s
            · have := one_name (s := s) (t := t) (u := u) (by rw [hr]) (by rw [hr]) hk hx
              rw [hb] at this; cases this
            · obtain ⟨k, x, tl, tc⟩ := t
              obtain rfl : k = 1 := hk
              exact names_text s w (by omega) l c x tl tc u hx hr hb
          · exact names_kind s w (by omega) l c t u hk hr hb
        · exact names_len s w (by omega) l c ts h2 hr hb
      · exact names_err s w (by omega) n l c ts hn hr hb
    · obtain ⟨t, ht⟩ := name_one hb
      exact names_yes s w (by omega) t ht hb
end Go.Proofs.Ytdgpcijiempmdaa
