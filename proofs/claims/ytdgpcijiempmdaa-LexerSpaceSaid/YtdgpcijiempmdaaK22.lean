/- Layer 8: LexerSpace. -/
import Derived.Test.YtdgpcijiempmdaaK19
import Derived.Test.YtdgpcijiempmdaaKs
import Derived.Test.YtdgpcijiempmdaaKb
namespace Go.Proofs.Ytdgpcijiempmdaa
open Go.RowKit LxM

theorem cat_snoc : ∀ (gs : List (List Nat)) (ts : List Tok) (g : List Nat) (t : Tok), gs.length = ts.length → cat (gs ++ [g]) (ts ++ [t]) = cat gs ts ++ (g ++ bl t.text)
  | [], [], g, t, _ => by simp [cat]
  | [], _ :: _, _, _, h => by simp at h
  | _ :: _, [], _, _, h => by simp at h
  | g' :: gs, t' :: ts, g, t, h => by
    have := cat_snoc gs ts g t (by simpa using h)
    simp only [List.cons_append, cat]
    rw [this]
    simp
theorem gap_mem0 : bl ⟨#[32]⟩ ∈ gaps := by decide +kernel
theorem gap_size0 : (⟨#[32]⟩ : ByteArray).size ≤ 8 := by decide +kernel
theorem gap_mem1 : bl ⟨#[10]⟩ ∈ gaps := by decide +kernel
theorem gap_size1 : (⟨#[10]⟩ : ByteArray).size ≤ 8 := by decide +kernel
theorem gap_mem2 : bl ⟨#[9, 13, 32]⟩ ∈ gaps := by decide +kernel
theorem gap_size2 : (⟨#[9, 13, 32]⟩ : ByteArray).size ≤ 8 := by decide +kernel
theorem gap_mem3 : bl ⟨#[35, 120, 59, 121, 123, 10]⟩ ∈ gaps := by decide +kernel
theorem gap_size3 : (⟨#[35, 120, 59, 121, 123, 10]⟩ : ByteArray).size ≤ 8 := by decide +kernel
theorem gap_mem4 : bl ⟨#[32, 35, 32, 49, 47, 50, 10, 10]⟩ ∈ gaps := by decide +kernel
theorem gap_size4 : (⟨#[32, 35, 32, 49, 47, 50, 10, 10]⟩ : ByteArray).size ≤ 8 := by decide +kernel
theorem five (w : World) : (Instr.buildSlice 34 5 #[(0, .string ⟨#[32]⟩), (1, .string ⟨#[10]⟩), (2, .string ⟨#[9, 13, 32]⟩), (3, .string ⟨#[35, 120, 59, 121, 123, 10]⟩), (4, .string ⟨#[32, 35, 32, 49, 47, 50, 10, 10]⟩)]).run Try.prog w = .ok (.slice (some ⟨w.heap.size, 0, none⟩) 5 5) (w.alloc (.cells #[.string ⟨#[32]⟩, .string ⟨#[10]⟩, .string ⟨#[9, 13, 32]⟩, .string ⟨#[35, 120, 59, 121, 123, 10]⟩, .string ⟨#[32, 35, 32, 49, 47, 50, 10, 10]⟩] 9)) := by kernel_rfl
/-- The text that the law has put together from the first q tokens. -/
def SpO (ts : List Tok) (q : Nat) (gs : List (List Nat)) (S : ByteArray) : Prop := gs.length = q ∧ (∀ g ∈ gs, g ∈ gaps) ∧ bl S = cat gs (ts.take q)
theorem SpO.push {ts : List Tok} {q : Nat} {gs : List (List Nat)} {S : ByteArray} (h : SpO ts q gs S) (hq : q < ts.length) (g x : ByteArray) (hg : bl g ∈ gaps) (hx : x = (ts.getD q ⟨0, ⟨#[]⟩, 0, 0⟩).text) : SpO ts (q + 1) (gs ++ [bl g]) (S ++ g ++ x) := by
  obtain ⟨h1, h2, h3⟩ := h
  refine ⟨by simp [h1], fun g' hg' => ?_, ?_⟩
  · rcases List.mem_append.1 hg' with h | h
    · exact h2 _ h
    · rw [List.mem_singleton.1 h]; exact hg
  · rw [List.take_succ_eq_append_getElem hq, cat_snoc _ _ _ _ (by rw [h1, List.length_take]; omega), ← h3, bl_append, bl_append, hx]
    simp [List.getD, hq]
theorem good_len : ∀ {ts : List Tok}, GoodL ts → ∀ q, (ts.getD q ⟨0, ⟨#[]⟩, 0, 0⟩).text.size ≤ 40
  | _, .last _ h, 0 => by show _ ≤ 40; simp [h]; decide
  | _, .last _ _, q + 1 => by simp [List.getD]; decide
  | _, .cons h _, 0 => by have := h.len; rw [bl_length] at this; simpa using this
  | _, .cons _ h, q + 1 => by simpa using good_len h q

set_option maxRecDepth 100000 in
set_option maxHeartbeats 2000000 in
theorem space_err (s : ByteArray) (v : Value) (w : World) (hl : s.size ≤ 800) (n lr cr : Nat) (ts : List Tok) (hn : n ≠ 0) (hr : scan s 0 [] = ⟨n, ts, lr, cr⟩) : Calls Try.prog 6 #[.string s, v] w (LawB w) := by
  have d : decide ((800 : Int) < (s.size : Int)) = false := decide_eq_false (by omega)
  have CS : Hid (∀ w, Calls Try.prog 9 #[.string s] w (ScanP w ⟨n, ts, lr, cr⟩)) := Lib.hid fun w => scan_at s w (by omega) hr
  have hn1 : ((n : Int) != 0) = true := by rw [bne]; simp; omega
  clear hr hn
  go_enter Try.func6, Try.ntmps6
  go_wp2_with fail
  refine (CS.out w).mono ?_
  rintro e w1 ⟨v', rfl, hT, ha⟩
  have HA := Lib.hid ha
  clear hT ha
  dsimp only
  go_wp2_with fail
  refine (awake_any _).mono ?_
  rintro e w4 ⟨rfl, ha⟩
  have HF := Lib.hid (show Add w w4 from Add.trans (Add.trans HA.out (add_new _ _)) ha)
  clear ha
  go_wp2_with fail
  go_ret
  exact ⟨rfl, HF.out⟩

set_option maxRecDepth 100000 in
set_option maxHeartbeats 16000000 in
theorem space_ok (s : ByteArray) {v : Value} {xs : List Nat} (w : World) (hl : s.size ≤ 800) (hv : Reads w v xs) (ts : List Tok) (lr cr : Nat) (hr : scan s 0 [] = ⟨0, ts, lr, cr⟩) : Calls Try.prog 6 #[.string s, v] w (LawB w) := by
  have d : decide ((800 : Int) < (s.size : Int)) = false := decide_eq_false (by omega)
  have CS : Hid (∀ w, Calls Try.prog 9 #[.string s] w (ScanP w ⟨0, ts, lr, cr⟩)) := Lib.hid fun w => scan_at s w (by omega) hr
  have HG : Hid (GoodL ts) := Lib.hid (by
    obtain ⟨rest, h1, h2⟩ := good_scan s 0 [] (Nat.zero_le _) (by rw [hr])
    rw [hr, List.nil_append] at h1
    have h1' : ts = rest := h1
    subst h1'
    exact h2)
  clear hr
  obtain ⟨av, cv, rfl, hm⟩ := hv.isSlice
  obtain ⟨m, em⟩ : ∃ m, m = xs.length := ⟨_, rfl⟩
  rw [← em] at hv hm ⊢
  unfold maxLen at hm
  clear em
  have HV := Lib.hid hv
  clear hv
  go_enter Try.func6, Try.ntmps6
  go_wp2_with fail
  refine (CS.out w).mono ?_
  rintro e w1 ⟨v, rfl, hT, ha⟩
  dsimp only at hT
  obtain ⟨ao, cp, rfl, hn⟩ := hT.isSlice
  obtain ⟨n, en⟩ : ∃ n, n = ts.length := ⟨_, rfl⟩
  rw [← en] at hT hn ⊢
  have EN := Lib.hid en
  clear en
  dsimp only
  go_wp2_with fail
  obtain ⟨W, hy, hp, haw⟩ : ∃ W, W = w1.alloc (.cells #[.int .i64 (lr : Nat), .int .i64 (cr : Nat)] 26) ∧ True ∧ Add w1 W := ⟨_, rfl, trivial, add_new _ _⟩
  rw [← hy]
  have HT := Lib.hid (hT.mono haw)
  have HA := Lib.hid (Add.trans ha haw)
  have HV1 := Lib.hid (HV.out.mono HA.out)
  clear hy hp haw hT ha HV
  go_loopw [8, 9] (fun sv i wr => ∃ (q : Nat) (S : ByteArray) (gs : List (List Nat)), q ≤ n ∧ i = .int .i64 (q : Nat) ∧ sv = .string S ∧ S.size ≤ 48 * q ∧ Hid (SpO ts q gs S) ∧ Add W wr) (fun _ i _ => n - (intOf i).toNat)
  case atStart => exact ⟨0, _, [], Nat.zero_le _, rfl, rfl, by decide, ⟨rfl, (fun g h => by cases h), rfl⟩, Below.refl _ _⟩
  case round =>
    obtain ⟨q, S, gs, hq, rfl, rfl, hS, HSP, hadd⟩ := hrel
    have HADD := Lib.hid hadd
    by_cases hqn : q = n
    · subst hqn
      clear hadd
      by_cases hbig : 8000 < S.size
      · have db : decide ((8000 : Int) < (S.size : Int)) = true := decide_eq_true (by omega)
        as_aux_lemma =>
          go_wp2_with fail
          refine (awake_any _).mono ?_
          rintro e w4 ⟨rfl, ha⟩
          have HF := Lib.hid (show Add w w4 from Add.trans (Add.trans HA.out HADD.out) ha)
          clear ha
          go_wp2_with fail
          go_ret
          exact ⟨rfl, HF.out⟩
      · have db : decide ((8000 : Int) < (S.size : Int)) = false := decide_eq_false (by omega)
        have hout : ∃ out, scan S 0 [] = ⟨0, out, 0, 0⟩ ∧ SameT ts out := by
          obtain ⟨h1, h2, h3⟩ := HSP.out
          have h4 := suf_all S
          rw [h3, EN.out, List.take_length] at h4
          obtain ⟨out, h5, h6⟩ := scan_cat S ts gs 0 [] HG.out (by rw [h1, EN.out]) h2 h4
          exact ⟨out, by simpa using h5, h6⟩
        obtain ⟨out, hsc, hal⟩ := hout
        have C2 : Hid (∀ w, Calls Try.prog 9 #[.string S] w (ScanP w ⟨0, out, 0, 0⟩)) := Lib.hid fun w => scan_at S w (by omega) hsc
        have HAL := Lib.hid hal
        have hln : out.length = q := by rw [← hal.1, EN.out]
        clear hsc hal hbig
        go_wp2_with fail
        refine (C2.out _).mono ?_
        rintro e w2 ⟨v2, rfl, hT2, ha2⟩
        dsimp only at hT2
        obtain ⟨ao2, cp2, rfl, hn2⟩ := hT2.isSlice
        rw [hln] at hT2 hn2 ⊢
        clear hln
        dsimp only
        go_wp2_with fail
        obtain ⟨W2, hy, hp, haw⟩ : ∃ W2, W2 = w2.alloc (.cells #[.int .i64 0, .int .i64 0] 26) ∧ True ∧ Add w2 W2 := ⟨_, rfl, trivial, add_new _ _⟩
        rw [← hy]
        have HT2 := Lib.hid (hT2.mono haw)
        have HA2 := Lib.hid (Add.trans (Add.trans HA.out HADD.out) (Add.trans ha2 haw))
        have HT1 := Lib.hid (HT.out.mono (Add.trans HADD.out (Add.trans ha2 haw)))
        clear hy hp haw hT2 ha2
        go_loopw [14] (fun i wr => ∃ p : Nat, p ≤ q ∧ i = .int .i64 (p : Nat) ∧ ∃ d, wr = W2.drewN d) (fun i _ => q - (intOf i).toNat)
        case atStart => exact ⟨0, Nat.zero_le _, rfl, 0, rfl⟩
        case round =>
          obtain ⟨p, hp, rfl, dn, rfl⟩ := hrel
          by_cases hpq : p = q
          · subst hpq
            as_aux_lemma =>
              go_wp2_with fail
              refine (awake_any _).mono ?_
              rintro e w4 ⟨rfl, ha⟩
              have HF := Lib.hid (show Add w w4 from Add.trans (Add.trans HA2.out (add_drewN _ _)) ha)
              clear ha
              go_wp2_with fail
              go_ret
              exact ⟨rfl, HF.out⟩
          · have hplt : p < q := by omega
            obtain ⟨b1, rfl, x0, x1, -, -⟩ := HT1.out.cell hplt
            obtain ⟨b2, rfl, y0, y1, -, -⟩ := HT2.out.cell hplt
            obtain ⟨k1, k2⟩ := HAL.out.2 p (by rw [← EN.out]; exact hplt)
            rw [← k1] at y0
            rw [← k2] at y1
            obtain ⟨⟨kd, x, tl, tc⟩, ht⟩ : ∃ t, ts.getD p ⟨0, ⟨#[]⟩, 0, 0⟩ = t := ⟨_, rfl⟩
            rw [ht] at x0 x1 y0 y1
            dsimp only at x0 x1 y0 y1
            have z1 : ((kd : Int) != (kd : Int)) = false := by simp
            clear k1 k2 ht hpq
            as_aux_lemma =>
              go_wp2_with fail
              go_quiet (fail)
              go_wp2_with fail
              go_roundw
              case rel => exact ⟨p + 1, by omega, by go_num, _, rfl⟩
              case measure => simp [intOf]; omega
    · have hqlt : q < n := by omega
      obtain ⟨b, rfl, -, x1, -, -⟩ := (HT.out.mono hadd).cell hqlt
      obtain ⟨x, ex⟩ : ∃ x, x = (ts.getD q ⟨0, ⟨#[]⟩, 0, 0⟩).text := ⟨_, rfl⟩
      have hxz : x.size ≤ 40 := by rw [ex]; exact good_len HG.out q
      rw [← ex] at x1
      have HX := Lib.hid ex
      have hb := World.block_lt_of_cell? wr _ x1
      dsimp only at hb
      have HPUSH : Hid (∀ g, bl g ∈ gaps → SpO ts (q + 1) (gs ++ [bl g]) (S ++ g ++ x)) := Lib.hid fun g hg => HSP.out.push (by rw [← EN.out]; exact hqlt) g x hg HX.out
      have HSZ : Hid (∀ g : ByteArray, g.size ≤ 8 → (S ++ g ++ x).size ≤ 48 * (q + 1)) := Lib.hid fun g hg => by rw [ByteArray.size_append, ByteArray.size_append]; omega
      have hS2 : S.size ≤ 4800000 := by omega
      clear ex hadd hqn
      by_cases hqm : q < m
      · obtain ⟨bv, off, rfl, hcv, hb256, hbv⟩ := (HV1.out.mono HADD.out).cell hqm
        obtain ⟨y, ey⟩ : ∃ y, y = xs.getD q 0 := ⟨_, rfl⟩
        rw [← ey] at hcv hb256
        clear ey
        rcases (show y % 5 = 0 ∨ y % 5 = 1 ∨ y % 5 = 2 ∨ y % 5 = 3 ∨ y % 5 = 4 by omega) with h5 | h5 | h5 | h5 | h5
        · have hm5 : (y : Int) % 5 = 0 := by omega
          have dq : decide (q < m) = true := decide_eq_true hqm
          have hbs := five
          clear h5
          go_wp2_with fail
          go_roundw
          case rel => exact ⟨q + 1, S ++ ⟨#[32]⟩ ++ x, gs ++ [bl ⟨#[32]⟩], by omega, by go_num, rfl, HSZ.out _ gap_size0, HPUSH.out ⟨#[32]⟩ gap_mem0, Add.trans HADD.out (add_new _ _)⟩
          case measure => simp [intOf]; omega
        · have hm5 : (y : Int) % 5 = 1 := by omega
          have dq : decide (q < m) = true := decide_eq_true hqm
          have hbs := five
          clear h5
          go_wp2_with fail
          go_roundw
          case rel => exact ⟨q + 1, S ++ ⟨#[10]⟩ ++ x, gs ++ [bl ⟨#[10]⟩], by omega, by go_num, rfl, HSZ.out _ gap_size1, HPUSH.out ⟨#[10]⟩ gap_mem1, Add.trans HADD.out (add_new _ _)⟩
          case measure => simp [intOf]; omega
        · have hm5 : (y : Int) % 5 = 2 := by omega
          have dq : decide (q < m) = true := decide_eq_true hqm
          have hbs := five
          clear h5
          go_wp2_with fail
          go_roundw
          case rel => exact ⟨q + 1, S ++ ⟨#[9, 13, 32]⟩ ++ x, gs ++ [bl ⟨#[9, 13, 32]⟩], by omega, by go_num, rfl, HSZ.out _ gap_size2, HPUSH.out ⟨#[9, 13, 32]⟩ gap_mem2, Add.trans HADD.out (add_new _ _)⟩
          case measure => simp [intOf]; omega
        · have hm5 : (y : Int) % 5 = 3 := by omega
          have dq : decide (q < m) = true := decide_eq_true hqm
          have hbs := five
          clear h5
          go_wp2_with fail
          go_roundw
          case rel => exact ⟨q + 1, S ++ ⟨#[35, 120, 59, 121, 123, 10]⟩ ++ x, gs ++ [bl ⟨#[35, 120, 59, 121, 123, 10]⟩], by omega, by go_num, rfl, HSZ.out _ gap_size3, HPUSH.out ⟨#[35, 120, 59, 121, 123, 10]⟩ gap_mem3, Add.trans HADD.out (add_new _ _)⟩
          case measure => simp [intOf]; omega
        · have hm5 : (y : Int) % 5 = 4 := by omega
          have dq : decide (q < m) = true := decide_eq_true hqm
          have hbs := five
          clear h5
          go_wp2_with fail
          go_roundw
          case rel => exact ⟨q + 1, S ++ ⟨#[32, 35, 32, 49, 47, 50, 10, 10]⟩ ++ x, gs ++ [bl ⟨#[32, 35, 32, 49, 47, 50, 10, 10]⟩], by omega, by go_num, rfl, HSZ.out _ gap_size4, HPUSH.out ⟨#[32, 35, 32, 49, 47, 50, 10, 10]⟩ gap_mem4, Add.trans HADD.out (add_new _ _)⟩
          case measure => simp [intOf]; omega
      · have dq : decide (q < m) = false := decide_eq_false hqm
        clear hqm
        as_aux_lemma =>
          go_wp2_with fail
          go_roundw
          case rel => exact ⟨q + 1, S ++ ⟨#[32]⟩ ++ x, gs ++ [bl ⟨#[32]⟩], by omega, by go_num, rfl, HSZ.out _ gap_size0, HPUSH.out ⟨#[32]⟩ gap_mem0, HADD.out⟩
          case measure => simp [intOf]; omega
set_option maxRecDepth 100000 in
theorem space_any (s : ByteArray) {v : Value} {xs : List Nat} (w : World) (hs : s.size ≤ maxLen) (hv : Reads w v xs) : Calls Try.prog 6 #[.string s, v] w (LawB w) := by
  unfold maxLen at hs
  by_cases hl : 800 < s.size
  · have d : decide ((800 : Int) < (s.size : Int)) = true := decide_eq_true (by omega)
    go_enter Try.func6, Try.ntmps6
    go_wp2_with fail
    refine (awake_any w).mono ?_
    rintro e w1 ⟨rfl, ha⟩
    go_wp2_with fail
    go_ret
    exact ⟨rfl, ha⟩
  · obtain ⟨⟨n, ts, l, c⟩, hr⟩ : ∃ r, scan s 0 [] = r := ⟨_, rfl⟩
    by_cases hn : n = 0
    · subst hn
      exact space_ok s w (by omega) hv ts l c hr
    · exact space_err s v w (by omega) n l c ts hn hr
end Go.Proofs.Ytdgpcijiempmdaa
