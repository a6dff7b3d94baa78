/- Layer 8: LexerPlaces. -/
import Derived.Test.YtdgpcijiempmdaaK19
import Derived.Test.YtdgpcijiempmdaaKp
namespace Go.Proofs.Ytdgpcijiempmdaa
open Go.RowKit LxM

/-- The state of the law ahead of token q. -/
def PlO (s : ByteArray) (ts : List Tok) (q k : Nat) (f : Bool) : Prop := q ≤ ts.length ∧ k ≤ s.size ∧ (q < ts.length → f = false ∧ Lay s k (ts.drop q)) ∧ (q = ts.length → k = s.size)
/-- What is known of token q. -/
theorem lay_tok {s : ByteArray} {ts : List Tok} {q k : Nat} (h : Lay s k (ts.drop q)) (hq : q < ts.length) : ∃ j e x kd, ts.getD q ⟨0, ⟨#[]⟩, 0, 0⟩ = ⟨kd, x, lin s j, col s j⟩ ∧ Gp s k false j ∧ j ≤ e ∧ e ≤ s.size ∧ s.extract j e = x ∧ x.size = e - j ∧
    lin s e = lin s j ∧ col s e = col s j + (e - j) ∧ ((kd ≠ 4 ∧ q + 1 ≠ ts.length ∧ j < e ∧ Lay s e (ts.drop (q + 1))) ∨ (kd = 4 ∧ q + 1 = ts.length ∧ j = e ∧ e = s.size)) := by
  obtain ⟨t, ht⟩ : ∃ t, ts.getD q ⟨0, ⟨#[]⟩, 0, 0⟩ = t := ⟨_, rfl⟩
  have hd : ts.drop q = t :: ts.drop (q + 1) := by
    rw [List.drop_eq_getElem_cons hq]
    simp [List.getD, hq] at ht
    rw [ht]
  rw [hd] at h
  obtain ⟨l2, hl2⟩ : ∃ l2, l2 = ts.drop (q + 1) := ⟨_, rfl⟩
  have hlen : l2.length = ts.length - (q + 1) := by rw [hl2, List.length_drop]
  rw [← hl2] at h ⊢
  cases h with
  | last g =>
    simp only [List.length_nil] at hlen
    exact ⟨s.size, s.size, ⟨#[]⟩, 4, ht, g, Nat.le_refl _, Nat.le_refl _, by simp; rfl, by simp; rfl, rfl, by simp, .inr ⟨rfl, by omega, rfl, rfl⟩⟩
  | cons g h1 h2 h3 h4 h5 =>
    rename_i j e kd
    have hne := h5.ne
    have hpos : l2.length ≠ 0 := fun e0 => hne (List.eq_nil_of_length_eq_zero e0)
    have hsp := lin_span (s := s) (i := j) e (by omega) h4
    have hb := beg_le s j
    refine ⟨j, e, s.extract j e, kd, ht, g, by omega, h2, rfl, by rw [ByteArray.size_extract]; omega, hsp.1, ?_, .inl ⟨h3, by omega, h1, h5⟩⟩
    unfold col; rw [hsp.2]; omega

set_option maxRecDepth 100000 in
set_option maxHeartbeats 16000000 in
theorem places_ok (s : ByteArray) (w : World) (hl : s.size ≤ 2000) (ts : List Tok) (lr cr : Nat) (hr : scan s 0 [] = ⟨0, ts, lr, cr⟩) : Calls Try.prog 5 #[.string s] w (LawB w) := by
  have d : decide ((2000 : Int) < (s.size : Int)) = false := decide_eq_false (by omega)
  have CS : Hid (∀ w, Calls Try.prog 9 #[.string s] w (ScanP w ⟨0, ts, lr, cr⟩)) := Lib.hid fun w => scan_at s w (by omega) hr
  have HLAY : Hid (PlO s ts 0 0 false) := Lib.hid (by
    obtain ⟨rest, h1, h2⟩ := lay_scan s 0 [] (Nat.zero_le _) (by rw [hr])
    rw [hr, List.nil_append] at h1
    have h1' : ts = rest := h1
    subst h1'
    refine ⟨Nat.zero_le _, Nat.zero_le _, fun _ => ⟨rfl, by simpa using h2⟩, fun h0 => ?_⟩
    exact absurd (List.eq_nil_of_length_eq_zero h0.symm) h2.ne)
  clear hr
  go_enter Try.func5, Try.ntmps5
  go_wp2_with fail
  refine (CS.out w).mono ?_
  rintro e w1 ⟨v, rfl, hT, ha⟩
  dsimp only at hT
  obtain ⟨ao, cp, rfl, hn⟩ := hT.isSlice
  obtain ⟨n, en⟩ : ∃ n, n = ts.length := ⟨_, rfl⟩
  rw [← en] at hT hn ⊢
  have EN := Lib.hid en
  clear en
  dsimp only
  go_wp2_with fail
  obtain ⟨W, hy, hp, haw⟩ : ∃ W, W = w1.alloc (.cells #[.int .i64 (lr : Nat), .int .i64 (cr : Nat)] 26) ∧ True ∧ Add w1 W := ⟨_, rfl, trivial, add_new _ _⟩
  rw [← hy]
  have HT := Lib.hid (hT.mono haw)
  have HA := Lib.hid (Add.trans ha haw)
  clear hy hp haw hT ha
  go_loopw [6, 7, 8, 9, 10] (fun ln cl at_ cm i wr => ∃ (q k l c : Nat) (f : Bool), ln = .int .i64 (l : Nat) ∧ cl = .int .i64 (c : Nat) ∧ at_ = .int .i64 (k : Nat) ∧ cm = .bool f ∧ i = .int .i64 (q : Nat) ∧ q ≤ n ∧ l = lin s k ∧ c = col s k ∧ Hid (PlO s ts q k f) ∧ ∃ p, wr = W.drewN p) (fun _ _ _ _ i _ => n - (intOf i).toNat)
  case atStart => exact ⟨0, 0, 1, 1, false, rfl, rfl, rfl, rfl, rfl, Nat.zero_le _, rfl, rfl, HLAY, 0, rfl⟩
  case round =>
    obtain ⟨q, k0, l0, c0, f0, rfl, rfl, rfl, rfl, rfl, hq, el, ec, hpl, p, rfl⟩ := hrel
    have EL0 := Lib.hid el
    have EC0 := Lib.hid ec
    clear el ec
    by_cases hqn : q = n
    · subst hqn
      have hk : k0 = s.size := hpl.out.2.2.2 EN.out
      subst hk
      have deq : ((s.size : Int) == (s.size : Int)) = true := by simp
      go_wp2_with fail
      refine (awake_any _).mono ?_
      rintro e w4 ⟨rfl, ha⟩
      have HF := Lib.hid (show Add w w4 from Add.trans (Add.trans HA.out (add_drewN _ _)) ha)
      clear ha
      go_wp2_with fail
      go_ret
      exact ⟨rfl, HF.out⟩
    · have hqlt : q < n := by omega
      obtain ⟨j, e, x, kd, htok, hgap, hje, hes, hxe, hxs, hle, hce, hkind⟩ := lay_tok (hpl.out.2.2.1 (by rw [← EN.out]; exact hqlt)).2 (by rw [← EN.out]; exact hqlt)
      have hf0 : f0 = false := (hpl.out.2.2.1 (by rw [← EN.out]; exact hqlt)).1
      subst hf0
      obtain ⟨b, rfl, y0, y1, y2, y3⟩ := HT.out.cell hqlt
      rw [htok] at y0 y1 y2 y3
      obtain ⟨tl, etl⟩ : ∃ tl, tl = lin s j := ⟨_, rfl⟩
      obtain ⟨tc, etc⟩ : ∃ tc, tc = col s j := ⟨_, rfl⟩
      dsimp only at y0 y1 y2 y3
      rw [← etl] at y2
      rw [← etc] at y3
      have HTL := Lib.hid etl
      have HTC := Lib.hid etc
      have HGAP := Lib.hid hgap
      have HLE := Lib.hid hle
      have HCE := Lib.hid hce
      have HK := Lib.hid hkind
      have HXE := Lib.hid hxe
      have HXS := Lib.hid hxs
      have HPL := hpl
      clear hpl htok etl etc hgap hle hce hkind hxe hxs hqn
      go_wp2_with fail
      go_loop [6, 7, 8, 9] (fun ln cl at_ cm => ∃ (k l c : Nat) (f : Bool), k ≤ s.size ∧ cm = .bool f ∧ ln = .int .i64 (l : Nat) ∧ cl = .int .i64 (c : Nat) ∧ at_ = .int .i64 (k : Nat) ∧ l = lin s k ∧ c = col s k ∧ Hid (Gp s k f j)) (fun _ _ a _ => s.size - (intOf a).toNat)
      case atStart => exact ⟨k0, l0, c0, false, HPL.out.2.1, rfl, rfl, rfl, rfl, EL0.out, EC0.out, HGAP⟩
      case round =>
        obtain ⟨k, l, c, f, hks, rfl, rfl, rfl, rfl, el, ec, hg⟩ := hrel
        have EL := Lib.hid el
        have EC := Lib.hid ec
        have hll := lin_le s k
        rw [← el] at hll
        have hcl : c ≤ k + 1 := by rw [ec]; unfold col; omega
        clear el ec
        by_cases hkj : k < j
        · have hpos := pos_le (s := s) hkj
          rw [← EL.out, ← HTL.out, ← EC.out, ← HTC.out] at hpos
          obtain ⟨hk, hsp, hgn⟩ := hg.out.next hkj
          have hb := bt_in hk
          have HG := hg
          clear hg
          rcases hpos with hp1 | ⟨hp1, hp2⟩
          · have t1 : decide (l < tl) = true := decide_eq_true hp1
            clear hp1
            by_cases h35 : bt s k = 35
            · have h10 : bt s k ≠ 10 := by omega
              have hx : ((s[k].toNat : Int) == 35) = true := by rw [hb, h35]; rfl
              have hx3 : ((s[k].toNat : Int) == 10) = false := by rw [hb]; simp; omega
              have hf : inCom (bt s k) f = true := by unfold inCom; simp [h35]
              clear h35
              have HN := Lib.hid (show Gp s (k + 1) true j from by rw [← hf]; exact hgn)
              have hl1 : lin s (k + 1) = l := by rw [lin_no h10, EL.out]
              have hc1 : col s (k + 1) = c + 1 := by rw [col_no h10, EC.out]
              have HL1 := Lib.hid hl1
              have HC1 := Lib.hid hc1
              clear hgn hf hl1 hc1 h10 hb hsp
              as_aux_lemma =>
                go_wp2_with fail
                go_round
                case rel => exact ⟨k + 1, l, c + 1, true, by omega, rfl, by go_num, by go_num, by go_num, HL1.out.symm, HC1.out.symm, HN⟩
                case measure => simp [intOf]; omega
            · by_cases h10 : bt s k = 10
              · cases f
                · have hx : ((s[k].toNat : Int) == 35) = false := by rw [hb]; simp; omega
                  have hx2 : ((s[k].toNat : Int) != 10) = false := by rw [bne, hb, h10]; rfl
                  have hx3 : ((s[k].toNat : Int) == 10) = true := by rw [hb, h10]; rfl
                  have hy1 : ((s[k].toNat : Int) != 32) = true := by rw [bne, hb, h10]; rfl
                  have hy2 : ((s[k].toNat : Int) != 9) = true := by rw [bne, hb, h10]; rfl
                  have hf : inCom (bt s k) false = false := by unfold inCom; simp [h10]
                  clear h35
                  have HN := Lib.hid (show Gp s (k + 1) false j from by rw [← hf]; exact hgn)
                  have hl1 : lin s (k + 1) = l + 1 := by rw [lin_lf h10, EL.out]
                  have hc1 : col s (k + 1) = 1 := col_lf h10
                  have HL1 := Lib.hid hl1
                  have HC1 := Lib.hid hc1
                  clear hgn hf hl1 hc1 h10 hb hsp
                  as_aux_lemma =>
                    go_wp2_with fail
                    go_round
                    case rel => exact ⟨k + 1, l + 1, 1, false, by omega, rfl, by go_num, by go_num, by go_num, HL1.out.symm, HC1.out.symm, HN⟩
                    case measure => simp [intOf]; omega
                · have hx : ((s[k].toNat : Int) == 35) = false := by rw [hb]; simp; omega
                  have hx2 : ((s[k].toNat : Int) != 10) = false := by rw [bne, hb, h10]; rfl
                  have hx3 : ((s[k].toNat : Int) == 10) = true := by rw [hb, h10]; rfl
                  have hy1 : ((s[k].toNat : Int) != 32) = true := by rw [bne, hb, h10]; rfl
                  have hy2 : ((s[k].toNat : Int) != 9) = true := by rw [bne, hb, h10]; rfl
                  have hf : inCom (bt s k) true = false := by unfold inCom; simp [h10]
                  clear h35
                  have HN := Lib.hid (show Gp s (k + 1) false j from by rw [← hf]; exact hgn)
                  have hl1 : lin s (k + 1) = l + 1 := by rw [lin_lf h10, EL.out]
                  have hc1 : col s (k + 1) = 1 := col_lf h10
                  have HL1 := Lib.hid hl1
                  have HC1 := Lib.hid hc1
                  clear hgn hf hl1 hc1 h10 hb hsp
                  as_aux_lemma =>
                    go_wp2_with fail
                    go_round
                    case rel => exact ⟨k + 1, l + 1, 1, false, by omega, rfl, by go_num, by go_num, by go_num, HL1.out.symm, HC1.out.symm, HN⟩
                    case measure => simp [intOf]; omega
              · cases f
                · have hsc : bt s k = 32 ∨ bt s k = 9 ∨ bt s k = 13 := by
                    have h1 : inCom (bt s k) false = false := by unfold inCom; simp; omega
                    rw [h1] at hsp
                    have := space_iff.1 (hsp.resolve_left (by decide))
                    omega
                  clear h10
                  rcases hsc with hsc | hsc | hsc
                  · have hx : ((s[k].toNat : Int) == 35) = false := by rw [hb]; simp; omega
                    have h10 : bt s k ≠ 10 := by omega
                    have hx3 : ((s[k].toNat : Int) == 10) = false := by rw [hb]; simp; omega
                    have hy32 : ((s[k].toNat : Int) != 32) = false := by rw [bne, hb, hsc]; rfl
                    have hf : inCom (bt s k) false = false := by unfold inCom; simp; omega
                    clear h35 hsc
                    have HN := Lib.hid (show Gp s (k + 1) false j from by rw [← hf]; exact hgn)
                    have hl1 : lin s (k + 1) = l := by rw [lin_no h10, EL.out]
                    have hc1 : col s (k + 1) = c + 1 := by rw [col_no h10, EC.out]
                    have HL1 := Lib.hid hl1
                    have HC1 := Lib.hid hc1
                    clear hgn hf hl1 hc1 h10 hb hsp
                    as_aux_lemma =>
                      go_wp2_with fail
                      go_round
                      case rel => exact ⟨k + 1, l, c + 1, false, by omega, rfl, by go_num, by go_num, by go_num, HL1.out.symm, HC1.out.symm, HN⟩
                      case measure => simp [intOf]; omega
                  · have hx : ((s[k].toNat : Int) == 35) = false := by rw [hb]; simp; omega
                    have h10 : bt s k ≠ 10 := by omega
                    have hx3 : ((s[k].toNat : Int) == 10) = false := by rw [hb]; simp; omega
                    have hy32 : ((s[k].toNat : Int) != 32) = true := by rw [bne, hb, hsc]; rfl
                    have hy9 : ((s[k].toNat : Int) != 9) = false := by rw [bne, hb, hsc]; rfl
                    have hf : inCom (bt s k) false = false := by unfold inCom; simp; omega
                    clear h35 hsc
                    have HN := Lib.hid (show Gp s (k + 1) false j from by rw [← hf]; exact hgn)
                    have hl1 : lin s (k + 1) = l := by rw [lin_no h10, EL.out]
                    have hc1 : col s (k + 1) = c + 1 := by rw [col_no h10, EC.out]
                    have HL1 := Lib.hid hl1
                    have HC1 := Lib.hid hc1
                    clear hgn hf hl1 hc1 h10 hb hsp
                    as_aux_lemma =>
                      go_wp2_with fail
                      go_round
                      case rel => exact ⟨k + 1, l, c + 1, false, by omega, rfl, by go_num, by go_num, by go_num, HL1.out.symm, HC1.out.symm, HN⟩
                      case measure => simp [intOf]; omega
                  · have hx : ((s[k].toNat : Int) == 35) = false := by rw [hb]; simp; omega
                    have h10 : bt s k ≠ 10 := by omega
                    have hx3 : ((s[k].toNat : Int) == 10) = false := by rw [hb]; simp; omega
                    have hy32 : ((s[k].toNat : Int) != 32) = true := by rw [bne, hb, hsc]; rfl
                    have hy9 : ((s[k].toNat : Int) != 9) = true := by rw [bne, hb, hsc]; rfl
                    have hy10 : ((s[k].toNat : Int) != 10) = true := by rw [bne, hb, hsc]; rfl
                    have hy13 : ((s[k].toNat : Int) != 13) = false := by rw [bne, hb, hsc]; rfl
                    have hf : inCom (bt s k) false = false := by unfold inCom; simp; omega
                    clear h35 hsc
                    have HN := Lib.hid (show Gp s (k + 1) false j from by rw [← hf]; exact hgn)
                    have hl1 : lin s (k + 1) = l := by rw [lin_no h10, EL.out]
                    have hc1 : col s (k + 1) = c + 1 := by rw [col_no h10, EC.out]
                    have HL1 := Lib.hid hl1
                    have HC1 := Lib.hid hc1
                    clear hgn hf hl1 hc1 h10 hb hsp
                    as_aux_lemma =>
                      go_wp2_with fail
                      go_round
                      case rel => exact ⟨k + 1, l, c + 1, false, by omega, rfl, by go_num, by go_num, by go_num, HL1.out.symm, HC1.out.symm, HN⟩
                      case measure => simp [intOf]; omega
                · have hx : ((s[k].toNat : Int) == 35) = false := by rw [hb]; simp; omega
                  have hx2 : ((s[k].toNat : Int) != 10) = true := by rw [bne, hb]; simp; omega
                  have hx3 : ((s[k].toNat : Int) == 10) = false := by rw [hb]; simp; omega
                  have hf : inCom (bt s k) true = true := by unfold inCom; simp; omega
                  clear h35
                  have HN := Lib.hid (show Gp s (k + 1) true j from by rw [← hf]; exact hgn)
                  have hl1 : lin s (k + 1) = l := by rw [lin_no h10, EL.out]
                  have hc1 : col s (k + 1) = c + 1 := by rw [col_no h10, EC.out]
                  have HL1 := Lib.hid hl1
                  have HC1 := Lib.hid hc1
                  clear hgn hf hl1 hc1 h10 hb hsp
                  as_aux_lemma =>
                    go_wp2_with fail
                    go_round
                    case rel => exact ⟨k + 1, l, c + 1, true, by omega, rfl, by go_num, by go_num, by go_num, HL1.out.symm, HC1.out.symm, HN⟩
                    case measure => simp [intOf]; omega
          · subst hp1
            have t1 : decide (l < l) = false := decide_eq_false (by omega)
            have t2 : ((l : Int) == (l : Int)) = true := by simp
            have t3 : decide (c < tc) = true := decide_eq_true hp2
            clear hp2
            by_cases h35 : bt s k = 35
            · have h10 : bt s k ≠ 10 := by omega
              have hx : ((s[k].toNat : Int) == 35) = true := by rw [hb, h35]; rfl
              have hx3 : ((s[k].toNat : Int) == 10) = false := by rw [hb]; simp; omega
              have hf : inCom (bt s k) f = true := by unfold inCom; simp [h35]
              clear h35
              have HN := Lib.hid (show Gp s (k + 1) true j from by rw [← hf]; exact hgn)
              have hl1 : lin s (k + 1) = l := by rw [lin_no h10, EL.out]
              have hc1 : col s (k + 1) = c + 1 := by rw [col_no h10, EC.out]
              have HL1 := Lib.hid hl1
              have HC1 := Lib.hid hc1
              clear hgn hf hl1 hc1 h10 hb hsp
              as_aux_lemma =>
                go_wp2_with fail
                go_round
                case rel => exact ⟨k + 1, l, c + 1, true, by omega, rfl, by go_num, by go_num, by go_num, HL1.out.symm, HC1.out.symm, HN⟩
                case measure => simp [intOf]; omega
            · by_cases h10 : bt s k = 10
              · cases f
                · have hx : ((s[k].toNat : Int) == 35) = false := by rw [hb]; simp; omega
                  have hx2 : ((s[k].toNat : Int) != 10) = false := by rw [bne, hb, h10]; rfl
                  have hx3 : ((s[k].toNat : Int) == 10) = true := by rw [hb, h10]; rfl
                  have hy1 : ((s[k].toNat : Int) != 32) = true := by rw [bne, hb, h10]; rfl
                  have hy2 : ((s[k].toNat : Int) != 9) = true := by rw [bne, hb, h10]; rfl
                  have hf : inCom (bt s k) false = false := by unfold inCom; simp [h10]
                  clear h35
                  have HN := Lib.hid (show Gp s (k + 1) false j from by rw [← hf]; exact hgn)
                  have hl1 : lin s (k + 1) = l + 1 := by rw [lin_lf h10, EL.out]
                  have hc1 : col s (k + 1) = 1 := col_lf h10
                  have HL1 := Lib.hid hl1
                  have HC1 := Lib.hid hc1
                  clear hgn hf hl1 hc1 h10 hb hsp
                  as_aux_lemma =>
                    go_wp2_with fail
                    go_round
                    case rel => exact ⟨k + 1, l + 1, 1, false, by omega, rfl, by go_num, by go_num, by go_num, HL1.out.symm, HC1.out.symm, HN⟩
                    case measure => simp [intOf]; omega
                · have hx : ((s[k].toNat : Int) == 35) = false := by rw [hb]; simp; omega
                  have hx2 : ((s[k].toNat : Int) != 10) = false := by rw [bne, hb, h10]; rfl
                  have hx3 : ((s[k].toNat : Int) == 10) = true := by rw [hb, h10]; rfl
                  have hy1 : ((s[k].toNat : Int) != 32) = true := by rw [bne, hb, h10]; rfl
                  have hy2 : ((s[k].toNat : Int) != 9) = true := by rw [bne, hb, h10]; rfl
                  have hf : inCom (bt s k) true = false := by unfold inCom; simp [h10]
                  clear h35
                  have HN := Lib.hid (show Gp s (k + 1) false j from by rw [← hf]; exact hgn)
                  have hl1 : lin s (k + 1) = l + 1 := by rw [lin_lf h10, EL.out]
                  have hc1 : col s (k + 1) = 1 := col_lf h10
                  have HL1 := Lib.hid hl1
                  have HC1 := Lib.hid hc1
                  clear hgn hf hl1 hc1 h10 hb hsp
                  as_aux_lemma =>
                    go_wp2_with fail
                    go_round
                    case rel => exact ⟨k + 1, l + 1, 1, false, by omega, rfl, by go_num, by go_num, by go_num, HL1.out.symm, HC1.out.symm, HN⟩
                    case measure => simp [intOf]; omega
              · cases f
                · have hsc : bt s k = 32 ∨ bt s k = 9 ∨ bt s k = 13 := by
                    have h1 : inCom (bt s k) false = false := by unfold inCom; simp; omega
                    rw [h1] at hsp
                    have := space_iff.1 (hsp.resolve_left (by decide))
                    omega
                  clear h10
                  rcases hsc with hsc | hsc | hsc
                  · have hx : ((s[k].toNat : Int) == 35) = false := by rw [hb]; simp; omega
                    have h10 : bt s k ≠ 10 := by omega
                    have hx3 : ((s[k].toNat : Int) == 10) = false := by rw [hb]; simp; omega
                    have hy32 : ((s[k].toNat : Int) != 32) = false := by rw [bne, hb, hsc]; rfl
                    have hf : inCom (bt s k) false = false := by unfold inCom; simp; omega
                    clear h35 hsc
                    have HN := Lib.hid (show Gp s (k + 1) false j from by rw [← hf]; exact hgn)
                    have hl1 : lin s (k + 1) = l := by rw [lin_no h10, EL.out]
                    have hc1 : col s (k + 1) = c + 1 := by rw [col_no h10, EC.out]
                    have HL1 := Lib.hid hl1
                    have HC1 := Lib.hid hc1
                    clear hgn hf hl1 hc1 h10 hb hsp
                    as_aux_lemma =>
                      go_wp2_with fail
                      go_round
                      case rel => exact ⟨k + 1, l, c + 1, false, by omega, rfl, by go_num, by go_num, by go_num, HL1.out.symm, HC1.out.symm, HN⟩
                      case measure => simp [intOf]; omega
                  · have hx : ((s[k].toNat : Int) == 35) = false := by rw [hb]; simp; omega
                    have h10 : bt s k ≠ 10 := by omega
                    have hx3 : ((s[k].toNat : Int) == 10) = false := by rw [hb]; simp; omega
                    have hy32 : ((s[k].toNat : Int) != 32) = true := by rw [bne, hb, hsc]; rfl
                    have hy9 : ((s[k].toNat : Int) != 9) = false := by rw [bne, hb, hsc]; rfl
                    have hf : inCom (bt s k) false = false := by unfold inCom; simp; omega
                    clear h35 hsc
                    have HN := Lib.hid (show Gp s (k + 1) false j from by rw [← hf]; exact hgn)
                    have hl1 : lin s (k + 1) = l := by rw [lin_no h10, EL.out]
                    have hc1 : col s (k + 1) = c + 1 := by rw [col_no h10, EC.out]
                    have HL1 := Lib.hid hl1
                    have HC1 := Lib.hid hc1
                    clear hgn hf hl1 hc1 h10 hb hsp
                    as_aux_lemma =>
                      go_wp2_with fail
                      go_round
                      case rel => exact ⟨k + 1, l, c + 1, false, by omega, rfl, by go_num, by go_num, by go_num, HL1.out.symm, HC1.out.symm, HN⟩
                      case measure => simp [intOf]; omega
                  · have hx : ((s[k].toNat : Int) == 35) = false := by rw [hb]; simp; omega
                    have h10 : bt s k ≠ 10 := by omega
                    have hx3 : ((s[k].toNat : Int) == 10) = false := by rw [hb]; simp; omega
                    have hy32 : ((s[k].toNat : Int) != 32) = true := by rw [bne, hb, hsc]; rfl
                    have hy9 : ((s[k].toNat : Int) != 9) = true := by rw [bne, hb, hsc]; rfl
                    have hy10 : ((s[k].toNat : Int) != 10) = true := by rw [bne, hb, hsc]; rfl
                    have hy13 : ((s[k].toNat : Int) != 13) = false := by rw [bne, hb, hsc]; rfl
                    have hf : inCom (bt s k) false = false := by unfold inCom; simp; omega
                    clear h35 hsc
                    have HN := Lib.hid (show Gp s (k + 1) false j from by rw [← hf]; exact hgn)
                    have hl1 : lin s (k + 1) = l := by rw [lin_no h10, EL.out]
                    have hc1 : col s (k + 1) = c + 1 := by rw [col_no h10, EC.out]
                    have HL1 := Lib.hid hl1
                    have HC1 := Lib.hid hc1
                    clear hgn hf hl1 hc1 h10 hb hsp
                    as_aux_lemma =>
                      go_wp2_with fail
                      go_round
                      case rel => exact ⟨k + 1, l, c + 1, false, by omega, rfl, by go_num, by go_num, by go_num, HL1.out.symm, HC1.out.symm, HN⟩
                      case measure => simp [intOf]; omega
                · have hx : ((s[k].toNat : Int) == 35) = false := by rw [hb]; simp; omega
                  have hx2 : ((s[k].toNat : Int) != 10) = true := by rw [bne, hb]; simp; omega
                  have hx3 : ((s[k].toNat : Int) == 10) = false := by rw [hb]; simp; omega
                  have hf : inCom (bt s k) true = true := by unfold inCom; simp; omega
                  clear h35
                  have HN := Lib.hid (show Gp s (k + 1) true j from by rw [← hf]; exact hgn)
                  have hl1 : lin s (k + 1) = l := by rw [lin_no h10, EL.out]
                  have hc1 : col s (k + 1) = c + 1 := by rw [col_no h10, EC.out]
                  have HL1 := Lib.hid hl1
                  have HC1 := Lib.hid hc1
                  clear hgn hf hl1 hc1 h10 hb hsp
                  as_aux_lemma =>
                    go_wp2_with fail
                    go_round
                    case rel => exact ⟨k + 1, l, c + 1, true, by omega, rfl, by go_num, by go_num, by go_num, HL1.out.symm, HC1.out.symm, HN⟩
                    case measure => simp [intOf]; omega
        · have hgl := hg.out.le
          obtain rfl : k = j := by omega
          have hat := hg.out.at_end rfl
          clear hg
          obtain rfl : tl = l := HTL.out.trans EL.out.symm
          obtain rfl : tc = c := HTC.out.trans EC.out.symm
          obtain ⟨z, ez⟩ : ∃ z, z = x.size := ⟨_, rfl⟩
          have hxz : (x.size : Int) = (z : Int) := by rw [ez]
          have hz2 : z = e - k := by rw [ez, HXS.out]
          obtain ⟨c2, hc2⟩ : ∃ c2, c2 = tc + z := ⟨_, rfl⟩
          have hsum : (k : Int) + (z : Int) = (e : Int) := by omega
          have hsum2 : (tc : Int) + (z : Int) = (c2 : Int) := by omega
          have w1' : IntKind.i64.wrap (e : Int) = (e : Int) := by rw [IntKind.wrap_i64]; omega
          have w2' : IntKind.i64.wrap (c2 : Int) = (c2 : Int) := by rw [IntKind.wrap_i64]; omega
          have w3' : IntKind.i64.wrap ((q : Int) + 1) = (q : Int) + 1 := by rw [IntKind.wrap_i64]; omega
          have n1 : ((tl : Int) != (tl : Int)) = false := by simp
          have n2 : ((tc : Int) != (tc : Int)) = false := by simp
          have n3 : ((tl : Int) == (tl : Int)) = true := by simp
          have t1 : decide (tl < tl) = false := decide_eq_false (by omega)
          have t3 : decide (tc < tc) = false := decide_eq_false (by omega)
          have dx : decide (s.size < e) = false := decide_eq_false (by omega)
          have eqx : s.extract k e = x := HXE.out
          have i1 : (0 : Int) ≤ (k : Int) := by omega
          have i2 : (k : Int) ≤ (e : Int) := by omega
          have i3 : (e : Int) ≤ (s.size : Int) := by omega
          have HEND : Hid (tl = lin s e ∧ c2 = col s e) := Lib.hid ⟨by rw [HLE.out, EL.out], by rw [HCE.out, ← EC.out, hc2, hz2]⟩
          rcases HK.out with ⟨hk1, hk2, hk3, hk4⟩ | ⟨hk1, hk2, hk3, hk4⟩
          · have hf : f = false := hat.resolve_right (by omega)
            subst hf
            have m1 : ((kd : Int) == 4) = false := by simp; omega
            have m2 : ((q : Int) + 1 == (n : Int)) = false := by
              have := EN.out
              simp; omega
            have m3 : ((z : Int) == 0) = false := by simp; omega
            have HP : Hid (PlO s ts (q + 1) e false) := Lib.hid ⟨by have := EN.out; omega, hes, fun _ => ⟨rfl, hk4⟩, fun h => absurd h hk2⟩
            clear hk1 hk2 hk3 hk4 hat ez hz2 hc2
            as_aux_lemma =>
              go_wp2_with fail
              go_quiet (fail)
              go_wp2_with fail
              go_quiet (fail)
              go_wp2_with fail
              go_quiet (fail)
              go_wp2_with fail
              go_roundw
              case rel => first | exact ⟨q + 1, e, tl, c2, false, rfl, rfl, rfl, rfl, by go_num, by omega, HEND.out.1, HEND.out.2, HP, _, rfl⟩ | ((repeat apply Exists.intro); exact ⟨⟨q + 1, e, tl, c2, false, rfl, rfl, rfl, rfl, by go_num, by omega, HEND.out.1, HEND.out.2, HP, _, rfl⟩, rfl⟩)
              case measure => simp [intOf]; omega
          · have m1 : ((kd : Int) == 4) = true := by rw [hk1]; rfl
            have m2 : ((q : Int) + 1 == (n : Int)) = true := by
              have := EN.out
              simp; omega
            have m3 : ((z : Int) == 0) = true := by simp; omega
            have m4 : decide ((q : Int) + 1 < (n : Int)) = false := decide_eq_false (by have := EN.out; omega)
            have HP : Hid (PlO s ts (q + 1) e f) := Lib.hid ⟨by have := EN.out; omega, hes, fun h => by omega, fun _ => hk4⟩
            clear hk1 hk2 hk3 hk4 hat ez hz2 hc2
            cases f
            · as_aux_lemma =>
                go_wp2_with fail
                go_quiet (fail)
                go_wp2_with fail
                go_quiet (fail)
                go_wp2_with fail
                go_quiet (fail)
                go_wp2_with fail
                go_roundw
                case rel => first | exact ⟨q + 1, e, tl, c2, false, rfl, rfl, rfl, rfl, by go_num, by omega, HEND.out.1, HEND.out.2, HP, _, rfl⟩ | ((repeat apply Exists.intro); exact ⟨⟨q + 1, e, tl, c2, false, rfl, rfl, rfl, rfl, by go_num, by omega, HEND.out.1, HEND.out.2, HP, _, rfl⟩, rfl⟩)
                case measure => simp [intOf]; omega
            · as_aux_lemma =>
                go_wp2_with fail
                go_quiet (fail)
                go_wp2_with fail
                go_quiet (fail)
                go_wp2_with fail
                go_quiet (fail)
                go_wp2_with fail
                go_roundw
                case rel => first | exact ⟨q + 1, e, tl, c2, true, rfl, rfl, rfl, rfl, by go_num, by omega, HEND.out.1, HEND.out.2, HP, _, rfl⟩ | ((repeat apply Exists.intro); exact ⟨⟨q + 1, e, tl, c2, true, rfl, rfl, rfl, rfl, by go_num, by omega, HEND.out.1, HEND.out.2, HP, _, rfl⟩, rfl⟩)
                case measure => simp [intOf]; omega
end Go.Proofs.Ytdgpcijiempmdaa
