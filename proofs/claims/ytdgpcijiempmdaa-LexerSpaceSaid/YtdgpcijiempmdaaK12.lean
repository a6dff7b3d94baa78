/- The reference of lexer: Scan. -/
import Derived.Test.YtdgpcijiempmdaaK11
import Derived.Deep.AppendLies
import Derived.Deep.RegionLaw
import Derived.RegionTactic
import Derived.BigRegion
namespace Go.Proofs.Ytdgpcijiempmdaa
open Go.RowKit LxM

/-- What the reference's Scan keeps: the tokens so far, the variable of the position, and all that was there. -/
structure RefI (w wr : World) (v : Value) (ts : List Tok) : Prop where
  toks : ToksO wr (w.heap.size + 1) v ts
  pos : PosB wr w.heap.size 0 0
  add : Add w wr
theorem RefI.size {w wr : World} {v : Value} {ts : List Tok} (h : RefI w wr v ts) : w.heap.size + 1 ≤ wr.heap.size := h.pos.lt
theorem RefI.next {w wr w1 : World} {v : Value} {ts : List Tok} (h : RefI w wr v ts) (hb : Add wr w1) : RefI w w1 v ts :=
  ⟨ownsRow_add h.toks hb, h.pos.mono hb, Add.trans h.add hb⟩
theorem RefI.push {w wr w3 : World} {v v' : Value} {ts : List Tok} {t : Tok} (h2 : RefI w wr v ts) (hg : wr.grownBy w3 v.ownBlock)
    (ho : w3.ownsRow (w.heap.size + 1) 32 4 v' (ts.length + 1) (cellsT ts ++ cells1 t)) : RefI w w3 v' (ts ++ [t]) := by
  have hne : ∀ k, k < w.heap.size + 1 → some k ≠ v.ownBlock := by
    intro k hk e
    have := (own_block h2.toks k e.symm).1
    omega
  refine ⟨?_, (hg.5 _ h2.pos.lt (hne _ (by omega))).trans h2.pos, Below.grown h2.add hg h2.add.size (fun k e => by have := (own_block h2.toks k e).1; omega)⟩
  unfold ToksO
  rw [List.length_append, cellsT_append]
  exact ho
theorem lin_span {s : ByteArray} {i : Nat} : ∀ e, i ≤ e → (∀ j, i ≤ j → j < e → bt s j ≠ 10) → lin s e = lin s i ∧ beg s e = beg s i
  | 0, h, _ => by obtain rfl : i = 0 := by omega
                  exact ⟨rfl, rfl⟩
  | e + 1, h, g => by
    by_cases c : i = e + 1
    · subst c; exact ⟨rfl, rfl⟩
    · have h1 := lin_span e (by omega) (fun j a b => g j a (by omega))
      have h2 := g e (by omega) (by omega)
      exact ⟨(lin_no h2).trans h1.1, (beg_no h2).trans h1.2⟩
theorem lin_rowE (p : Nat → Bool) (hp : ∀ c, p c = true → c ≠ 10) (s : ByteArray) (k : Nat) (hk : bt s k ≠ 10) : lin s (rowE p s (k + 1)) = lin s k ∧ beg s (rowE p s (k + 1)) = beg s k := by
  refine lin_span _ (by have := rowE_ge p s (k + 1); omega) fun j h1 h2 => ?_
  by_cases c : j = k
  · subst c; exact hk
  · exact hp _ (rowE_all p s (k + 1) j (by omega) h2).2
/-- The state of the reference's Scan at the head of its loop. -/
def RefL (w wr : World) (s : ByteArray) (k l b : Nat) (v : Value) (ts : List Tok) : Prop :=
  ts.length ≤ k ∧ scan s k ts = scan s 0 [] ∧ l = lin s k ∧ b = beg s k ∧ RefI w wr v ts

set_option maxRecDepth 100000 in
set_option maxHeartbeats 4000000 in
theorem refScan_long (s : ByteArray) (w : World) (hs : s.size ≤ 1000000) (hl : 8000 < s.size) : Calls Try.prog 10 #[.string s] w (ScanP w (bad s 2 8000)) := by
  have d1 : decide ((8000 : Int) < (s.size : Int)) = true := decide_eq_true (by omega)
  obtain ⟨l, el⟩ : ∃ l, l = lin s 8000 := ⟨_, rfl⟩
  obtain ⟨c, ec⟩ : ∃ c, c = col s 8000 := ⟨_, rfl⟩
  have CP : Hid (∀ w', Calls Try.prog 20 #[.string s, .int .i64 8000] w' (fun e2 w2 => e2 = .returned (.agg #[.int .i64 (l : Nat), .int .i64 (c : Nat)]) ∧ Add w' w2)) := Lib.hid fun w' => by rw [el, ec]; exact place_any s 8000 w' (by omega) hs
  have hr : bad s 2 8000 = ⟨2, [], l, c⟩ := by rw [el, ec]; rfl
  rw [hr]
  clear hr el ec hl
  go_enter Try.func10, Try.ntmps10
  go_wp2_with fail
  obtain ⟨W, hW⟩ : ∃ W, W = w.alloc (.cells #[.int .i64 0, .int .i64 0] 26) := ⟨_, rfl⟩
  have hP : PosB W w.heap.size 0 0 := by rw [hW]; exact pos_new w 0 0
  have hA : Add w W := by rw [hW]; exact add_new w _
  rw [← hW]
  clear hW
  refine (CP.out _).mono ?_
  rintro e w2 ⟨rfl, ha⟩
  have h2 := hP.mono ha
  have hA2 := Add.trans hA ha
  have p0 := h2.c0
  have p1 := h2.c1
  have f0 := h2.fr 0
  have f1 := h2.fr 1
  have HF := Lib.hid (pos_put h2 l c)
  have HB := Lib.hid (below_put2 hA2 (Nat.le_refl w.heap.size) (.int .i64 (l : Nat)) (.int .i64 (c : Nat)))
  clear h2 ha hA hA2 hP
  obtain ⟨W9, hW9⟩ : ∃ W9, W9 = put2 w2 w.heap.size (.int .i64 (l : Nat)) (.int .i64 (c : Nat)) := ⟨_, rfl⟩
  rw [← hW9] at HF HB
  unfold put2 at hW9
  have HW := Lib.hid hW9
  clear hW9
  go_wp2_with fail
  rw [← HW.out]
  have q0 := HF.out.c0
  have q1 := HF.out.c1
  clear HW HF p0 p1 f0 f1
  exact bodyPost_ret (v := .tuple #[.slice none 0 0, .int .i64 ((2 : Nat) : Int), .agg #[.int .i64 (l : Nat), .int .i64 (c : Nat)]]) (by simp [results, Try.results10, go_sem, q0, q1]) rfl ⟨_, rfl, ToksB.nil _, HB.out⟩

set_option maxRecDepth 100000 in
set_option maxHeartbeats 16000000 in
theorem refScan_short (s : ByteArray) (w : World) (hl : s.size ≤ 8000) : Calls Try.prog 10 #[.string s] w (ScanP w (scan s 0 [])) := by
  have d1 : decide ((8000 : Int) < (s.size : Int)) = false := decide_eq_false (by omega)
  obtain ⟨i2, hi2, hq0, hq1, hq2⟩ := info_tok
  obtain ⟨r, er⟩ : ∃ r, r = scan s 0 [] := ⟨_, rfl⟩
  rw [← er]
  have ER := Lib.hid er
  clear er
  have HST : Hid (RefI w (w.alloc (.cells #[.int .i64 0, .int .i64 0] 26)) (.slice none 0 0) []) := Lib.hid ⟨ToksO.nil _ _, pos_new w 0 0, add_new _ _⟩
  go_enter Try.func10, Try.ntmps10
  go_wp2_with fail
  go_loopw [5, 6, 7, 8] (fun o l b i wr => ∃ (k lv bv : Nat) (ts : List Tok), k ≤ s.size ∧ l = .int .i64 (lv : Nat) ∧ b = .int .i64 (bv : Nat) ∧ i = .int .i64 (k : Nat) ∧ RefL w wr s k lv bv o ts) (fun _ _ _ i _ => s.size - (intOf i).toNat)
  case atStart => exact ⟨0, 1, 0, [], Nat.zero_le _, rfl, rfl, rfl, Nat.zero_le _, rfl, rfl, rfl, HST.out⟩
  case round =>
    obtain ⟨k, l, b, ts, hk, rfl, rfl, rfl, htl, hsc, el, eb, hI⟩ := hrel
    have hll := lin_le s k
    have hbl := beg_le s k
    rw [← el] at hll
    rw [← eb] at hbl
    obtain ⟨c, ec⟩ : ∃ c, c = col s k := ⟨_, rfl⟩
    have hcol : (k : Int) - (b : Int) + 1 = (c : Int) := by rw [ec, eb]; unfold col; have := beg_le s k; omega
    have HI := Lib.hid hI
    have HSC := Lib.hid hsc
    have EL := Lib.hid el
    have EB := Lib.hid eb
    have EC := Lib.hid ec
    clear hI hsc el eb ec
    by_cases hlt : k < s.size
    · have hb := bt_in hlt
      by_cases h10 : bt s k = 10
      · have hx : ((s[k].toNat : Int) == 10) = true := by rw [hb, h10]; rfl
        have HN : Hid (∀ wx, Add wr wx → RefL w wx s (k + 1) (l + 1) (k + 1) u5 ts) := Lib.hid fun wx hx => ⟨by omega, by rw [← HSC.out, scan_space hlt (by rw [h10]; rfl)], by rw [lin_lf h10, EL.out], by rw [beg_lf h10], HI.out.next hx⟩
        clear h10 hb
        go_wp2_with fail
        go_roundw
        case rel => exact ⟨k + 1, l + 1, k + 1, ts, by omega, by go_num, by go_num, by go_num, HN.out _ (add_new _ _)⟩
        case measure => simp [intOf]; omega
      · cases hs : space (bt s k)
        · by_cases h35 : bt s k = 35
          · have hx : ((s[k].toNat : Int) == 10) = false := by rw [hb]; simp; omega
            have hx2 : ((s[k].toNat : Int) == 35) = true := by rw [hb, h35]; rfl
            have CS : Hid (∀ w, Calls Try.prog 21 #[.int .u8 (s[k].toNat : Nat)] w (RetBo w false)) := Lib.hid fun w => by
              have := refSpace_any (bt s k) w
              rw [hb]
              rw [hs] at this
              exact this
            have HN0 : Hid (∀ wx, RefI w wx u5 ts → RefL w wx s (rowE notLF s (k + 1)) l b u5 ts) := Lib.hid fun wx hx => by
              have hsp := lin_rowE notLF (fun c h => notLF_iff.1 h) s k h10
              have hge := rowE_ge notLF s (k + 1)
              exact ⟨by omega, by rw [← HSC.out, scan_comment hlt h35], by rw [hsp.1, EL.out], by rw [hsp.2, EB.out], hx⟩
            clear h10 hb hs h35
            go_wp2_with (go_at_call 21; (with_reducible refine (CS.out _).mono ?_); rintro e w' ⟨rfl, rfl⟩)
            obtain ⟨W1, hW1⟩ : ∃ W1, W1 = wr.alloc (.cells #[.int .i64 (l : Nat), .int .i64 (c : Nat)] 26) := ⟨_, rfl⟩
            have hp1 : PosB W1 wr.heap.size l c := by rw [hW1]; exact pos_new wr l c
            have HI1 := Lib.hid (show RefI w W1 u5 ts by rw [hW1]; exact HI.out.next (add_new _ _))
            have hszp : wr.heap.size < W1.heap.size := hp1.lt
            rw [← hW1]
            clear hW1
            have HN := Lib.hid (HN0.out _ HI1.out)
            clear hp1
            go_loop [11] (fun n => ∃ m : Nat, 1 ≤ m ∧ k + m ≤ s.size ∧ n = .int .i64 (m : Nat) ∧ Hid (rowE notLF s (k + m) = rowE notLF s (k + 1))) (fun n => s.size - (intOf n).toNat)
            case atStart => exact ⟨1, Nat.le_refl _, by omega, rfl, rfl⟩
            case round =>
              obtain ⟨m, hm1, hm2, rfl, HM⟩ := hrel
              obtain ⟨j, HJ⟩ : ∃ j, Hid (j = k + m) := ⟨_, rfl⟩
              have hjm : (k : Int) + (m : Int) = (j : Int) := by have := HJ.out; omega
              have hkj : k < j := by have := HJ.out; omega
              have hjs : j ≤ s.size := by have := HJ.out; omega
              have HMJ : Hid (rowE notLF s j = rowE notLF s (k + 1)) := by rw [HJ.out]; exact HM
              clear HM hm2
              by_cases hj : j < s.size
              · have hbj := bt_in hj
                cases hp : notLF (bt s j)
                · have hx3 : ((s[j].toNat : Int) != 10) = false := (by have e : bt s j = 10 := (by simpa [notLF] using hp); rw [bne, hbj, e]; rfl)
                  have HE := Lib.hid (show rowE notLF s (k + 1) = j by rw [← HMJ.out]; exact rowE_out (by rw [hp]; simp))
                  clear hbj hp HMJ
                  have HR := Lib.hid (show RefL w W1 s j l b u5 ts from by rw [← HE.out]; exact HN.out)
                  go_wp2_with fail
                  go_roundw
                  case rel => exact ⟨j, l, b, ts, hjs, rfl, rfl, rfl, HR.out⟩
                  case measure => simp [intOf]; omega
                · have hx3 : ((s[j].toNat : Int) != 10) = true := by have := notLF_iff.1 hp; rw [bne, hbj]; simp; omega
                  have HNX : Hid (rowE notLF s (k + (m + 1)) = rowE notLF s (k + 1)) := Lib.hid (by rw [← HMJ.out, rowE_in hj hp]; have := HJ.out; congr 1; omega)
                  have hjs1 : k + (m + 1) ≤ s.size := by have := HJ.out; omega
                  clear hbj hp HMJ
                  go_wp2_with fail
                  go_round
                  case rel => exact ⟨m + 1, by omega, hjs1, by go_num, HNX⟩
                  case measure => simp [intOf]; omega
              · have HE := Lib.hid (show rowE notLF s (k + 1) = j by rw [← HMJ.out]; exact rowE_out (by omega))
                clear HMJ
                have HR := Lib.hid (show RefL w W1 s j l b u5 ts from by rw [← HE.out]; exact HN.out)
                go_wp2_with fail
                go_roundw
                case rel => exact ⟨j, l, b, ts, hjs, rfl, rfl, rfl, HR.out⟩
                case measure => simp [intOf]; omega
          · cases hl0 : letter (bt s k)
            · cases hd0 : digit (bt s k)
              · cases hc : sign (bt s k)
                · have hx : ((s[k].toNat : Int) == 10) = false := by rw [hb]; simp; omega
                  have hx2 : ((s[k].toNat : Int) == 35) = false := by rw [hb]; simp; omega
                  have CS : Hid (∀ w, Calls Try.prog 21 #[.int .u8 (s[k].toNat : Nat)] w (RetBo w false)) := Lib.hid fun w => by
                    have := refSpace_any (bt s k) w
                    rw [hb]
                    rw [hs] at this
                    exact this
                  have CL : Hid (∀ w, Calls Try.prog 22 #[.int .u8 (s[k].toNat : Nat)] w (RetBo w false)) := Lib.hid fun w => by
                    have := refLetter_any (bt s k) w
                    rw [hb]
                    rw [hl0] at this
                    exact this
                  have CD : Hid (∀ w, Calls Try.prog 24 #[.int .u8 (s[k].toNat : Nat)] w (RetBo w false)) := Lib.hid fun w => by
                    have := refDigit_any (bt s k) w
                    rw [hb]
                    rw [hd0] at this
                    exact this
                  have CG : Hid (∀ w, Calls Try.prog 25 #[.int .u8 (s[k].toNat : Nat)] w (RetBo w false)) := Lib.hid fun w => by
                    have := refSign_any (bt s k) w
                    rw [hb]
                    rw [hc] at this
                    exact this
                  have HRES : Hid (r = ⟨6, [], l, c⟩) := Lib.hid (by rw [ER.out, ← HSC.out, scan_bad hlt hs h35 hl0 hd0 hc, EL.out, EC.out]; rfl)
                  clear h10 hb hs h35 hc hl0 hd0
                  obtain ⟨W1, hW1⟩ : ∃ W1, W1 = wr.alloc (.cells #[.int .i64 (l : Nat), .int .i64 (c : Nat)] 26) := ⟨_, rfl⟩
                  have hp1 : PosB W1 wr.heap.size l c := by rw [hW1]; exact pos_new wr l c
                  have HI1 := Lib.hid (show RefI w W1 u5 ts by rw [hW1]; exact HI.out.next (add_new _ _))
                  have hszp : wr.heap.size < W1.heap.size := hp1.lt
                  have HW1 := Lib.hid hW1
                  clear hW1
                  have HP1 := Lib.hid hp1
                  have c0 := hp1.c0
                  have c1 := hp1.c1
                  clear hp1
                  have r0 := HI1.out.pos.c0
                  have r1 := HI1.out.pos.c1
                  have f0 := HI1.out.pos.fr 0
                  have f1 := HI1.out.pos.fr 1
                  have hne : w.heap.size ≠ wr.heap.size := by have := HI.out.size; omega
                  have HNE := Lib.hid hne
                  have HK : Hid (PosB (put2 W1.drew w.heap.size (.int .i64 (l : Nat)) (.int .i64 (c : Nat))) wr.heap.size l c) := Lib.hid (pos_other (pos_other (w := W1.drew) HP1.out (Ne.symm HNE.out) _ _) (Ne.symm HNE.out) _ _)
                  clear hne
                  go_wp2_with (first | (go_at_call 21; (with_reducible refine (CS.out _).mono ?_); rintro e w' ⟨rfl, rfl⟩) | (go_at_call 22; (with_reducible refine (CL.out _).mono ?_); rintro e w' ⟨rfl, rfl⟩) | (go_at_call 24; (with_reducible refine (CD.out _).mono ?_); rintro e w' ⟨rfl, rfl⟩) | (go_at_call 25; (with_reducible refine (CG.out _).mono ?_); rintro e w' ⟨rfl, rfl⟩))
                  rw [← HW1.out]
                  go_region_held3 (fun w' => w'.cell? ⟨wr.heap.size, 0, none⟩ = some (.int .i64 (l : Nat)) ∧ w'.cell? ⟨wr.heap.size, 1, none⟩ = some (.int .i64 (c : Nat)))
                    (first | exact ⟨HP1.out.c0, HP1.out.c1⟩ | exact ⟨HK.out.c0, HK.out.c1⟩ | go_keep) (first | fail)
                  all_goals
                    obtain ⟨W9, hW9⟩ : ∃ W9, W9 = put2 W1 w.heap.size (.int .i64 (l : Nat)) (.int .i64 (c : Nat)) := ⟨_, rfl⟩
                    have HF : Hid (PosB W9 w.heap.size l c) := Lib.hid (by rw [hW9]; exact pos_put HI1.out.pos l c)
                    have HB : Hid (Add w W9.drew) := Lib.hid (by rw [hW9]; exact Below.drew (below_put2 HI1.out.add (Nat.le_refl w.heap.size) _ _))
                    unfold put2 at hW9
                    have HW := Lib.hid hW9
                    clear hW9
                    go_wp2_with fail
                    rw [← HW.out]
                    have g0 := HF.out.c0
                    have g1 := HF.out.c1
                    clear HW HF r0 r1 f0 f1
                    exact bodyPost_ret (v := .tuple #[.slice none 0 0, .int .i64 ((6 : Nat) : Int), .agg #[.int .i64 (l : Nat), .int .i64 (c : Nat)]]) (by simp [results, Try.results10, go_sem, g0, g1]) rfl ⟨_, by rw [HRES.out], by rw [HRES.out]; exact ToksB.nil _, HB.out⟩
                · have hx : ((s[k].toNat : Int) == 10) = false := by rw [hb]; simp; omega
                  have hx2 : ((s[k].toNat : Int) == 35) = false := by rw [hb]; simp; omega
                  have CS : Hid (∀ w, Calls Try.prog 21 #[.int .u8 (s[k].toNat : Nat)] w (RetBo w false)) := Lib.hid fun w => by
                    have := refSpace_any (bt s k) w
                    rw [hb]
                    rw [hs] at this
                    exact this
                  have CL : Hid (∀ w, Calls Try.prog 22 #[.int .u8 (s[k].toNat : Nat)] w (RetBo w false)) := Lib.hid fun w => by
                    have := refLetter_any (bt s k) w
                    rw [hb]
                    rw [hl0] at this
                    exact this
                  have CD : Hid (∀ w, Calls Try.prog 24 #[.int .u8 (s[k].toNat : Nat)] w (RetBo w false)) := Lib.hid fun w => by
                    have := refDigit_any (bt s k) w
                    rw [hb]
                    rw [hd0] at this
                    exact this
                  have CG : Hid (∀ w, Calls Try.prog 25 #[.int .u8 (s[k].toNat : Nat)] w (RetBo w true)) := Lib.hid fun w => by
                    have := refSign_any (bt s k) w
                    rw [hb]
                    rw [hc] at this
                    exact this
                  obtain ⟨j, HJ⟩ : ∃ j, Hid (j = k + 1) := ⟨_, rfl⟩
                  have hjm : (k : Int) + 1 = (j : Int) := by have := HJ.out; omega
                  have hkj : k < j := by have := HJ.out; omega
                  have hjs : j ≤ s.size := by have := HJ.out; omega
                  have HTOK : Hid (∀ v' wx, RefI w wx v' (ts ++ [⟨3, s.extract k j, l, c⟩]) → RefL w wx s j l b v' (ts ++ [⟨3, s.extract k j, l, c⟩])) := Lib.hid fun v' wx hx => by
                    have h3 := lin_no h10
                    have h4 := beg_no h10
                    refine ⟨?_, ?_, ?_, ?_, hx⟩
                    · rw [List.length_append]
                      show ts.length + 1 ≤ j
                      omega
                    · rw [← HSC.out, scan_sign hlt hc, HJ.out, EL.out, EC.out]; rfl
                    · rw [HJ.out, h3, EL.out]
                    · rw [HJ.out, h4, EB.out]
                  clear h10 hb hs h35 hc hl0 hd0
                  obtain ⟨W1, hW1⟩ : ∃ W1, W1 = wr.alloc (.cells #[.int .i64 (l : Nat), .int .i64 (c : Nat)] 26) := ⟨_, rfl⟩
                  have hp1 : PosB W1 wr.heap.size l c := by rw [hW1]; exact pos_new wr l c
                  have HI1 := Lib.hid (show RefI w W1 u5 ts by rw [hW1]; exact HI.out.next (add_new _ _))
                  have hszp : wr.heap.size < W1.heap.size := hp1.lt
                  have HW1 := Lib.hid hW1
                  clear hW1
                  have HP1 := Lib.hid hp1
                  have c0 := hp1.c0
                  have c1 := hp1.c1
                  clear hp1
                  have hownV := HI1.out.toks
                  unfold ToksO at hownV
                  obtain ⟨q, eq⟩ : ∃ q, q = ts.length := ⟨_, rfl⟩
                  rw [← eq] at hownV
                  have hqk : q ≤ k := by rw [eq]; exact htl
                  have HOWN : Hid (∀ w', Add W1 w' → w'.ownsRow (w.heap.size + 1) 32 4 u5 q (cellsT ts)) := Lib.hid fun w' g => ownsRow_add hownV g
                  have HEQ := Lib.hid eq
                  obtain ⟨t, et⟩ : ∃ t, t = s.extract k j := ⟨_, rfl⟩
                  have HE2 : Hid (∀ g cap w0 w3, Add W1 w0 → w3.ownsRow (w.heap.size + 1) 32 4 (.slice (some ⟨g, 0, none⟩) (q + 1) cap) (q + 1) (cellsT ts ++ [.int .i64 3, .string (s.extract k j), .int .i64 (l : Nat), .int .i64 (c : Nat)]) → w0.grownBy w3 u5.ownBlock → RefL w w3 s j l b (.slice (some ⟨g, 0, none⟩) (q + 1) cap) (ts ++ [⟨3, s.extract k j, l, c⟩])) := Lib.hid fun g cap w0 w3 h1 h2 h3 =>
                    HTOK.out _ _ ((HI1.out.next h1).push (t := ⟨3, s.extract k j, l, c⟩) h3 (by rw [← HEQ.out]; exact h2))
                  have i1 : (0 : Int) ≤ (k : Int) := by omega
                  have i2' : (k : Int) ≤ (j : Int) := by omega
                  have i3 : (j : Int) ≤ (s.size : Int) := by omega
                  have hsz1 := HI1.out.size
                  clear hownV eq et t
                  have hwr : IntKind.i64.wrap (j : Int) = (j : Int) := by rw [IntKind.wrap_i64]; omega
                  go_wp2_with (first | (go_at_call 21; (with_reducible refine (CS.out _).mono ?_); rintro e w' ⟨rfl, rfl⟩) | (go_at_call 22; (with_reducible refine (CL.out _).mono ?_); rintro e w' ⟨rfl, rfl⟩) | (go_at_call 24; (with_reducible refine (CD.out _).mono ?_); rintro e w' ⟨rfl, rfl⟩) | (go_at_call 25; (with_reducible refine (CG.out _).mono ?_); rintro e w' ⟨rfl, rfl⟩))
                  rw [← HW1.out]
                  go_region_law (first
                    | (refine step_append_lies _ rfl _ _ 23 rfl (w.heap.size + 1) 32 i2 (.agg #[.int .i64 0, .string ⟨#[]⟩, .int .i64 0, .int .i64 0]) 4 40 Try.underlying23 hi2 hq0 hq1 hq2 rfl (by decide) u5 q (cellsT ts) rfl (HOWN.out _ (by first | exact Below.drew ((Below.refl _ _).alloc (Nat.le_refl _) _) | exact (Below.drew (Below.refl _ _)).alloc (Nat.le_refl _) _)) ⟨W1.heap.size, 0, none⟩ 1 1 [.int .i64 3, .string (s.extract k j), .int .i64 (l : Nat), .int .i64 (c : Nat)] (by simp [Act.eval]) rfl (fun j' u hj' => cells_four_new W1 _ _ _ _ 32 j' u hj') (by intro u hu; simp at hu; rcases hu with rfl | rfl | rfl | rfl <;> rfl) (by omega) (by unfold maxLen; omega) (by omega) (by simp; omega) _ rfl ?_; intro gc cc3 wc hownc hgrc hatc hltc))
                  all_goals
                    have HEND := Lib.hid (HE2.out gc cc3 _ wc (by first | exact Below.drew ((Below.refl _ _).alloc (Nat.le_refl _) _) | exact (Below.drew (Below.refl _ _)).alloc (Nat.le_refl _) _) hownc hgrc)
                    clear hownc hgrc hatc hltc
                    go_wp2_with fail
                    go_roundw
                    case rel => exact ⟨j, l, b, _, hjs, rfl, rfl, rfl, HEND.out⟩
                    case measure => simp [intOf]; omega
              · have hc := hd0
                clear hd0
                have hx : ((s[k].toNat : Int) == 10) = false := by rw [hb]; simp; omega
                have hx2 : ((s[k].toNat : Int) == 35) = false := by rw [hb]; simp; omega
                have CS : Hid (∀ w, Calls Try.prog 21 #[.int .u8 (s[k].toNat : Nat)] w (RetBo w false)) := Lib.hid fun w => by
                  have := refSpace_any (bt s k) w
                  rw [hb]
                  rw [hs] at this
                  exact this
                have CL : Hid (∀ w, Calls Try.prog 22 #[.int .u8 (s[k].toNat : Nat)] w (RetBo w false)) := Lib.hid fun w => by
                  have := refLetter_any (bt s k) w
                  rw [hb]
                  rw [hl0] at this
                  exact this
                have CD : Hid (∀ w, Calls Try.prog 24 #[.int .u8 (s[k].toNat : Nat)] w (RetBo w true)) := Lib.hid fun w => by
                  have := refDigit_any (bt s k) w
                  rw [hb]
                  rw [hc] at this
                  exact this
                clear hl0
                have HBAD : Hid (k + 40 < rowE digit s (k + 1) → r = ⟨2, [], l, c⟩) := Lib.hid fun h => by
                  rw [ER.out, ← HSC.out, scan_digit hlt hc, if_pos h, EL.out, EC.out]; rfl
                have HGOOD : Hid (¬ k + 40 < rowE digit s (k + 1) → scan s (rowE digit s (k + 1)) (ts ++ [⟨2, s.extract k (rowE digit s (k + 1)), l, c⟩]) = scan s 0 [] ∧ l = lin s (rowE digit s (k + 1)) ∧ b = beg s (rowE digit s (k + 1))) := Lib.hid fun h => by
                  have hsp := lin_rowE digit (fun c h => by have := digit_iff.1 h; omega) s k h10
                  refine ⟨?_, by rw [hsp.1, EL.out], by rw [hsp.2, EB.out]⟩
                  rw [← HSC.out, scan_digit hlt hc, if_neg h, EL.out, EC.out]; rfl
                clear h10 hb hs h35 hc
                go_wp2_with (first | (go_at_call 21; (with_reducible refine (CS.out _).mono ?_); rintro e w' ⟨rfl, rfl⟩) | (go_at_call 22; (with_reducible refine (CL.out _).mono ?_); rintro e w' ⟨rfl, rfl⟩) | (go_at_call 24; (with_reducible refine (CD.out _).mono ?_); rintro e w' ⟨rfl, rfl⟩))
                obtain ⟨W1, hW1⟩ : ∃ W1, W1 = wr.alloc (.cells #[.int .i64 (l : Nat), .int .i64 (c : Nat)] 26) := ⟨_, rfl⟩
                have hp1 : PosB W1 wr.heap.size l c := by rw [hW1]; exact pos_new wr l c
                have HI1 := Lib.hid (show RefI w W1 u5 ts by rw [hW1]; exact HI.out.next (add_new _ _))
                have hszp : wr.heap.size < W1.heap.size := hp1.lt
                rw [← hW1]
                clear hW1
                have HP1 := Lib.hid hp1
                have c0 := hp1.c0
                have c1 := hp1.c1
                clear hp1
                go_loop [11] (fun n => ∃ m : Nat, 1 ≤ m ∧ k + m ≤ s.size ∧ n = .int .i64 (m : Nat) ∧ Hid (rowE digit s (k + m) = rowE digit s (k + 1))) (fun n => s.size - (intOf n).toNat)
                case atStart => exact ⟨1, Nat.le_refl _, by omega, rfl, rfl⟩
                case round =>
                  obtain ⟨m, hm1, hm2, rfl, HM⟩ := hrel
                  obtain ⟨j, HJ⟩ : ∃ j, Hid (j = k + m) := ⟨_, rfl⟩
                  have hjm : (k : Int) + (m : Int) = (j : Int) := by have := HJ.out; omega
                  have hkj : k < j := by have := HJ.out; omega
                  have hjs : j ≤ s.size := by have := HJ.out; omega
                  have HMJ : Hid (rowE digit s j = rowE digit s (k + 1)) := by rw [HJ.out]; exact HM
                  clear HM hm2
                  by_cases hj : j < s.size
                  · have hbj := bt_in hj
                    cases hp : digit (bt s j)
                    · have CI : Hid (∀ w, Calls Try.prog 24 #[.int .u8 (s[j].toNat : Nat)] w (RetBo w false)) := Lib.hid fun w => by
                        have := refDigit_any (bt s j) w
                        rw [hbj]
                        rw [hp] at this
                        exact this
                      have HE := Lib.hid (show rowE digit s (k + 1) = j by rw [← HMJ.out]; exact rowE_out (by rw [hp]; simp))
                      clear hbj hp HMJ
                      by_cases hbig : 40 < m
                      · have db : decide ((40 : Int) < (m : Int)) = true := decide_eq_true (by omega)
                        have HRES := Lib.hid (HBAD.out (by rw [HE.out, HJ.out]; omega))
                        have r0 := HI1.out.pos.c0
                        have r1 := HI1.out.pos.c1
                        have f0 := HI1.out.pos.fr 0
                        have f1 := HI1.out.pos.fr 1
                        have hne : w.heap.size ≠ wr.heap.size := by have := HI.out.size; omega
                        have HNE := Lib.hid hne
                        have HK : Hid (PosB (put2 W1.drew w.heap.size (.int .i64 (l : Nat)) (.int .i64 (c : Nat))) wr.heap.size l c) := Lib.hid (pos_other (pos_other (w := W1.drew) HP1.out (Ne.symm HNE.out) _ _) (Ne.symm HNE.out) _ _)
                        clear hne
                        go_wp2_with (go_at_call 24; (with_reducible refine (CI.out _).mono ?_); rintro e w' ⟨rfl, rfl⟩)
                        go_region_held3 (fun w' => w'.cell? ⟨wr.heap.size, 0, none⟩ = some (.int .i64 (l : Nat)) ∧ w'.cell? ⟨wr.heap.size, 1, none⟩ = some (.int .i64 (c : Nat)))
                          (first | exact ⟨HP1.out.c0, HP1.out.c1⟩ | exact ⟨HK.out.c0, HK.out.c1⟩ | go_keep) (first | fail)
                        all_goals
                          obtain ⟨W9, hW9⟩ : ∃ W9, W9 = put2 W1 w.heap.size (.int .i64 (l : Nat)) (.int .i64 (c : Nat)) := ⟨_, rfl⟩
                          have HF : Hid (PosB W9 w.heap.size l c) := Lib.hid (by rw [hW9]; exact pos_put HI1.out.pos l c)
                          have HB : Hid (Add w W9.drew) := Lib.hid (by rw [hW9]; exact Below.drew (below_put2 HI1.out.add (Nat.le_refl w.heap.size) _ _))
                          unfold put2 at hW9
                          have HW := Lib.hid hW9
                          clear hW9
                          go_wp2_with fail
                          rw [← HW.out]
                          have g0 := HF.out.c0
                          have g1 := HF.out.c1
                          clear HW HF r0 r1 f0 f1
                          exact bodyPost_ret (v := .tuple #[.slice none 0 0, .int .i64 ((2 : Nat) : Int), .agg #[.int .i64 (l : Nat), .int .i64 (c : Nat)]]) (by simp [results, Try.results10, go_sem, g0, g1]) rfl ⟨_, by rw [HRES.out], by rw [HRES.out]; exact ToksB.nil _, HB.out⟩
                      · have db : decide ((40 : Int) < (m : Int)) = false := decide_eq_false (by omega)
                        have HTOK : Hid (∀ v' wx, RefI w wx v' (ts ++ [⟨2, s.extract k j, l, c⟩]) → RefL w wx s j l b v' (ts ++ [⟨2, s.extract k j, l, c⟩])) := Lib.hid fun v' wx hx => by
                          have h := HGOOD.out (by rw [HE.out, HJ.out]; omega)
                          rw [HE.out] at h
                          refine ⟨?_, h.1, h.2.1, h.2.2, hx⟩
                          rw [List.length_append]
                          show ts.length + 1 ≤ j
                          omega
                        have hownV := HI1.out.toks
                        unfold ToksO at hownV
                        obtain ⟨q, eq⟩ : ∃ q, q = ts.length := ⟨_, rfl⟩
                        rw [← eq] at hownV
                        have hqk : q ≤ k := by rw [eq]; exact htl
                        have HOWN : Hid (∀ w', Add W1 w' → w'.ownsRow (w.heap.size + 1) 32 4 u5 q (cellsT ts)) := Lib.hid fun w' g => ownsRow_add hownV g
                        have HEQ := Lib.hid eq
                        obtain ⟨t, et⟩ : ∃ t, t = s.extract k j := ⟨_, rfl⟩
                        have HE2 : Hid (∀ g cap w0 w3, Add W1 w0 → w3.ownsRow (w.heap.size + 1) 32 4 (.slice (some ⟨g, 0, none⟩) (q + 1) cap) (q + 1) (cellsT ts ++ [.int .i64 2, .string (s.extract k j), .int .i64 (l : Nat), .int .i64 (c : Nat)]) → w0.grownBy w3 u5.ownBlock → RefL w w3 s j l b (.slice (some ⟨g, 0, none⟩) (q + 1) cap) (ts ++ [⟨2, s.extract k j, l, c⟩])) := Lib.hid fun g cap w0 w3 h1 h2 h3 =>
                          HTOK.out _ _ ((HI1.out.next h1).push (t := ⟨2, s.extract k j, l, c⟩) h3 (by rw [← HEQ.out]; exact h2))
                        have i1 : (0 : Int) ≤ (k : Int) := by omega
                        have i2' : (k : Int) ≤ (j : Int) := by omega
                        have i3 : (j : Int) ≤ (s.size : Int) := by omega
                        have hsz1 := HI1.out.size
                        clear hownV eq et t
                        have hwr : IntKind.i64.wrap (j : Int) = (j : Int) := by rw [IntKind.wrap_i64]; omega
                        go_wp2_with (go_at_call 24; (with_reducible refine (CI.out _).mono ?_); rintro e w' ⟨rfl, rfl⟩)
                        go_region_law (first
                          | (refine step_append_lies _ rfl _ _ 23 rfl (w.heap.size + 1) 32 i2 (.agg #[.int .i64 0, .string ⟨#[]⟩, .int .i64 0, .int .i64 0]) 4 40 Try.underlying23 hi2 hq0 hq1 hq2 rfl (by decide) u5 q (cellsT ts) rfl (HOWN.out _ (by first | exact Below.drew ((Below.refl _ _).alloc (Nat.le_refl _) _) | exact (Below.drew (Below.refl _ _)).alloc (Nat.le_refl _) _)) ⟨W1.heap.size, 0, none⟩ 1 1 [.int .i64 2, .string (s.extract k j), .int .i64 (l : Nat), .int .i64 (c : Nat)] (by simp [Act.eval]) rfl (fun j' u hj' => cells_four_new W1 _ _ _ _ 32 j' u hj') (by intro u hu; simp at hu; rcases hu with rfl | rfl | rfl | rfl <;> rfl) (by omega) (by unfold maxLen; omega) (by omega) (by simp; omega) _ rfl ?_; intro gc cc3 wc hownc hgrc hatc hltc))
                        all_goals
                          have HEND := Lib.hid (HE2.out gc cc3 _ wc (by first | exact Below.drew ((Below.refl _ _).alloc (Nat.le_refl _) _) | exact (Below.drew (Below.refl _ _)).alloc (Nat.le_refl _) _) hownc hgrc)
                          clear hownc hgrc hatc hltc
                          go_wp2_with fail
                          go_roundw
                          case rel => exact ⟨j, l, b, _, hjs, rfl, rfl, rfl, HEND.out⟩
                          case measure => simp [intOf]; omega
                    · have CI : Hid (∀ w, Calls Try.prog 24 #[.int .u8 (s[j].toNat : Nat)] w (RetBo w true)) := Lib.hid fun w => by
                        have := refDigit_any (bt s j) w
                        rw [hbj]
                        rw [hp] at this
                        exact this
                      have HNX : Hid (rowE digit s (k + (m + 1)) = rowE digit s (k + 1)) := Lib.hid (by rw [← HMJ.out, rowE_in hj hp]; have := HJ.out; congr 1; omega)
                      have hjs1 : k + (m + 1) ≤ s.size := by have := HJ.out; omega
                      clear hbj hp HMJ
                      go_wp2_with (go_at_call 24; (with_reducible refine (CI.out _).mono ?_); rintro e w' ⟨rfl, rfl⟩)
                      go_round
                      case rel => exact ⟨m + 1, by omega, hjs1, by go_num, HNX⟩
                      case measure => simp [intOf]; omega
                  · have HE := Lib.hid (show rowE digit s (k + 1) = j by rw [← HMJ.out]; exact rowE_out (by omega))
                    clear HMJ
                    by_cases hbig : 40 < m
                    · have db : decide ((40 : Int) < (m : Int)) = true := decide_eq_true (by omega)
                      have HRES := Lib.hid (HBAD.out (by rw [HE.out, HJ.out]; omega))
                      have r0 := HI1.out.pos.c0
                      have r1 := HI1.out.pos.c1
                      have f0 := HI1.out.pos.fr 0
                      have f1 := HI1.out.pos.fr 1
                      have hne : w.heap.size ≠ wr.heap.size := by have := HI.out.size; omega
                      have HNE := Lib.hid hne
                      have HK : Hid (PosB (put2 W1.drew w.heap.size (.int .i64 (l : Nat)) (.int .i64 (c : Nat))) wr.heap.size l c) := Lib.hid (pos_other (pos_other (w := W1.drew) HP1.out (Ne.symm HNE.out) _ _) (Ne.symm HNE.out) _ _)
                      clear hne
                      go_wp2_with (fail)
                      go_region_held3 (fun w' => w'.cell? ⟨wr.heap.size, 0, none⟩ = some (.int .i64 (l : Nat)) ∧ w'.cell? ⟨wr.heap.size, 1, none⟩ = some (.int .i64 (c : Nat)))
                        (first | exact ⟨HP1.out.c0, HP1.out.c1⟩ | exact ⟨HK.out.c0, HK.out.c1⟩ | go_keep) (first | fail)
                      all_goals
                        obtain ⟨W9, hW9⟩ : ∃ W9, W9 = put2 W1 w.heap.size (.int .i64 (l : Nat)) (.int .i64 (c : Nat)) := ⟨_, rfl⟩
                        have HF : Hid (PosB W9 w.heap.size l c) := Lib.hid (by rw [hW9]; exact pos_put HI1.out.pos l c)
                        have HB : Hid (Add w W9.drew) := Lib.hid (by rw [hW9]; exact Below.drew (below_put2 HI1.out.add (Nat.le_refl w.heap.size) _ _))
                        unfold put2 at hW9
                        have HW := Lib.hid hW9
                        clear hW9
                        go_wp2_with fail
                        rw [← HW.out]
                        have g0 := HF.out.c0
                        have g1 := HF.out.c1
                        clear HW HF r0 r1 f0 f1
                        exact bodyPost_ret (v := .tuple #[.slice none 0 0, .int .i64 ((2 : Nat) : Int), .agg #[.int .i64 (l : Nat), .int .i64 (c : Nat)]]) (by simp [results, Try.results10, go_sem, g0, g1]) rfl ⟨_, by rw [HRES.out], by rw [HRES.out]; exact ToksB.nil _, HB.out⟩
                    · have db : decide ((40 : Int) < (m : Int)) = false := decide_eq_false (by omega)
                      have HTOK : Hid (∀ v' wx, RefI w wx v' (ts ++ [⟨2, s.extract k j, l, c⟩]) → RefL w wx s j l b v' (ts ++ [⟨2, s.extract k j, l, c⟩])) := Lib.hid fun v' wx hx => by
                        have h := HGOOD.out (by rw [HE.out, HJ.out]; omega)
                        rw [HE.out] at h
                        refine ⟨?_, h.1, h.2.1, h.2.2, hx⟩
                        rw [List.length_append]
                        show ts.length + 1 ≤ j
                        omega
                      have hownV := HI1.out.toks
                      unfold ToksO at hownV
                      obtain ⟨q, eq⟩ : ∃ q, q = ts.length := ⟨_, rfl⟩
                      rw [← eq] at hownV
                      have hqk : q ≤ k := by rw [eq]; exact htl
                      have HOWN : Hid (∀ w', Add W1 w' → w'.ownsRow (w.heap.size + 1) 32 4 u5 q (cellsT ts)) := Lib.hid fun w' g => ownsRow_add hownV g
                      have HEQ := Lib.hid eq
                      obtain ⟨t, et⟩ : ∃ t, t = s.extract k j := ⟨_, rfl⟩
                      have HE2 : Hid (∀ g cap w0 w3, Add W1 w0 → w3.ownsRow (w.heap.size + 1) 32 4 (.slice (some ⟨g, 0, none⟩) (q + 1) cap) (q + 1) (cellsT ts ++ [.int .i64 2, .string (s.extract k j), .int .i64 (l : Nat), .int .i64 (c : Nat)]) → w0.grownBy w3 u5.ownBlock → RefL w w3 s j l b (.slice (some ⟨g, 0, none⟩) (q + 1) cap) (ts ++ [⟨2, s.extract k j, l, c⟩])) := Lib.hid fun g cap w0 w3 h1 h2 h3 =>
                        HTOK.out _ _ ((HI1.out.next h1).push (t := ⟨2, s.extract k j, l, c⟩) h3 (by rw [← HEQ.out]; exact h2))
                      have i1 : (0 : Int) ≤ (k : Int) := by omega
                      have i2' : (k : Int) ≤ (j : Int) := by omega
                      have i3 : (j : Int) ≤ (s.size : Int) := by omega
                      have hsz1 := HI1.out.size
                      clear hownV eq et t
                      have hwr : IntKind.i64.wrap (j : Int) = (j : Int) := by rw [IntKind.wrap_i64]; omega
                      go_wp2_with (fail)
                      go_region_law (first
                        | (refine step_append_lies _ rfl _ _ 23 rfl (w.heap.size + 1) 32 i2 (.agg #[.int .i64 0, .string ⟨#[]⟩, .int .i64 0, .int .i64 0]) 4 40 Try.underlying23 hi2 hq0 hq1 hq2 rfl (by decide) u5 q (cellsT ts) rfl (HOWN.out _ (by first | exact Below.drew ((Below.refl _ _).alloc (Nat.le_refl _) _) | exact (Below.drew (Below.refl _ _)).alloc (Nat.le_refl _) _)) ⟨W1.heap.size, 0, none⟩ 1 1 [.int .i64 2, .string (s.extract k j), .int .i64 (l : Nat), .int .i64 (c : Nat)] (by simp [Act.eval]) rfl (fun j' u hj' => cells_four_new W1 _ _ _ _ 32 j' u hj') (by intro u hu; simp at hu; rcases hu with rfl | rfl | rfl | rfl <;> rfl) (by omega) (by unfold maxLen; omega) (by omega) (by simp; omega) _ rfl ?_; intro gc cc3 wc hownc hgrc hatc hltc))
                      all_goals
                        have HEND := Lib.hid (HE2.out gc cc3 _ wc (by first | exact Below.drew ((Below.refl _ _).alloc (Nat.le_refl _) _) | exact (Below.drew (Below.refl _ _)).alloc (Nat.le_refl _) _) hownc hgrc)
                        clear hownc hgrc hatc hltc
                        go_wp2_with fail
                        go_roundw
                        case rel => exact ⟨j, l, b, _, hjs, rfl, rfl, rfl, HEND.out⟩
                        case measure => simp [intOf]; omega
            · have hc := hl0
              clear hl0
              have hx : ((s[k].toNat : Int) == 10) = false := by rw [hb]; simp; omega
              have hx2 : ((s[k].toNat : Int) == 35) = false := by rw [hb]; simp; omega
              have CS : Hid (∀ w, Calls Try.prog 21 #[.int .u8 (s[k].toNat : Nat)] w (RetBo w false)) := Lib.hid fun w => by
                have := refSpace_any (bt s k) w
                rw [hb]
                rw [hs] at this
                exact this
              have CL : Hid (∀ w, Calls Try.prog 22 #[.int .u8 (s[k].toNat : Nat)] w (RetBo w true)) := Lib.hid fun w => by
                have := refLetter_any (bt s k) w
                rw [hb]
                rw [hc] at this
                exact this
              have HBAD : Hid (k + 16 < rowE inName s (k + 1) → r = ⟨2, [], l, c⟩) := Lib.hid fun h => by
                rw [ER.out, ← HSC.out, scan_letter hlt hc, if_pos h, EL.out, EC.out]; rfl
              have HGOOD : Hid (¬ k + 16 < rowE inName s (k + 1) → scan s (rowE inName s (k + 1)) (ts ++ [⟨1, s.extract k (rowE inName s (k + 1)), l, c⟩]) = scan s 0 [] ∧ l = lin s (rowE inName s (k + 1)) ∧ b = beg s (rowE inName s (k + 1))) := Lib.hid fun h => by
                have hsp := lin_rowE inName (fun c h => by have := inName_iff.1 h; omega) s k h10
                refine ⟨?_, by rw [hsp.1, EL.out], by rw [hsp.2, EB.out]⟩
                rw [← HSC.out, scan_letter hlt hc, if_neg h, EL.out, EC.out]; rfl
              clear h10 hb hs h35 hc
              go_wp2_with (first | (go_at_call 21; (with_reducible refine (CS.out _).mono ?_); rintro e w' ⟨rfl, rfl⟩) | (go_at_call 22; (with_reducible refine (CL.out _).mono ?_); rintro e w' ⟨rfl, rfl⟩))
              obtain ⟨W1, hW1⟩ : ∃ W1, W1 = wr.alloc (.cells #[.int .i64 (l : Nat), .int .i64 (c : Nat)] 26) := ⟨_, rfl⟩
              have hp1 : PosB W1 wr.heap.size l c := by rw [hW1]; exact pos_new wr l c
              have HI1 := Lib.hid (show RefI w W1 u5 ts by rw [hW1]; exact HI.out.next (add_new _ _))
              have hszp : wr.heap.size < W1.heap.size := hp1.lt
              rw [← hW1]
              clear hW1
              have HP1 := Lib.hid hp1
              have c0 := hp1.c0
              have c1 := hp1.c1
              clear hp1
              go_loop [11] (fun n => ∃ m : Nat, 1 ≤ m ∧ k + m ≤ s.size ∧ n = .int .i64 (m : Nat) ∧ Hid (rowE inName s (k + m) = rowE inName s (k + 1))) (fun n => s.size - (intOf n).toNat)
              case atStart => exact ⟨1, Nat.le_refl _, by omega, rfl, rfl⟩
              case round =>
                obtain ⟨m, hm1, hm2, rfl, HM⟩ := hrel
                obtain ⟨j, HJ⟩ : ∃ j, Hid (j = k + m) := ⟨_, rfl⟩
                have hjm : (k : Int) + (m : Int) = (j : Int) := by have := HJ.out; omega
                have hkj : k < j := by have := HJ.out; omega
                have hjs : j ≤ s.size := by have := HJ.out; omega
                have HMJ : Hid (rowE inName s j = rowE inName s (k + 1)) := by rw [HJ.out]; exact HM
                clear HM hm2
                by_cases hj : j < s.size
                · have hbj := bt_in hj
                  cases hp : inName (bt s j)
                  · have CI : Hid (∀ w, Calls Try.prog 23 #[.int .u8 (s[j].toNat : Nat)] w (RetBo w false)) := Lib.hid fun w => by
                      have := refInName_any (bt s j) w
                      rw [hbj]
                      rw [hp] at this
                      exact this
                    have HE := Lib.hid (show rowE inName s (k + 1) = j by rw [← HMJ.out]; exact rowE_out (by rw [hp]; simp))
                    clear hbj hp HMJ
                    by_cases hbig : 16 < m
                    · have db : decide ((16 : Int) < (m : Int)) = true := decide_eq_true (by omega)
                      have HRES := Lib.hid (HBAD.out (by rw [HE.out, HJ.out]; omega))
                      have r0 := HI1.out.pos.c0
                      have r1 := HI1.out.pos.c1
                      have f0 := HI1.out.pos.fr 0
                      have f1 := HI1.out.pos.fr 1
                      have hne : w.heap.size ≠ wr.heap.size := by have := HI.out.size; omega
                      have HNE := Lib.hid hne
                      have HK : Hid (PosB (put2 W1.drew w.heap.size (.int .i64 (l : Nat)) (.int .i64 (c : Nat))) wr.heap.size l c) := Lib.hid (pos_other (pos_other (w := W1.drew) HP1.out (Ne.symm HNE.out) _ _) (Ne.symm HNE.out) _ _)
                      clear hne
                      go_wp2_with (go_at_call 23; (with_reducible refine (CI.out _).mono ?_); rintro e w' ⟨rfl, rfl⟩)
                      go_region_held3 (fun w' => w'.cell? ⟨wr.heap.size, 0, none⟩ = some (.int .i64 (l : Nat)) ∧ w'.cell? ⟨wr.heap.size, 1, none⟩ = some (.int .i64 (c : Nat)))
                        (first | exact ⟨HP1.out.c0, HP1.out.c1⟩ | exact ⟨HK.out.c0, HK.out.c1⟩ | go_keep) (first | fail)
                      all_goals
                        obtain ⟨W9, hW9⟩ : ∃ W9, W9 = put2 W1 w.heap.size (.int .i64 (l : Nat)) (.int .i64 (c : Nat)) := ⟨_, rfl⟩
                        have HF : Hid (PosB W9 w.heap.size l c) := Lib.hid (by rw [hW9]; exact pos_put HI1.out.pos l c)
                        have HB : Hid (Add w W9.drew) := Lib.hid (by rw [hW9]; exact Below.drew (below_put2 HI1.out.add (Nat.le_refl w.heap.size) _ _))
                        unfold put2 at hW9
                        have HW := Lib.hid hW9
                        clear hW9
                        go_wp2_with fail
                        rw [← HW.out]
                        have g0 := HF.out.c0
                        have g1 := HF.out.c1
                        clear HW HF r0 r1 f0 f1
                        exact bodyPost_ret (v := .tuple #[.slice none 0 0, .int .i64 ((2 : Nat) : Int), .agg #[.int .i64 (l : Nat), .int .i64 (c : Nat)]]) (by simp [results, Try.results10, go_sem, g0, g1]) rfl ⟨_, by rw [HRES.out], by rw [HRES.out]; exact ToksB.nil _, HB.out⟩
                    · have db : decide ((16 : Int) < (m : Int)) = false := decide_eq_false (by omega)
                      have HTOK : Hid (∀ v' wx, RefI w wx v' (ts ++ [⟨1, s.extract k j, l, c⟩]) → RefL w wx s j l b v' (ts ++ [⟨1, s.extract k j, l, c⟩])) := Lib.hid fun v' wx hx => by
                        have h := HGOOD.out (by rw [HE.out, HJ.out]; omega)
                        rw [HE.out] at h
                        refine ⟨?_, h.1, h.2.1, h.2.2, hx⟩
                        rw [List.length_append]
                        show ts.length + 1 ≤ j
                        omega
                      have hownV := HI1.out.toks
                      unfold ToksO at hownV
                      obtain ⟨q, eq⟩ : ∃ q, q = ts.length := ⟨_, rfl⟩
                      rw [← eq] at hownV
                      have hqk : q ≤ k := by rw [eq]; exact htl
                      have HOWN : Hid (∀ w', Add W1 w' → w'.ownsRow (w.heap.size + 1) 32 4 u5 q (cellsT ts)) := Lib.hid fun w' g => ownsRow_add hownV g
                      have HEQ := Lib.hid eq
                      obtain ⟨t, et⟩ : ∃ t, t = s.extract k j := ⟨_, rfl⟩
                      have HE2 : Hid (∀ g cap w0 w3, Add W1 w0 → w3.ownsRow (w.heap.size + 1) 32 4 (.slice (some ⟨g, 0, none⟩) (q + 1) cap) (q + 1) (cellsT ts ++ [.int .i64 1, .string (s.extract k j), .int .i64 (l : Nat), .int .i64 (c : Nat)]) → w0.grownBy w3 u5.ownBlock → RefL w w3 s j l b (.slice (some ⟨g, 0, none⟩) (q + 1) cap) (ts ++ [⟨1, s.extract k j, l, c⟩])) := Lib.hid fun g cap w0 w3 h1 h2 h3 =>
                        HTOK.out _ _ ((HI1.out.next h1).push (t := ⟨1, s.extract k j, l, c⟩) h3 (by rw [← HEQ.out]; exact h2))
                      have i1 : (0 : Int) ≤ (k : Int) := by omega
                      have i2' : (k : Int) ≤ (j : Int) := by omega
                      have i3 : (j : Int) ≤ (s.size : Int) := by omega
                      have hsz1 := HI1.out.size
                      clear hownV eq et t
                      have hwr : IntKind.i64.wrap (j : Int) = (j : Int) := by rw [IntKind.wrap_i64]; omega
                      go_wp2_with (go_at_call 23; (with_reducible refine (CI.out _).mono ?_); rintro e w' ⟨rfl, rfl⟩)
                      go_region_law (first
                        | (refine step_append_lies _ rfl _ _ 23 rfl (w.heap.size + 1) 32 i2 (.agg #[.int .i64 0, .string ⟨#[]⟩, .int .i64 0, .int .i64 0]) 4 40 Try.underlying23 hi2 hq0 hq1 hq2 rfl (by decide) u5 q (cellsT ts) rfl (HOWN.out _ (by first | exact Below.drew ((Below.refl _ _).alloc (Nat.le_refl _) _) | exact (Below.drew (Below.refl _ _)).alloc (Nat.le_refl _) _)) ⟨W1.heap.size, 0, none⟩ 1 1 [.int .i64 1, .string (s.extract k j), .int .i64 (l : Nat), .int .i64 (c : Nat)] (by simp [Act.eval]) rfl (fun j' u hj' => cells_four_new W1 _ _ _ _ 32 j' u hj') (by intro u hu; simp at hu; rcases hu with rfl | rfl | rfl | rfl <;> rfl) (by omega) (by unfold maxLen; omega) (by omega) (by simp; omega) _ rfl ?_; intro gc cc3 wc hownc hgrc hatc hltc))
                      all_goals
                        have HEND := Lib.hid (HE2.out gc cc3 _ wc (by first | exact Below.drew ((Below.refl _ _).alloc (Nat.le_refl _) _) | exact (Below.drew (Below.refl _ _)).alloc (Nat.le_refl _) _) hownc hgrc)
                        clear hownc hgrc hatc hltc
                        go_wp2_with fail
                        go_roundw
                        case rel => exact ⟨j, l, b, _, hjs, rfl, rfl, rfl, HEND.out⟩
                        case measure => simp [intOf]; omega
                  · have CI : Hid (∀ w, Calls Try.prog 23 #[.int .u8 (s[j].toNat : Nat)] w (RetBo w true)) := Lib.hid fun w => by
                      have := refInName_any (bt s j) w
                      rw [hbj]
                      rw [hp] at this
                      exact this
                    have HNX : Hid (rowE inName s (k + (m + 1)) = rowE inName s (k + 1)) := Lib.hid (by rw [← HMJ.out, rowE_in hj hp]; have := HJ.out; congr 1; omega)
                    have hjs1 : k + (m + 1) ≤ s.size := by have := HJ.out; omega
                    clear hbj hp HMJ
                    go_wp2_with (go_at_call 23; (with_reducible refine (CI.out _).mono ?_); rintro e w' ⟨rfl, rfl⟩)
                    go_round
                    case rel => exact ⟨m + 1, by omega, hjs1, by go_num, HNX⟩
                    case measure => simp [intOf]; omega
                · have HE := Lib.hid (show rowE inName s (k + 1) = j by rw [← HMJ.out]; exact rowE_out (by omega))
                  clear HMJ
                  by_cases hbig : 16 < m
                  · have db : decide ((16 : Int) < (m : Int)) = true := decide_eq_true (by omega)
                    have HRES := Lib.hid (HBAD.out (by rw [HE.out, HJ.out]; omega))
                    have r0 := HI1.out.pos.c0
                    have r1 := HI1.out.pos.c1
                    have f0 := HI1.out.pos.fr 0
                    have f1 := HI1.out.pos.fr 1
                    have hne : w.heap.size ≠ wr.heap.size := by have := HI.out.size; omega
                    have HNE := Lib.hid hne
                    have HK : Hid (PosB (put2 W1.drew w.heap.size (.int .i64 (l : Nat)) (.int .i64 (c : Nat))) wr.heap.size l c) := Lib.hid (pos_other (pos_other (w := W1.drew) HP1.out (Ne.symm HNE.out) _ _) (Ne.symm HNE.out) _ _)
                    clear hne
                    go_wp2_with (fail)
                    go_region_held3 (fun w' => w'.cell? ⟨wr.heap.size, 0, none⟩ = some (.int .i64 (l : Nat)) ∧ w'.cell? ⟨wr.heap.size, 1, none⟩ = some (.int .i64 (c : Nat)))
                      (first | exact ⟨HP1.out.c0, HP1.out.c1⟩ | exact ⟨HK.out.c0, HK.out.c1⟩ | go_keep) (first | fail)
                    all_goals
                      obtain ⟨W9, hW9⟩ : ∃ W9, W9 = put2 W1 w.heap.size (.int .i64 (l : Nat)) (.int .i64 (c : Nat)) := ⟨_, rfl⟩
                      have HF : Hid (PosB W9 w.heap.size l c) := Lib.hid (by rw [hW9]; exact pos_put HI1.out.pos l c)
                      have HB : Hid (Add w W9.drew) := Lib.hid (by rw [hW9]; exact Below.drew (below_put2 HI1.out.add (Nat.le_refl w.heap.size) _ _))
                      unfold put2 at hW9
                      have HW := Lib.hid hW9
                      clear hW9
                      go_wp2_with fail
                      rw [← HW.out]
                      have g0 := HF.out.c0
                      have g1 := HF.out.c1
                      clear HW HF r0 r1 f0 f1
                      exact bodyPost_ret (v := .tuple #[.slice none 0 0, .int .i64 ((2 : Nat) : Int), .agg #[.int .i64 (l : Nat), .int .i64 (c : Nat)]]) (by simp [results, Try.results10, go_sem, g0, g1]) rfl ⟨_, by rw [HRES.out], by rw [HRES.out]; exact ToksB.nil _, HB.out⟩
                  · have db : decide ((16 : Int) < (m : Int)) = false := decide_eq_false (by omega)
                    have HTOK : Hid (∀ v' wx, RefI w wx v' (ts ++ [⟨1, s.extract k j, l, c⟩]) → RefL w wx s j l b v' (ts ++ [⟨1, s.extract k j, l, c⟩])) := Lib.hid fun v' wx hx => by
                      have h := HGOOD.out (by rw [HE.out, HJ.out]; omega)
                      rw [HE.out] at h
                      refine ⟨?_, h.1, h.2.1, h.2.2, hx⟩
                      rw [List.length_append]
                      show ts.length + 1 ≤ j
                      omega
                    have hownV := HI1.out.toks
                    unfold ToksO at hownV
                    obtain ⟨q, eq⟩ : ∃ q, q = ts.length := ⟨_, rfl⟩
                    rw [← eq] at hownV
                    have hqk : q ≤ k := by rw [eq]; exact htl
                    have HOWN : Hid (∀ w', Add W1 w' → w'.ownsRow (w.heap.size + 1) 32 4 u5 q (cellsT ts)) := Lib.hid fun w' g => ownsRow_add hownV g
                    have HEQ := Lib.hid eq
                    obtain ⟨t, et⟩ : ∃ t, t = s.extract k j := ⟨_, rfl⟩
                    have HE2 : Hid (∀ g cap w0 w3, Add W1 w0 → w3.ownsRow (w.heap.size + 1) 32 4 (.slice (some ⟨g, 0, none⟩) (q + 1) cap) (q + 1) (cellsT ts ++ [.int .i64 1, .string (s.extract k j), .int .i64 (l : Nat), .int .i64 (c : Nat)]) → w0.grownBy w3 u5.ownBlock → RefL w w3 s j l b (.slice (some ⟨g, 0, none⟩) (q + 1) cap) (ts ++ [⟨1, s.extract k j, l, c⟩])) := Lib.hid fun g cap w0 w3 h1 h2 h3 =>
                      HTOK.out _ _ ((HI1.out.next h1).push (t := ⟨1, s.extract k j, l, c⟩) h3 (by rw [← HEQ.out]; exact h2))
                    have i1 : (0 : Int) ≤ (k : Int) := by omega
                    have i2' : (k : Int) ≤ (j : Int) := by omega
                    have i3 : (j : Int) ≤ (s.size : Int) := by omega
                    have hsz1 := HI1.out.size
                    clear hownV eq et t
                    have hwr : IntKind.i64.wrap (j : Int) = (j : Int) := by rw [IntKind.wrap_i64]; omega
                    go_wp2_with (fail)
                    go_region_law (first
                      | (refine step_append_lies _ rfl _ _ 23 rfl (w.heap.size + 1) 32 i2 (.agg #[.int .i64 0, .string ⟨#[]⟩, .int .i64 0, .int .i64 0]) 4 40 Try.underlying23 hi2 hq0 hq1 hq2 rfl (by decide) u5 q (cellsT ts) rfl (HOWN.out _ (by first | exact Below.drew ((Below.refl _ _).alloc (Nat.le_refl _) _) | exact (Below.drew (Below.refl _ _)).alloc (Nat.le_refl _) _)) ⟨W1.heap.size, 0, none⟩ 1 1 [.int .i64 1, .string (s.extract k j), .int .i64 (l : Nat), .int .i64 (c : Nat)] (by simp [Act.eval]) rfl (fun j' u hj' => cells_four_new W1 _ _ _ _ 32 j' u hj') (by intro u hu; simp at hu; rcases hu with rfl | rfl | rfl | rfl <;> rfl) (by omega) (by unfold maxLen; omega) (by omega) (by simp; omega) _ rfl ?_; intro gc cc3 wc hownc hgrc hatc hltc))
                    all_goals
                      have HEND := Lib.hid (HE2.out gc cc3 _ wc (by first | exact Below.drew ((Below.refl _ _).alloc (Nat.le_refl _) _) | exact (Below.drew (Below.refl _ _)).alloc (Nat.le_refl _) _) hownc hgrc)
                      clear hownc hgrc hatc hltc
                      go_wp2_with fail
                      go_roundw
                      case rel => exact ⟨j, l, b, _, hjs, rfl, rfl, rfl, HEND.out⟩
                      case measure => simp [intOf]; omega
        · have hx : ((s[k].toNat : Int) == 10) = false := by rw [hb]; simp; omega
          have CS : Hid (∀ w, Calls Try.prog 21 #[.int .u8 (s[k].toNat : Nat)] w (RetBo w true)) := Lib.hid fun w => by
            have := refSpace_any (bt s k) w
            rw [hb]
            rw [hs] at this
            exact this
          have HN : Hid (∀ wx, Add wr wx → RefL w wx s (k + 1) l b u5 ts) := Lib.hid fun wx hx => ⟨by omega, by rw [← HSC.out, scan_space hlt hs], by rw [lin_no h10, EL.out], by rw [beg_no h10, EB.out], HI.out.next hx⟩
          clear h10 hb hs
          go_wp2_with (go_at_call 21; (with_reducible refine (CS.out _).mono ?_); rintro e w' ⟨rfl, rfl⟩)
          go_roundw
          case rel => exact ⟨k + 1, l, b, ts, by omega, rfl, rfl, by go_num, HN.out _ (add_new _ _)⟩
          case measure => simp [intOf]; omega
    · obtain rfl : k = s.size := by omega
      have hres : r = ⟨0, ts ++ [⟨4, ⟨#[]⟩, l, c⟩], 0, 0⟩ := by rw [ER.out, ← HSC.out, scan_end (Nat.le_refl _), EL.out, EC.out]; rfl
      have HRES := Lib.hid hres
      have hownV := HI.out.toks
      unfold ToksO at hownV
      have hsz := HI.out.size
      obtain ⟨q, eq⟩ : ∃ q, q = ts.length := ⟨_, rfl⟩
      rw [← eq] at hownV htl
      have EQ := Lib.hid eq
      clear eq hres
      go_wp2_with (at_builtin; refine wpList_append_own_at _ rfl _ _ 23 rfl (w.heap.size + 1) 32 i2 (.agg #[.int .i64 0, .string ⟨#[]⟩, .int .i64 0, .int .i64 0]) 4 40 Try.underlying23 hi2 hq0 hq1 hq2 rfl (by decide) _ _ _ rfl (World.ownsRow.alloc hownV _) ⟨wr.heap.size, 0, none⟩ 1 1 [.int .i64 4, .string ⟨#[]⟩, .int .i64 (l : Nat), .int .i64 (c : Nat)] rfl rfl (cells_four_new _ _ _ _ _ _) (by intro u hu; simp at hu; rcases hu with rfl | rfl | rfl | rfl <;> rfl) (by unfold maxLen; omega) (by omega) (by simp; omega) ?_)
      intro v' w3 hown3 hgr3 _ _
      have h3 := (HI.out.next (add_new _ _)).push (t := ⟨4, ⟨#[]⟩, l, c⟩) hgr3 (by rw [← EQ.out]; exact hown3)
      have p0 := h3.pos.c0
      have p1 := h3.pos.c1
      have f0 := h3.pos.fr 0
      have f1 := h3.pos.fr 1
      obtain ⟨W9, hW9⟩ : ∃ W9, W9 = put2 w3 w.heap.size (.int .i64 0) (.int .i64 0) := ⟨_, rfl⟩
      have HF : Hid (PosB W9 w.heap.size 0 0) := Lib.hid (by rw [hW9]; exact pos_put h3.pos 0 0)
      have HB : Hid (Add w W9) := Lib.hid (by rw [hW9]; exact below_put2 h3.add (Nat.le_refl w.heap.size) _ _)
      have HT : Hid (ToksB W9 v' (ts ++ [⟨4, ⟨#[]⟩, l, c⟩])) := Lib.hid (by
        refine ToksO.toks (base := w.heap.size + 1) ?_ (by rw [List.length_append, ← EQ.out]; show q + 1 ≤ _; omega)
        rw [hW9]
        unfold put2
        exact ownsRow_setCell_below (ownsRow_setCell_below h3.toks (by show w.heap.size < _; omega) _) (by show w.heap.size < _; omega) _)
      unfold put2 at hW9
      have HW := Lib.hid hW9
      clear h3 hown3 hgr3 hownV hW9
      go_wp2_with fail
      rw [← HW.out]
      have q0 := HF.out.c0
      have q1 := HF.out.c1
      clear HW HF p0 p1 f0 f1
      exact bodyPost_ret (v := .tuple #[v', .int .i64 ((0 : Nat) : Int), .agg #[.int .i64 ((0 : Nat) : Int), .int .i64 ((0 : Nat) : Int)]]) (by simp [results, Try.results10, go_sem, q0, q1]) rfl ⟨_, by rw [HRES.out], by rw [HRES.out]; exact HT.out, HB.out⟩
theorem refScan_any (s : ByteArray) (w : World) (hs : s.size ≤ 1000000) : Calls Try.prog 10 #[.string s] w (ScanP w (scanT s)) := by
  unfold scanT
  by_cases h : 8000 < s.size
  · rw [if_pos h]; exact refScan_long s w hs h
  · rw [if_neg h]; exact refScan_short s w (by omega)
end Go.Proofs.Ytdgpcijiempmdaa
