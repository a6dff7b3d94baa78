/- Package lexer: token. -/
import Derived.Test.YtdgpcijiempmdaaK7
namespace Go.Proofs.Ytdgpcijiempmdaa
open Go.RowKit LxM

set_option maxRecDepth 100000 in
set_option maxHeartbeats 2000000 in
theorem token_letter {g : Nat} {s : ByteArray} {i : Nat} {w : World} (h : Sc w g s i) (hi : i < s.size) (hs : s.size ≤ 1000000) (hc : letter (bt s i) = true) :
    Calls Try.prog 19 #[.pointer (some ⟨g, 0, none⟩)] w (RetTokE w (tokR s i).1 (tokR s i).2) := by
  have hb := bt_in hi
  have CL : Hid (∀ w, Calls Try.prog 26 #[.int .u8 (s[i].toNat : Nat)] w (RetBo w true)) := Lib.hid fun w => by
    have := isLetter_any (bt s i) w
    rw [hb]
    rw [hc] at this
    exact this
  have ht : tokR s i = (if i + 16 < rowE inName s i then zeroTok else tokAt s 1 i (rowE inName s i), if i + 16 < rowE inName s i then 2 else 0) := by
    unfold tokR
    rw [if_pos hc]
    by_cases c : i + 16 < rowE inName s i
    · rw [if_pos c, if_pos c, if_pos c]; rfl
    · rw [if_neg c, if_neg c, if_neg c]
  obtain ⟨⟨⟨k, t, l, c⟩, n⟩, hr⟩ : ∃ r, tokR s i = r := ⟨_, rfl⟩
  rw [hr] at ht ⊢
  simp only [Prod.mk.injEq] at ht
  have HS := Lib.hid h
  have CR : Hid (∀ w', Sc w' g s i → Calls Try.prog 32 #[.pointer (some ⟨g, 0, none⟩), .int .i64 1, .func (.func 28) #[] #[], .int .i64 16] w' (fun e2 w2 => e2 = .returned (.tuple #[.agg #[.int .i64 (k : Nat), .string t, .int .i64 (l : Nat), .int .i64 (c : Nat)], .int .i64 (n : Nat)]) ∧ Add w' w2)) := Lib.hid fun w' hh => by
    have := row_any 28 inName (k := 1) (lim := 16) hh (by omega) hs eNameByte (Lib.hid fun c w _ => isNameByte_any c w)
    rw [← ht.1, ← ht.2] at this
    exact this
  clear h ht hr hb hc
  go_enter Try.func19, Try.ntmps19
  go_wp2_with fail
  obtain ⟨W, hW, hTW, hA⟩ := tok_start w
  have hSW : Sc W g s i := HS.out.mono hA
  rw [← hW]
  clear hW
  have c0 := hSW.c0
  have c1 := hSW.c1
  have HSW := Lib.hid hSW
  have HTW := Lib.hid hTW
  have HA := Lib.hid hA
  clear hSW hTW hA
  go_wp2_with fail
  go_quiet (fail)
  go_wp2_with (go_at_call 26; (with_reducible refine (CL.out _).mono ?_); rintro e w' ⟨rfl, rfl⟩)
  refine (CR.out (W.drewN nq) HSW.out).mono ?_
  rintro e' w8 ⟨rfl, hq⟩
  have hB3 := (tok_drewN HTW.out nq).mono hq
  have t0 := hB3.c0
  have t1 := hB3.c1
  have t2 := hB3.c2
  have t3 := hB3.c3
  have f0 := hB3.fr 0
  have f1 := hB3.fr 1
  have f2 := hB3.fr 2
  have f3 := hB3.fr 3
  have HF := Lib.hid (tok_put hB3 ⟨k, t, l, c⟩)
  have HB := Lib.hid (below_put4 (Add.trans (Add.trans HA.out (below_drewN (Below.refl _ _) nq)) hq) (Nat.le_refl w.heap.size) (.int .i64 (k : Nat)) (.string t) (.int .i64 (l : Nat)) (.int .i64 (c : Nat)))
  clear hq hB3
  go_wp2_with fail
  obtain ⟨W9, hW9⟩ : ∃ W9, W9 = put4 w8 w.heap.size (.int .i64 (k : Nat)) (.string t) (.int .i64 (l : Nat)) (.int .i64 (c : Nat)) := ⟨_, rfl⟩
  rw [← hW9] at HF HB
  unfold put4 at hW9
  rw [← hW9]
  have p0 := HF.out.c0
  have p1 := HF.out.c1
  have p2 := HF.out.c2
  have p3 := HF.out.c3
  clear hW9 HF t0 t1 t2 t3 f0 f1 f2 f3
  exact bodyPost_ret (v := .tuple #[tokV ⟨k, t, l, c⟩, .int .i64 (n : Nat)]) (by simp [results, Try.results19, go_sem, p0, p1, p2, p3, tokV]) rfl ⟨rfl, HB.out⟩

set_option maxRecDepth 100000 in
set_option maxHeartbeats 2000000 in
theorem token_digit {g : Nat} {s : ByteArray} {i : Nat} {w : World} (h : Sc w g s i) (hi : i < s.size) (hs : s.size ≤ 1000000) (hc : letter (bt s i) = false ∧ digit (bt s i) = true) :
    Calls Try.prog 19 #[.pointer (some ⟨g, 0, none⟩)] w (RetTokE w (tokR s i).1 (tokR s i).2) := by
  have hb := bt_in hi
  have CL : Hid (∀ w, Calls Try.prog 26 #[.int .u8 (s[i].toNat : Nat)] w (RetBo w false)) := Lib.hid fun w => by
    have := isLetter_any (bt s i) w
    rw [hb]
    rw [hc.1] at this
    exact this
  have CD : Hid (∀ w, Calls Try.prog 33 #[.int .u8 (s[i].toNat : Nat)] w (RetBo w true)) := Lib.hid fun w => by
    have := isDigit_any (bt s i) w
    rw [hb]
    rw [hc.2] at this
    exact this
  have ht : tokR s i = (if i + 40 < rowE digit s i then zeroTok else tokAt s 2 i (rowE digit s i), if i + 40 < rowE digit s i then 2 else 0) := by
    unfold tokR
    rw [if_neg (by rw [hc.1]; decide), if_pos hc.2]
    by_cases c : i + 40 < rowE digit s i
    · rw [if_pos c, if_pos c, if_pos c]; rfl
    · rw [if_neg c, if_neg c, if_neg c]
  obtain ⟨⟨⟨k, t, l, c⟩, n⟩, hr⟩ : ∃ r, tokR s i = r := ⟨_, rfl⟩
  rw [hr] at ht ⊢
  simp only [Prod.mk.injEq] at ht
  have HS := Lib.hid h
  have CR : Hid (∀ w', Sc w' g s i → Calls Try.prog 32 #[.pointer (some ⟨g, 0, none⟩), .int .i64 2, .func (.func 33) #[] #[], .int .i64 40] w' (fun e2 w2 => e2 = .returned (.tuple #[.agg #[.int .i64 (k : Nat), .string t, .int .i64 (l : Nat), .int .i64 (c : Nat)], .int .i64 (n : Nat)]) ∧ Add w' w2)) := Lib.hid fun w' hh => by
    have := row_any 33 digit (k := 2) (lim := 40) hh (by omega) hs eDigit (Lib.hid fun c w _ => isDigit_any c w)
    rw [← ht.1, ← ht.2] at this
    exact this
  clear h ht hr hb hc
  go_enter Try.func19, Try.ntmps19
  go_wp2_with fail
  obtain ⟨W, hW, hTW, hA⟩ := tok_start w
  have hSW : Sc W g s i := HS.out.mono hA
  rw [← hW]
  clear hW
  have c0 := hSW.c0
  have c1 := hSW.c1
  have HSW := Lib.hid hSW
  have HTW := Lib.hid hTW
  have HA := Lib.hid hA
  clear hSW hTW hA
  go_wp2_with fail
  go_quiet (fail)
  go_wp2_with (first | (go_at_call 26; (with_reducible refine (CL.out _).mono ?_); rintro e w' ⟨rfl, rfl⟩) | (go_at_call 33; (with_reducible refine (CD.out _).mono ?_); rintro e w' ⟨rfl, rfl⟩))
  refine (CR.out (W.drewN nq) HSW.out).mono ?_
  rintro e' w8 ⟨rfl, hq⟩
  have hB3 := (tok_drewN HTW.out nq).mono hq
  have t0 := hB3.c0
  have t1 := hB3.c1
  have t2 := hB3.c2
  have t3 := hB3.c3
  have f0 := hB3.fr 0
  have f1 := hB3.fr 1
  have f2 := hB3.fr 2
  have f3 := hB3.fr 3
  have HF := Lib.hid (tok_put hB3 ⟨k, t, l, c⟩)
  have HB := Lib.hid (below_put4 (Add.trans (Add.trans HA.out (below_drewN (Below.refl _ _) nq)) hq) (Nat.le_refl w.heap.size) (.int .i64 (k : Nat)) (.string t) (.int .i64 (l : Nat)) (.int .i64 (c : Nat)))
  clear hq hB3
  go_wp2_with fail
  obtain ⟨W9, hW9⟩ : ∃ W9, W9 = put4 w8 w.heap.size (.int .i64 (k : Nat)) (.string t) (.int .i64 (l : Nat)) (.int .i64 (c : Nat)) := ⟨_, rfl⟩
  rw [← hW9] at HF HB
  unfold put4 at hW9
  rw [← hW9]
  have p0 := HF.out.c0
  have p1 := HF.out.c1
  have p2 := HF.out.c2
  have p3 := HF.out.c3
  clear hW9 HF t0 t1 t2 t3 f0 f1 f2 f3
  exact bodyPost_ret (v := .tuple #[tokV ⟨k, t, l, c⟩, .int .i64 (n : Nat)]) (by simp [results, Try.results19, go_sem, p0, p1, p2, p3, tokV]) rfl ⟨rfl, HB.out⟩

set_option maxRecDepth 100000 in
set_option maxHeartbeats 2000000 in
theorem token_sign {g : Nat} {s : ByteArray} {i : Nat} {w : World} (h : Sc w g s i) (hi : i < s.size) (hs : s.size ≤ 1000000) (hc : letter (bt s i) = false ∧ digit (bt s i) = false ∧ sign (bt s i) = true) :
    Calls Try.prog 19 #[.pointer (some ⟨g, 0, none⟩)] w (RetTokE w (tokR s i).1 (tokR s i).2) := by
  have hb := bt_in hi
  have CL : Hid (∀ w, Calls Try.prog 26 #[.int .u8 (s[i].toNat : Nat)] w (RetBo w false)) := Lib.hid fun w => by
    have := isLetter_any (bt s i) w
    rw [hb]
    rw [hc.1] at this
    exact this
  have CD : Hid (∀ w, Calls Try.prog 33 #[.int .u8 (s[i].toNat : Nat)] w (RetBo w false)) := Lib.hid fun w => by
    have := isDigit_any (bt s i) w
    rw [hb]
    rw [hc.2.1] at this
    exact this
  have CG : Hid (∀ w, Calls Try.prog 34 #[.int .u8 (s[i].toNat : Nat)] w (RetBo w true)) := Lib.hid fun w => by
    have := isSign_any (bt s i) (bt_lt _ _) w
    rw [hb]
    rw [hc.2.2] at this
    exact this
  have ht : tokR s i = (tokAt s 3 i (i + 1), 0) := by
    unfold tokR
    rw [if_neg (by rw [hc.1]; decide), if_neg (by rw [hc.2.1]; decide), if_pos hc.2.2]
  rw [ht]
  show Calls _ _ _ _ (RetTokE w (tokAt s 3 i (i + 1)) 0)
  obtain ⟨k, hk⟩ : ∃ k, k = 3 := ⟨_, rfl⟩
  obtain ⟨t, htt⟩ : ∃ t, t = s.extract i (i + 1) := ⟨_, rfl⟩
  obtain ⟨l, hl⟩ : ∃ l, l = lin s i := ⟨_, rfl⟩
  obtain ⟨c, hcc⟩ : ∃ c, c = col s i := ⟨_, rfl⟩
  have htok : tokAt s 3 i (i + 1) = ⟨k, t, l, c⟩ := by rw [hk, htt, hl, hcc]; rfl
  have HS := Lib.hid h
  have e1 : IntKind.i64.wrap ((i : Int) + 1) = (i : Int) + 1 := by rw [IntKind.wrap_i64]; omega
  have CT : Hid (∀ w', Sc w' g s i → Calls Try.prog 35 #[.pointer (some ⟨g, 0, none⟩), .int .i64 3, .int .i64 ((i : Int) + 1)] w' (fun e2 w2 => e2 = .returned (.agg #[.int .i64 (k : Nat), .string t, .int .i64 (l : Nat), .int .i64 (c : Nat)]) ∧ Add w' w2)) := Lib.hid fun w' hh => by
    rw [htt, hl, hcc, hk]; exact take_any (k := 3) (e := i + 1) hh (by omega) (by omega) hs
  rw [htok]
  clear h ht htok hk htt hl hcc hb hc
  go_enter Try.func19, Try.ntmps19
  go_wp2_with fail
  obtain ⟨W, hW, hTW, hA⟩ := tok_start w
  have hSW : Sc W g s i := HS.out.mono hA
  rw [← hW]
  clear hW
  have c0 := hSW.c0
  have c1 := hSW.c1
  have HSW := Lib.hid hSW
  have HTW := Lib.hid hTW
  have HA := Lib.hid hA
  clear hSW hTW hA
  go_wp2_with fail
  go_quiet (fail)
  go_wp2_with (first | (go_at_call 26; (with_reducible refine (CL.out _).mono ?_); rintro e w' ⟨rfl, rfl⟩) | (go_at_call 33; (with_reducible refine (CD.out _).mono ?_); rintro e w' ⟨rfl, rfl⟩) | (go_at_call 34; (with_reducible refine (CG.out _).mono ?_); rintro e w' ⟨rfl, rfl⟩))
  refine (CT.out (W.drewN nq) HSW.out).mono ?_
  rintro e' w8 ⟨rfl, hq⟩
  have hB3 := (tok_drewN HTW.out nq).mono hq
  have t0 := hB3.c0
  have t1 := hB3.c1
  have t2 := hB3.c2
  have t3 := hB3.c3
  have f0 := hB3.fr 0
  have f1 := hB3.fr 1
  have f2 := hB3.fr 2
  have f3 := hB3.fr 3
  have HF := Lib.hid (tok_put hB3 ⟨k, t, l, c⟩)
  have HB := Lib.hid (below_put4 (Add.trans (Add.trans HA.out (below_drewN (Below.refl _ _) nq)) hq) (Nat.le_refl w.heap.size) (.int .i64 (k : Nat)) (.string t) (.int .i64 (l : Nat)) (.int .i64 (c : Nat)))
  clear hq hB3
  go_wp2_with fail
  obtain ⟨W9, hW9⟩ : ∃ W9, W9 = put4 w8 w.heap.size (.int .i64 (k : Nat)) (.string t) (.int .i64 (l : Nat)) (.int .i64 (c : Nat)) := ⟨_, rfl⟩
  rw [← hW9] at HF HB
  unfold put4 at hW9
  rw [← hW9]
  have p0 := HF.out.c0
  have p1 := HF.out.c1
  have p2 := HF.out.c2
  have p3 := HF.out.c3
  clear hW9 HF t0 t1 t2 t3 f0 f1 f2 f3
  exact bodyPost_ret (v := .tuple #[tokV ⟨k, t, l, c⟩, .int .i64 ((0 : Nat) : Int)]) (by simp [results, Try.results19, go_sem, p0, p1, p2, p3, tokV]) rfl ⟨rfl, HB.out⟩

set_option maxRecDepth 100000 in
set_option maxHeartbeats 2000000 in
theorem token_none {g : Nat} {s : ByteArray} {i : Nat} {w : World} (h : Sc w g s i) (hi : i < s.size) (hc : letter (bt s i) = false ∧ digit (bt s i) = false ∧ sign (bt s i) = false) :
    Calls Try.prog 19 #[.pointer (some ⟨g, 0, none⟩)] w (RetTokE w (tokR s i).1 (tokR s i).2) := by
  have hb := bt_in hi
  have CL : Hid (∀ w, Calls Try.prog 26 #[.int .u8 (s[i].toNat : Nat)] w (RetBo w false)) := Lib.hid fun w => by
    have := isLetter_any (bt s i) w
    rw [hb]
    rw [hc.1] at this
    exact this
  have CD : Hid (∀ w, Calls Try.prog 33 #[.int .u8 (s[i].toNat : Nat)] w (RetBo w false)) := Lib.hid fun w => by
    have := isDigit_any (bt s i) w
    rw [hb]
    rw [hc.2.1] at this
    exact this
  have CG : Hid (∀ w, Calls Try.prog 34 #[.int .u8 (s[i].toNat : Nat)] w (RetBo w false)) := Lib.hid fun w => by
    have := isSign_any (bt s i) (bt_lt _ _) w
    rw [hb]
    rw [hc.2.2] at this
    exact this
  have ht : tokR s i = (zeroTok, 6) := by
    unfold tokR
    rw [if_neg (by rw [hc.1]; decide), if_neg (by rw [hc.2.1]; decide), if_neg (by rw [hc.2.2]; decide)]; rfl
  rw [ht]
  show Calls _ _ _ _ (RetTokE w zeroTok 6)
  have HS := Lib.hid h
  clear h ht hb hc
  go_enter Try.func19, Try.ntmps19
  go_wp2_with fail
  obtain ⟨W, hW, hTW, hA⟩ := tok_start w
  have hSW : Sc W g s i := HS.out.mono hA
  rw [← hW]
  clear hW
  have c0 := hSW.c0
  have c1 := hSW.c1
  have HSW := Lib.hid hSW
  have HTW := Lib.hid hTW
  have HA := Lib.hid hA
  clear hSW hTW hA
  go_wp2_with fail
  go_quiet (fail)
  have t0 := HTW.out.c0
  have t1 := HTW.out.c1
  have t2 := HTW.out.c2
  have t3 := HTW.out.c3
  have f0 := HTW.out.fr 0
  have f1 := HTW.out.fr 1
  have f2 := HTW.out.fr 2
  have f3 := HTW.out.fr 3
  go_wp2_with (first | (go_at_call 26; (with_reducible refine (CL.out _).mono ?_); rintro e w' ⟨rfl, rfl⟩) | (go_at_call 33; (with_reducible refine (CD.out _).mono ?_); rintro e w' ⟨rfl, rfl⟩) | (go_at_call 34; (with_reducible refine (CG.out _).mono ?_); rintro e w' ⟨rfl, rfl⟩))
  obtain ⟨W9, hW9⟩ : ∃ W9, W9 = put4 (W.drewN nq) w.heap.size (.int .i64 0) (.string ⟨#[]⟩) (.int .i64 0) (.int .i64 0) := ⟨_, rfl⟩
  have HF : Hid (TokB W9 w.heap.size zeroTok) := Lib.hid (by rw [hW9]; exact tok_put (tok_drewN HTW.out nq) zeroTok)
  have HB : Hid (Add w W9) := Lib.hid (by rw [hW9]; exact below_put4 (Add.trans HA.out (below_drewN (Below.refl _ _) nq)) (Nat.le_refl w.heap.size) _ _ _ _)
  unfold put4 at hW9
  rw [← hW9]
  have p0 := HF.out.c0
  have p1 := HF.out.c1
  have p2 := HF.out.c2
  have p3 := HF.out.c3
  clear hW9 HF t0 t1 t2 t3 f0 f1 f2 f3
  exact bodyPost_ret (v := .tuple #[tokV zeroTok, .int .i64 ((6 : Nat) : Int)]) (by simp [results, Try.results19, go_sem, p0, p1, p2, p3, tokV]) rfl ⟨rfl, HB.out⟩

theorem token_any {g : Nat} {s : ByteArray} {i : Nat} {w : World} (h : Sc w g s i) (hi : i < s.size) (hs : s.size ≤ 1000000) :
    Calls Try.prog 19 #[.pointer (some ⟨g, 0, none⟩)] w (RetTokE w (tokR s i).1 (tokR s i).2) := by
  cases h1 : letter (bt s i)
  · cases h2 : digit (bt s i)
    · cases h3 : sign (bt s i)
      · exact token_none h hi ⟨h1, h2, h3⟩
      · exact token_sign h hi hs ⟨h1, h2, h3⟩
    · exact token_digit h hi hs ⟨h1, h2⟩
  · exact token_letter h hi hs h1
end Go.Proofs.Ytdgpcijiempmdaa
