/- Package lexer: row and token. -/
import Derived.Test.YtdgpcijiempmdaaK6
namespace Go.Proofs.Ytdgpcijiempmdaa
open Go.RowKit LxM

theorem tok_drewN {w : World} {g : Nat} {t : Tok} (h : TokB w g t) (n : Nat) : TokB (w.drewN n) g t := h
/-- The variables of a function that returns a token. -/
theorem tok_start (w : World) : ∃ W, W = w.alloc (.cells #[.int .i64 0, .string ⟨#[]⟩, .int .i64 0, .int .i64 0] 32) ∧ TokB W w.heap.size zeroTok ∧ Add w W := ⟨_, rfl, tok_new w, add_new w _⟩

set_option maxRecDepth 100000 in
set_option maxHeartbeats 2000000 in
theorem row_any (F : Nat) (p : Nat → Bool) {g : Nat} {s : ByteArray} {i k lim : Nat} {w : World} (h : Sc w g s i) (hi : i ≤ s.size) (hs : s.size ≤ 1000000)
    (eF : ∀ args w, (callFunc F args).run Try.prog w = .ok (.enter F args) w) (C : Hid (∀ (c : Nat) (w : World), c < 256 → Calls Try.prog F #[.int .u8 (c : Nat)] w (RetBo w (p c)))) :
    Calls Try.prog 32 #[.pointer (some ⟨g, 0, none⟩), .int .i64 (k : Nat), .func (.func F) #[] #[], .int .i64 (lim : Nat)] w
      (RetTokE w (if i + lim < rowE p s i then zeroTok else tokAt s k i (rowE p s i)) (if i + lim < rowE p s i then 2 else 0)) := by
  have CR : Hid (∀ w, Calls Try.prog 27 #[.string s, .int .i64 (i : Nat), .func (.func F) #[] #[]] w (RetI w (rowE p s i))) := Lib.hid fun w => rowEnd_any F p s i w hs hi eF C
  have hge := rowE_ge p s i
  have hle := rowE_le p s i hi
  obtain ⟨e, he⟩ : ∃ e, e = rowE p s i := ⟨_, rfl⟩
  rw [← he] at CR hge hle ⊢
  obtain ⟨t, ht⟩ : ∃ t, t = s.extract i e := ⟨_, rfl⟩
  obtain ⟨l, hl⟩ : ∃ l, l = lin s i := ⟨_, rfl⟩
  obtain ⟨c, hc⟩ : ∃ c, c = col s i := ⟨_, rfl⟩
  have htok : tokAt s k i e = ⟨k, t, l, c⟩ := by rw [ht, hl, hc]; rfl
  have HS := Lib.hid h
  have HNE := Lib.hid (show g ≠ w.heap.size from Nat.ne_of_lt h.lt)
  have CT : Hid (∀ w', Sc w' g s i → Calls Try.prog 35 #[.pointer (some ⟨g, 0, none⟩), .int .i64 (k : Nat), .int .i64 (e : Nat)] w' (fun e2 w2 => e2 = .returned (.agg #[.int .i64 (k : Nat), .string t, .int .i64 (l : Nat), .int .i64 (c : Nat)]) ∧ Add w' w2)) := Lib.hid fun w' hh => by rw [ht, hl, hc]; exact take_any hh hge hle hs
  rw [htok]
  clear h he C eF htok ht hl hc
  by_cases hb : i + lim < e
  · have d1 : decide ((lim : Int) < (e : Int) - (i : Int)) = true := decide_eq_true (by omega)
    rw [if_pos hb, if_pos hb]
    clear hb
    go_enter Try.func32, Try.ntmps32
    go_wp2_with fail
    obtain ⟨W, hW, hTW, hA⟩ := tok_start w
    have hSW : Sc W g s i := HS.out.mono hA
    rw [← hW]
    clear hW
    have c0 := hSW.c0
    have c1 := hSW.c1
    have HSW := Lib.hid hSW
    have HTW := Lib.hid hTW
    have HA := Lib.hid hA
    clear hSW hTW hA
    go_wp2_with fail
    go_quiet ((go_at_call 27; exact (CR.out _).mono fun _ _ h => ⟨h.1, _, h.2.symm⟩))
    have t0 := HTW.out.c0
    have t1 := HTW.out.c1
    have t2 := HTW.out.c2
    have t3 := HTW.out.c3
    have f0 := HTW.out.fr 0
    have f1 := HTW.out.fr 1
    have f2 := HTW.out.fr 2
    have f3 := HTW.out.fr 3
    go_wp2_with fail
    obtain ⟨W9, hW9⟩ : ∃ W9, W9 = put4 (W.drewN nq) w.heap.size (.int .i64 0) (.string ⟨#[]⟩) (.int .i64 0) (.int .i64 0) := ⟨_, rfl⟩
    have HF : Hid (TokB W9 w.heap.size zeroTok) := Lib.hid (by rw [hW9]; exact tok_put (tok_drewN HTW.out nq) zeroTok)
    have HB : Hid (Add w W9) := Lib.hid (by rw [hW9]; exact below_put4 (Add.trans HA.out (below_drewN (Below.refl _ _) nq)) (Nat.le_refl w.heap.size) _ _ _ _)
    unfold put4 at hW9
    rw [← hW9]
    have p0 := HF.out.c0
    have p1 := HF.out.c1
    have p2 := HF.out.c2
    have p3 := HF.out.c3
    clear hW9 HF t0 t1 t2 t3 f0 f1 f2 f3
    exact bodyPost_ret (v := .tuple #[tokV zeroTok, .int .i64 ((2 : Nat) : Int)]) (by simp [results, Try.results32, go_sem, p0, p1, p2, p3, tokV]) rfl ⟨rfl, HB.out⟩
  · have d1 : decide ((lim : Int) < (e : Int) - (i : Int)) = false := decide_eq_false (by omega)
    rw [if_neg hb, if_neg hb]
    clear hb
    go_enter Try.func32, Try.ntmps32
    go_wp2_with fail
    obtain ⟨W, hW, hTW, hA⟩ := tok_start w
    have hSW : Sc W g s i := HS.out.mono hA
    rw [← hW]
    clear hW
    have c0 := hSW.c0
    have c1 := hSW.c1
    have HSW := Lib.hid hSW
    have HTW := Lib.hid hTW
    have HA := Lib.hid hA
    clear hSW hTW hA
    go_wp2_with fail
    go_quiet ((go_at_call 27; exact (CR.out _).mono fun _ _ h => ⟨h.1, _, h.2.symm⟩))
    go_wp2_with fail
    refine (CT.out (W.drewN nq) HSW.out).mono ?_
    rintro e' w8 ⟨rfl, hq⟩
    have hB3 := (tok_drewN HTW.out nq).mono hq
    have t0 := hB3.c0
    have t1 := hB3.c1
    have t2 := hB3.c2
    have t3 := hB3.c3
    have f0 := hB3.fr 0
    have f1 := hB3.fr 1
    have f2 := hB3.fr 2
    have f3 := hB3.fr 3
    have HF := Lib.hid (tok_put hB3 ⟨k, t, l, c⟩)
    have HB := Lib.hid (below_put4 (Add.trans (Add.trans HA.out (below_drewN (Below.refl _ _) nq)) hq) (Nat.le_refl w.heap.size) (.int .i64 (k : Nat)) (.string t) (.int .i64 (l : Nat)) (.int .i64 (c : Nat)))
    clear hq hB3
    go_wp2_with fail
    obtain ⟨W9, hW9⟩ : ∃ W9, W9 = put4 w8 w.heap.size (.int .i64 (k : Nat)) (.string t) (.int .i64 (l : Nat)) (.int .i64 (c : Nat)) := ⟨_, rfl⟩
    rw [← hW9] at HF HB
    unfold put4 at hW9
    rw [← hW9]
    have p0 := HF.out.c0
    have p1 := HF.out.c1
    have p2 := HF.out.c2
    have p3 := HF.out.c3
    clear hW9 HF t0 t1 t2 t3 f0 f1 f2 f3
    exact bodyPost_ret (v := .tuple #[tokV ⟨k, t, l, c⟩, .int .i64 ((0 : Nat) : Int)]) (by simp [results, Try.results32, go_sem, p0, p1, p2, p3, tokV]) rfl ⟨rfl, HB.out⟩
end Go.Proofs.Ytdgpcijiempmdaa
