/- Package lexer: pass and skip. -/
import Derived.Test.YtdgpcijiempmdaaK3
namespace Go.Proofs.Ytdgpcijiempmdaa
open Go.RowKit LxM

theorem add_grown {w w' : World} {n : Nat} {r : Option Nat} (h : (w.drewN n).grownBy w' r) : w.grownBy w' r := ⟨h.1, h.2, h.3, h.4, h.5⟩
set_option maxRecDepth 100000 in
set_option maxHeartbeats 1000000 in
theorem pass_any (F : Nat) (p : Nat → Bool) {g : Nat} {s : ByteArray} {i : Nat} {w : World} (h : Sc w g s i) (hi : i ≤ s.size) (hs : s.size ≤ 1000000)
    (eF : ∀ args w, (callFunc F args).run Try.prog w = .ok (.enter F args) w) (C : Hid (∀ (c : Nat) (w : World), c < 256 → Calls Try.prog F #[.int .u8 (c : Nat)] w (RetBo w (p c)))) :
    Calls Try.prog 29 #[.pointer (some ⟨g, 0, none⟩), .func (.func F) #[] #[]] w (MvP w g s (rowE p s i)) := by
  have CR : Hid (∀ w, Calls Try.prog 27 #[.string s, .int .i64 (i : Nat), .func (.func F) #[] #[]] w (RetI w (rowE p s i))) := Lib.hid fun w => rowEnd_any F p s i w hs hi eF C
  have hge := rowE_ge p s i
  have hle := rowE_le p s i hi
  obtain ⟨e, he⟩ : ∃ e, e = rowE p s i := ⟨_, rfl⟩
  rw [← he] at CR hge hle ⊢
  have c0 := h.c0
  have c1 := h.c1
  have CM : Hid (Calls Try.prog 15 #[.pointer (some ⟨g, 0, none⟩), .int .i64 (e : Nat)] w.drew (MvP w g s e)) := Lib.hid ((moveTo_any (w := w.drew) h hge hle (by omega) (by unfold maxLen; omega)).mono fun _ _ h => ⟨h.1, ⟨h.2.1.1, h.2.1.2, h.2.1.3, h.2.1.4, h.2.1.5⟩, h.2.2⟩)
  clear h he C eF
  go_enter Try.func29, Try.ntmps29
  go_wp2_with fail
  go_still_tail 11, (by kernel_rfl)
  still_call ((CR.out _).mono fun _ _ h => ⟨h.1, h.2.symm⟩)
  repeat still_step
  try refine wpStill_nil ?_
  change wpList _ _ _ _ _ w.drew
  go_wp2_with (go_at_call 15; (with_reducible refine CM.out.mono ?_); rintro e w' ⟨rfl, hm⟩)
  go_end0
  exact ⟨rfl, by assumption⟩

theorem eSpace : ∀ args w, (callFunc 30 args).run Try.prog w = .ok (.enter 30 args) w := enters_of Try.func30 (by kernel_rfl) rfl
theorem eNotLF : ∀ args w, (callFunc 31 args).run Try.prog w = .ok (.enter 31 args) w := enters_of Try.func31 (by kernel_rfl) rfl
theorem eNameByte : ∀ args w, (callFunc 28 args).run Try.prog w = .ok (.enter 28 args) w := enters_of Try.func28 (by kernel_rfl) rfl
theorem eDigit : ∀ args w, (callFunc 33 args).run Try.prog w = .ok (.enter 33 args) w := enters_of Try.func33 (by kernel_rfl) rfl
theorem passSpace {g : Nat} {s : ByteArray} {i : Nat} {w : World} (h : Sc w g s i) (hi : i ≤ s.size) (hs : s.size ≤ 1000000) :
    Calls Try.prog 29 #[.pointer (some ⟨g, 0, none⟩), .func (.func 30) #[] #[]] w (MvP w g s (rowE space s i)) :=
  pass_any _ space h hi hs eSpace (Lib.hid fun c w _ => isSpace_any c w)
theorem passNotLF {g : Nat} {s : ByteArray} {i : Nat} {w : World} (h : Sc w g s i) (hi : i ≤ s.size) (hs : s.size ≤ 1000000) :
    Calls Try.prog 29 #[.pointer (some ⟨g, 0, none⟩), .func (.func 31) #[] #[]] w (MvP w g s (rowE notLF s i)) :=
  pass_any _ notLF h hi hs eNotLF (Lib.hid fun c w _ => notLF_any c w)

/-- Behind skip. -/
def SkP (w : World) (g : Nat) (s : ByteArray) (i : Nat) (e : Ending) (w' : World) : Prop := e = .returned (.tuple #[]) ∧ ∃ j, i ≤ j ∧ j ≤ s.size ∧ Skips s i j ∧ Stops s j ∧ Mv w w' g s j
def SkR (w : World) (g : Nat) (s : ByteArray) (i : Nat) (wr : World) : Prop := ∃ j, i ≤ j ∧ j ≤ s.size ∧ Skips s i j ∧ (j < s.size → space (bt s j) = false) ∧ Mv w wr g s j
theorem Mv.drewN {w w' : World} {g : Nat} {s : ByteArray} {i : Nat} (h : Mv w w' g s i) (n : Nat) : Mv w (w'.drewN n) g s i := ⟨⟨h.1.1, h.1.2, h.1.3, h.1.4, h.1.5⟩, h.2⟩
theorem row_stop_space (s : ByteArray) (i : Nat) (h : rowE space s i < s.size) : space (bt s (rowE space s i)) = false := by
  have := rowE_stop space s i
  cases e : space (bt s (rowE space s i))
  · rfl
  · exact absurd ⟨h, e⟩ this

set_option maxRecDepth 100000 in
set_option maxHeartbeats 1000000 in
theorem skip_any {g : Nat} {s : ByteArray} {i : Nat} {w : World} (h : Sc w g s i) (hi : i ≤ s.size) (hs : s.size ≤ 1000000) :
    Calls Try.prog 17 #[.pointer (some ⟨g, 0, none⟩)] w (SkP w g s i) := by
  have CS : Hid (Calls Try.prog 29 #[.pointer (some ⟨g, 0, none⟩), .func (.func 30) #[] #[]] w (MvP w g s (rowE space s i))) := Lib.hid (passSpace h hi hs)
  clear h
  go_enter Try.func17, Try.ntmps17
  go_wp2_with (go_at_call 29; (with_reducible refine CS.out.mono ?_); rintro e w1 ⟨rfl, hm1⟩; have HM1 := Lib.hid hm1; clear hm1)
  rename World => w1
  have HM1 : Hid (Mv w w1 g s (rowE space s i)) := by assumption
  go_loopw [] (fun wr => SkR w g s i wr) (fun wr => s.size - nxt wr g)
  case atStart => exact ⟨_, rowE_ge _ _ _, rowE_le _ _ _ hi, skips_space s i, row_stop_space s i, HM1.out⟩
  case round =>
    obtain ⟨j, h1, h2, h3, h4, h5⟩ := hrel
    have c0 := h5.2.c0
    have c1 := h5.2.c1
    have CA : Hid (∀ n, Calls Try.prog 18 #[.pointer (some ⟨g, 0, none⟩)] (wr.drewN n) (fun e w' => e = .returned (.bool (decide (j = s.size))) ∧ ∃ m, w' = (wr.drewN n).drewN m)) := Lib.hid fun n => atEnd_any g s j _ h5.2
    have H3 := Lib.hid h3
    have H4 := Lib.hid h4
    have H5 := Lib.hid h5
    clear h3 h4 h5
    by_cases hlt : j < s.size
    · have hd : decide (j = s.size) = false := decide_eq_false (by omega)
      rw [hd] at CA
      clear hd
      have hb := bt_in hlt
      by_cases hc : bt s j = 35
      · have hx : ((s[j].toNat : Int) == 35) = true := by rw [hb, hc]; rfl
        have HC := Lib.hid hc
        clear hc hb
        have hj2 := rowE_le notLF s j h2
        have hj3 : j < rowE notLF s j := by
          rw [rowE_in hlt (by rw [HC.out]; decide)]
          have := rowE_ge notLF s (j + 1); omega
        have CP1 : Hid (∀ n, Calls Try.prog 29 #[.pointer (some ⟨g, 0, none⟩), .func (.func 31) #[] #[]] (wr.drewN n) (MvP (wr.drewN n) g s (rowE notLF s j))) := Lib.hid fun n => passNotLF (w := wr.drewN n) H5.out.2 h2 hs
        have CP2 : Hid (∀ wx, Sc wx g s (rowE notLF s j) → Calls Try.prog 29 #[.pointer (some ⟨g, 0, none⟩), .func (.func 30) #[] #[]] wx (MvP wx g s (rowE space s (rowE notLF s j)))) := Lib.hid fun wx hx => passSpace hx hj2 hs
        have HE : Hid (∀ n w2 w3, Mv (wr.drewN n) w2 g s (rowE notLF s j) → Mv w2 w3 g s (rowE space s (rowE notLF s j)) → SkR w g s i w3 ∧ s.size - nxt w3 g < s.size - nxt wr g) := Lib.hid (fun n w2 w3 a b => by
          have hge := rowE_ge space s (rowE notLF s j)
          have hm : Mv w w3 g s (rowE space s (rowE notLF s j)) := (H5.out.drewN n).trans (a.trans b)
          refine ⟨⟨_, by omega, rowE_le _ _ _ hj2, (H3.out.trans (skips_comment hlt HC.out)).trans (skips_space _ _), row_stop_space _ _, hm⟩, ?_⟩
          rw [hm.2.nxt, H5.out.2.nxt]; omega)
        clear hj2 hj3
        go_wp2_with fail
        go_quiet ((go_at_call 18; with_reducible exact Calls.quiet_of (CA.out _)))
        go_wp2_with fail
        refine (CP1.out _).mono ?_
        rintro e w2 ⟨rfl, hm2⟩
        have HM2 := Lib.hid hm2
        clear hm2
        go_wp2_with fail
        refine (CP2.out _ HM2.out.2).mono ?_
        rintro e w3 ⟨rfl, hm3⟩
        have HM3 := Lib.hid hm3
        clear hm3
        go_wp2_with fail
        go_roundw
        case rel => exact (HE.out _ _ _ HM2.out HM3.out).1
        case measure => exact (HE.out _ _ _ HM2.out HM3.out).2
      · have hx : ((s[j].toNat : Int) == 35) = false := by rw [hb]; simp; omega
        have HC := Lib.hid hc
        clear hc hb
        go_wp2_with fail
        go_quiet ((go_at_call 18; with_reducible exact Calls.quiet_of (CA.out _)))
        go_wp2_with fail
        go_end0
        exact ⟨rfl, j, h1, h2, H3.out, fun _ => ⟨H4.out hlt, HC.out⟩, H5.out.drewN _⟩
    · have hd : decide (j = s.size) = true := decide_eq_true (by omega)
      rw [hd] at CA
      clear hd
      go_wp2_with fail
      go_quiet ((go_at_call 18; with_reducible exact Calls.quiet_of (CA.out _)))
      go_wp2_with fail
      go_end0
      exact ⟨rfl, j, h1, h2, H3.out, fun h => absurd h hlt, H5.out.drewN _⟩
end Go.Proofs.Ytdgpcijiempmdaa
