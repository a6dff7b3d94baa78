/- Package field and its reference: inverses, quotients and logarithms of elements return what they promise. -/
import Derived.Test.YtahjijpoihljjaaG3
namespace Go.Proofs.Ytahjijpoihljjaa
open Go.RowKit GfM

/-- The error of an operation that divides by a: 3 if it is 0. -/
def zE (a : Nat) : Int := if a = 0 then 3 else 0
theorem zE_zero : zE 0 = 3 := rfl
theorem zE_ne {a : Nat} (h : a ≠ 0) : zE a = 0 := if_neg h
theorem iv_of {a : Nat} (h : a ≠ 0) : iv a = pw a 254 := if_neg h
theorem pz_254 {a : Nat} (h : a ≠ 0) : pz a 254 = iv a := by rw [pz_of h, iv_of h]; rfl
theorem lg_zero : lg 0 = 255 := by decide +kernel
/-- A number and an error number are returned, and nothing changes. -/
def RetIE (w : World) (n : Nat) (k : Int) (e : Ending) (w' : World) : Prop := e = .returned (.tuple #[.int .i64 (n : Nat), .int .i64 k]) ∧ w = w'
/-- The logarithm, and 0 for 0. -/
def lgz (a : Nat) : Nat := if a = 0 then 0 else lg a
theorem lgz_ne {a : Nat} (h : a ≠ 0) : lgz a = lg a := if_neg h
theorem inv_any (a : Nat) (ha : a < 256) (w : World) : Calls Try.prog 10 #[.int .u8 (a : Nat)] w (RetBE w (iv a) (zE a)) := by
  by_cases h0 : a = 0
  · subst h0
    go_enter Try.func10, Try.ntmps10
    go_wp2_with fail
    go_ret2
    exact ⟨rfl, rfl⟩
  · have hb : ((a : Int) == 0) = false := by simp; omega
    have HI := Lib.hid (pz_neg1 h0)
    have HE := Lib.hid (zE_ne h0)
    clear h0
    go_enter Try.func10, Try.ntmps10
    go_wp2_with (go_at_call 20; (with_reducible refine (pow_any a ha (-1) (by decide) (by decide) _).mono ?_); rintro e w' ⟨rfl, rfl⟩)
    go_ret2
    exact ⟨by rw [← HI.out, HE.out]; rfl, rfl⟩
theorem div_any (a b : Nat) (ha : a < 256) (hb : b < 256) (w : World) : Calls Try.prog 12 #[.int .u8 (a : Nat), .int .u8 (b : Nat)] w (RetBE w (gm a (iv b)) (zE b)) := by
  go_enter Try.func12, Try.ntmps12
  go_wp2_with first | (go_at_call 10; (with_reducible refine (inv_any b hb _).mono ?_); rintro e w' ⟨rfl, rfl⟩) | (go_at_call 18; (with_reducible refine (mul_any a (iv b) ha (iv_lt b) _).mono ?_); rintro e w' ⟨rfl, rfl⟩) | fail
  go_ret2
  exact ⟨rfl, rfl⟩
theorem refInv_any (a : Nat) (ha : a < 256) (w : World) : Calls Try.prog 11 #[.int .u8 (a : Nat)] w (RetBE w (iv a) (zE a)) := by
  by_cases h0 : a = 0
  · subst h0
    go_enter Try.func11, Try.ntmps11
    go_wp2_with fail
    go_ret2
    exact ⟨rfl, rfl⟩
  · have hb : ((a : Int) == 0) = false := by simp; omega
    have HI := Lib.hid (pz_254 h0)
    have HE := Lib.hid (zE_ne h0)
    clear h0
    go_enter Try.func11, Try.ntmps11
    go_wp2_with (go_at_call 21; (with_reducible refine (refPow_any a ha 254 (by decide) (by decide) _).mono ?_); rintro e w' ⟨rfl, rfl⟩)
    go_ret2
    exact ⟨by rw [← HI.out, HE.out]; rfl, rfl⟩
theorem refDiv_any (a b : Nat) (ha : a < 256) (hb : b < 256) (w : World) : Calls Try.prog 13 #[.int .u8 (a : Nat), .int .u8 (b : Nat)] w (RetBE w (gm a (iv b)) (zE b)) := by
  go_enter Try.func13, Try.ntmps13
  go_wp2_with first | (go_at_call 11; (with_reducible refine (refInv_any b hb _).mono ?_); rintro e w' ⟨rfl, rfl⟩) | (go_at_call 19; (with_reducible refine (refMul_any a (iv b) ha (iv_lt b) _).mono ?_); rintro e w' ⟨rfl, rfl⟩) | fail
  go_ret2
  exact ⟨rfl, rfl⟩
theorem ex_inj {n a : Nat} (hn : n < 255) (h : ex n = a) : lg a = n := by rw [← h]; exact (lg_ex' n hn).1
set_option maxRecDepth 100000 in
theorem log_any (a : Nat) (ha : a < 256) (w : World) : Calls Try.prog 14 #[.int .u8 (a : Nat)] w (RetIE w (lgz a) (zE a)) := by
  go_enter Try.func14, Try.ntmps14
  go_wp2_with fail
  go_loop [4, 6] (fun s i => ∃ k : Nat, k ≤ 255 ∧ k ≤ lg a ∧ s = .int .u8 (ex k : Nat) ∧ i = .int .i64 (k : Nat)) (fun _ i => 255 - (intOf i).toNat)
  case atStart => exact ⟨0, by decide, Nat.zero_le _, rfl, rfl⟩
  case round =>
    obtain ⟨k, hk, hl, rfl, rfl⟩ := hrel
    obtain ⟨p, hp⟩ : ∃ p, p = ex k := ⟨_, rfl⟩
    have hp256 : p < 256 := by rw [hp]; exact ex_lt
    rw [← hp]
    by_cases h255 : k = 255
    · have h0 : a = 0 := by
        apply Classical.byContradiction; intro h
        have := lg_lt ha h; omega
      subst h0
      subst h255
      have HP := Lib.hid hp
      clear hp hl
      go_wp2_with fail
      go_ret2
      exact ⟨rfl, rfl⟩
    · have hlt : k < 255 := by omega
      by_cases he : p = a
      · have hne : a ≠ 0 := by rw [← he, hp]; exact (lg_ex' k hlt).2
        have hlg : lgz a = k := by rw [lgz_ne hne]; exact ex_inj hlt (hp.symm.trans he)
        have HL := Lib.hid hlg
        have HE := Lib.hid (zE_ne hne)
        have heq : ((p : Int) == (a : Int)) = true := by simp [he]
        clear hp hne hlg h255 hl he
        go_wp2_with fail
        go_ret2
        exact ⟨by rw [HL.out, HE.out]; rfl, rfl⟩
      · have heq : ((p : Int) == (a : Int)) = false := by simp; omega
        have hl' : k + 1 ≤ lg a := by
          rcases Nat.lt_or_ge k (lg a) with h | h
          · exact h
          · exfalso
            have hk' : lg a = k := by omega
            by_cases h0 : a = 0
            · subst h0; rw [lg_zero] at hk'; omega
            · exact he (by rw [hp, ← hk']; exact (lg' a ha h0).2)
        have HL := Lib.hid hl'
        have HP := Lib.hid hp
        clear hp hl' hl he h255
        go_wp2_with (go_at_call 30; (with_reducible refine (double_any p hp256 _).mono ?_); rintro e w' ⟨rfl, rfl⟩)
        go_round
        case rel => exact ⟨k + 1, by omega, HL.out, by rw [HP.out]; rfl, by go_num⟩
        case measure => simp [intOf]; omega
theorem gm_two {a : Nat} (h : a < 256) : gm a 2 = dbl a := gm_two' a h
set_option maxRecDepth 100000 in
theorem refLog_any (a : Nat) (ha : a < 256) (w : World) : Calls Try.prog 15 #[.int .u8 (a : Nat)] w (RetIE w (lgz a) (zE a)) := by
  by_cases h0 : a = 0
  · subst h0
    go_enter Try.func15, Try.ntmps15
    go_wp2_with fail
    go_ret2
    exact ⟨rfl, rfl⟩
  · have hb : ((a : Int) == 0) = false := by simp; omega
    have HZ := Lib.hid h0
    obtain ⟨l, hl⟩ : ∃ l, l = lg a := ⟨_, rfl⟩
    have hl5 : l < 255 := by rw [hl]; exact lg_lt ha h0
    have hexl : ex l = a := by rw [hl]; exact (lg' a ha h0).2
    have HR := Lib.hid ((lgz_ne h0).trans hl.symm)
    have HE := Lib.hid (zE_ne h0)
    have HX := Lib.hid hexl
    clear h0 hl hexl
    go_enter Try.func15, Try.ntmps15
    go_wp2_with fail
    go_loop [4, 5] (fun i s => ∃ k : Nat, k ≤ l ∧ s = .int .u8 (ex k : Nat) ∧ i = .int .i64 (k : Nat)) (fun i _ => l - (intOf i).toNat)
    case atStart => exact ⟨0, Nat.zero_le _, rfl, rfl⟩
    case round =>
      obtain ⟨k, hk, rfl, rfl⟩ := hrel
      obtain ⟨p, hp⟩ : ∃ p, p = ex k := ⟨_, rfl⟩
      have hp256 : p < 256 := by rw [hp]; exact ex_lt
      rw [← hp]
      by_cases hkl : k = l
      · have hpa : ((p : Int) != (a : Int)) = false := by rw [hp, hkl, HX.out]; simp
        subst hkl
        have HP := Lib.hid hp
        clear hp
        go_wp2_with fail
        go_ret2
        exact ⟨by rw [HR.out, HE.out]; rfl, rfl⟩
      · have hpa : ((p : Int) != (a : Int)) = true := by
          have : p ≠ a := by
            intro e
            have h1 := ex_inj (n := k) (a := a) (by omega) (hp.symm.trans e)
            have h2 := ex_inj hl5 HX.out
            omega
          simp; omega
        have HP := Lib.hid hp
        have HK := Lib.hid hkl
        clear hp hkl
        have hklt : k + 1 ≤ l := by have := HK.out; omega
        have C : Hid (∀ w, Calls Try.prog 19 #[.int .u8 (p : Nat), .int .u8 2] w (RetB w (gm p 2))) := Lib.hid (fun w => refMul_any p 2 hp256 (by decide) w)
        go_wp2_with (go_at_call 19; (with_reducible refine (C.out _).mono ?_); rintro e w' ⟨rfl, rfl⟩)
        go_round
        case rel => exact ⟨k + 1, hklt, by rw [gm_two hp256, HP.out]; rfl, by go_num⟩
        case measure => simp [intOf]; omega
end Go.Proofs.Ytahjijpoihljjaa
