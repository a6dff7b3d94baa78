/- Package field and its reference: inverses, quotients and logarithms of elements return what they promise. -/
import Derived.Test.YtmlcenocjpjcfaaG3
namespace Go.Proofs.Ytmlcenocjpjcfaa
open Go.RowKit GfM

/-- The error of an operation that divides by a: 3 if it is 0. -/
def zE (a : Nat) : Int := if a = 0 then 3 else 0
theorem zE_zero : zE 0 = 3 := rfl
theorem zE_ne {a : Nat} (h : a ≠ 0) : zE a = 0 := if_neg h
theorem iv_of {a : Nat} (h : a ≠ 0) : iv a = pw a 254 := if_neg h
theorem pz_254 {a : Nat} (h : a ≠ 0) : pz a 254 = iv a := by rw [pz_of h, iv_of h]; rfl
theorem lg_zero : lg 0 = 255 := by decide +kernel
/-- A number and an error number are returned, and nothing changes. -/
def RetIE (w : World) (n : Nat) (k : Int) (e : Ending) (w' : World) : Prop := e = .returned (.tuple #[.int .i64 (n : Nat), .int .i64 k]) ∧ w = w'
/-- The logarithm, and 0 for 0. -/
def lgz (a : Nat) : Nat := if a = 0 then 0 else lg a
theorem lgz_ne {a : Nat} (h : a ≠ 0) : lgz a = lg a := if_neg h
theorem inv_any (a : Nat) (ha : a < 256) (w : World) : Calls Try.prog 36 #[.int .u8 (a : Nat)] w (RetBE w (iv a) (zE a)) := by
  by_cases h0 : a = 0
  · subst h0
    go_enter Try.func36, Try.ntmps36
    go_wp2_with fail
    go_ret2
    exact ⟨rfl, rfl⟩
  · have hb : ((a : Int) == 0) = false := by simp; omega
    have HI := Lib.hid (pz_neg1 h0)
    have HE := Lib.hid (zE_ne h0)
    clear h0
    go_enter Try.func36, Try.ntmps36
    go_wp2_with (go_at_call 49; (with_reducible refine (pow_any a ha (-1) (by decide) (by decide) _).mono ?_); rintro e w' ⟨rfl, rfl⟩)
    go_ret2
    exact ⟨by rw [← HI.out, HE.out]; rfl, rfl⟩
theorem refInv_any (a : Nat) (ha : a < 256) (w : World) : Calls Try.prog 38 #[.int .u8 (a : Nat)] w (RetBE w (iv a) (zE a)) := by
  by_cases h0 : a = 0
  · subst h0
    go_enter Try.func38, Try.ntmps38
    go_wp2_with fail
    go_ret2
    exact ⟨rfl, rfl⟩
  · have hb : ((a : Int) == 0) = false := by simp; omega
    have HI := Lib.hid (pz_254 h0)
    have HE := Lib.hid (zE_ne h0)
    clear h0
    go_enter Try.func38, Try.ntmps38
    go_wp2_with (go_at_call 50; (with_reducible refine (refPow_any a ha 254 (by decide) (by decide) _).mono ?_); rintro e w' ⟨rfl, rfl⟩)
    go_ret2
    exact ⟨by rw [← HI.out, HE.out]; rfl, rfl⟩
theorem ex_inj {n a : Nat} (hn : n < 255) (h : ex n = a) : lg a = n := by rw [← h]; exact (lg_ex' n hn).1
theorem gm_two {a : Nat} (h : a < 256) : gm a 2 = dbl a := gm_two' a h
end Go.Proofs.Ytmlcenocjpjcfaa
