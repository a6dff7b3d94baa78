/- Package field and its reference: sums, doubling and products of elements return what they promise. -/
import Derived.Test.YtmlcenocjpjcfaaProg
import Derived.Test.YtmlcenocjpjcfaaGm
import Derived.WalkKit
import Derived.WalkSpells
import Derived.WalkLawsBesides
import Derived.Lib.Hide
import Derived.Laws.BitsAllLaws
import Derived.Deep.QuietTactic
import Derived.BigQuiet
import Derived.LoopTactic
namespace Go.Proofs.Ytmlcenocjpjcfaa
open Go.RowKit GfM

/-- A byte is returned, and nothing changes. -/
def RetB (w : World) (n : Nat) (e : Ending) (w' : World) : Prop := e = .returned (.int .u8 (n : Nat)) ∧ w = w'
/-- A byte and an error number are returned, and nothing changes. -/
def RetBE (w : World) (n : Nat) (k : Int) (e : Ending) (w' : World) : Prop := e = .returned (.tuple #[.int .u8 (n : Nat), .int .i64 k]) ∧ w = w'

theorem add_any (a b : Nat) (ha : a < 256) (hb : b < 256) (w : World) : Calls Try.prog 37 #[.int .u8 (a : Nat), .int .u8 (b : Nat)] w (RetB w (a ^^^ b)) := by
  have hx := u8_xor_nat a b ha hb
  go_enter Try.func37, Try.ntmps37
  go_wp2_with fail
  go_ret
  exact ⟨rfl, rfl⟩
theorem top_and' : ∀ a < 256, (a &&& 128 = 0 ↔ a < 128) := by decide +kernel
theorem double_any (a : Nat) (ha : a < 256) (w : World) : Calls Try.prog 58 #[.int .u8 (a : Nat)] w (RetB w (dbl a)) := by
  have hx := u8_and_nat a 128 ha (by decide)
  have ht := top_and' a ha
  by_cases h : a < 128
  · have h1 : a &&& 128 = 0 := ht.2 h
    have h2 : bits .and .u8 (a : Int) 128 = 0 := by rw [show (128 : Int) = ((128 : Nat) : Int) from rfl, hx, h1]; rfl
    clear hx ht h1
    go_enter Try.func58, Try.ntmps58
    go_wp2_with fail
    go_ret
    exact ⟨by unfold dbl; rw [if_pos h]; show _ = Ending.returned (.int .u8 ((2 * a : Nat) : Int)); rw [Int.natCast_mul, Int.mul_comm]; rfl, rfl⟩
  · have h1 : a &&& 128 ≠ 0 := fun e => h (ht.1 e)
    obtain ⟨m, hm⟩ : ∃ m, m = a &&& 128 := ⟨_, rfl⟩
    have h2 : bits .and .u8 (a : Int) 128 = (m : Int) := by rw [show (128 : Int) = ((128 : Nat) : Int) from rfl, hx, hm]
    have h3 : ((m : Int) == 0) = false := by simp; omega
    obtain ⟨c, hc⟩ : ∃ c, c = 2 * a - 256 := ⟨_, rfl⟩
    have h4 : IntKind.u8.wrap ((a : Int) * 2) = (c : Int) := by rw [IntKind.wrap_u8']; omega
    have h5 := u8_xor_nat c 29 (by omega) (by decide)
    rw [show ((29 : Nat) : Int) = 29 from rfl] at h5
    have HC := Lib.hid hc
    clear hx ht h1 hm hc
    go_enter Try.func58, Try.ntmps58
    go_wp2_with fail
    go_ret
    exact ⟨by unfold dbl; rw [if_neg h, HC.out]; rfl, rfl⟩

set_option maxRecDepth 100000 in
theorem mul_any (a b : Nat) (ha : a < 256) (hb : b < 256) (w : World) : Calls Try.prog 56 #[.int .u8 (a : Nat), .int .u8 (b : Nat)] w (RetB w (gm a b)) := by
  obtain ⟨r, hr⟩ : ∃ r, r = gm a b := ⟨_, rfl⟩
  rw [← hr]
  have HR := Lib.hid hr
  clear hr
  go_enter Try.func56, Try.ntmps56
  go_wp2_with fail
  go_loop [0, 1, 5] (fun x y o => ∃ k a' b' c : Nat, a' < 256 ∧ b' < 2 ^ k ∧ b' < 256 ∧ c < 256 ∧ x = .int .u8 (a' : Nat) ∧ y = .int .u8 (b' : Nat) ∧ o = .int .u8 (c : Nat) ∧ c ^^^ ml k a' b' = r) (fun _ y _ => (intOf y).toNat)
  case atStart => exact ⟨8, a, b, 0, ha, hb, hb, by decide, rfl, rfl, rfl, by rw [Nat.zero_xor]; exact HR.out.symm⟩
  case round =>
    obtain ⟨k, a', b', c, ha', hk, hb', hc, rfl, rfl, rfl, hrel⟩ := hrel
    by_cases h0 : b' = 0
    · subst h0
      have hcr : c = r := by rw [ml_zero_r, Nat.xor_zero] at hrel; exact hrel
      have HCR := Lib.hid hcr
      clear hcr hrel hk
      go_wp2_with fail
      go_ret
      exact ⟨by rw [HCR.out]; rfl, rfl⟩
    · obtain ⟨k', rfl⟩ : ∃ k', k = k' + 1 := by
        cases k with
        | zero => simp at hk; omega
        | succ k => exact ⟨k, rfl⟩
      rw [ml] at hrel
      have hne : ((b' : Int) != 0) = true := by simp; omega
      have hk2 : b' / 2 < 2 ^ k' := by rw [Nat.pow_succ] at hk; omega
      have hbd : b' / 2 < 256 := by omega
      have hand := u8_and_nat b' 1 hb' (by decide)
      rw [show ((1 : Nat) : Int) = 1 from rfl, Nat.and_one_is_mod] at hand
      have HREL := Lib.hid hrel
      have HK := Lib.hid hk2
      clear hrel hk hk2
      rcases Nat.mod_two_eq_zero_or_one b' with h2 | h2
      · rw [h2] at hand
        have H2 := Lib.hid h2
        clear h2
        go_wp2_with first | (go_at_call 58; refine (double_any a' ha' _).mono ?_; rintro e w' ⟨rfl, rfl⟩) | fail
        go_round
        case rel => 
          refine ⟨k', dbl a', b' / 2, c, dbl_lt ha', HK.out, hbd, hc, rfl, by go_num, rfl, ?_⟩
          have := HREL.out; rw [H2.out, if_neg (by decide), Nat.zero_xor] at this; exact this
        case measure => simp [intOf]; omega
      · rw [h2] at hand
        have H2 := Lib.hid h2
        clear h2
        go_wp2_with first | (go_at_call 58; refine (double_any a' ha' _).mono ?_; rintro e w' ⟨rfl, rfl⟩) | (go_at_call 37; refine (add_any c a' hc ha' _).mono ?_; rintro e w' ⟨rfl, rfl⟩) | fail
        go_round
        case rel => 
          refine ⟨k', dbl a', b' / 2, c ^^^ a', dbl_lt ha', HK.out, hbd, xor_lt hc ha', rfl, by go_num, rfl, ?_⟩
          have := HREL.out; rw [H2.out, if_pos rfl, ← Nat.xor_assoc] at this; exact this
        case measure => simp [intOf]; omega
end Go.Proofs.Ytmlcenocjpjcfaa
