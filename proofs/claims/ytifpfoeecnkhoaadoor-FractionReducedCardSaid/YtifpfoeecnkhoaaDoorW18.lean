/- window: the digits of a number from one on. -/
import Derived.Test.YtifpfoeecnkhoaaDoorW17
namespace Go.Proofs.YtifpfoeecnkhoaaDoor
open Go.RowKit NatM

theorem val_drop_any {xs : List Nat} (h : Limbs xs) (k : Nat) : val (xs.drop k) = val xs / pw k := by
  rcases Nat.lt_or_ge xs.length k with g | g
  · rw [List.drop_eq_nil_of_le (by omega), Nat.div_eq_of_lt (Nat.lt_of_lt_of_le (val_lt h) (pw_le (by omega)))]; rfl
  · exact val_drop_div h k g
theorem val_three (ys : List Nat) : ∃ R, val ys = ys.getD 0 0 + 4294967296 * ys.getD 1 0 + 18446744073709551616 * (ys.getD 2 0 + 4294967296 * R) := by
  match ys with
  | [] => exact ⟨0, by simp [val]⟩
  | [a] => exact ⟨0, by simp [val]⟩
  | [a, b] => exact ⟨0, by simp [val]⟩
  | a :: b :: c :: l => exact ⟨val l, by simp [val]; omega⟩
theorem high_split (v T c : Nat) (hc : c < 32) : (v + 18446744073709551616 * T) / 2 ^ c = v / 2 ^ c + T * 2 ^ (64 - c) := by
  have e : 18446744073709551616 * T = 2 ^ c * (T * 2 ^ (64 - c)) := by
    have : (2 : Nat) ^ c * 2 ^ (64 - c) = 18446744073709551616 := by rw [← Nat.pow_add, show c + (64 - c) = 64 from by omega]
    rw [← this]; grind
  rw [e, Nat.add_mul_div_left _ _ (Nat.pow_pos (by decide))]
theorem window_math {xs : List Nat} {n s c v z r : Nat} (hx : Limbs xs) (hs : s = n / 32) (hc : c = n % 32) (hv : v = xs.getD s 0 + 4294967296 * xs.getD (s + 1) 0) (hz : z = xs.getD (s + 2) 0) (hr : r = val xs / 2 ^ n) (hb : r < 4611686018427387904) :
    r = v / 2 ^ c + z * 2 ^ (64 - c) ∧ v < 18446744073709551616 := by
  have h1 := hx.getD s
  have h2 := hx.getD (s + 1)
  have hc32 : c < 32 := by omega
  have hn : 2 ^ n = pw s * 2 ^ c := by rw [pw_two, ← Nat.pow_add]; congr 1; omega
  have hr1 : r = val (xs.drop s) / 2 ^ c := by rw [hr, hn, ← Nat.div_div_eq_div_mul, ← val_drop_any hx]
  obtain ⟨R, hR⟩ := val_three (xs.drop s)
  have d : ∀ j, (xs.drop s).getD j 0 = xs.getD (s + j) 0 := by intro j; simp [List.getD]
  rw [d, d, d, Nat.add_zero, ← hv, ← hz] at hR
  rw [hR, high_split _ _ _ hc32] at hr1
  refine ⟨?_, by omega⟩
  have hp : 8589934592 ≤ 2 ^ (64 - c) := Nat.pow_le_pow_right (n := 2) (i := 33) (by decide) (by omega)
  have hm : (z + 4294967296 * R) * 8589934592 ≤ (z + 4294967296 * R) * 2 ^ (64 - c) := Nat.mul_le_mul_left _ hp
  have hR0 : R = 0 := by
    obtain ⟨q, hq⟩ : ∃ q, q = v / 2 ^ c := ⟨_, rfl⟩
    rw [← hq] at hr1
    omega
  subst hR0
  exact hr1
theorem window_bits {c v z r : Nat} (hc : c < 32) (hv : v < 18446744073709551616) (hr : r = v / 2 ^ c + z * 2 ^ (64 - c)) (hb : r < 4611686018427387904) :
    wrap64 (bits BinOp.or IntKind.u64 ((v : Int) / 2 ^ c) (IntKind.u64.wrap ((z : Int) * 2 ^ (64 - c)))) = (r : Int) := by
  have e1 : (v : Int) / 2 ^ c = ((v / 2 ^ c : Nat) : Int) := by simp
  have e2 : (z : Int) * 2 ^ (64 - c) = ((z * 2 ^ (64 - c) : Nat) : Int) := by simp
  have hlt : v / 2 ^ c < 2 ^ (64 - c) := by
    apply Nat.div_lt_of_lt_mul
    rw [← Nat.pow_add, show c + (64 - c) = 64 from by omega]; exact hv
  obtain ⟨a, ha⟩ : ∃ a, a = v / 2 ^ c := ⟨_, rfl⟩
  obtain ⟨b, hbe⟩ : ∃ b, b = z * 2 ^ (64 - c) := ⟨_, rfl⟩
  have hbm : b % 2 ^ (64 - c) = 0 := by rw [hbe]; exact Nat.mul_mod_left _ _
  rw [e1, e2, ← ha, ← hbe]
  rw [← ha] at hlt hr
  rw [← hbe] at hr
  have e3 : IntKind.u64.wrap (b : Int) = (b : Int) := by rw [IntKind.wrap_u64]; omega
  rw [e3, u64_or_nat _ _ (by omega) (by omega), Nat.or_comm, nat_join (64 - c) b a hbm hlt, Nat.add_comm, ← hr]
  simp only [wrap64]; omega

set_option maxRecDepth 100000 in
theorem window_any (va : Value) (xs : List Nat) (n : Nat) (w : World) (ha : Reads w va xs) (hn : n ≤ 1000000) (hv : val xs / 2 ^ n < 4611686018427387904) :
    Calls Tryd.prog 77 #[va, .int .i64 (n : Nat)] w (I64P w (val xs / 2 ^ n : Nat)) := by
  have hx := ha.limbs
  obtain ⟨s, hs⟩ : ∃ s, s = n / 32 := ⟨_, rfl⟩
  obtain ⟨c, hc⟩ : ∃ c, c = n % 32 := ⟨_, rfl⟩
  have hsi : (n : Int) / 32 = (s : Int) := by omega
  have hci : (n : Int) % 32 = (c : Int) := by omega
  have hc32 : c < 32 := by omega
  obtain ⟨z, hz⟩ : ∃ z, z = xs.getD (s + 2) 0 := ⟨_, rfl⟩
  have hzl : z < 4294967296 := by rw [hz]; exact hx.getD _
  have HZ := Lib.hid hz
  obtain ⟨v, hve⟩ : ∃ v, v = xs.getD s 0 + 4294967296 * xs.getD (s + 1) 0 := ⟨_, rfl⟩
  have HV := Lib.hid hve
  obtain ⟨r, hr⟩ : ∃ r, r = val xs / 2 ^ n := ⟨_, rfl⟩
  have HR := Lib.hid hr
  rw [← hr] at hv ⊢
  have HB := Lib.hid hv
  have hsb : s ≤ 1000000 := by omega
  have HS := Lib.hid hs
  have HC := Lib.hid hc
  clear hz hve hr hv hs hc
  go_enter Tryd.func77, Tryd.ntmps77
  go_wp2_with fail
  refine (word_fn va xs s v _ ha (by omega) HV).mono ?_; rintro e w' ⟨rfl, rfl⟩
  go_wp2_with fail
  refine (limb_fn va xs _ z _ ha (by omega) (by rw [show ((s : Int) + 2).toNat = s + 2 from by omega]; exact HZ.out)).mono ?_; rintro e w' ⟨rfl, rfl⟩
  go_wp2_with fail
  go_ret
  have hm := window_math hx HS.out HC.out HV.out HZ.out HR.out HB.out
  refine ⟨congrArg (fun i => Ending.returned (.int .i64 i)) (window_bits hc32 hm.2 hm.1 HB.out), rfl⟩
end Go.Proofs.YtifpfoeecnkhoaaDoor
