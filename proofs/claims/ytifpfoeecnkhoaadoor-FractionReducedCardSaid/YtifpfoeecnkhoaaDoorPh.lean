/- Two numbers replaced by combinations of them, limb by limb. -/
import Derived.Test.YtifpfoeecnkhoaaDoorPn
namespace NatM

/-- The factors of a combination are short and of opposite signs. -/
def Fac (a b : Int) : Prop := -2147483648 < a ∧ a < 2147483648 ∧ -2147483648 < b ∧ b < 2147483648 ∧ (0 ≤ a ∧ b ≤ 0 ∨ a ≤ 0 ∧ 0 ≤ b)
theorem prod_bound {a : Int} {p : Nat} (h : -2147483648 < a) (h' : a < 2147483648) (hp : p < 4294967296) :
    -9223372030412324865 ≤ a * p ∧ a * p ≤ 9223372030412324865 ∧ (0 ≤ a → 0 ≤ a * p) ∧ (a ≤ 0 → a * p ≤ 0) := by
  have h0 : (0 : Int) ≤ p := Int.natCast_nonneg p
  have h1 : a * p ≤ 2147483647 * p := Int.mul_le_mul_of_nonneg_right (by omega) h0
  have h2 : -2147483647 * (p : Int) ≤ a * p := Int.mul_le_mul_of_nonneg_right (by omega) h0
  refine ⟨by omega, by omega, fun h => Int.mul_nonneg h h0, fun h => Int.mul_nonpos_of_nonpos_of_nonneg h h0⟩
theorem fac_sum {a b : Int} (h : Fac a b) {p q : Nat} (hp : p < 4294967296) (hq : q < 4294967296) :
    -9223372030412324865 ≤ a * p ∧ a * p ≤ 9223372030412324865 ∧ -9223372030412324865 ≤ b * q ∧ b * q ≤ 9223372030412324865 ∧ -9223372030412324865 ≤ a * p + b * q ∧ a * p + b * q ≤ 9223372030412324865 := by
  obtain ⟨h1, h2, h3, h4, hs⟩ := h
  have ha := prod_bound h1 h2 hp
  have hb := prod_bound h3 h4 hq
  rcases hs with ⟨g1, g2⟩ | ⟨g1, g2⟩
  · have := ha.2.2.1 g1; have := hb.2.2.2 g2; omega
  · have := ha.2.2.2 g1; have := hb.2.2.1 g2; omega

def Comb (xs ys : List Nat) (a b : Int) (k : Nat) (zs : List Nat) (x : Int) : Prop :=
  a * val (xs.take k) + b * val (ys.take k) = val (zs.take k) + pw k * x
theorem comb_zero (xs ys zs : List Nat) (a b : Int) : Comb xs ys a b 0 zs 0 := by simp [Comb, val]
theorem take_set_succ {zs : List Nat} {k s : Nat} (h : k < zs.length) : val ((zs.set k s).take (k + 1)) = val (zs.take k) + pw k * s := by
  rw [val_take_succ, take_set_lt, getD_set_self _ _ _ h]
theorem comb_step {xs ys zs : List Nat} {a b x e hi : Int} {k lo : Nat} (h : Comb xs ys a b k zs x) (hk : k < zs.length)
    (he : x + (a * xs.getD k 0 + b * ys.getD k 0) = e) (hs : e = lo + 4294967296 * hi) : Comb xs ys a b (k + 1) (zs.set k lo) hi := by
  unfold Comb at h ⊢
  have hp : (pw (k + 1) : Int) = 4294967296 * pw k := by have := pw_succ k; omega
  rw [take_set_succ hk, val_take_succ, val_take_succ, hp]
  simp only [Int.natCast_add, Int.natCast_mul]
  obtain ⟨P, hP⟩ : ∃ P : Int, P = pw k := ⟨_, rfl⟩
  obtain ⟨X, hX⟩ : ∃ X : Int, X = xs.getD k 0 := ⟨_, rfl⟩
  obtain ⟨Y, hY⟩ : ∃ Y : Int, Y = ys.getD k 0 := ⟨_, rfl⟩
  rw [← hP] at h ⊢
  rw [← hX, ← hY] at he ⊢
  have e2 : a * X + b * Y = lo + 4294967296 * hi - x := by omega
  have e1 : a * (val (xs.take k) + P * X) + b * (val (ys.take k) + P * Y) = (a * val (xs.take k) + b * val (ys.take k)) + P * (a * X + b * Y) := by grind
  rw [e1, h, e2]
  grind
theorem comb_done {xs ys zs : List Nat} {a b x : Int} {n U : Nat} (h : Comb xs ys a b n zs x) (hzl : Limbs zs) (hz : n ≤ zs.length) (hx : n ≤ xs.length) (hy : ys.length = n) (hU : (U : Int) = a * val xs + b * val ys) (hb : U < pw n) : val (zs.take n) = U := by
  unfold Comb at h
  have hv : val (zs.take n) < pw n := by
    have := val_lt (hzl.take n)
    rwa [List.length_take, Nat.min_eq_left hz] at this
  rw [List.take_of_length_le (l := ys) (by omega)] at h
  have hA := val_take_drop xs n hx
  have e : (U : Int) = val (zs.take n) + pw n * (x + a * val (xs.drop n)) := by
    rw [hU, hA]
    simp only [Int.natCast_add, Int.natCast_mul]
    have : a * (val (xs.take n) + pw n * (val (xs.drop n) : Int)) + b * val ys = (a * val (xs.take n) + b * val ys) + pw n * (a * val (xs.drop n)) := by grind
    rw [this, h]; grind
  obtain ⟨t, ht⟩ : ∃ t, t = x + a * val (xs.drop n) := ⟨_, rfl⟩
  rw [← ht] at e
  have e1 : (U : Int) % pw n = (val (zs.take n) : Int) % pw n := by rw [e, Int.add_mul_emod_self_left]
  rw [Int.emod_eq_of_lt (by omega) (by omega), Int.emod_eq_of_lt (by omega) (by omega)] at e1
  omega
end NatM
