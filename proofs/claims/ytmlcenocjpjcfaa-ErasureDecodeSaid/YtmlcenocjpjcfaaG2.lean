/- The reference of package field: the product of two elements. -/
import Derived.Test.YtmlcenocjpjcfaaG1
namespace Go.Proofs.Ytmlcenocjpjcfaa
open Go.RowKit GfM

theorem ofInt_64 (a : Nat) (ha : a < 256) : (BitVec.ofInt 64 (a : Int)).toNat = a := by
  rw [BitVec.ofInt_natCast, BitVec.toNat_ofNat]; exact Nat.mod_eq_of_lt (by omega)
theorem i64_xor_small (a b : Nat) (ha : a < 256) (hb : b < 256) : bits .xor .i64 (a : Int) (b : Int) = ((a ^^^ b : Nat) : Int) := by
  have hx : a ^^^ b < 256 := xor_lt ha hb
  show IntKind.i64.wrap ((BitVec.ofInt 64 (a : Int) ^^^ BitVec.ofInt 64 (b : Int)).toNat : Int) = _
  rw [BitVec.toNat_xor, ofInt_64 a ha, ofInt_64 b hb, IntKind.wrap_i64]
  omega
theorem i64_xor_285' : ∀ a < 256, 128 ≤ a → bits .xor .i64 (2 * (a : Nat) : Int) 285 = ((dbl a : Nat) : Int) := by decide +kernel
theorem dblx' : ∀ x < 256, (if x < 128 then 2 * x else (2 * x) ^^^ 285) = dbl x := by decide +kernel
set_option maxRecDepth 100000 in
theorem refMul_any (a b : Nat) (ha : a < 256) (hb : b < 256) (w : World) : Calls Try.prog 24 #[.int .u8 (a : Nat), .int .u8 (b : Nat)] w (RetB w (gm a b)) := by
  obtain ⟨r, hr⟩ : ∃ r, r = gm a b := ⟨_, rfl⟩
  rw [← hr]
  have HR := Lib.hid hr
  clear hr
  go_enter Try.func24, Try.ntmps24
  go_wp2_with fail
  go_loop [5, 6, 7] (fun o x i => ∃ k c x' : Nat, k ≤ 8 ∧ c < 256 ∧ x' < 256 ∧ o = .int .i64 (c : Nat) ∧ x = .int .i64 (x' : Nat) ∧ i = .int .i64 (k : Nat) ∧ c ^^^ ml (8 - k) x' (b / 2 ^ k) = r) (fun _ _ i => 8 - (intOf i).toNat)
  case atStart => exact ⟨0, 0, a, by decide, by decide, ha, rfl, rfl, rfl, by rw [Nat.zero_xor, Nat.pow_zero, Nat.div_one]; exact HR.out.symm⟩
  case round =>
    obtain ⟨k, c, x, hk, hc, hx, rfl, rfl, rfl, hrel⟩ := hrel
    by_cases h8 : k = 8
    · subst h8
      have hcr : c = r := by rw [ml, Nat.xor_zero] at hrel; exact hrel
      have HCR := Lib.hid hcr
      have hw : IntKind.u8.wrap (c : Int) = c := by rw [IntKind.wrap_u8']; omega
      clear hcr hrel hk
      go_wp2_with fail
      go_ret
      exact ⟨by rw [HCR.out]; rfl, rfl⟩
    · have hk7 : k < 8 := by omega
      obtain ⟨q, hq⟩ : ∃ q, q = b / 2 ^ k := ⟨_, rfl⟩
      have hqb : q < 256 := by rw [hq]; exact Nat.lt_of_le_of_lt (Nat.div_le_self _ _) hb
      have hq2 : b / 2 ^ (k + 1) = q / 2 := by rw [hq, Nat.pow_succ, ← Nat.div_div_eq_div_mul]
      obtain ⟨j, hj⟩ : ∃ j, 8 - k = j + 1 := ⟨7 - k, by omega⟩
      have hj' : 8 - (k + 1) = j := by omega
      rw [hj, ← hq, ml] at hrel
      have hqi : (b : Int) / 2 ^ k = (q : Int) := by rw [hq]; simp
      have hand := u8_and_nat q 1 hqb (by decide)
      rw [show ((1 : Nat) : Int) = 1 from rfl, Nat.and_one_is_mod, ← hqi] at hand
      have HQ := Lib.hid hq2
      have HJ := Lib.hid hj'
      have hxor := i64_xor_small c x hc hx
      have HREL : Hid ((c ^^^ if q % 2 = 1 then x else 0) ^^^ ml j (dbl x) (q / 2) = r) := Lib.hid (by rw [Nat.xor_assoc]; exact hrel)
      clear hrel h8 hq hq2 hj hj' hqi
      have hfin : ∀ c' : Nat, c' < 256 → (c' = c ^^^ if q % 2 = 1 then x else 0) → ∃ k1 c1 x1 : Nat, k1 ≤ 8 ∧ c1 < 256 ∧ x1 < 256 ∧ Value.int .i64 (c' : Nat) = .int .i64 (c1 : Nat) ∧ Value.int .i64 (dbl x : Nat) = .int .i64 (x1 : Nat) ∧ Value.int .i64 ((k : Int) + 1) = .int .i64 (k1 : Nat) ∧ c1 ^^^ ml (8 - k1) x1 (b / 2 ^ k1) = r :=
        fun c' hc' e => ⟨k + 1, c', dbl x, by omega, hc', dbl_lt hx, rfl, rfl, by go_num, by rw [HJ.out, HQ.out, e]; exact HREL.out⟩
      have HFIN := Lib.hid hfin
      clear hfin
      have hdbl : ∀ y : Int, ((x < 128 → y = 2 * (x : Int)) ∧ (128 ≤ x → y = bits .xor .i64 (2 * (x : Int)) 285)) → y = (dbl x : Nat) := by
        intro y hy
        by_cases h : x < 128
        · rw [hy.1 h]; unfold dbl; rw [if_pos h]; go_num
        · rw [hy.2 (by omega), i64_xor_285' x hx (by omega)]
      have HDBL := Lib.hid hdbl
      clear hdbl
      rcases Nat.mod_two_eq_zero_or_one q with h2 | h2
      · have hand0 : bits .and .u8 ((b : Int) / 2 ^ k) 1 = 0 := by rw [hand, h2]; rfl
        have H2 := Lib.hid h2
        clear h2 hand hxor
        go_wp2_with fail
        all_goals
          go_round
          case rel =>
            have h := HFIN.out c hc (by rw [H2.out, if_neg (by decide), Nat.xor_zero])
            first
            | (rw [← HDBL.out _ ⟨fun _ => rfl, fun h => by omega⟩] at h; exact h)
            | (rw [← HDBL.out _ ⟨fun h => by omega, fun _ => rfl⟩] at h; exact h)
          case measure => simp [intOf]; omega
      · have hand0 : bits .and .u8 ((b : Int) / 2 ^ k) 1 = 1 := by rw [hand, h2]; rfl
        have H2 := Lib.hid h2
        clear h2 hand
        go_wp2_with fail
        all_goals
          go_round
          case rel =>
            have h := HFIN.out (c ^^^ x) (xor_lt hc hx) (by rw [H2.out, if_pos rfl])
            first
            | (rw [← HDBL.out _ ⟨fun _ => rfl, fun h => by omega⟩] at h; exact h)
            | (rw [← HDBL.out _ ⟨fun h => by omega, fun _ => rfl⟩] at h; exact h)
          case measure => simp [intOf]; omega
end Go.Proofs.Ytmlcenocjpjcfaa
