/- Package erasure and its reference: small helpers. -/
import Derived.Test.YtmlcenocjpjcfaaG8
import Derived.Test.YtmlcenocjpjcfaaE1
namespace Go.Proofs.Ytmlcenocjpjcfaa
open Go.RowKit GfM

set_option maxRecDepth 100000 in
theorem isCode_any (k m : Int) (w : World) : Calls Try.prog 30 #[.int .i64 k, .int .i64 m] w (RetBo w (codeZ k m)) := by
  by_cases h0 : 1 ≤ k
  · have d0 : decide (1 ≤ k) = true := decide_eq_true h0
    by_cases h1 : k ≤ 6
    · have d1 : decide (k ≤ 6) = true := decide_eq_true h1
      by_cases h2 : 0 ≤ m
      · have d2 : decide (0 ≤ m) = true := decide_eq_true h2
        by_cases h3 : m ≤ 4
        · have d3 : decide (m ≤ 4) = true := decide_eq_true h3
          obtain ⟨s, es⟩ : ∃ s, s = k + m := ⟨_, rfl⟩
          have hw : IntKind.i64.wrap (k + m) = s := by rw [IntKind.wrap_i64]; omega
          by_cases h4 : s ≤ 8
          · have d4 : decide (s ≤ 8) = true := decide_eq_true h4
            have HC : Hid (codeZ k m = true) := Lib.hid (by unfold codeZ; rw [← es]; simp [d0, d1, d2, d3, d4])
            clear es
            go_enter Try.func30, Try.ntmps30
            go_wp2_with fail
            go_ret
            exact ⟨by rw [HC.out]; rfl, rfl⟩
          · have d4 : decide (s ≤ 8) = false := decide_eq_false h4
            have HC : Hid (codeZ k m = false) := Lib.hid (by unfold codeZ; rw [← es]; simp [d0, d1, d2, d3, d4])
            clear es
            go_enter Try.func30, Try.ntmps30
            go_wp2_with fail
            go_ret
            exact ⟨by rw [HC.out]; rfl, rfl⟩
        · have d3 : decide (m ≤ 4) = false := decide_eq_false h3
          have HC : Hid (codeZ k m = false) := Lib.hid (by unfold codeZ; simp [d0, d1, d2, d3])
          go_enter Try.func30, Try.ntmps30
          go_wp2_with fail
          go_ret
          exact ⟨by rw [HC.out]; rfl, rfl⟩
      · have d2 : decide (0 ≤ m) = false := decide_eq_false h2
        have HC : Hid (codeZ k m = false) := Lib.hid (by unfold codeZ; simp [d0, d1, d2])
        go_enter Try.func30, Try.ntmps30
        go_wp2_with fail
        go_ret
        exact ⟨by rw [HC.out]; rfl, rfl⟩
    · have d1 : decide (k ≤ 6) = false := decide_eq_false h1
      have HC : Hid (codeZ k m = false) := Lib.hid (by unfold codeZ; simp [d0, d1])
      go_enter Try.func30, Try.ntmps30
      go_wp2_with fail
      go_ret
      exact ⟨by rw [HC.out]; rfl, rfl⟩
  · have d0 : decide (1 ≤ k) = false := decide_eq_false h0
    have HC : Hid (codeZ k m = false) := Lib.hid (by unfold codeZ; simp [d0])
    go_enter Try.func30, Try.ntmps30
    go_wp2_with fail
    go_ret
    exact ⟨by rw [HC.out]; rfl, rfl⟩
set_option maxRecDepth 100000 in
theorem refCode_any (k m : Int) (w : World) : Calls Try.prog 33 #[.int .i64 k, .int .i64 m] w (RetBo w (codeZ k m)) := by
  by_cases h0 : 1 ≤ k
  · have d0 : decide (1 ≤ k) = true := decide_eq_true h0
    by_cases h1 : k ≤ 6
    · have d1 : decide (k ≤ 6) = true := decide_eq_true h1
      by_cases h2 : 0 ≤ m
      · have d2 : decide (0 ≤ m) = true := decide_eq_true h2
        by_cases h3 : m ≤ 4
        · have d3 : decide (m ≤ 4) = true := decide_eq_true h3
          obtain ⟨s, es⟩ : ∃ s, s = k + m := ⟨_, rfl⟩
          have hw : IntKind.i64.wrap (k + m) = s := by rw [IntKind.wrap_i64]; omega
          by_cases h4 : s ≤ 8
          · have d4 : decide (s ≤ 8) = true := decide_eq_true h4
            have HC : Hid (codeZ k m = true) := Lib.hid (by unfold codeZ; rw [← es]; simp [d0, d1, d2, d3, d4])
            clear es
            go_enter Try.func33, Try.ntmps33
            go_wp2_with fail
            go_ret
            exact ⟨by rw [HC.out]; rfl, rfl⟩
          · have d4 : decide (s ≤ 8) = false := decide_eq_false h4
            have HC : Hid (codeZ k m = false) := Lib.hid (by unfold codeZ; rw [← es]; simp [d0, d1, d2, d3, d4])
            clear es
            go_enter Try.func33, Try.ntmps33
            go_wp2_with fail
            go_ret
            exact ⟨by rw [HC.out]; rfl, rfl⟩
        · have d3 : decide (m ≤ 4) = false := decide_eq_false h3
          have HC : Hid (codeZ k m = false) := Lib.hid (by unfold codeZ; simp [d0, d1, d2, d3])
          go_enter Try.func33, Try.ntmps33
          go_wp2_with fail
          go_ret
          exact ⟨by rw [HC.out]; rfl, rfl⟩
      · have d2 : decide (0 ≤ m) = false := decide_eq_false h2
        have HC : Hid (codeZ k m = false) := Lib.hid (by unfold codeZ; simp [d0, d1, d2])
        go_enter Try.func33, Try.ntmps33
        go_wp2_with fail
        go_ret
        exact ⟨by rw [HC.out]; rfl, rfl⟩
    · have d1 : decide (k ≤ 6) = false := decide_eq_false h1
      have HC : Hid (codeZ k m = false) := Lib.hid (by unfold codeZ; simp [d0, d1])
      go_enter Try.func33, Try.ntmps33
      go_wp2_with fail
      go_ret
      exact ⟨by rw [HC.out]; rfl, rfl⟩
  · have d0 : decide (1 ≤ k) = false := decide_eq_false h0
    have HC : Hid (codeZ k m = false) := Lib.hid (by unfold codeZ; simp [d0])
    go_enter Try.func33, Try.ntmps33
    go_wp2_with fail
    go_ret
    exact ⟨by rw [HC.out]; rfl, rfl⟩

/-- Is this a row of n? -/
def rowZ (i n : Int) : Bool := decide (0 ≤ i) && decide (i < n)
set_option maxRecDepth 100000 in
theorem isRow_any (i n : Int) (w : World) : Calls Try.prog 41 #[.int .i64 i, .int .i64 n] w (RetBo w (rowZ i n)) := by
  unfold rowZ
  by_cases h1 : 0 ≤ i
  · have d1 : decide (0 ≤ i) = true := decide_eq_true h1
    rw [d1, Bool.true_and]
    by_cases h2 : i < n
    · have d2 : decide (i < n) = true := decide_eq_true h2
      rw [d2]
      go_enter Try.func41, Try.ntmps41
      go_wp2_with fail
      go_ret
      exact ⟨rfl, rfl⟩
    · have d2 : decide (i < n) = false := decide_eq_false h2
      rw [d2]
      go_enter Try.func41, Try.ntmps41
      go_wp2_with fail
      go_ret
      exact ⟨rfl, rfl⟩
  · have d1 : decide (0 ≤ i) = false := decide_eq_false h1
    rw [d1, Bool.false_and]
    clear h1
    go_enter Try.func41, Try.ntmps41
    go_wp2_with fail
    go_ret
    exact ⟨rfl, rfl⟩

set_option maxRecDepth 100000 in
theorem refCoef_in (j i : Nat) (hj : j < 64) (hi : i < 64) (w : World) : Calls Try.prog 17 #[.int .i64 (j : Nat), .int .i64 (i : Nat)] w (RetB w (coefZ j i)) := by
  obtain ⟨p, ep⟩ : ∃ p, p = 128 + j := ⟨_, rfl⟩
  obtain ⟨q, eq⟩ : ∃ q, q = p ^^^ i := ⟨_, rfl⟩
  have hq : q < 256 := by rw [eq]; exact xor_lt (by omega) (by omega)
  have hc : coefZ j i = iv q := by rw [coefZ_in hj hi, eq, ep]
  have CI : Hid (∀ w, Calls Try.prog 38 #[.int .u8 (q : Nat)] w (RetBE w (iv q) (zE q))) := Lib.hid fun w => refInv_any q hq w
  have HC := Lib.hid hc
  have d1 : decide ((j : Int) < 0) = false := decide_eq_false (by omega)
  have d2 : decide ((63 : Int) < (j : Int)) = false := decide_eq_false (by omega)
  have d3 : decide ((i : Int) < 0) = false := decide_eq_false (by omega)
  have d4 : decide ((63 : Int) < (i : Int)) = false := decide_eq_false (by omega)
  have w1 : IntKind.u8.wrap (128 + (j : Int)) = (p : Int) := by rw [IntKind.wrap_u8']; omega
  have w2 : IntKind.u8.wrap (i : Int) = (i : Int) := by rw [IntKind.wrap_u8']; omega
  have hx : bits .xor .u8 (p : Int) (i : Int) = (q : Int) := by rw [eq]; exact u8_xor_nat p i (by omega) (by omega)
  clear hc eq ep hq
  go_enter Try.func17, Try.ntmps17
  go_wp2_with first | (go_at_call 38; (with_reducible refine (CI.out _).mono ?_); rintro e w' ⟨rfl, rfl⟩) | fail
  go_ret
  exact ⟨by rw [HC.out]; rfl, rfl⟩
set_option maxRecDepth 100000 in
theorem refCoef_out (j i : Int) (h : ¬ (0 ≤ j ∧ j < 64 ∧ 0 ≤ i ∧ i < 64)) (w : World) : Calls Try.prog 17 #[.int .i64 j, .int .i64 i] w (RetB w (coefZ j i)) := by
  rw [coefZ_out h]
  by_cases h1 : j < 0
  · have d1 : decide (j < 0) = true := decide_eq_true h1
    clear h
    go_enter Try.func17, Try.ntmps17
    go_wp2_with fail
    go_ret
    exact ⟨rfl, rfl⟩
  · have d1 : decide (j < 0) = false := decide_eq_false h1
    by_cases h2 : 63 < j
    · have d2 : decide (63 < j) = true := decide_eq_true h2
      clear h
      go_enter Try.func17, Try.ntmps17
      go_wp2_with fail
      go_ret
      exact ⟨rfl, rfl⟩
    · have d2 : decide (63 < j) = false := decide_eq_false h2
      by_cases h3 : i < 0
      · have d3 : decide (i < 0) = true := decide_eq_true h3
        clear h
        go_enter Try.func17, Try.ntmps17
        go_wp2_with fail
        go_ret
        exact ⟨rfl, rfl⟩
      · have d3 : decide (i < 0) = false := decide_eq_false h3
        have d4 : decide (63 < i) = true := decide_eq_true (by omega)
        clear h
        go_enter Try.func17, Try.ntmps17
        go_wp2_with fail
        go_ret
        exact ⟨rfl, rfl⟩
theorem refCoef_any (j i : Int) (w : World) : Calls Try.prog 17 #[.int .i64 j, .int .i64 i] w (RetB w (coefZ j i)) := by
  by_cases h : 0 ≤ j ∧ j < 64 ∧ 0 ≤ i ∧ i < 64
  · obtain ⟨j', rfl⟩ := Int.eq_ofNat_of_zero_le h.1
    obtain ⟨i', rfl⟩ := Int.eq_ofNat_of_zero_le h.2.2.1
    exact refCoef_in j' i' (by omega) (by omega) w
  · exact refCoef_out j i h w

/-- Have all rows the length of the first? -/
def oneLen (rs : List (List Nat)) : Bool := allLen (rs.getD 0 []).length rs
set_option maxRecDepth 100000 in
theorem oneLen_any {v : Value} {vs : List Value} {rs : List (List Nat)} {w : World} (h : RowsB w v vs rs) :
    Calls Try.prog 31 #[v] w (RetBo w (oneLen rs)) := by
  obtain ⟨ao, c, rfl, hm⟩ := h.isSlice
  unfold maxLen at hm
  obtain ⟨l, hl⟩ : ∃ l, l = rs.length := ⟨_, rfl⟩
  rw [← hl] at h hm ⊢
  obtain ⟨n, en⟩ : ∃ n, n = (rs.getD 0 []).length := ⟨_, rfl⟩
  unfold oneLen
  rw [← en]
  have HL := Lib.hid hl
  have HR := Lib.hid h
  have EN := Lib.hid en
  have hm' : l ≤ 9223372036854775807 := by omega
  clear hl h hm en
  go_enter Try.func31, Try.ntmps31
  go_wp2_with fail
  go_loop [7] (fun i => ∃ k : Nat, k ≤ l ∧ i = .int .i64 (k : Nat) ∧ allLen n (rs.take k) = true) (fun i => l - (intOf i).toNat)
  case atStart => exact ⟨0, Nat.zero_le _, rfl, rfl⟩
  case round =>
    obtain ⟨k, hk, rfl, hrel⟩ := hrel
    have HREL := Lib.hid hrel
    clear hrel
    by_cases h0 : k = l
    · subst h0
      have HF : Hid (allLen n rs = true) := Lib.hid (by have := HREL.out; rw [HL.out, List.take_length] at this; exact this)
      go_wp2_with fail
      go_ret
      exact ⟨by rw [HF.out]; rfl, rfl⟩
    · have hlt : k < l := by omega
      obtain ⟨b, off, a, m, cc, rfl, -, em, hmm, hcell, -⟩ := HR.out.row hlt
      obtain ⟨b2, off2, a0, m0, cc0, eb, -, em0, hmm0, hcell0, -⟩ := HR.out.row (k := 0) (by omega)
      simp only [Option.some.injEq, Addr.mk.injEq, and_true] at eb
      obtain ⟨rfl, rfl⟩ := eb
      rw [Nat.add_zero] at hcell0
      have e0 : n = m0 := by rw [em0]; exact EN.out
      subst e0
      have HM := Lib.hid em
      clear em em0 h0
      by_cases hmn : m = n
      · have hne : ((m : Int) != (n : Int)) = false := by simp [hmn]
        have HMN := Lib.hid hmn
        clear hmn
        go_wp2_with fail
        go_round
        case rel => exact ⟨k + 1, by omega, by go_num, allLen_take (by rw [← HL.out]; exact hlt) HREL.out (by rw [← HM.out, HMN.out])⟩
        case measure => simp [intOf]; omega
      · have hne : ((m : Int) != (n : Int)) = true := by simp; omega
        have HF : Hid (allLen n rs = false) := Lib.hid (allLen_not (by rw [← HL.out]; exact hlt) (by rw [← HM.out]; exact hmn))
        clear hmn
        go_wp2_with fail
        go_ret
        exact ⟨by rw [HF.out]; rfl, rfl⟩
end Go.Proofs.Ytmlcenocjpjcfaa
