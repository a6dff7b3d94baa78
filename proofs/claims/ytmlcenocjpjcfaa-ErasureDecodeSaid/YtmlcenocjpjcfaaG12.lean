/- The reference of package field: what Combine refuses. -/
import Derived.Test.YtmlcenocjpjcfaaG10
namespace Go.Proofs.Ytmlcenocjpjcfaa
open Go.RowKit GfM

set_option maxRecDepth 100000 in
theorem refCombine_bad {cv v : Value} {vs : List Value} {cs : List Nat} {rs : List (List Nat)} {w : World} (hc : Reads w cv cs) (hr : RowsB w v vs rs) (h : combOk cs rs = false) :
    Calls Try.prog 34 #[cv, v] w (CombE w) := by
  obtain ⟨aoc, cc, rfl, hmc⟩ := hc.isSlice
  obtain ⟨ao, cr, rfl, hm⟩ := hr.isSlice
  unfold maxLen at hm hmc
  by_cases h0 : cs.length = 0
  · rw [h0]
    clear hc hr h h0
    go_enter Try.func34, Try.ntmps34
    go_wp2_with fail
    go_ret2
    exact ⟨rfl, Below.refl _ _⟩
  · by_cases h1 : rs.length = cs.length
    · obtain ⟨n, en⟩ : ∃ n, n = cs.length := ⟨_, rfl⟩
      rw [h1, ← en] at hr ⊢
      rw [h1, ← en] at hm
      have hpos : 0 < n := by omega
      obtain ⟨b, off, a0, l0, c0, rfl, -, el0, hl0, hcell0, hrd0⟩ := hr.row (k := 0) hpos
      have h3 : allLen l0 rs = false := by
        unfold combOk at h
        rw [el0]
        simp [h1, h0] at h
        exact h
      have hne : ((n : Int) == 0) = false := by rw [beq_eq_false_iff_ne]; omega
      rw [Nat.add_zero] at hcell0
      have HR := Lib.hid hr
      have HN := Lib.hid (h1.trans en.symm)
      have H3 := Lib.hid h3
      clear hc hr h h0 h1 en el0 hrd0 h3
      go_enter Try.func34, Try.ntmps34
      go_wp2_with fail
      go_loopw [6] (fun i wr => ∃ k : Nat, k ≤ n ∧ i = .int .i64 (k : Nat) ∧ allLen l0 (rs.take k) = true ∧ ∃ q, wr = w.drewN q) (fun i _ => n - (intOf i).toNat)
      case atStart => exact ⟨0, Nat.zero_le _, rfl, rfl, 0, rfl⟩
      case round =>
        obtain ⟨k, hk, rfl, hal, q, rfl⟩ := hrel
        by_cases hkn : k = n
        · exfalso
          rw [hkn, ← HN.out, List.take_length, H3.out] at hal
          cases hal
        · have hlt : k < n := by omega
          obtain ⟨b2, off2, a, l, c, eb, -, el, hl, hcell, -⟩ := HR.out.row hlt
          simp only [Option.some.injEq, Addr.mk.injEq, and_true] at eb
          obtain ⟨rfl, rfl⟩ := eb
          have HAL := Lib.hid hal
          have HL := Lib.hid el
          clear hal el hkn
          by_cases hll : l = l0
          · have HLL := Lib.hid hll
            have hll := hll.symm
            subst hll
            go_wp2_with fail
            go_quiet (fail)
            go_wp2_with fail
            go_roundw
            case rel => exact ⟨k + 1, by omega, by go_num, allLen_take (by rw [HN.out]; exact hlt) HAL.out HL.out.symm, _, by first | rfl | exact World.drewN_drewN _ _ _⟩
            case measure => simp [intOf]; omega
          · have hne2 : ((l : Int) != (l0 : Int)) = true := by simp only [bne_iff_ne, ne_eq]; omega
            clear hll
            go_wp2_with fail
            go_quiet (fail)
            go_wp2_with fail
            go_ret2
            exact ⟨rfl, by first | exact below_drewN (below_drewN (Below.refl _ _) _) _ | exact below_drewN (Below.refl _ _) _⟩
    · have hne : ((cs.length : Int) == 0) = false := by rw [beq_eq_false_iff_ne]; omega
      have hnn : ((cs.length : Int) != (rs.length : Int)) = true := by simp only [bne_iff_ne, ne_eq]; omega
      clear hc hr h h0 h1
      go_enter Try.func34, Try.ntmps34
      go_wp2_with fail
      go_ret2
      exact ⟨rfl, Below.refl _ _⟩
end Go.Proofs.Ytmlcenocjpjcfaa
