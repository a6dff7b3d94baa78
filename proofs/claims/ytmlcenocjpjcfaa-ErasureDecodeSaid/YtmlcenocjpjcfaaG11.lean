/- The reference of package field: Combine. -/
import Derived.Test.YtmlcenocjpjcfaaG10
namespace Go.Proofs.Ytmlcenocjpjcfaa
open Go.RowKit GfM

set_option maxRecDepth 100000 in
set_option maxHeartbeats 1000000 in
/-- What may be combined is. -/
theorem refCombine_ok {cv v : Value} {vs : List Value} {cs : List Nat} {rs : List (List Nat)} {w : World} (hc : Reads w cv cs) (hr : RowsB w v vs rs) (hs : (rs.getD 0 []).length ≤ 100000) (h1 : cs.length ≠ 0) (h2 : rs.length = cs.length) (h3 : allLen (rs.getD 0 []).length rs = true) :
    Calls Try.prog 34 #[cv, v] w (CombP w (rs.getD 0 []).length (comb (rs.getD 0 []).length cs rs cs.length)) := by
  obtain ⟨i0, hi, hz0, hz1, hz2⟩ := info_parts info5
  have hbc := hc.limbs
  obtain ⟨aoc, cc, rfl, hmc⟩ := hc.isSlice
  obtain ⟨ao, cr, rfl, hm⟩ := hr.isSlice
  unfold maxLen at hm hmc
  obtain ⟨n, en⟩ : ∃ n, n = cs.length := ⟨_, rfl⟩
  rw [h2, ← en] at hr hm ⊢
  rw [← en] at hc hmc h1
  obtain ⟨L, eL⟩ : ∃ L, L = (rs.getD 0 []).length := ⟨_, rfl⟩
  rw [← eL] at h3 hs ⊢
  have hpos : 0 < n := by omega
  obtain ⟨b, off, a0, l0, c0, rfl, -, el0, hl0, hcell0, hrd0⟩ := hr.row (k := 0) hpos
  have e0 : l0 = L := by rw [el0, eL]
  subst e0
  have hne : ((n : Int) == 0) = false := by simp; omega
  have HC := Lib.hid hc
  have HR := Lib.hid hr
  have HN := Lib.hid (h2.trans en.symm)
  have H3 := Lib.hid h3
  rw [Nat.add_zero] at hcell0
  clear hc hr h1 h2 h3 en eL el0 hrd0
  go_enter Try.func34, Try.ntmps34
  go_wp2_with fail
  go_loopw [6] (fun i wr => ∃ k : Nat, k ≤ n ∧ i = .int .i64 (k : Nat) ∧ ∃ q, wr = w.drewN q) (fun i _ => n - (intOf i).toNat)
  case atStart => exact ⟨0, Nat.zero_le _, rfl, 0, rfl⟩
  case round =>
    obtain ⟨k, hk, rfl, q, rfl⟩ := hrel
    by_cases h0 : k = n
    · subst h0
      go_wp2_with (at_make; refine wpList_make_full _ rfl _ _ 32 rfl w.heap.size 5 i0 (.int .u8 0) 1 Try.underlying32 hi hz0 hz1 _ _ _ _ l0 rfl rfl (by omega) (by omega) (by rw [hz2]; omega) (by unfold maxLen; omega) (Nat.le_refl _) ?_)
      intro w1 hown hgr
      have hadd : Add w w1 := (below_drewN (Below.refl _ _) q).grown hgr (Nat.le_refl _) (by simp)
      have hown := Own.made hown
      have HROW := Lib.hid hown.row
      have HADD := Lib.hid hadd
      clear hgr hown hadd hcell0
      go_wp2_with fail
      go_loopw [8] (fun i wr => ∃ j : Nat, j ≤ k ∧ i = .int .i64 (j : Nat) ∧ Row wr w.heap.size (comb l0 cs rs j) ∧ Add w wr) (fun i _ => k - (intOf i).toNat)
      case atStart => exact ⟨0, Nat.zero_le _, rfl, HROW.out, HADD.out⟩
      case round =>
        obtain ⟨j, hj, rfl, hrow, hadd⟩ := hrel
        by_cases h0 : j = k
        · subst h0
          have HF : Hid (Own wr w.heap.size w.heap.size l0 (comb l0 cs rs j)) := Lib.hid (hrow.own (Nat.le_refl _) (length_comb ..) (by unfold maxLen; omega))
          have HA := Lib.hid hadd
          clear hrow hadd
          go_wp2_with fail
          go_ret2
          exact ⟨w.heap.size, rfl, HF.out, HA.out⟩
        · have hlt : j < k := by omega
          have hll : (rs.getD j []).length = l0 := allLen_get H3.out (by rw [HN.out]; exact hlt)
          obtain ⟨b2, off2, a, l, c, eb, -, el, -, hcell, hrd⟩ := HR.out.row hlt
          simp only [Option.some.injEq, Addr.mk.injEq, and_true] at eb
          obtain ⟨rfl, rfl⟩ := eb
          have e0 : l0 = l := by rw [el, hll]
          subst e0
          obtain ⟨bc, offc, rfl, hcc⟩ := HC.out.cell hlt
          obtain ⟨f, ef⟩ : ∃ f, f = cs.getD j 0 := ⟨_, rfl⟩
          obtain ⟨xs, exs⟩ : ∃ xs, xs = rs.getD j [] := ⟨_, rfl⟩
          have hf : f < 256 := by rw [ef]; exact hbc.get j
          rw [← ef] at hcc
          rw [← exs] at hrd hll
          have hbx := hrd.limbs
          have HNEXT : Hid (addTo (comb l0 cs rs j) f xs = comb l0 cs rs (j + 1)) := Lib.hid (by rw [ef, exs]; rfl)
          have HCELL := Lib.hid hcell
          have HCC := Lib.hid hcc
          have HRD := Lib.hid hrd
          have HX := Lib.hid hll
          have hbz := bys_comb l0 rs hbc j
          obtain ⟨zs, ezs⟩ : ∃ zs, zs = comb l0 cs rs j := ⟨_, rfl⟩
          have hzl : zs.length = l0 := by rw [ezs, length_comb]
          rw [← ezs] at hrow hbz HNEXT
          have HROW := Lib.hid hrow
          have HADD := Lib.hid hadd
          have HZ := Lib.hid hzl
          clear hrow hadd hcell hcc hrd hll ef exs el ezs hzl h0
          go_wp2_with fail
          go_loopw [9] (fun i wr => ∃ m : Nat, m ≤ l0 ∧ i = .int .i64 (m : Nat) ∧ Row wr w.heap.size (addTo zs f (xs.take m)) ∧ Add w wr) (fun i _ => l0 - (intOf i).toNat)
          case atStart => exact ⟨0, Nat.zero_le _, rfl, by rw [List.take_zero, addTo_nil]; exact HROW.out, HADD.out⟩
          case round =>
            obtain ⟨m, hm', rfl, hrow, hadd⟩ := hrel
            by_cases h0 : m = l0
            · have HR2 : Hid (Row wr w.heap.size (comb l0 cs rs (j + 1))) := Lib.hid (by
                have e : xs.take m = xs := by rw [h0, ← HX.out, List.take_length]
                rw [e, HNEXT.out] at hrow; exact hrow)
              have HA := Lib.hid hadd
              clear hrow hadd
              subst h0
              go_wp2_with fail
              go_roundw
              case rel => exact ⟨j + 1, by omega, by go_num, HR2.out, HA.out⟩
              case measure => simp [intOf]; omega
            · have hmlt : m < l0 := by omega
              have hcell := (hadd.cell (p := ⟨b, off + j, none⟩) (World.block_lt_of_cell? w _ HCELL.out)).trans HCELL.out
              have hcc := (hadd.cell (p := ⟨bc, offc + j, none⟩) (World.block_lt_of_cell? w _ HCC.out)).trans HCC.out
              obtain ⟨bx, offx, rfl, hcx⟩ := (HRD.out.mono hadd).cell hmlt
              have hcz := hrow.cell m (by rw [length_addTo, HZ.out]; exact hmlt)
              rw [getD_addTo zs f xs m (by rw [HZ.out]; exact hmlt)] at hcz
              have hfree := hrow.free m
              obtain ⟨z, ez⟩ : ∃ z, z = zs.getD m 0 := ⟨_, rfl⟩
              obtain ⟨x, ex⟩ : ∃ x, x = xs.getD m 0 := ⟨_, rfl⟩
              have hz256 : z < 256 := by rw [ez]; exact hbz.get m
              have hx256 : x < 256 := by rw [ex]; exact hbx.get m
              rw [← ez] at hcz
              rw [← ex] at hcx
              obtain ⟨p, ep⟩ : ∃ p, p = gm f x := ⟨_, rfl⟩
              obtain ⟨s, es⟩ : ∃ s, s = z ^^^ p := ⟨_, rfl⟩
              have C1 : Hid (∀ w, Calls Try.prog 24 #[.int .u8 (f : Nat), .int .u8 (x : Nat)] w (RetB w p)) := Lib.hid fun w => by rw [ep]; exact refMul_any f x hf hx256 w
              have hxor : bits .xor .u8 (z : Int) (p : Int) = (s : Int) := by rw [es]; exact u8_xor_nat z p hz256 (by rw [ep]; exact gm_lt hf)
              have HROW : Hid (Row (wr.setCell ⟨w.heap.size, m, none⟩ (.int .u8 (s : Nat))) w.heap.size (addTo zs f (xs.take (m + 1)))) := Lib.hid (by
                have := hrow.set m s
                rw [es, ep, ez, ex, addTo_step zs f xs m (by rw [HZ.out]; exact hmlt) (by rw [HX.out]; exact hmlt)] at this
                rw [es, ep, ez, ex]; exact this)
              have HG : Hid (Add w (wr.setCell ⟨w.heap.size, m, none⟩ (.int .u8 (s : Nat)))) := Lib.hid (hadd.setCell (Nat.le_refl _) _)
              clear hrow hadd ez ex ep es h0 hz256 hx256
              go_wp2_with fail
              go_region_with (first | (go_at_call 24; (with_reducible refine (C1.out _).mono ?_); rintro e w' ⟨rfl, rfl⟩))
              all_goals
                go_wp2_with fail
                go_roundw
                case rel => exact ⟨m + 1, by omega, by go_num, HROW.out, below_drewN HG.out 1⟩
                case measure => simp [intOf]; omega
    · have hlt : k < n := by omega
      obtain ⟨b2, off2, a, l, c, eb, -, el, -, hcell, -⟩ := HR.out.row hlt
      simp only [Option.some.injEq, Addr.mk.injEq, and_true] at eb
      obtain ⟨rfl, rfl⟩ := eb
      have e0 : l0 = l := by rw [el]; exact (allLen_get H3.out (by rw [HN.out]; exact hlt)).symm
      subst e0
      clear el h0
      go_wp2_with fail
      go_quiet (fail)
      go_wp2_with fail
      go_roundw
      case rel => exact ⟨k + 1, by omega, by go_num, _, by first | rfl | exact World.drewN_drewN _ _ _⟩
      case measure => simp [intOf]; omega
end Go.Proofs.Ytmlcenocjpjcfaa
