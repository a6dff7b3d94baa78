/- The law FieldCombine: its walk, for all arguments. -/
import Derived.Test.YtahjijpoihljjaaG11
import Derived.Test.YtahjijpoihljjaaG12
import Derived.Test.YtahjijpoihljjaaG13
namespace Go.Proofs.Ytahjijpoihljjaa
open Go.RowKit GfM

/-- True is returned, and what lay in memory stays as it was. -/
def LawB (w : World) (e : Ending) (w' : World) : Prop := e = .returned (.bool true) ∧ Add w w'
set_option maxRecDepth 100000 in
theorem comb_long {cv v dv : Value} {vs : List Value} {cs ds : List Nat} {rs : List (List Nat)} {w : World} (hc : Reads w cv cs) (hr : RowsB w v vs rs) (hd : Reads w dv ds) (x : Nat)  (hrch : Reach rs) (hl : longR rs = true ∨ 40 < cs.length ∨ 40 < ds.length) : Calls Try.prog 6 #[cv, v, dv, .int .u8 (x : Nat)] w (LawB w) := by
  obtain ⟨aoc, cc, rfl, hmc⟩ := hc.isSlice
  obtain ⟨ao, cr, rfl, hm⟩ := hr.isSlice
  obtain ⟨aod, cd, rfl, hmd⟩ := hd.isSlice
  unfold maxLen at hm hmc hmd
  cases hlr : longR rs with
  | true =>
    have HLONG : Hid (∀ _w' : World, Calls Try.prog 23 #[.slice ao rs.length cr] w (RetBo w true)) := Lib.hid fun _ => by have := longR_any hr hrch; rw [hlr] at this; exact this
    clear hl hlr hc hr hd hrch
    go_enter Try.func6, Try.ntmps6
    go_wp2_with first | (go_at_call 23; (with_reducible refine (HLONG.out w).mono ?_); rintro e w' ⟨rfl, rfl⟩) | (go_at_call 22; refine (awake_any _).mono ?_; rintro e w' ⟨rfl, rfl⟩)
    go_ret
    exact ⟨rfl, Below.refl _ _⟩
  | false =>
    have HLONG : Hid (∀ _w' : World, Calls Try.prog 23 #[.slice ao rs.length cr] w (RetBo w false)) := Lib.hid fun _ => by have := longR_any hr hrch; rw [hlr] at this; exact this
    rw [hlr] at hl
    by_cases h40 : 40 < cs.length
    · clear hl hlr hc hr hd hrch
      go_enter Try.func6, Try.ntmps6
      go_wp2_with first | (go_at_call 23; (with_reducible refine (HLONG.out w).mono ?_); rintro e w' ⟨rfl, rfl⟩) | (go_at_call 22; refine (awake_any _).mono ?_; rintro e w' ⟨rfl, rfl⟩)
      go_ret
      exact ⟨rfl, Below.refl _ _⟩
    · have h41 : 40 < ds.length := by rcases hl with h | h | h; cases h; omega; exact h
      clear hl hlr hc hr hd hrch
      go_enter Try.func6, Try.ntmps6
      go_wp2_with first | (go_at_call 23; (with_reducible refine (HLONG.out w).mono ?_); rintro e w' ⟨rfl, rfl⟩) | (go_at_call 22; refine (awake_any _).mono ?_; rintro e w' ⟨rfl, rfl⟩)
      go_ret
      exact ⟨rfl, Below.refl _ _⟩
theorem conv_nil (w : World) : (convert 34 9 (.slice none 0 0)).run Try.prog w = .ok (.string ByteArray.empty) w :=
  run_convert_bytes_nil (P := Try.prog) w 34 5 Try.underlying34 Try.underlying5 0 0 9 Try.underlying9
set_option maxRecDepth 100000 in
theorem comb_bad {cv v dv : Value} {vs : List Value} {cs ds : List Nat} {rs : List (List Nat)} {w : World} (hc : Reads w cv cs) (hr : RowsB w v vs rs) (hd : Reads w dv ds) (x : Nat)  (hrch : Reach rs) (hlr : longR rs = false) (h40 : cs.length ≤ 40) (h41 : ds.length ≤ 40) (hok : combOk cs rs = false) : Calls Try.prog 6 #[cv, v, dv, .int .u8 (x : Nat)] w (LawB w) := by
  obtain ⟨aoc, cc, rfl, hmc⟩ := hc.isSlice
  obtain ⟨ao, cr, rfl, hm⟩ := hr.isSlice
  obtain ⟨aod, cd, rfl, hmd⟩ := hd.isSlice
  unfold maxLen at hm hmc hmd
  have HLONG : Hid (∀ _w' : World, Calls Try.prog 23 #[.slice ao rs.length cr] w (RetBo w false)) := Lib.hid fun _ => by have := longR_any hr hrch; rw [hlr] at this; exact this
  have C1 : Hid (∀ w', Add w w' → Calls Try.prog 24 #[.slice aoc cs.length cc, .slice ao rs.length cr] w' (CombE w')) := Lib.hid fun w' k => combine_bad (hc.mono k) (hr.mono k) hok
  have C2 : Hid (∀ w', Add w w' → Calls Try.prog 25 #[.slice aoc cs.length cc, .slice ao rs.length cr] w' (CombE w')) := Lib.hid fun w' k => refCombine_bad (hc.mono k) (hr.mono k) hok
  clear hlr hc hr hd hrch hok
  go_enter Try.func6, Try.ntmps6
  go_wp2_with (go_at_call 23; (with_reducible refine (HLONG.out w).mono ?_); rintro e w' ⟨rfl, rfl⟩)
  refine (C1.out _ (Below.refl _ _)).mono ?_
  rintro e w1 ⟨rfl, k1⟩
  go_wp2_with fail
  refine (C2.out _ k1).mono ?_
  rintro e w2 ⟨rfl, k2⟩
  have hcv := conv_nil w2
  have K := Lib.hid (Add.trans k1 k2)
  clear k1 k2
  go_wp2_with (go_at_call 22; refine (awake_any _).mono ?_; rintro e w' ⟨rfl, rfl⟩)
  go_ret
  exact ⟨rfl, K.out⟩
set_option maxRecDepth 100000 in
set_option maxHeartbeats 1000000 in
theorem comb_len {cv v dv : Value} {vs : List Value} {cs ds : List Nat} {rs : List (List Nat)} {w : World} (hc : Reads w cv cs) (hr : RowsB w v vs rs) (hd : Reads w dv ds) (x : Nat)  (hrch : Reach rs) (hlr : longR rs = false) (h40 : cs.length ≤ 40) (h41 : ds.length ≤ 40) (hok : combOk cs rs = true) (hne : ds.length ≠ cs.length) : Calls Try.prog 6 #[cv, v, dv, .int .u8 (x : Nat)] w (LawB w) := by
  obtain ⟨aoc, cc, rfl, hmc⟩ := hc.isSlice
  obtain ⟨ao, cr, rfl, hm⟩ := hr.isSlice
  obtain ⟨aod, cd, rfl, hmd⟩ := hd.isSlice
  unfold maxLen at hm hmc hmd
  have HLONG : Hid (∀ _w' : World, Calls Try.prog 23 #[.slice ao rs.length cr] w (RetBo w false)) := Lib.hid fun _ => by have := longR_any hr hrch; rw [hlr] at this; exact this
  have hbc := hc.limbs
  have hbd := hd.limbs
  obtain ⟨n, en⟩ : ∃ n, n = cs.length := ⟨_, rfl⟩
  obtain ⟨L, eL⟩ : ∃ L, L = (rs.getD 0 []).length := ⟨_, rfl⟩
  unfold combOk at hok
  simp only [Bool.and_eq_true, Bool.not_eq_true', beq_eq_false_iff_ne, beq_iff_eq] at hok
  obtain ⟨⟨k1, k2⟩, k3⟩ := hok
  have hL : L ≤ 1200 := by
    have hs : sumL rs ≤ 1200 := by unfold longR at hlr; simp at hlr; omega
    have h1 : (rs.getD 0 []).length ≤ sumL rs := by
      cases rs with
      | nil => simp [sumL]
      | cons r rs => simp [sumL]
    omega
  have hs : (rs.getD 0 []).length ≤ 100000 := by omega
  obtain ⟨A, eA⟩ : ∃ A, A = comb L cs rs n := ⟨_, rfl⟩
  have C1 : Hid (∀ w', Add w w' → Calls Try.prog 24 #[.slice aoc n cc, .slice ao n cr] w' (CombP w' L A)) := Lib.hid fun w' k => by
    have := combine_ok (hc.mono k) (hr.mono k) hs k1 k2 k3
    rw [eA, eL, en]; rw [k2] at this; exact this
  have C2 : Hid (∀ w', Add w w' → Calls Try.prog 25 #[.slice aoc n cc, .slice ao n cr] w' (CombP w' L A)) := Lib.hid fun w' k => by
    have := refCombine_ok (hc.mono k) (hr.mono k) hs k1 k2 k3
    rw [eA, eL, en]; rw [k2] at this; exact this
  have hnn : ((ds.length : Int) != (n : Int)) = true := by simp only [bne_iff_ne, ne_eq]; omega
  rw [k2, ← en] at HLONG
  rw [k2, ← en]
  have hn40 : n ≤ 40 := by omega
  clear hlr hc hr hd hrch hne k1 k2 k3 hs eA eL hbc hbd en
  go_enter Try.func6, Try.ntmps6
  go_wp2_with (go_at_call 23; (with_reducible refine (HLONG.out w).mono ?_); rintro e w' ⟨rfl, rfl⟩)
  refine (C1.out _ (Below.refl _ _)).mono ?_
  rintro e w1 ⟨g1, rfl, o1, k1⟩
  go_wp2_with fail
  refine (C2.out _ k1).mono ?_
  rintro e w2 ⟨g2, rfl, o2, k2⟩
  have hcv1 := o1.conv k2
  have hcv2 := o2.conv (Below.refl _ _)
  have K := Lib.hid (Add.trans k1 k2)
  clear k1 k2 o1 o2
  go_wp2_with (go_at_call 22; refine (awake_any _).mono ?_; rintro e w' ⟨rfl, rfl⟩)
  go_ret
  exact ⟨rfl, K.out⟩
set_option maxRecDepth 100000 in
set_option maxHeartbeats 4000000 in
theorem comb_law {cv v dv : Value} {vs : List Value} {cs ds : List Nat} {rs : List (List Nat)} {w : World} (hc : Reads w cv cs) (hr : RowsB w v vs rs) (hd : Reads w dv ds) (x : Nat) (hx : x < 256) (hrch : Reach rs) (hlr : longR rs = false) (_h40 : cs.length ≤ 40) (h41 : ds.length ≤ 40) (hok : combOk cs rs = true) (hne : ds.length = cs.length) : Calls Try.prog 6 #[cv, v, dv, .int .u8 (x : Nat)] w (LawB w) := by
  obtain ⟨aoc, cc, rfl, hmc⟩ := hc.isSlice
  obtain ⟨ao, cr, rfl, hm⟩ := hr.isSlice
  obtain ⟨aod, cd, rfl, hmd⟩ := hd.isSlice
  unfold maxLen at hm hmc hmd
  have HLONG : Hid (∀ _w' : World, Calls Try.prog 23 #[.slice ao rs.length cr] w (RetBo w false)) := Lib.hid fun _ => by have := longR_any hr hrch; rw [hlr] at this; exact this
  have hbc := hc.limbs
  have hbd := hd.limbs
  obtain ⟨n, en⟩ : ∃ n, n = cs.length := ⟨_, rfl⟩
  obtain ⟨L, eL⟩ : ∃ L, L = (rs.getD 0 []).length := ⟨_, rfl⟩
  unfold combOk at hok
  simp only [Bool.and_eq_true, Bool.not_eq_true', beq_eq_false_iff_ne, beq_iff_eq] at hok
  obtain ⟨⟨k1, k2⟩, k3⟩ := hok
  have hL : L ≤ 1200 := by
    have hs : sumL rs ≤ 1200 := by unfold longR at hlr; simp at hlr; omega
    have h1 : (rs.getD 0 []).length ≤ sumL rs := by
      cases rs with
      | nil => simp [sumL]
      | cons r rs => simp [sumL]
    omega
  have hs : (rs.getD 0 []).length ≤ 100000 := by omega
  obtain ⟨A, eA⟩ : ∃ A, A = comb L cs rs n := ⟨_, rfl⟩
  have C1 : Hid (∀ w', Add w w' → Calls Try.prog 24 #[.slice aoc n cc, .slice ao n cr] w' (CombP w' L A)) := Lib.hid fun w' k => by
    have := combine_ok (hc.mono k) (hr.mono k) hs k1 k2 k3
    rw [eA, eL, en]; rw [k2] at this; exact this
  have C2 : Hid (∀ w', Add w w' → Calls Try.prog 25 #[.slice aoc n cc, .slice ao n cr] w' (CombP w' L A)) := Lib.hid fun w' k => by
    have := refCombine_ok (hc.mono k) (hr.mono k) hs k1 k2 k3
    rw [eA, eL, en]; rw [k2] at this; exact this
  obtain ⟨i0, hi, hz0, hz1, hz2⟩ := info_parts info5
  obtain ⟨B, eB⟩ : ∃ B, B = comb L ds rs n := ⟨_, rfl⟩
  obtain ⟨S, eS⟩ : ∃ S, S = addTo cs x ds := ⟨_, rfl⟩
  obtain ⟨U, eU⟩ : ∃ U, U = addTo A x B := ⟨_, rfl⟩
  have lS : S.length = n := by rw [eS, length_addTo, en]
  have bS : Bys S := by rw [eS]; exact bys_addTo hbc hx
  have lA : A.length = L := by rw [eA, length_comb]
  have lB : B.length = L := by rw [eB, length_comb]
  have bA : Bys A := by rw [eA]; exact bys_comb L rs hbc n
  have bB : Bys B := by rw [eB]; exact bys_comb L rs hbd n
  have lU : U.length = L := by rw [eU, length_addTo, lA]
  have hrow : ∀ k, k < cs.length → (rs.getD k []).length = L ∧ Bys (rs.getD k []) := by
    intro k hk
    refine ⟨by rw [eL]; exact allLen_get k3 (by omega), ?_⟩
    obtain ⟨_, _, _, _, _, _, _, _, _, _, hrd⟩ := hr.row (k := k) (by omega)
    exact hrd.limbs
  have eUS : comb L S rs n = U := by rw [eS, eU, eA, eB, en]; exact comb_mix hbc hbd hx hne.symm hrow _ (Nat.le_refl _)
  have C3 : Hid (∀ w' g, Add w w' → Own w' w.heap.size g n S → Calls Try.prog 24 #[.slice (some ⟨g, 0, none⟩) n n, .slice ao n cr] w' (CombP w' L U)) := Lib.hid fun w' g k h => by
    have hS : Reads w' (.slice (some ⟨g, 0, none⟩) n n) S := h.reads (by unfold maxLen; omega) bS
    have := combine_ok hS (hr.mono k) hs (by omega) (by omega) k3
    rw [lS, ← eL, eUS] at this; rw [k2, ← en] at this; exact this
  have C4 : Hid (∀ w', Add w w' → Calls Try.prog 24 #[.slice aod n cd, .slice ao n cr] w' (CombP w' L B)) := Lib.hid fun w' k => by
    have := combine_ok (hd.mono k) (hr.mono k) hs (by omega) (by omega) k3
    rw [← eL, hne, ← en, ← eB] at this; rw [k2, ← en] at this; exact this
  rw [k2, ← en] at HLONG
  rw [k2, hne, ← en]
  rw [← en] at hc
  rw [hne, ← en] at hd
  have HC := Lib.hid hc
  have HD := Lib.hid hd
  have ES := Lib.hid eS
  have EU := Lib.hid eU
  have LS := Lib.hid lS
  have LA := Lib.hid lA
  have LB := Lib.hid lB
  have LU := Lib.hid lU
  have LC := Lib.hid en
  have LD := Lib.hid (hne.trans en.symm)
  have hn40 : n ≤ 40 := by omega
  clear hlr hc hr hd hrch hne k1 k2 k3 hs eA eL eB eS eU lS lA lB lU hrow eUS en
  go_enter Try.func6, Try.ntmps6
  go_wp2_with (go_at_call 23; (with_reducible refine (HLONG.out w).mono ?_); rintro e w' ⟨rfl, rfl⟩)
  refine (C1.out _ (Below.refl _ _)).mono ?_
  rintro e w1 ⟨g1, rfl, o1, k1⟩
  go_wp2_with fail
  refine (C2.out _ k1).mono ?_
  rintro e w2 ⟨g2, rfl, o2, k2⟩
  have hcv1 := o1.conv k2
  have hcv2 := o2.conv (Below.refl _ _)
  have K := Lib.hid (Add.trans k1 k2)
  have O1 := Lib.hid (o1.below k2)
  clear k1 k2 o1 o2
  go_wp2_with (at_make; refine wpList_make_full _ rfl _ _ 34 rfl w2.heap.size 5 i0 (.int .u8 0) 1 Try.underlying34 hi hz0 hz1 _ _ _ _ n rfl rfl (by omega) (by omega) (by rw [hz2]; omega) (by unfold maxLen; omega) (Nat.le_refl _) ?_)
  intro w3 hown hgr
  have hadd : Add w2 w3 := (Below.refl _ _).grown hgr (Nat.le_refl _) (by simp)
  have hown := Own.made hown
  have HROW := Lib.hid hown.row
  have K3 := Lib.hid (Add.trans K.out hadd)
  have HSZ := Lib.hid K.out.size
  have K23 := Lib.hid hadd
  clear hgr hown hadd hcv1 hcv2
  go_wp2_with fail
  go_loopw [14] (fun i wr => ∃ k : Nat, k ≤ n ∧ i = .int .i64 (k : Nat) ∧ Row wr w2.heap.size (fillTo S n k) ∧ Add w2 wr) (fun i _ => n - (intOf i).toNat)
  case atStart => exact ⟨0, Nat.zero_le _, rfl, by rw [fillTo_zero]; exact HROW.out, K23.out⟩
  case round =>
    obtain ⟨k, hk, rfl, hrow, hadd⟩ := hrel
    by_cases h0 : k = n
    · have HR : Hid (Own wr w2.heap.size w2.heap.size n S) := Lib.hid (by
        rw [h0, fillTo_all LS.out] at hrow
        exact hrow.own (Nat.le_refl _) LS.out (by unfold maxLen; omega))
      have HA := Lib.hid (Add.trans K.out hadd)
      have O1' := Lib.hid (O1.out.below hadd)
      clear hrow hadd
      subst h0
      go_wp2_with fail
      refine (C3.out _ _ HA.out (Row.own HR.out.row HSZ.out LS.out (by unfold maxLen; omega))).mono ?_
      rintro e w4 ⟨g4, rfl, o4, k4⟩
      have HA4 := Lib.hid (Add.trans HA.out k4)
      have O1'' := Lib.hid (O1'.out.below k4)
      clear k4
      go_wp2_with fail
      refine (C4.out _ HA4.out).mono ?_
      rintro e w5 ⟨g5, rfl, o5, k5⟩
      have HA5 := Lib.hid (Add.trans HA4.out k5)
      have R1 := Lib.hid (O1''.out.below k5).row
      have R4 := Lib.hid (o4.below k5).row
      have R5 := Lib.hid o5.row
      clear k5 o4 o5 O1' O1'' HA HA4 HR
      go_wp2_with fail
      go_loopw [19] (fun i wx => ∃ m : Nat, m ≤ L ∧ i = .int .i64 (m : Nat) ∧ ∃ q, wx = w5.drewN q) (fun i _ => L - (intOf i).toNat)
      case atStart => exact ⟨0, Nat.zero_le _, rfl, 0, rfl⟩
      case round =>
        obtain ⟨m, hm', rfl, q, rfl⟩ := hrel
        by_cases hmL : m = L
        · subst hmL
          go_wp2_with (go_at_call 22; refine (awake_any _).mono ?_; rintro e w' ⟨rfl, rfl⟩)
          go_ret
          exact ⟨rfl, below_drewN HA5.out _⟩
        · have hlt : m < L := by omega
          have c1 := R1.out.cell m (by rw [LA.out]; exact hlt)
          have c4 := R4.out.cell m (by rw [LU.out]; exact hlt)
          have c5 := R5.out.cell m (by rw [LB.out]; exact hlt)
          obtain ⟨p, ep⟩ : ∃ p, p = A.getD m 0 := ⟨_, rfl⟩
          obtain ⟨y, ey⟩ : ∃ y, y = B.getD m 0 := ⟨_, rfl⟩
          obtain ⟨z, ez⟩ : ∃ z, z = gm x y := ⟨_, rfl⟩
          obtain ⟨u, eu⟩ : ∃ u, u = p ^^^ z := ⟨_, rfl⟩
          have hp : p < 256 := by rw [ep]; exact bA.get m
          have hy : y < 256 := by rw [ey]; exact bB.get m
          have hz : z < 256 := by rw [ez]; exact gm_lt hx
          rw [← ep] at c1
          rw [← ey] at c5
          rw [EU.out, getD_addTo' (by rw [LA.out]; exact hlt) (by rw [LB.out]; exact hlt), ← ep, ← ey, ← ez, ← eu] at c4
          have hxor : bits .xor .u8 (p : Int) (z : Int) = (u : Int) := by rw [eu]; exact u8_xor_nat p z hp hz
          have CM : Hid (∀ w, Calls Try.prog 18 #[.int .u8 (x : Nat), .int .u8 (y : Nat)] w (RetB w z)) := Lib.hid fun w => mulE hx hy ez.symm w
          clear ep ey ez eu hp hy hz hmL
          go_wp2_with fail
          go_region_with (first | (go_at_call 18; (with_reducible refine (CM.out _).mono ?_); rintro e w' ⟨rfl, rfl⟩))
          all_goals
            go_wp2_with fail
            go_roundw
            case rel => exact ⟨m + 1, by omega, by go_num, _, by first | rfl | exact World.drewN_drewN _ _ _ | exact World.drewN_drewN _ _ 1⟩
            case measure => simp [intOf]; omega
    · have hlt : k < n := by omega
      have hAw := Add.trans K.out hadd
      obtain ⟨bc, offc, rfl, hcc⟩ := (HC.out.mono hAw).cell hlt
      obtain ⟨bd, offd, rfl, hcd⟩ := (HD.out.mono hAw).cell hlt
      have hfree := hrow.free k
      obtain ⟨c, ec⟩ : ∃ c, c = cs.getD k 0 := ⟨_, rfl⟩
      obtain ⟨y, ey⟩ : ∃ y, y = ds.getD k 0 := ⟨_, rfl⟩
      obtain ⟨z, ez⟩ : ∃ z, z = gm x y := ⟨_, rfl⟩
      obtain ⟨s, es⟩ : ∃ s, s = c ^^^ z := ⟨_, rfl⟩
      have hc256 : c < 256 := by rw [ec]; exact hbc.get k
      have hy : y < 256 := by rw [ey]; exact hbd.get k
      have hz : z < 256 := by rw [ez]; exact gm_lt hx
      rw [← ec] at hcc
      rw [← ey] at hcd
      have hxor : bits .xor .u8 (c : Int) (z : Int) = (s : Int) := by rw [es]; exact u8_xor_nat c z hc256 hz
      have CM : Hid (∀ w, Calls Try.prog 18 #[.int .u8 (x : Nat), .int .u8 (y : Nat)] w (RetB w z)) := Lib.hid fun w => mulE hx hy ez.symm w
      have HROW2 : Hid (Row (wr.setCell ⟨w2.heap.size, k, none⟩ (.int .u8 (s : Nat))) w2.heap.size (fillTo S n (k + 1))) := Lib.hid (by
        have h := hrow.set k s
        have e : s = S.getD k 0 := by rw [ES.out, getD_addTo' (by rw [← LC.out]; exact hlt) (by rw [LD.out]; exact hlt), ← ec, ← ey, ← ez, es]
        rw [e, fillTo_step LS.out hlt] at h
        rw [e]; exact h)
      have HG : Hid (Add w2 (wr.setCell ⟨w2.heap.size, k, none⟩ (.int .u8 (s : Nat)))) := Lib.hid (hadd.setCell (Nat.le_refl _) _)
      have hlen : k < (fillTo S n k).length := by rw [length_fillTo LS.out hk]; exact hlt
      obtain ⟨old, eold⟩ : ∃ old, old = (fillTo S n k).getD k 0 := ⟨_, rfl⟩
      have hcs := hrow.cell k hlen
      rw [← eold] at hcs
      clear hrow hadd hAw ec ey ez es hc256 hy hz h0 hlen eold
      go_wp2_with fail
      go_region_with (first | (go_at_call 18; (with_reducible refine (CM.out _).mono ?_); rintro e w' ⟨rfl, rfl⟩))
      all_goals
        go_wp2_with fail
        go_roundw
        case rel => exact ⟨k + 1, by omega, by go_num, HROW2.out, below_drewN HG.out 1⟩
        case measure => simp [intOf]; omega
theorem fieldCombine_any {cv v dv : Value} {vs : List Value} {cs ds : List Nat} {rs : List (List Nat)} {w : World} (hc : Reads w cv cs) (hr : RowsB w v vs rs) (hd : Reads w dv ds) (x : Nat) (hx : x < 256) (hrch : Reach rs) : Calls Try.prog 6 #[cv, v, dv, .int .u8 (x : Nat)] w (LawB w) := by
  by_cases hl : longR rs = true ∨ 40 < cs.length ∨ 40 < ds.length
  · exact comb_long hc hr hd x hrch hl
  · have h1 : longR rs = false := by cases h : longR rs; rfl; exact absurd (Or.inl h) hl
    have h2 : cs.length ≤ 40 := by omega
    have h3 : ds.length ≤ 40 := by omega
    cases hok : combOk cs rs with
    | false => exact comb_bad hc hr hd x hrch h1 h2 h3 hok
    | true =>
      by_cases hne : ds.length = cs.length
      · exact comb_law hc hr hd x hx hrch h1 h2 h3 hok hne
      · exact comb_len hc hr hd x hrch h1 h2 h3 hok hne
end Go.Proofs.Ytahjijpoihljjaa
