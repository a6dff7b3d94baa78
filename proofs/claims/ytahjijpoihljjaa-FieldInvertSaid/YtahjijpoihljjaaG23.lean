/- The law FieldSingular: its walk, for all arguments. -/
import Derived.Test.YtahjijpoihljjaaG22
import Derived.Test.YtahjijpoihljjaaG14
import Derived.StillTailTactics
namespace Go.Proofs.Ytahjijpoihljjaa
open Go.RowKit GfM

/-- Whatever Invert refuses as singular. -/
theorem invert_none {w : World} {v : Value} {vs : List Value} {rs : List (List Nat)} {n : Nat} (h : RowsB w v vs rs) (hd : Dim n n rs) (h0 : 0 < n) (h32 : n ≤ 32) (hi : invM rs n = none) :
    Calls Try.prog 26 #[v] w (fun e w' => e = .returned (.tuple #[.slice none 0 0, .int .i64 9]) ∧ Add w w') := by
  have := invert_ok h hd.1 h0 h32 (getD_all hd)
  rw [hi] at this
  exact this

set_option maxRecDepth 100000 in
set_option maxHeartbeats 4000000 in
theorem fieldSingular_any {lv cv : Value} {l cs : List Nat} {w : World} (hl : Reads w lv l) (hc : Reads w cv cs) (n at' : Nat) (hn : n < 256) (hat : at' < 256) :
    Calls Try.prog 9 #[.int .u8 (n : Nat), lv, cv, .int .u8 (at' : Nat)] w (LawB w) := by
  obtain ⟨i0, hi, hz0, hz1, hz2⟩ := info_parts info5
  have hbl := hl.limbs
  have hbc := hc.limbs
  obtain ⟨aol, cl, rfl, hml⟩ := hl.isSlice
  obtain ⟨aoc, cc, rfl, hmc⟩ := hc.isSlice
  unfold maxLen at hml hmc
  obtain ⟨K, eK⟩ : ∃ K, K = 1 + n % 8 := ⟨_, rfl⟩
  obtain ⟨I, eI⟩ : ∃ I, I = at' % K := ⟨_, rfl⟩
  have hK0 : 0 < K := by omega
  have hK8 : K ≤ 8 := by omega
  have hI : I < K := by rw [eI]; exact Nat.mod_lt _ hK0
  have hKi : (1 : Int) + (n : Int) % 8 = (K : Int) := by omega
  have hIi : (at' : Int) % (K : Int) = (I : Int) := by rw [eI]; simp
  have hw1 : IntKind.i64.wrap (n : Int) = n := by rw [IntKind.wrap_i64]; omega
  have hw2 : IntKind.i64.wrap (at' : Int) = at' := by rw [IntKind.wrap_i64]; omega
  obtain ⟨C, eC⟩ : ∃ C, C = cs.length := ⟨_, rfl⟩
  rw [← eC] at hc hmc ⊢
  have CS : Hid (Calls Try.prog 29 #[.int .i64 (K : Nat), .slice aol l.length cl] w (SqP w l K)) := Lib.hid (square_any hl hK8 hK0)
  have HC := Lib.hid hc
  have EC := Lib.hid eC
  have hd := sq_dim (K := K) hbl
  obtain ⟨M, eM⟩ : ∃ M, M = sqTo l K K := ⟨_, rfl⟩
  have EM := Lib.hid eM
  rw [← eM] at hd
  clear hl hc eK eI eC eM
  go_enter Try.func9, Try.ntmps9
  go_wp2_with fail
  refine CS.out.mono ?_
  rintro e w1 ⟨v, gs, rfl, hsq, hadd1⟩
  rw [← EM.out] at hsq
  obtain ⟨G, cap, rfl, hbG, hrows⟩ := hsq.rows hd hK0 hK8
  have HSQ := Lib.hid hsq
  have HADD1 := Lib.hid hadd1
  have HROWS := Lib.hid hrows
  clear hsq hadd1 hrows CS
  go_wp2_with (at_make; refine wpList_make_full _ rfl _ _ 34 rfl w1.heap.size 5 i0 (.int .u8 0) 1 Try.underlying34 hi hz0 hz1 _ _ _ _ K rfl rfl (by omega) (by omega) (by rw [hz2]; omega) (by unfold maxLen; omega) (Nat.le_refl _) ?_)
  intro w2 hown hgr
  have hown := Own.made hown
  obtain ⟨g, eg⟩ : ∃ g, g = w1.heap.size := ⟨_, rfl⟩
  rw [← eg] at hown ⊢
  have HG0 := Lib.hid hown.row
  have HSQ2 := Lib.hid (HSQ.out.kept0 hgr)
  have HLT : Hid (SqLt g (.slice (some ⟨G, 0, none⟩) K cap) gs) := Lib.hid (by rw [eg]; exact HSQ.out.lt)
  have HADD2 : Hid (Add w w2) := Lib.hid (HADD1.out.grown hgr HADD1.out.size (by simp))
  have hbg : w.heap.size ≤ g := by rw [eg]; exact HADD1.out.size
  have HR1 : Hid (∀ wr, w2.grownBy wr (some g) → RowsB wr (.slice (some ⟨G, 0, none⟩) K cap) (gs.map (hdr K)) M) := Lib.hid fun wr h => by
    obtain ⟨G', cap', e, _, hh⟩ := (HSQ2.out.kept h HLT.out).rows hd hK0 hK8
    exact hh
  clear hown hgr eg
  go_wp2_with fail
  go_loopw [13] (fun i wr => ∃ j : Nat, j ≤ K ∧ i = .int .i64 (j : Nat) ∧ Row wr g (acc K I cs M j) ∧ w2.grownBy wr (some g)) (fun i _ => K - (intOf i).toNat)
  case atStart => exact ⟨0, Nat.zero_le _, rfl, HG0.out, grown_of_below (Below.refl _ _) _⟩
  case round =>
    obtain ⟨j, hj, rfl, hrow, hg⟩ := hrel
    by_cases hjK : j = K
    · have hsq3 := HSQ2.out.kept hg HLT.out
      have hrow' : Row wr g (acc K I cs M K) := by rw [hjK] at hrow; exact hrow
      have hadd3 : Add w wr := HADD2.out.grown hg HADD2.out.size (fun q hq => by cases hq; exact hbg)
      have hsq4 := hsq3.store hd hI hrow' (length_acc ..) hbg
      obtain ⟨hd4, hi4⟩ := singular hd hbc hI
      obtain ⟨G', cap', e', -, hrows4⟩ := hsq4.rows hd4 hK0 hK8
      have CI := Lib.hid (invert_none hrows4 hd4 hK0 (by omega) hi4)
      have hrowI := (HR1.out wr hg).row hI
      obtain ⟨b, off, a2, l2, c2, eb, -, -, -, hcellG, -⟩ := hrowI
      simp only [Option.some.injEq, Addr.mk.injEq, and_true] at eb
      obtain ⟨rfl, rfl⟩ := eb
      rw [Nat.zero_add] at hcellG
      have hgl : gs.length = K := by rw [hsq3.2.1.1, hd.1]
      have hown3 := hsq3.1
      rw [hgl] at hown3
      have hfreeG := hown3.frozenAt I
      have HA4 : Hid (Add w (wr.setCell ⟨G, I, none⟩ (hdr K g))) := Lib.hid (hadd3.setCell hbG _)
      unfold hdr at CI HA4
      clear hrow hg hsq3 hrow' hadd3 hsq4 hd4 hi4 e' hrows4 hgl hown3
      have hjK := hjK.symm
      subst hjK
      go_wp2_with fail
      refine CI.out.mono ?_
      rintro e w5 ⟨rfl, k5⟩
      have HA5 := Lib.hid (Add.trans HA4.out k5)
      clear k5
      go_wp2_with (go_at_call 22; refine (awake_any _).mono ?_; rintro e w' ⟨rfl, rfl⟩)
      go_ret
      exact ⟨rfl, HA5.out⟩
    · have hlt : j < K := by omega
      by_cases hskip : j = I ∨ C ≤ j
      · have HR2 : Hid (Row wr g (acc K I cs M (j + 1))) := Lib.hid (by rw [acc, if_pos (by rw [← EC.out]; exact hskip)]; exact hrow)
        have HGG := Lib.hid hg
        clear hrow hg hjK
        by_cases hjI : j = I
        · have hb1 : ((j : Int) == (I : Int)) = true := by simp [hjI]
          clear hskip hjI
          go_wp2_with fail
          go_roundw
          case rel => exact ⟨j + 1, by omega, by go_num, HR2.out, HGG.out⟩
          case measure => simp [intOf]; omega
        · have hb1 : ((j : Int) == (I : Int)) = false := by rw [beq_eq_false_iff_ne]; omega
          have hCj : C ≤ j := by omega
          clear hskip hjI
          go_wp2_with fail
          go_roundw
          case rel => exact ⟨j + 1, by omega, by go_num, HR2.out, HGG.out⟩
          case measure => simp [intOf]; omega
      · have hjI : j ≠ I := fun e => hskip (Or.inl e)
        have hjC : j < C := by omega
        have hb1 : ((j : Int) == (I : Int)) = false := by rw [beq_eq_false_iff_ne]; omega
        have hb2 : decide (C ≤ j) = false := decide_eq_false (by omega)
        obtain ⟨f, ef⟩ : ∃ f, f = cs.getD j 0 := ⟨_, rfl⟩
        have hf : f < 256 := by rw [ef]; exact hbc.get j
        obtain ⟨zs, ezs⟩ : ∃ zs, zs = acc K I cs M j := ⟨_, rfl⟩
        obtain ⟨xs, exs⟩ : ∃ xs, xs = M.getD j [] := ⟨_, rfl⟩
        have hzl : zs.length = K := by rw [ezs, length_acc]
        have hxl : xs.length = K := by rw [exs]; exact hd.2.1 j hlt
        have hbz : Bys zs := by rw [ezs]; exact bys_acc hbc j
        have hbx : Bys xs := by rw [exs]; exact hd.2.2 j
        have HNEXT : Hid (addTo zs f xs = acc K I cs M (j + 1)) := Lib.hid (by rw [acc, if_neg (by rw [← EC.out]; exact hskip), ezs, ef, exs])
        rw [← ezs] at hrow
        have HROW := Lib.hid hrow
        have HG := Lib.hid hg
        have EF := Lib.hid ef
        have EX := Lib.hid exs
        have HZ := Lib.hid hzl
        have HX := Lib.hid hxl
        clear hrow hg hjK hskip hjI ef ezs exs hzl hxl
        go_wp2_with fail
        go_loopw [14] (fun i wx => ∃ m : Nat, m ≤ K ∧ i = .int .i64 (m : Nat) ∧ Row wx g (addTo zs f (xs.take m)) ∧ w2.grownBy wx (some g)) (fun i _ => K - (intOf i).toNat)
        case atStart => exact ⟨0, Nat.zero_le _, rfl, by rw [List.take_zero, addTo_nil]; exact HROW.out, HG.out⟩
        case round =>
          obtain ⟨m, hm, rfl, hrow, hg⟩ := hrel
          by_cases hmK : m = K
          · have HR2 : Hid (Row wr g (acc K I cs M (j + 1))) := Lib.hid (by
              have e : xs.take m = xs := by rw [hmK, ← HX.out, List.take_length]
              rw [e, HNEXT.out] at hrow; exact hrow)
            have HGG := Lib.hid hg
            have hmK := hmK.symm
            clear hrow hg
            subst hmK
            go_wp2_with fail
            go_roundw
            case rel => exact ⟨j + 1, by omega, by go_num, HR2.out, HGG.out⟩
            case measure => simp [intOf]; omega
          · have hmlt : m < K := by omega
            have haddr : Add w wr := HADD2.out.grown hg HADD2.out.size (fun q hq => by cases hq; exact hbg)
            obtain ⟨bc, offc, rfl, hcc⟩ := (HC.out.mono haddr).cell hjC
            rw [← EF.out] at hcc
            obtain ⟨b, off, a2, l2, c2, eb, -, el2, -, hcellM, hrdM⟩ := (HR1.out wr hg).row hlt
            simp only [Option.some.injEq, Addr.mk.injEq, and_true] at eb
            obtain ⟨rfl, rfl⟩ := eb
            rw [Nat.zero_add] at hcellM
            rw [← EX.out] at el2 hrdM
            have el3 : K = l2 := by rw [el2, HX.out]
            subst el3
            obtain ⟨bx, offx, rfl, hcx⟩ := hrdM.cell hmlt
            have hcz := hrow.cell m (by rw [length_addTo, HZ.out]; exact hmlt)
            rw [getD_addTo zs f xs m (by rw [HZ.out]; exact hmlt)] at hcz
            have hfree := hrow.free m
            obtain ⟨z, ez⟩ : ∃ z, z = zs.getD m 0 := ⟨_, rfl⟩
            obtain ⟨x, ex⟩ : ∃ x, x = xs.getD m 0 := ⟨_, rfl⟩
            have hz256 : z < 256 := by rw [ez]; exact hbz.get m
            have hx256 : x < 256 := by rw [ex]; exact hbx.get m
            rw [← ez] at hcz
            rw [← ex] at hcx
            obtain ⟨p, ep⟩ : ∃ p, p = gm f x := ⟨_, rfl⟩
            obtain ⟨s, es⟩ : ∃ s, s = z ^^^ p := ⟨_, rfl⟩
            have C1 : Hid (∀ w, Calls Try.prog 18 #[.int .u8 (f : Nat), .int .u8 (x : Nat)] w (RetB w p)) := Lib.hid fun w => mulE hf hx256 ep.symm w
            have hxor : bits .xor .u8 (z : Int) (p : Int) = (s : Int) := by rw [es]; exact u8_xor_nat z p hz256 (by rw [ep]; exact gm_lt hf)
            have HROW2 : Hid (Row (wr.setCell ⟨g, m, none⟩ (.int .u8 (s : Nat))) g (addTo zs f (xs.take (m + 1)))) := Lib.hid (by
              have := hrow.set m s
              rw [es, ep, ez, ex, addTo_step zs f xs m (by rw [HZ.out]; exact hmlt) (by rw [HX.out]; exact hmlt)] at this
              rw [es, ep, ez, ex]; exact this)
            have HGG := Lib.hid (grown_trans hg (grown_setCell (w := wr) (g := g) m (.int .u8 (s : Nat))))
            clear hrow hg ez ex ep es hmK hz256 hx256 el2 hrdM haddr
            go_wp2_with fail
            go_still_tail 20, (by kernel_rfl)
            still_call ((C1.out _).mono fun _ _ h => ⟨h.1, h.2.symm⟩)
            repeat still_step
            try refine wpStill_nil ?_
            change wpList _ _ _ _ _ wr.drew
            go_wp2_with fail
            go_roundw
            case rel => exact ⟨m + 1, by omega, by go_num, HROW2.out, by first | exact grown_drewN HGG.out 1 | exact HGG.out⟩
            case measure => simp [intOf]; omega
end Go.Proofs.Ytahjijpoihljjaa
