/- The law ErasureDetects: its walk, for all arguments. -/
import Derived.Test.YtmlcenocjpjcfaaE18
import Derived.Test.YtmlcenocjpjcfaaE17
import Derived.Deep.Cut
namespace Go.Proofs.Ytmlcenocjpjcfaa
open Go.RowKit GfM

theorem own_empty (w : World) (base : Nat) (hb : base ≤ w.heap.size) : (w.alloc (.cells #[] 5)).ownsRow base 5 1 (.slice (some ⟨w.heap.size, 0, none⟩) 0 0) 0 [] :=
  ⟨rfl, .inr ⟨w.heap.size, 0, #[], rfl, hb, heap_alloc_new w _, Nat.le_refl _, by unfold maxLen; omega, rfl, rfl⟩⟩

set_option maxRecDepth 100000 in
set_option maxHeartbeats 4000000 in
theorem detects_any {w : World} {v : Value} {l : List Nat} (h : Reads w v l) (k m s ro at' y : Nat) (hk : k < 256) (hm : m < 256) (hs : s < 256) (hro : ro < 256) (hat : at' < 256) (hy : y < 256) :
    Calls Try.prog 6 #[.int .u8 (k : Nat), .int .u8 (m : Nat), .int .u8 (s : Nat), v, .int .u8 (ro : Nat), .int .u8 (at' : Nat), .int .u8 (y : Nat)] w (LawB w) := by
  obtain ⟨i0, hi0, hz0, hz1, hz2⟩ := info_parts info5
  obtain ⟨i2, hi2, hq0, hq1, hq2⟩ := info_parts info34
  have hbl := h.limbs
  have C0 := Lib.hid (shape_any h k m s hk hm hs)
  have hcode := sh_code k m
  have hn20 : shN s ≤ 20 := by unfold shN; omega
  obtain ⟨A, eA⟩ : ∃ A, A = shA k := ⟨_, rfl⟩
  obtain ⟨n, en⟩ : ∃ n, n = shN s := ⟨_, rfl⟩
  obtain ⟨B, eB⟩ : ∃ B, B = shB k m := ⟨_, rfl⟩
  rw [← eA, ← en, ← eB] at C0
  rw [← eA, ← eB] at hcode
  rw [← en] at hn20
  obtain ⟨ao, c, rfl, hml⟩ := h.isSlice
  obtain ⟨c1, c2, c3, c4, c5⟩ := codeZ_iff hcode
  have HC := Lib.hid hcode
  have hA6 : A ≤ 6 := by omega
  have hB4 : B ≤ 4 := by omega
  have hA1 : 1 ≤ A := by omega
  obtain ⟨N, eN⟩ : ∃ N, N = A + B := ⟨_, rfl⟩
  have hN8 : N ≤ 8 := by omega
  have hN0 : 0 < N := by omega
  have hNi : (A : Int) + (B : Int) = (N : Int) := by omega
  have HEN := Lib.hid eN
  obtain ⟨D, eD⟩ : ∃ D, D = sqTo l n A := ⟨_, rfl⟩
  have HD := Lib.hid eD
  have HDD : Hid (Dim A n D) := Lib.hid (by rw [eD]; exact sq_dimL hbl n A)
  obtain ⟨I, eI⟩ : ∃ I, I = ro % N := ⟨_, rfl⟩
  have hIN : I < N := by rw [eI]; exact Nat.mod_lt _ hN0
  have hIi : (ro : Int) % (N : Int) = (I : Int) := by rw [eI]; simp
  have hw1 : IntKind.i64.wrap (ro : Int) = ro := by rw [IntKind.wrap_i64]; omega
  have hw2 : IntKind.i64.wrap (at' : Int) = at' := by rw [IntKind.wrap_i64]; omega
  have hNne : ((N : Int) == 0) = false := by rw [beq_eq_false_iff_ne]; omega
  clear h eA en eB hml c1 c2 c3 c4 c5 hcode eN eD eI
  go_enter Try.func6, Try.ntmps6
  go_wp2_with fail
  refine C0.out.mono ?_
  rintro e w1 ⟨vd, hsd, rfl, hl, hadd1⟩
  obtain ⟨ad, cd, rfl, hr1⟩ := hl.rows
  rw [length_sqTo] at hr1 ⊢
  have CE : Hid (Calls Try.prog 13 #[.int .i64 (A : Nat), .int .i64 (B : Nat), .slice ad A cd] w1 (RetNE w1 N (wordTo A n D N))) := Lib.hid (by
    have := encode_sh hr1 hbl HC.out hn20
    rw [← HD.out, ← HEN.out] at this
    exact this)
  have HA1 := Lib.hid hadd1
  clear hl hr1 hadd1 C0
  go_wp2_with fail
  refine CE.out.mono ?_
  rintro e w2 ⟨G, hs2, rfl, hr2, -, hadd2⟩
  obtain ⟨b, off, a0, l0, c0, eb, -, el0, -, hcell0, -⟩ := hr2.row (k := 0) hN0
  cases eb
  rw [Nat.zero_add] at hcell0
  have e0 : l0 = n := by rw [el0, wordTo_get hN0]; exact wordR_dim (dim_all HDD.out) HDD.out.1
  clear el0
  subst e0
  have HR2 := Lib.hid hr2
  have HA2 := Lib.hid (Add.trans HA1.out hadd2)
  clear hr2 hadd2 CE
  obtain ⟨W, eW⟩ : ∃ W, W = wordTo A l0 D N := ⟨_, rfl⟩
  have EW := Lib.hid eW
  rw [← eW] at HR2
  clear eW
  by_cases hskip : B = 0 ∨ l0 = 0 ∨ y = 0
  · by_cases hB : B = 0
    · have d1 : ((B : Int) == 0) = true := by simp [hB]
      clear hB hskip
      go_wp2_with fail
      refine (awake_any w2).mono ?_
      rintro e w7 ⟨rfl, hadd7⟩
      have HF : Hid (Add w w7) := Lib.hid (Add.trans HA2.out hadd7)
      clear hadd7
      go_wp2_with fail
      go_ret
      exact ⟨rfl, HF.out⟩
    · have d1 : ((B : Int) == 0) = false := by rw [beq_eq_false_iff_ne]; omega
      by_cases hl0 : l0 = 0
      · have d2 : ((l0 : Int) == 0) = true := by simp [hl0]
        clear hB hskip hl0
        go_wp2_with fail
        refine (awake_any w2).mono ?_
        rintro e w7 ⟨rfl, hadd7⟩
        have HF : Hid (Add w w7) := Lib.hid (Add.trans HA2.out hadd7)
        clear hadd7
        go_wp2_with fail
        go_ret
        exact ⟨rfl, HF.out⟩
      · have d2 : ((l0 : Int) == 0) = false := by rw [beq_eq_false_iff_ne]; omega
        have d3 : ((y : Int) == 0) = true := by simp; omega
        clear hB hskip hl0
        go_wp2_with fail
        refine (awake_any w2).mono ?_
        rintro e w7 ⟨rfl, hadd7⟩
        have HF : Hid (Add w w7) := Lib.hid (Add.trans HA2.out hadd7)
        clear hadd7
        go_wp2_with fail
        go_ret
        exact ⟨rfl, HF.out⟩
  · have hB : 0 < B := by omega
    have hn0 : 0 < l0 := by omega
    have hy0 : y ≠ 0 := by omega
    have d1 : ((B : Int) == 0) = false := by rw [beq_eq_false_iff_ne]; omega
    have d2 : ((l0 : Int) == 0) = false := by rw [beq_eq_false_iff_ne]; omega
    have d3 : ((y : Int) == 0) = false := by rw [beq_eq_false_iff_ne]; omega
    obtain ⟨p, ep⟩ : ∃ p, p = at' % l0 := ⟨_, rfl⟩
    have hp : p < l0 := by rw [ep]; exact Nat.mod_lt _ hn0
    have hpi : (at' : Int) % (l0 : Int) = (p : Int) := by rw [ep]; simp
    clear hskip ep
    go_wp2_with fail
    clear d1 d3
    go_loopw [20, 21] (fun o i wr => ∃ (q : Nat) (hs : List Value), q ≤ N ∧ i = .int .i64 (q : Nat) ∧ ListF wr w2.heap.size o (upTo q) hs (spoilTo W I p y q) ∧ Add w2 wr) (fun _ i _ => N - (intOf i).toNat)
    case atStart => exact ⟨0, [], Nat.zero_le _, rfl, ListF.nil _ _, Below.refl _ _⟩
    case round =>
      obtain ⟨q, hs, hq, rfl, hl, hadd⟩ := hrel
      have HL := Lib.hid hl
      have HADD := Lib.hid hadd
      have HLEN : Hid (hs.length = q) := Lib.hid (by rw [hl.2.2.1, length_spoilTo])
      clear hl hadd
      by_cases hqN : q = N
      · have HL2 : Hid (ListF wr w2.heap.size u20 (upTo N) hs (spoilTo W I p y N)) := Lib.hid (by have := HL.out; rw [hqN] at this; exact this)
        obtain ⟨aL, cL, rfl, hfr⟩ := HL2.out.frags
        rw [length_spoilTo] at hfr ⊢
        have CD : Hid (Calls Try.prog 18 #[.int .i64 (A : Nat), .int .i64 (B : Nat), .slice aL N cL] wr (RetErr wr 11)) := Lib.hid (decode_err (by
          rw [EW.out] at hfr
          exact complete_spoilt hfr HC.out HEN.out (by omega) HDD.out hB hIN hp hy0 hy) (by decide))
        have HW : Hid (Add w wr) := Lib.hid (Add.trans HA2.out HADD.out)
        clear hfr
        subst hqN
        go_wp2_with fail
        refine CD.out.mono ?_
        rintro e w6 ⟨rfl, hadd6⟩
        have HW6 : Hid (Add w w6) := Lib.hid (Add.trans HW.out hadd6)
        clear hadd6 CD
        go_wp2_with fail
        refine (awake_any _).mono ?_
        rintro e w7 ⟨rfl, hadd7⟩
        have HF : Hid (Add w w7) := Lib.hid (Add.trans HW6.out hadd7)
        clear hadd7
        go_wp2_with fail
        go_ret
        exact ⟨rfl, HF.out⟩
      · have hlt : q < N := by omega
        obtain ⟨b, off, a, l1, cc, eb, -, el, -, hcell, hrd⟩ := (HR2.out.mono HADD.out).row hlt
        cases eb
        rw [Nat.zero_add] at hcell
        obtain ⟨xs, exs⟩ : ∃ xs, xs = W.getD q [] := ⟨_, rfl⟩
        rw [← exs] at el hrd
        have hxl : xs.length = l0 := by rw [exs, EW.out, wordTo_get hlt]; exact wordR_dim (dim_all HDD.out) HDD.out.1
        have e1 : l0 = l1 := by rw [el, hxl]
        clear el
        subst e1
        have hbx := hrd.limbs
        obtain ⟨bx, offx, rfl, -⟩ := hrd.cell (k := 0) hn0
        have HXL := Lib.hid hxl
        have HXS := Lib.hid exs
        have HSRC : Hid (∀ w', Add wr w' → ∀ j u, (xs.map lim)[j]? = some u → w'.cell? ((⟨bx, offx, none⟩ : Addr).add j) = some u) := Lib.hid fun w' g => by
          obtain ⟨ad', e, h'⟩ := copy_src (hrd.mono g) (by rw [List.length_map, hxl]; exact hn0)
          cases e; exact h'
        have hsz := HADD.out.size
        have HAL : Hid (Add wr (wr.alloc (.cells #[] 5))) := Lib.hid ((Below.refl _ _).alloc (Nat.le_refl _) _)
        have hcell2 := (HAL.out.cell (p := ⟨G, q, none⟩) (World.block_lt_of_cell? wr _ hcell)).trans hcell
        clear hrd exs hxl hqN hcell
        rename World => wk
        go_wp2_with (at_builtin; refine wpList_append_own_at _ rfl _ _ 32 rfl wk.heap.size 5 i0 (.int .u8 0) 1 1 Try.underlying32 hi0 hz0 hz1 hz2 rfl (by decide) _ 0 [] rfl (own_empty wk wk.heap.size (Nat.le_refl _)) ⟨bx, offx, none⟩ l0 cc (xs.map lim) rfl (by rw [List.length_map, HXL.out, Nat.mul_one]) (HSRC.out _ HAL.out) (lim_oneCell xs) (by unfold maxLen; omega) (by omega) (by simp) ?_)
        intro v3 w3 hown3 hgr3 _ _
        have hA3 : Add wk w3 := Below.grown HAL.out hgr3 (by simp) (fun j hj => by simp [Value.ownBlock] at hj; omega)
        obtain ⟨g, cap, rfl, hbg, hcap⟩ : ∃ g cap, v3 = .slice (some ⟨g, 0, none⟩) l0 cap ∧ wk.heap.size ≤ g ∧ l0 ≤ cap := by
          rcases hown3.2 with ⟨_, h0⟩ | ⟨g, cap, cur, rfl, hb, hgg, hn, _⟩
          · omega
          · exact ⟨g, cap, rfl, hb, by omega⟩
        have hav : ∀ zs : List Nat, AwayV (.slice (some ⟨g, 0, none⟩) l0 cap) zs u20 := fun zs => by
          intro b off n' c' e _ e2
          cases e
          have := (ownsRow_block HL.out.1 e2.symm).2
          omega
        have HPUSH : Hid (∀ wx zs, Add wk wx → wx.ownsRow wk.heap.size 5 1 (.slice (some ⟨g, 0, none⟩) l0 cap) l0 (zs.map lim) → Bys zs → spoil W I p y q = zs → ∀ v' w4 o, (wx.alloc o).grownBy w4 u20.ownBlock → w4.ownsRow w2.heap.size 34 2 v' (hs.length + 1) (cellsF (upTo q) hs ++ [.int .i64 (q : Nat), .slice (some ⟨g, 0, none⟩) l0 cap]) → (v'.ownBlock = u20.ownBlock ∨ v'.ownBlock = some (wx.heap.size + 1)) → ListF w4 w2.heap.size v' (upTo (q + 1)) (hs ++ [.slice (some ⟨g, 0, none⟩) l0 cap]) (spoilTo W I p y (q + 1)) ∧ Add w2 w4) := Lib.hid fun wx zs g1 g2 g3 g4 v' w4 o h1 h2 h3 => by
          have hl2 := HL.out.add g1
          rw [upTo_succ, spoilTo_succ, g4]
          obtain ⟨ao', c', e', hrd', -⟩ := owns_reads g2 g3
          exact ⟨hl2.push hrd' (hav zs) h1 h2 h3, hl2.addB (Add.trans HADD.out g1) (Nat.le_refl _) h1⟩
        have HA3 := Lib.hid hA3
        have HOWN3 := Lib.hid hown3
        clear hown3 hgr3 hA3 hav hcell2 HSRC HAL
        by_cases hqI : q = I
        · have hb : ((q : Int) == (I : Int)) = true := by simp [hqI]
          obtain ⟨x, ex⟩ : ∃ x, x = xs.getD p 0 := ⟨_, rfl⟩
          have hcx : w3.cell? ⟨g, p, none⟩ = some (.int .u8 (x : Nat)) := by
            rw [HOWN3.out.cellAt p (by omega), ex]
            have : p < xs.length := by rw [HXL.out]; exact hp
            simp [List.getD, this, lim]
          have hfx := HOWN3.out.frozenAt p
          have hx256 : x < 256 := by rw [ex]; exact hbx.get p
          obtain ⟨z, ez⟩ : ∃ z, z = x ^^^ y := ⟨_, rfl⟩
          have hxor : bits .xor .u8 (x : Int) (y : Int) = (z : Int) := by rw [ez]; exact u8_xor_nat x y hx256 hy
          obtain ⟨W4, eW4⟩ : ∃ W4, W4 = w3.setCell ⟨g, p, none⟩ (.int .u8 (z : Nat)) := ⟨_, rfl⟩
          have HW4 := Lib.hid eW4
          have HST : Hid (Add wk W4 ∧ W4.ownsRow wk.heap.size 5 1 (.slice (some ⟨g, 0, none⟩) l0 cap) l0 ((xs.set p z).map lim)) := Lib.hid ⟨by rw [eW4]; exact HA3.out.setCell hbg _, by
            rw [eW4]
            have h1 := (HOWN3.out.stored p (lim z)).1
            rw [← List.map_set] at h1; exact h1⟩
          have hbz : Bys (xs.set p z) := by
            intro t ht
            rcases List.mem_or_eq_of_mem_set ht with ht | rfl
            · exact hbx t ht
            · rw [ez]; exact xor_lt hx256 hy
          have HSP : Hid (spoil W I p y q = xs.set p z) := Lib.hid (by unfold spoil; rw [if_pos hqI, ← HXS.out, ez, ex])
          have HLA := Lib.hid (HL.out.add HST.out.1).1
          have hszS := (Add.trans HADD.out HST.out.1).size
          have hgl : hs.length ≤ 8 := by rw [HLEN.out]; omega
          clear hqI ex ez eW4
          go_upto_region 14 with fail
          rw [← HW4.out]
          go_wp2_with (at_builtin; refine wpList_append_own_at _ rfl _ _ 31 rfl w2.heap.size 34 i2 (.agg #[.int .i64 0, .slice none 0 0]) 2 32 Try.underlying31 hi2 hq0 hq1 hq2 rfl (by decide) _ _ _ rfl (World.ownsRow.alloc HLA.out _) ⟨W4.heap.size, 0, none⟩ 1 1 [.int .i64 (q : Nat), .slice (some ⟨g, 0, none⟩) l0 cap] rfl rfl (cells_two_new _ _ _ _) (by intro u hu; simp at hu; rcases hu with rfl | rfl <;> rfl) (by unfold maxLen; omega) (by omega) (by simp at hszS ⊢; omega) ?_)
          intro v4 w4 hown4 hgr4 _ hat4
          have HEND := Lib.hid (HPUSH.out W4 (xs.set p z) HST.out.1 HST.out.2 hbz HSP.out v4 w4 _ hgr4 hown4 hat4)
          clear hown4 hgr4 hat4 hbz
          go_wp2_with fail
          go_roundw
          case rel => exact ⟨q + 1, _, by omega, by go_num, HEND.out.1, HEND.out.2⟩
          case measure => simp [intOf]; omega
        · have hb : ((q : Int) == (I : Int)) = false := by rw [beq_eq_false_iff_ne]; omega
          have HST : Hid (Add wk w3 ∧ w3.ownsRow wk.heap.size 5 1 (.slice (some ⟨g, 0, none⟩) l0 cap) l0 (xs.map lim)) := Lib.hid ⟨HA3.out, HOWN3.out⟩
          have hbz : Bys xs := hbx
          have HSP : Hid (spoil W I p y q = xs) := Lib.hid (by unfold spoil; rw [if_neg hqI]; exact HXS.out.symm)
          have HLA := Lib.hid (HL.out.add HST.out.1).1
          have hszS := (Add.trans HADD.out HST.out.1).size
          have hgl : hs.length ≤ 8 := by rw [HLEN.out]; omega
          clear hqI
          go_wp2_with (at_builtin; refine wpList_append_own_at _ rfl _ _ 31 rfl w2.heap.size 34 i2 (.agg #[.int .i64 0, .slice none 0 0]) 2 32 Try.underlying31 hi2 hq0 hq1 hq2 rfl (by decide) _ _ _ rfl (World.ownsRow.alloc HLA.out _) ⟨(w3).heap.size, 0, none⟩ 1 1 [.int .i64 (q : Nat), .slice (some ⟨g, 0, none⟩) l0 cap] rfl rfl (cells_two_new _ _ _ _) (by intro u hu; simp at hu; rcases hu with rfl | rfl <;> rfl) (by unfold maxLen; omega) (by omega) (by simp at hszS ⊢; omega) ?_)
          intro v4 w4 hown4 hgr4 _ hat4
          have HEND := Lib.hid (HPUSH.out (w3) xs HST.out.1 HST.out.2 hbz HSP.out v4 w4 _ hgr4 hown4 hat4)
          clear hown4 hgr4 hat4 hbz
          go_wp2_with fail
          go_roundw
          case rel => exact ⟨q + 1, _, by omega, by go_num, HEND.out.1, HEND.out.2⟩
          case measure => simp [intOf]; omega
end Go.Proofs.Ytmlcenocjpjcfaa
