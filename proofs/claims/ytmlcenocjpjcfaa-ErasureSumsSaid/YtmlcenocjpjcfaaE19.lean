/- The law ErasureSums: its walk, for all arguments. -/
import Derived.Test.YtmlcenocjpjcfaaE14
import Derived.StillTailTactics
import Derived.BigQuiet
namespace Go.Proofs.Ytmlcenocjpjcfaa
open Go.RowKit GfM

/-- The rows of x and c times those of y. -/
def mixTo (X Y : List (List Nat)) (c k : Nat) : List (List Nat) := (List.range k).map fun i => addTo (X.getD i []) c (Y.getD i [])
theorem length_mixTo (X Y : List (List Nat)) (c k : Nat) : (mixTo X Y c k).length = k := by simp [mixTo]
theorem mixTo_succ (X Y : List (List Nat)) (c k : Nat) : mixTo X Y c (k + 1) = mixTo X Y c k ++ [addTo (X.getD k []) c (Y.getD k [])] := by simp [mixTo, List.range_succ]
theorem mixTo_get {X Y : List (List Nat)} {c k i : Nat} (h : i < k) : (mixTo X Y c k).getD i [] = addTo (X.getD i []) c (Y.getD i []) := by simp [mixTo, List.getD, h]
theorem mix_dim {X Y : List (List Nat)} {c k L : Nat} (hX : Dim k L X) (hc : c < 256) : Dim k L (mixTo X Y c k) := by
  refine ⟨length_mixTo .., fun i hi => by rw [mixTo_get hi, length_addTo]; exact hX.2.1 i hi, fun i => ?_⟩
  by_cases hi : i < k
  · rw [mixTo_get hi]; exact bys_addTo (hX.2.2 i) hc
  · have : (mixTo X Y c k).getD i [] = [] := by simp [mixTo, List.getD, Nat.le_of_not_lt hi]
    rw [this]; exact Bys.nil
/-- The code is linear. -/
theorem word_mix {X Y : List (List Nat)} {c k L j : Nat} (hX : Dim k L X) (hY : Dim k L Y) (hc : c < 256) (hj : j < L) (i : Nat) : (wordR k L (mixTo X Y c k) i).getD j 0 = (wordR k L X i).getD j 0 ^^^ gm c ((wordR k L Y i).getD j 0) := by
  rw [wordR_ent (mix_dim hX hc) hj, wordR_ent hX hj, wordR_ent hY hj, gm_sumX, ← sumX_xor]
  refine sumX_congr fun q hq => ?_
  have e : ent (mixTo X Y c k) q j = ent X q j ^^^ gm c (ent Y q j) := by
    show ((mixTo X Y c k).getD q []).getD j 0 = _
    rw [mixTo_get hq, getD_addTo' (by rw [hX.2.1 q hq]; exact hj) (by rw [hY.2.1 q hq]; exact hj)]
    rfl
  have hf := (bys_facs k i).get q
  have hy : ent Y q j < 256 := (hY.2.2 q).get j
  rw [e, gm_xor_r]
  congr 1
  rw [← gm_assoc hf hc hy, ← gm_assoc hc hf hy, gm_comm hf hc]

set_option maxRecDepth 100000 in
set_option maxHeartbeats 8000000 in
theorem sums_any {w : World} {v u : Value} {l l2 : List Nat} (h : Reads w v l) (h2 : Reads w u l2) (k m s c : Nat) (hk : k < 256) (hm : m < 256) (hs : s < 256) (hc : c < 256) :
    Calls Try.prog 8 #[.int .u8 (k : Nat), .int .u8 (m : Nat), .int .u8 (s : Nat), v, u, .int .u8 (c : Nat)] w (LawB w) := by
  obtain ⟨i0, hi0, hz0, hz1, hz2⟩ := info_parts info5
  obtain ⟨i1, hi1, hy0, hy1, hy2⟩ := info_parts info32
  have hbl := h.limbs
  have hbl2 := h2.limbs
  have C0 := Lib.hid (shape_any h k m s hk hm hs)
  have C1 : Hid (∀ w', Add w w' → Calls Try.prog 22 #[.int .u8 (k : Nat), .int .u8 (m : Nat), .int .u8 (s : Nat), u] w' (ShP w' l2 (shA k) (shB k m) (shN s))) := Lib.hid fun w' g => shape_any (h2.mono g) k m s hk hm hs
  have hcode := sh_code k m
  have hn20 : shN s ≤ 20 := by unfold shN; omega
  obtain ⟨A, eA⟩ : ∃ A, A = shA k := ⟨_, rfl⟩
  obtain ⟨n, en⟩ : ∃ n, n = shN s := ⟨_, rfl⟩
  obtain ⟨B, eB⟩ : ∃ B, B = shB k m := ⟨_, rfl⟩
  rw [← eA, ← en, ← eB] at C0 C1
  rw [← eA, ← eB] at hcode
  rw [← en] at hn20
  obtain ⟨ao, ca, rfl, hml⟩ := h.isSlice
  obtain ⟨ao2, ca2, rfl, hml2⟩ := h2.isSlice
  obtain ⟨c1, c2, c3, c4, c5⟩ := codeZ_iff hcode
  have HC := Lib.hid hcode
  have hA6 : A ≤ 6 := by omega
  have hB4 : B ≤ 4 := by omega
  have hA1 : 1 ≤ A := by omega
  obtain ⟨N, eN⟩ : ∃ N, N = A + B := ⟨_, rfl⟩
  have hN8 : N ≤ 8 := by omega
  have hN0 : 0 < N := by omega
  have hNi : (A : Int) + (B : Int) = (N : Int) := by omega
  have HEN := Lib.hid eN
  obtain ⟨X, eX⟩ : ∃ X, X = sqTo l n A := ⟨_, rfl⟩
  obtain ⟨Y, eY⟩ : ∃ Y, Y = sqTo l2 n A := ⟨_, rfl⟩
  have EX := Lib.hid eX
  have EY := Lib.hid eY
  have HX : Hid (Dim A n X) := Lib.hid (by rw [eX]; exact sq_dimL hbl n A)
  have HY : Hid (Dim A n Y) := Lib.hid (by rw [eY]; exact sq_dimL hbl2 n A)
  clear h h2 eA en eB hml hml2 c1 c2 c3 c4 c5 hcode eN eX eY
  go_enter Try.func8, Try.ntmps8
  go_wp2_with fail
  refine C0.out.mono ?_
  rintro e w1 ⟨vd, hsd, rfl, hl, hadd1⟩
  obtain ⟨ad, cd, rfl, hr1⟩ := hl.rows
  rw [length_sqTo] at hr1 ⊢
  rw [← EX.out] at hr1
  have HR1 := Lib.hid hr1
  have HA1 := Lib.hid hadd1
  clear hl hr1 hadd1 C0
  go_wp2_with fail
  refine (C1.out _ HA1.out).mono ?_
  rintro e w2 ⟨ve, hse, rfl, hl, hadd2⟩
  obtain ⟨ae, ce, rfl, hr2⟩ := hl.rows
  rw [length_sqTo] at hr2 ⊢
  rw [← EY.out] at hr2
  have HR2 := Lib.hid hr2
  have HR1 := Lib.hid (HR1.out.mono hadd2)
  have HA2 := Lib.hid (Add.trans HA1.out hadd2)
  clear hl hr2 hadd2 C1
  go_wp2_with fail
  go_loopw [19, 20] (fun o i wr => ∃ (q : Nat) (hs : List Value), q ≤ A ∧ i = .int .i64 (q : Nat) ∧ ListR wr w2.heap.size o hs (mixTo X Y c q) ∧ Add w2 wr) (fun _ i _ => A - (intOf i).toNat)
  case atStart => exact ⟨0, [], Nat.zero_le _, rfl, ListR.nil _ _, Below.refl _ _⟩
  case round =>
    obtain ⟨q, hs, hq, rfl, hl, hadd⟩ := hrel
    have HL := Lib.hid hl
    have HADD := Lib.hid hadd
    have HLEN : Hid (hs.length = q) := Lib.hid (by rw [hl.2.1, length_mixTo])
    clear hl hadd
    by_cases hqA : q = A
    · have HL2 : Hid (ListR wr w2.heap.size u19 hs (mixTo X Y c A)) := Lib.hid (by have := HL.out; rw [hqA] at this; exact this)
      obtain ⟨az, cz, rfl, hrz⟩ := HL2.out.rows
      rw [length_mixTo] at hrz ⊢
      have HRZ := Lib.hid hrz
      have HW : Hid (Add w wr) := Lib.hid (Add.trans HA2.out HADD.out)
      have enc : ∀ (w' : World) (v : Value) (vs : List Value) (D : List (List Nat)), RowsB w' v vs D → Dim A n D → Calls Try.prog 13 #[.int .i64 (A : Nat), .int .i64 (B : Nat), v] w' (RetNE w' N (wordTo A n D N)) := fun w' v vs D r d => (encode_ok r d.1 HC.out (by omega) (dim_all d)).mono fun _ _ h => by
        rw [← HEN.out] at h; exact h.n (length_wordTo ..)
      have E1 : Hid (Calls Try.prog 13 #[.int .i64 (A : Nat), .int .i64 (B : Nat), .slice ad A cd] wr (RetNE wr N (wordTo A n X N))) := Lib.hid (enc _ _ _ _ (HR1.out.mono HADD.out) HX.out)
      have E2 : Hid (∀ w', Add wr w' → Calls Try.prog 13 #[.int .i64 (A : Nat), .int .i64 (B : Nat), .slice ae A ce] w' (RetNE w' N (wordTo A n Y N))) := Lib.hid fun w' g => enc _ _ _ _ (HR2.out.mono (Add.trans HADD.out g)) HY.out
      have E3 : Hid (∀ w', Add wr w' → Calls Try.prog 13 #[.int .i64 (A : Nat), .int .i64 (B : Nat), .slice az A cz] w' (RetNE w' N (wordTo A n (mixTo X Y c A) N))) := Lib.hid fun w' g => enc _ _ _ _ (HRZ.out.mono g) (mix_dim HX.out hc)
      have h10 := HR1.out.mono HADD.out
      have HR1' := Lib.hid h10
      clear hrz enc h10
      subst hqA
      go_wp2_with fail
      refine E1.out.mono ?_
      rintro e w3 ⟨G1, hg1, rfl, hr3, -, hadd3⟩
      have HU := Lib.hid hr3
      have HA3 := Lib.hid hadd3
      clear hr3 hadd3 E1
      go_wp2_with fail
      refine (E2.out _ HA3.out).mono ?_
      rintro e w4 ⟨G2, hg2, rfl, hr4, -, hadd4⟩
      have HV := Lib.hid hr4
      have HU := Lib.hid (HU.out.mono hadd4)
      have HA4 := Lib.hid (Add.trans HA3.out hadd4)
      clear hr4 hadd4 E2
      go_wp2_with fail
      refine (E3.out _ HA4.out).mono ?_
      rintro e w5 ⟨G3, hg3, rfl, hr5, -, hadd5⟩
      have HZ := Lib.hid hr5
      have HU := Lib.hid (HU.out.mono hadd5)
      have HV := Lib.hid (HV.out.mono hadd5)
      have HA5 := Lib.hid (Add.trans HA4.out hadd5)
      have HR15 := Lib.hid (HR1'.out.mono HA5.out)
      clear hr5 hadd5 E3
      rename World => w5
      go_wp2_with fail
      go_loopw [29] (fun i wr => ∃ j : Nat, j ≤ N ∧ i = .int .i64 (j : Nat) ∧ ∃ p, wr = w5.drewN p) (fun i _ => N - (intOf i).toNat)
      case atStart => exact ⟨0, Nat.zero_le _, rfl, 0, rfl⟩
      case round =>
        obtain ⟨i, hi, rfl, p, rfl⟩ := hrel
        by_cases hiN : i = N
        · subst hiN
          have HW5 : Hid (Add w (w5.drewN p)) := Lib.hid (below_drewN (Add.trans HW.out HA5.out) p)
          go_wp2_with fail
          refine (awake_any _).mono ?_
          rintro e w7 ⟨rfl, hadd7⟩
          have HF : Hid (Add w w7) := Lib.hid (Add.trans HW5.out hadd7)
          clear hadd7
          go_wp2_with fail
          go_ret
          exact ⟨rfl, HF.out⟩
        · have hlt : i < N := by omega
          obtain ⟨bu, fu, au, lu, ku, eu, -, elu, -, hcu, hru⟩ := HU.out.row hlt
          obtain ⟨bv, fv, av, lv, kv, ev, -, elv, -, hcv, hrv⟩ := HV.out.row hlt
          obtain ⟨bz, fz, az2, lz, kz, ez, -, elz, -, hcz, hrz⟩ := HZ.out.row hlt
          obtain ⟨bx, fx, ax, lx, kx, rfl, -, elx, -, hcx, -⟩ := HR15.out.row (k := 0) (by omega)
          cases eu
          cases ev
          cases ez
          rw [Nat.zero_add] at hcu hcv hcz
          rw [Nat.add_zero] at hcx
          have e1 : lu = n := by rw [elu, wordTo_get hlt]; exact wordR_dim (dim_all HX.out) HX.out.1
          have e2 : lv = n := by rw [elv, wordTo_get hlt]; exact wordR_dim (dim_all HY.out) HY.out.1
          have e3 : lz = n := by rw [elz, wordTo_get hlt]; exact wordR_dim (dim_all (mix_dim HX.out hc)) (length_mixTo ..)
          have e4 : lx = n := by rw [elx]; exact HX.out.2.1 0 (by omega)
          clear elu elv elz elx
          subst e1
          have e2 := e2.symm
          subst e2
          have e3 := e3.symm
          subst e3
          have e4 := e4.symm
          subst e4
          rw [wordTo_get hlt] at hru hrv hrz
          have HRU := Lib.hid hru
          have HRV := Lib.hid hrv
          have HRZ2 := Lib.hid hrz
          clear hru hrv hrz hiN
          go_wp2_with fail
          go_quiet (fail)
          go_wp2_with fail
          go_loopw [30] (fun jv wx => ∃ j : Nat, j ≤ lu ∧ jv = .int .i64 (j : Nat) ∧ ∃ p, wx = w5.drewN p) (fun jv _ => lu - (intOf jv).toNat)
          case atStart => exact ⟨0, Nat.zero_le _, rfl, _, by first | rfl | exact World.drewN_drewN _ _ _⟩
          case round =>
            obtain ⟨j, hj, rfl, p2, rfl⟩ := hrel
            by_cases hjn : j = lu
            · have hjn := hjn.symm
              subst hjn
              go_wp2_with fail
              go_roundw
              case rel => exact ⟨i + 1, by omega, by go_num, _, rfl⟩
              case measure => simp [intOf]; omega
            · have hjlt : j < lu := by omega
              obtain ⟨b1, f1, rfl, k1⟩ := HRU.out.cell hjlt
              obtain ⟨b2, f2, rfl, k2⟩ := HRV.out.cell hjlt
              obtain ⟨b3, f3, rfl, k3⟩ := HRZ2.out.cell hjlt
              obtain ⟨x, ex⟩ : ∃ x, x = (wordR q lu X i).getD j 0 := ⟨_, rfl⟩
              obtain ⟨y, ey⟩ : ∃ y, y = (wordR q lu Y i).getD j 0 := ⟨_, rfl⟩
              have hmix := word_mix HX.out HY.out hc hjlt i
              rw [hmix, ← ex, ← ey] at k3
              rw [← ex] at k1
              rw [← ey] at k2
              have hx : x < 256 := by rw [ex]; exact HRU.out.limbs.get j
              have hy : y < 256 := by rw [ey]; exact HRV.out.limbs.get j
              obtain ⟨g, eg⟩ : ∃ g, g = gm c y := ⟨_, rfl⟩
              obtain ⟨z, ez⟩ : ∃ z, z = x ^^^ g := ⟨_, rfl⟩
              rw [← eg, ← ez] at k3
              have CM : Hid (∀ w, Calls Try.prog 24 #[.int .u8 (c : Nat), .int .u8 (y : Nat)] w (fun e w' => e = .returned (.int .u8 (g : Nat)) ∧ ∃ m, w' = w.drewN m)) := Lib.hid fun w => by rw [eg]; exact (refMul_any c y hc hy w).mono fun _ _ h => ⟨h.1, 0, h.2.symm⟩
              have hxor : bits .xor .u8 (x : Int) (g : Int) = (z : Int) := by rw [ez]; exact u8_xor_nat x g hx (by rw [eg]; exact gm_lt hc)
              obtain ⟨W6, eW6⟩ : ∃ W6, W6 = w5.drewN p2 := ⟨_, rfl⟩
              have k1 : W6.cell? ⟨b1, f1 + j, none⟩ = some (.int .u8 (x : Nat)) := by rw [eW6]; exact k1
              have k2 : W6.cell? ⟨b2, f2 + j, none⟩ = some (.int .u8 (y : Nat)) := by rw [eW6]; exact k2
              have k3 : W6.cell? ⟨b3, f3 + j, none⟩ = some (.int .u8 (z : Nat)) := by rw [eW6]; exact k3
              have hcu : W6.cell? ⟨G1, i, none⟩ = some (.slice (some ⟨b1, f1, none⟩) lu ku) := by rw [eW6]; exact hcu
              have hcv : W6.cell? ⟨G2, i, none⟩ = some (.slice (some ⟨b2, f2, none⟩) lu kv) := by rw [eW6]; exact hcv
              have hcz : W6.cell? ⟨G3, i, none⟩ = some (.slice (some ⟨b3, f3, none⟩) lu kz) := by rw [eW6]; exact hcz
              rw [← eW6]
              have EW6 := Lib.hid eW6
              clear hmix ex ey eg ez hx hy hjn eW6
              go_wp2_with fail
              go_quiet ((go_at_call 24; with_reducible exact Calls.quiet_of (CM.out _)))
              go_wp2_with fail
              go_roundw
              case rel => exact ⟨j + 1, by omega, by go_num, _, by rw [EW6.out]; first | rfl | exact World.drewN_drewN _ _ _⟩
              case measure => simp [intOf]; omega
    · have hlt : q < A := by omega
      have hr1' := HR1.out.mono HADD.out
      obtain ⟨bx, fx, ax, lx, kx, rfl, -, elx, -, hcx, hrx⟩ := hr1'.row hlt
      obtain ⟨by', fy, ay, ly, ky, rfl, -, ely, -, hcy, hry⟩ := (HR2.out.mono HADD.out).row hlt
      have e1 : lx = n := by rw [elx]; exact HX.out.2.1 q hlt
      have e2 : ly = n := by rw [ely]; exact HY.out.2.1 q hlt
      clear elx ely
      subst e1
      have e2 := e2.symm
      subst e2
      obtain ⟨xs, exs⟩ : ∃ xs, xs = X.getD q [] := ⟨_, rfl⟩
      obtain ⟨ys, eys⟩ : ∃ ys, ys = Y.getD q [] := ⟨_, rfl⟩
      rw [← exs] at hrx
      rw [← eys] at hry
      have hxl := reads_len hrx
      have hyl := reads_len hry
      have hbx := hrx.limbs
      have hby := hry.limbs
      have HRX := Lib.hid hrx
      have HRY := Lib.hid hry
      have HCX := Lib.hid hcx
      have HCY := Lib.hid hcy
      obtain ⟨zs, ezs⟩ : ∃ zs, zs = addTo xs c ys := ⟨_, rfl⟩
      have hzl : Hid (zs.length = lx) := Lib.hid (by rw [ezs, length_addTo]; exact hxl)
      have hbz : Bys zs := by rw [ezs]; exact bys_addTo hbx hc
      have HMIX : Hid (mixTo X Y c (q + 1) = mixTo X Y c q ++ [zs]) := Lib.hid (by rw [mixTo_succ, ← exs, ← eys, ezs])
      have HGET : Hid (∀ j, j < lx → zs.getD j 0 = xs.getD j 0 ^^^ gm c (ys.getD j 0)) := Lib.hid fun j hj => by rw [ezs]; exact getD_addTo' (by rw [hxl]; exact hj) (by rw [hyl]; exact hj)
      clear hrx hry hr1' hxl hyl exs eys ezs hqA
      rename World => wk
      go_wp2_with (at_make; refine wpList_make_full _ rfl _ _ 32 rfl wk.heap.size 5 i0 (.int .u8 0) 1 Try.underlying32 hi0 hz0 hz1 _ _ _ _ lx rfl rfl (by omega) (by omega) (by rw [hz2]; omega) (by unfold maxLen; omega) (Nat.le_refl _) ?_)
      intro w1' hown hgr
      have hown := Own.made hown
      obtain ⟨g, eg⟩ : ∃ g, g = wk.heap.size := ⟨_, rfl⟩
      rw [← eg] at hown ⊢
      have HG0 := Lib.hid (hown.row)
      have HW1 : Hid (Add wk w1') := Lib.hid ((Below.refl _ _).grown hgr (Nat.le_refl _) (by simp))
      have hbg : wk.heap.size ≤ g := by omega
      clear hown hgr eg hcx hcy
      go_wp2_with fail
      rename World => w1'
      go_loopw [22] (fun i wx => ∃ j : Nat, j ≤ lx ∧ i = .int .i64 (j : Nat) ∧ Row wx g (fillTo zs lx j) ∧ Add wk wx) (fun i _ => lx - (intOf i).toNat)
      case atStart => exact ⟨0, Nat.zero_le _, rfl, by rw [fillTo_zero]; exact HG0.out, HW1.out⟩
      case round =>
        obtain ⟨j, hj, rfl, hrow, hg⟩ := hrel
        rename World => wx
        by_cases hjn : j = lx
        · have hfull : Row wx g zs := by rw [hjn, fillTo_all hzl.out] at hrow; exact hrow
          have hjn := hjn.symm
          subst hjn
          have HPUSH : Hid (∀ v' w3 o, (wx.alloc o).grownBy w3 u19.ownBlock → w3.ownsRow w2.heap.size 32 1 v' (hs.length + 1) (hs ++ [.slice (some ⟨g, 0, none⟩) lx lx]) → (v'.ownBlock = u19.ownBlock ∨ v'.ownBlock = some (wx.heap.size + 1)) → ListR w3 w2.heap.size v' (hs ++ [.slice (some ⟨g, 0, none⟩) lx lx]) (mixTo X Y c (q + 1)) ∧ Add w2 w3) := Lib.hid fun v' w3 o h1 h2 h3 => by
            rw [HMIX.out]
            have hrd : Reads wx (.slice (some ⟨g, 0, none⟩) lx lx) zs := by
              have := hfull.reads (m := lx) (c := lx) (by rw [hzl.out]; exact Nat.le_refl _) (Nat.le_refl _) (by unfold maxLen; omega) hbz
              rw [List.take_of_length_le (by rw [hzl.out]; exact Nat.le_refl _)] at this
              exact this
            refine ⟨(HL.out.add hg).push hrd (away_fresh HL.out.1 (fun b off n' c' e => by cases e; exact hbg)) h1 h2 h3, (HL.out.add hg).addB (Add.trans HADD.out hg) (Nat.le_refl _) h1⟩
          have hownV := (HL.out.add hg).1
          have hsz := (Add.trans HADD.out hg).size
          have hgk : hs.length ≤ 8 := by rw [HLEN.out]; omega
          clear hfull hrow hg
          go_wp2_with (at_builtin; refine wpList_append_own_at _ rfl _ _ 22 rfl w2.heap.size 32 i1 (.slice none 0 0) 1 24 Try.underlying22 hi1 hy0 hy1 hy2 rfl (by decide) _ _ _ rfl (World.ownsRow.alloc hownV _) ⟨wx.heap.size, 0, none⟩ 1 1 [_] rfl rfl (Go.cell_one_new _ _ _) (by intro u hu; simp at hu; subst hu; rfl) (by unfold maxLen; omega) (by omega) (by simp; omega) ?_)
          intro v' w3 hown3 hgr3 _ hat
          have HEND := Lib.hid (HPUSH.out v' w3 _ hgr3 hown3 hat)
          clear hown3 hgr3 hownV hat
          go_wp2_with fail
          go_roundw
          case rel => exact ⟨q + 1, _, by omega, by go_num, HEND.out.1, HEND.out.2⟩
          case measure => simp [intOf]; omega
        · have hjlt : j < lx := by omega
          have hcx := (hg.cell (p := ⟨bx, fx + q, none⟩) (World.block_lt_of_cell? wk _ HCX.out)).trans HCX.out
          have hcy := (hg.cell (p := ⟨by', fy + q, none⟩) (World.block_lt_of_cell? wk _ HCY.out)).trans HCY.out
          obtain ⟨b1, f1, rfl, k1⟩ := (HRX.out.mono hg).cell hjlt
          obtain ⟨b2, f2, rfl, k2⟩ := (HRY.out.mono hg).cell hjlt
          have hcz := hrow.cell j (by rw [length_fillTo hzl.out hj]; exact hjlt)
          have hfree := hrow.free j
          obtain ⟨old, eold⟩ : ∃ old, old = (fillTo zs lx j).getD j 0 := ⟨_, rfl⟩
          rw [← eold] at hcz
          obtain ⟨x, ex⟩ : ∃ x, x = xs.getD j 0 := ⟨_, rfl⟩
          obtain ⟨y, ey⟩ : ∃ y, y = ys.getD j 0 := ⟨_, rfl⟩
          have hx : x < 256 := by rw [ex]; exact hbx.get j
          have hy : y < 256 := by rw [ey]; exact hby.get j
          rw [← ex] at k1
          rw [← ey] at k2
          obtain ⟨t, et⟩ : ∃ t, t = gm c y := ⟨_, rfl⟩
          obtain ⟨z, ez⟩ : ∃ z, z = x ^^^ t := ⟨_, rfl⟩
          have CM : Hid (∀ w, Calls Try.prog 24 #[.int .u8 (c : Nat), .int .u8 (y : Nat)] w (RetB w t)) := Lib.hid fun w => by rw [et]; exact refMul_any c y hc hy w
          have hxor : bits .xor .u8 (x : Int) (t : Int) = (z : Int) := by rw [ez]; exact u8_xor_nat x t hx (by rw [et]; exact gm_lt hc)
          have HNEXT : Hid (Row (wx.setCell ⟨g, j, none⟩ (.int .u8 (z : Nat))) g (fillTo zs lx (j + 1)) ∧ Add wk (wx.setCell ⟨g, j, none⟩ (.int .u8 (z : Nat)))) := Lib.hid (by
            have h2 := hrow.set j z
            have e5 : z = zs.getD j 0 := by rw [HGET.out j hjlt, ez, et, ex, ey]
            rw [e5, fillTo_step hzl.out hjlt] at h2
            rw [e5]; exact ⟨h2, hg.setCell hbg _⟩)
          clear hrow hg ex ey et ez hx hy eold hjn
          go_wp2_with fail
          go_still_tail 20, (by kernel_rfl)
          still_call ((CM.out _).mono fun _ _ h => ⟨h.1, h.2.symm⟩)
          repeat still_step
          try refine wpStill_nil ?_
          change wpList _ _ _ _ _ wx.drew
          go_wp2_with fail
          go_roundw
          case rel => exact ⟨j + 1, by omega, by go_num, HNEXT.out.1, by first | exact below_drewN HNEXT.out.2 1 | exact HNEXT.out.2⟩
          case measure => simp [intOf]; omega
end Go.Proofs.Ytmlcenocjpjcfaa
