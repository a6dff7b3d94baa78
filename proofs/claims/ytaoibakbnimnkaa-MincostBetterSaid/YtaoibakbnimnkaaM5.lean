/- The reference of layer 13: distances. -/
import Derived.Test.YtaoibakbnimnkaaM4
import Derived.BigRegion
import Derived.StillTailTactics
namespace Go.Proofs.Ytaoibakbnimnkaa
open Go.RowKit NetM

set_option maxRecDepth 100000 in
set_option maxHeartbeats 4000000 in
theorem refDist_any {w : World} {v vf : Value} {N s t : Nat} {A : List Arc} {F : List Int} {P : Nat → Int} (h : NetA w v N s t A) (hv : CNet N s t A) (hf : RdI w vf F) (hw : Hid (within A F)) (hP : Hid (PotB A F N s t P)) :
    Calls Try.prog 37 #[v, vf] w (DistP w N s A F P) := by
  obtain ⟨i0, hi0, hz0, hs0, hb0⟩ := info_parts infoInt
  obtain ⟨va, rfl, ha⟩ := h
  obtain ⟨a, m, c, rfl, hl, hc, hm, -⟩ := id ha
  obtain ⟨fa, fc, rfl, hfc, hfm, -⟩ := hf.open
  have HV := Lib.hid hv
  have HA := Lib.hid ha
  have HL := Lib.hid hl
  obtain ⟨⟨-, hs, ht, hst, hN, hN2, hm2⟩, -⟩ := hv
  have hfl := NetM.within_length hw.out
  rw [hl] at hm2 hfl
  rw [hfl] at hf hfc ⊢
  have HF := Lib.hid hf
  have HFL := Lib.hid hfl
  unfold maxLen at hm hfm
  clear hl ha hf hfl
  have mkI := fun w => make_run (e := 3) (t := 25) (z := .int .i64 0) Try.underlying25 hi0 hz0 hs0 hb0 rfl (by decide) N hN2 w
  obtain ⟨ZI, hZI⟩ : ∃ Z, Z = (List.replicate N (Value.int .i64 0)).toArray := ⟨_, rfl⟩
  rw [← hZI] at mkI
  have HZI : Hid (ZI = ((List.replicate N (0 : Int)).map iv).toArray) := Lib.hid (by rw [hZI, List.map_replicate]; rfl)
  clear hZI hi0 hz0 hs0 hb0
  have HB1 := Lib.hid (nbox_new w N s t a m c)
  go_enter Try.func37, Try.ntmps37
  go_wp2_with fail
  go_cut [6, 7] from 12 (fun p q wx => ∃ gd gb, p = .slice (some ⟨gd, 0, none⟩) N N ∧ q = .slice (some ⟨gb, 0, none⟩) N N ∧ DSt w wx N s t a m c gd gb (List.replicate N 0) (List.replicate N 0))
  case first =>
    go_region
    all_goals go_wp2_with fail
    all_goals go_meet
    all_goals first | exact ⟨_, _, rfl, rfl, (madeD HZI.out _ rfl).1⟩ | exact ⟨_, _, rfl, rfl, (madeD HZI.out _ rfl).2⟩
  case rest =>
    obtain ⟨gd, gb, rfl, rfl, hmade⟩ := hcut
    clear mkI HZI HB1
    have HM := Lib.hid hmade
    have g3 := hmade.2.2.2.2.1
    have g4 := hmade.2.2.2.2.2.1
    have g5 := hmade.2.2.2.2.2.2
    clear hmade
    go_wp2_with fail
    go_loopw [8] (fun i wr => ∃ k : Nat, k ≤ N ∧ i = .int .i64 k ∧ Hid (DSt w wr N s t a m c gd gb (fillD N k) (List.replicate N 0))) (fun i _ => N - (intOf i).toNat)
    case atStart => exact ⟨0, Nat.zero_le _, rfl, Lib.hid (by rw [fillD_zero]; exact HM.out)⟩
    case round =>
      clear HM
      obtain ⟨k, hk, rfl, hD⟩ := hrel
      have b0 := hD.out.2.2.1.c0
      by_cases hlt : k < N
      · have c1 := IBlk.get hD.out.1 k (by rw [fillD_len (Nat.le_of_lt hlt)]; exact hlt)
        have f1 := Blk.free hD.out.1 k
        have HD2 : Hid (∀ W, W = wr.setCell ⟨gd, k, none⟩ (.int .i64 far) → DSt w W N s t a m c gd gb (fillD N (k + 1)) (List.replicate N 0)) := Lib.hid (by rintro W rfl; rw [← fillD_step hlt]; exact hD.out.one k far)
        clear hD
        go_wp2_with fail
        go_roundw
        case rel => exact ⟨k + 1, by omega, by go_num, Lib.hid (HD2.out _ rfl)⟩
        case measure => simp [intOf]; omega
      · obtain rfl : k = N := by omega
        have b1 := hD.out.2.2.1.c1
        have c1 := IBlk.get hD.out.1 s (by rw [fillD_len (Nat.le_refl _)]; exact hs)
        have f1 := Blk.free hD.out.1 s
        have HD2 : Hid (∀ W, W = wr.setCell ⟨gd, s, none⟩ (.int .i64 0) → DSt w W k s t a m c gd gb ((List.replicate k far).set s 0) (List.replicate k 0)) := Lib.hid (by rintro W rfl; rw [← fillD_all]; exact hD.out.one s 0)
        clear hD
        go_wp2_with fail
        obtain ⟨W1, hW1⟩ : ∃ W1, W1 = wr.setCell ⟨gd, s, none⟩ (.int .i64 0) := ⟨_, rfl⟩
        rw [← hW1]
        have HS0 := Lib.hid (HD2.out _ hW1)
        have HDS : Hid (DS A F k s P ((List.replicate k far).set s 0) (List.replicate k 0)) := Lib.hid (DS.start hs hP.out.2.1 fun x hx => by have := hP.out.le hx; unfold far; omega)
        obtain ⟨D0, hD0⟩ : ∃ D0, D0 = (List.replicate k far).set s 0 := ⟨_, rfl⟩
        rw [← hD0] at HS0 HDS
        clear hW1 hD0 HD2 b0 b1 c1 f1 hlt
        go_loopg [9] ((sumD D0).toNat + 1) (fun gk av wr => ∃ (b : Bool) (D Y : List Int), av = .bool b ∧ Hid (DSt w wr k s t a m c gd gb D Y) ∧ Hid (DS A F k s P D Y) ∧ Hid (b = false → ClosedD A F D A.length) ∧ Hid (sumD D + (if b = true then 1 else 0) = (gk : Int)))
        case atStart => exact ⟨true, D0, _, rfl, HS0, HDS, Lib.hid fun h => Bool.noConfusion h, Lib.hid (by have := DS.sum HDS.out hP.out; simp; omega)⟩
        case round =>
          obtain ⟨b, D, Y, rfl, hS, hDS, hcl, hsum⟩ := hrel
          clear HS0 HDS
          cases b with
          | false =>
            have HF1 : Hid (DistP w k s A F P (.returned (.tuple #[.slice (some ⟨gd, 0, none⟩) k k, .slice (some ⟨gb, 0, none⟩) k k])) wr) := Lib.hid ⟨gd, gb, D, Y, rfl, hS.out.1, hS.out.2.1, hDS.out, hcl.out rfl, hS.out.2.2.2.1, Nat.le_of_lt g3, Nat.le_of_lt g4, g5⟩
            clear hS hDS hcl hsum
            go_wp2_with fail
            go_ret2
            exact HF1.out
          | true =>
            clear hcl
            go_wp2_with fail
            obtain ⟨wm, rfl⟩ : ∃ wm : World, wm = wr := ⟨_, rfl⟩
            obtain ⟨GK, rfl⟩ : ∃ GK : Nat, GK = gk := ⟨_, rfl⟩
            go_loopg [9, 10] m (fun g av iv wr => ∃ (b : Bool) (D1 Y1 : List Int) (j : Nat), j + g = m ∧ av = .bool b ∧ iv = .int .i64 j ∧ Hid (DSt w wr k s t a m c gd gb D1 Y1) ∧ Hid (DS A F k s P D1 Y1) ∧ Hid (PassD A F D b j D1))
            case atStart => exact ⟨false, D, Y, 0, by omega, rfl, rfl, hS, hDS, Lib.hid (.inl ⟨rfl, rfl, fun j hj => absurd hj (Nat.not_lt_zero _)⟩)⟩
            case round =>
              clear hS hDS
              obtain ⟨b, D1, Y1, j, hj, rfl, rfl, hS, hDS, hpass⟩ := hrel
              have hadd := hS.out.2.2.2.1
              have b3 := hS.out.2.2.1.c3
              have hsz := hS.out.2.2.1.lt
              have l1 := Blk.lt hS.out.1
              have l2 := Blk.lt hS.out.2.1
              by_cases hlt : j < m
              · obtain ⟨ab, off1, rfl, r0, r1, r2, r3⟩ := (HA.out.add hadd).cell hlt
                obtain ⟨fb, foff, rfl, q4'⟩ := RdI.cell HF.out hlt
                have hbw : fb < w.heap.size := World.block_lt_of_cell? _ _ q4'
                have q4 := (hadd.cell (p := ⟨fb, foff + j, none⟩) hbw).trans q4'
                obtain ⟨x, y, z, u, hx, hxN, hyN, hz0, hz1⟩ := HV.out.1.at (k := j) (by rw [HL.out]; exact hlt)
                have hok := HV.out.2 _ (at_mem (A := A) (k := j) (by rw [HL.out]; exact hlt))
                unfold okCost at hok
                rw [hx] at r0 r1 r2 r3 hok
                dsimp only at r0 r1 r2 r3 hok
                obtain ⟨-, u0, u1⟩ := hok
                obtain ⟨f, hf⟩ : ∃ f, F.getD j 0 = f := ⟨_, rfl⟩
                rw [hf] at q4 q4'
                have Q4 := Lib.hid q4'
                have hbl : fb < wr.heap.size := World.block_lt_of_cell? _ _ q4
                have HX := Lib.hid hx
                have HFF := Lib.hid hf
                have hDl := hDS.out.1
                have hYl := hDS.out.2.1
                obtain ⟨dx, hdx⟩ : ∃ d, D1.getD x 0 = d := ⟨_, rfl⟩
                obtain ⟨dy, hdy⟩ : ∃ d, D1.getD y 0 = d := ⟨_, rfl⟩
                have c1 : wr.cell? ⟨gd, x, none⟩ = some (.int .i64 dx) := by rw [← hdx]; exact IBlk.get hS.out.1 x (by omega)
                have c2 : wr.cell? ⟨gd, y, none⟩ = some (.int .i64 dy) := by rw [← hdy]; exact IBlk.get hS.out.1 y (by omega)
                have c3 : wr.cell? ⟨gb, y, none⟩ = some (.int .i64 (Y1.getD y 0)) := IBlk.get hS.out.2.1 y (by omega)
                have f2 := Blk.free hS.out.1 y
                have f3 := Blk.free hS.out.2.1 y
                have hbx := hDS.out.2.2.2.1 x hxN
                have hpx := hP.out.2.2.1 x hxN
                rw [hdx] at hbx
                unfold far at hbx
                have W1 : IntKind.i64.wrap (dx + u) = dx + u := IntWalk.i64_in _ (by omega)
                have HDX := Lib.hid hdx
                have HDY := Lib.hid hdy
                clear q4' hadd hx hf hdx hdy hbx hpx
                have HN : Hid (¬ (f < z ∧ dx < 1099511627776 ∧ dx + u < dy) → ∀ q, HalfD w ((wr.alloc (.cells #[.int .i64 (x : Nat), .int .i64 (y : Nat), .int .i64 z, .int .i64 u] 35)).drewN q) k s t (some ⟨ab, off1, none⟩) m c gd gb A F P D b j wr.heap.size x y z u D1 Y1) := Lib.hid fun hn q => halfD_no hS.out hDS.out hpass.out (by rw [HFF.out, HDX.out, HDY.out]; unfold far; exact hn) q
                have HY : Hid ((f < z ∧ dx < 1099511627776 ∧ dx + u < dy) → ∀ q W5, W5 = ((((wr.alloc (.cells #[.int .i64 (x : Nat), .int .i64 (y : Nat), .int .i64 z, .int .i64 u] 35)).drewN q).setCell ⟨gd, y, none⟩ (.int .i64 (dx + u))).setCell ⟨gb, y, none⟩ (.int .i64 (j : Int))) → HalfD w W5 k s t (some ⟨ab, off1, none⟩) m c gd gb A F P D true j wr.heap.size x y z u (D1.set y (dx + u)) (Y1.set y (j : Int))) := Lib.hid fun hn q W5 hW => by
                  have := halfD_yes (b := b) (W5 := W5) hS.out hDS.out hpass.out hP.out (k := j) (by rw [HL.out]; exact hlt) HX.out hxN hyN (by rw [HFF.out]; exact hn.1) (by rw [HDX.out]; unfold far; exact hn.2.1) (by rw [HDX.out, HDY.out]; exact hn.2.2) q (by rw [HDX.out]; exact hW)
                  rw [HDX.out] at this
                  exact this
                clear hDl hYl
                obtain ⟨B, hB⟩ : ∃ B : Bool, B = decide (f < z ∧ dx < 1099511627776 ∧ dx + u < dy) := ⟨_, rfl⟩
                obtain ⟨WA, hWA⟩ : ∃ WA, WA = wr.alloc (.cells #[.int .i64 (x : Nat), .int .i64 (y : Nat), .int .i64 z, .int .i64 u] 35) := ⟨_, rfl⟩
                go_upto_region 14 with fail
                go_cut [74] from 32 to 141 (fun cv wx => cv = .bool B ∧ ∃ q, wx = (wr.alloc (.cells #[.int .i64 (x : Nat), .int .i64 (y : Nat), .int .i64 z, .int .i64 u] 35)).drewN q)
                case first =>
                  have hcase : (f < z ∧ dx < 1099511627776 ∧ dx + u < dy) ∨ ¬ f < z ∨ (f < z ∧ ¬ dx < 1099511627776) ∨ (f < z ∧ dx < 1099511627776 ∧ ¬ dx + u < dy) := by omega
                  clear HN HY
                  rcases hcase with ⟨h1, h2, h3⟩ | h1 | ⟨h1, h2⟩ | ⟨h1, h2, h3⟩
                  · have hB2 : B = true := by rw [hB]; exact decide_eq_true ⟨h1, h2, h3⟩
                    have d1 : decide (f < z) = true := decide_eq_true h1
                    have d2 : decide (dx < 1099511627776) = true := decide_eq_true h2
                    have d3 : decide (dx + u < dy) = true := decide_eq_true h3
                    clear h1 h2 h3 hB
                    go_quiet (fail)
                    go_wp2_with fail
                    go_meet
                    exact ⟨by rw [hB2], _, rfl⟩
                  · have hB2 : B = false := by rw [hB]; exact decide_eq_false (by omega)
                    have d1 : decide (f < z) = false := decide_eq_false h1
                    clear h1 hB
                    go_quiet (fail)
                    go_wp2_with fail
                    go_meet
                    exact ⟨by rw [hB2], _, rfl⟩
                  · have hB2 : B = false := by rw [hB]; exact decide_eq_false (by omega)
                    have d1 : decide (f < z) = true := decide_eq_true h1
                    have d2 : decide (dx < 1099511627776) = false := decide_eq_false h2
                    clear h1 h2 hB
                    go_quiet (fail)
                    go_wp2_with fail
                    go_meet
                    exact ⟨by rw [hB2], _, rfl⟩
                  · have hB2 : B = false := by rw [hB]; exact decide_eq_false (by omega)
                    have d1 : decide (f < z) = true := decide_eq_true h1
                    have d2 : decide (dx < 1099511627776) = true := decide_eq_true h2
                    have d3 : decide (dx + u < dy) = false := decide_eq_false h3
                    clear h1 h2 h3 hB
                    go_quiet (fail)
                    go_wp2_with fail
                    go_meet
                    exact ⟨by rw [hB2], _, rfl⟩
                case rest =>
                  obtain ⟨rfl, q, hwc⟩ := hcut
                  have hAw : Add wr wc := by rw [hwc]; exact Add.trans (add_new _ _) (add_drewN _ _)
                  have hAB : ABox wc wr.heap.size x y z u := by rw [hwc]; exact (abox_new wr _ _ _ _).add (add_drewN _ q)
                  have a0 := hAB.c0
                  have a1 := hAB.c1
                  have a3 := hAB.c3
                  replace c1 := (hAw.cell (p := ⟨gd, x, none⟩) l1).trans c1
                  replace c2 := (hAw.cell (p := ⟨gd, y, none⟩) l1).trans c2
                  replace c3 := (hAw.cell (p := ⟨gb, y, none⟩) l2).trans c3
                  replace f2 := Blk.free (Blk.add hS.out.1 hAw) y
                  replace f3 := Blk.free (Blk.add hS.out.2.1 hAw) y
                  have HWC := Lib.hid hwc
                  have hBB : (B = true ∧ (f < z ∧ dx < 1099511627776 ∧ dx + u < dy)) ∨ (B = false ∧ ¬ (f < z ∧ dx < 1099511627776 ∧ dx + u < dy)) := by
                    rw [hB]
                    by_cases c : f < z ∧ dx < 1099511627776 ∧ dx + u < dy
                    · exact .inl ⟨decide_eq_true c, c⟩
                    · exact .inr ⟨decide_eq_false c, c⟩
                  have HBB := Lib.hid hBB
                  clear hB hBB hwc hAw hAB
                  go_upto_if 74 with fail
                  go_cut [9] from 32 to 141 (fun av wx => ∃ (b1 : Bool) (D2 Y2 : List Int), av = .bool b1 ∧ Hid (HalfD w wx k s t (some ⟨ab, off1, none⟩) m c gd gb A F P D b1 j wr.heap.size x y z u D2 Y2))
                  case first =>
                    rcases HBB.out with ⟨rfl, hc⟩ | ⟨rfl, hc⟩
                    · have HH : Hid (∀ W5, W5 = (wc.drew.setCell ⟨gd, y, none⟩ (.int .i64 (dx + u))).setCell ⟨gb, y, none⟩ (.int .i64 (j : Int)) → HalfD w W5 k s t (some ⟨ab, off1, none⟩) m c gd gb A F P D true j wr.heap.size x y z u (D1.set y (dx + u)) (Y1.set y (j : Int))) := Lib.hid fun W5 hW => HY.out hc (q + 1) W5 (by rw [hW, HWC.out]; rfl)
                      clear HN HY HBB hc HDX HDY HWC
                      go_wp2_with fail
                      go_region
                      go_wp2_with fail
                      go_meet
                      exact ⟨true, _, _, rfl, Lib.hid (HH.out _ rfl)⟩
                    · have HH := Lib.hid (HN.out hc q)
                      rw [← HWC.out] at HH
                      clear HN HY HBB hc HDX HDY HWC a0 a1 a3 c1 c2 c3 f2 f3
                      go_wp2_with fail
                      go_meet
                      exact ⟨b, _, _, rfl, HH⟩
                  case rest =>
                    obtain ⟨b1, D2, Y2, rfl, HH⟩ := hcut
                    clear HN HY HBB HDX HDY HWC a0 a1 a3 c1 c2 c3 f2 f3 q4 r0 r1 r2 r3 b3 W1 hS hDS hpass
                    obtain ⟨wd, rfl⟩ : ∃ wd : World, wd = wc := ⟨_, rfl⟩
                    obtain ⟨hS5, hD5, hA5, -⟩ := id HH.out
                    have a0 := hA5.c0
                    have a1 := hA5.c1
                    have a3 := hA5.c3
                    have m1 := Blk.lt hS5.1
                    have m2 := Blk.lt hS5.2.1
                    have m3 := hA5.lt
                    have b3 := hS5.2.2.1.c3
                    have m4 := hS5.2.2.1.lt
                    have hbl5 : fb < wd.heap.size := by have := hS5.2.2.2.1.size; omega
                    have q5 := (hS5.2.2.2.1.cell (p := ⟨fb, foff + j, none⟩) hbw).trans Q4.out
                    have hDl := hD5.1
                    have hYl := hD5.2.1
                    obtain ⟨ex, hex⟩ : ∃ d, D2.getD x 0 = d := ⟨_, rfl⟩
                    obtain ⟨ey, hey⟩ : ∃ d, D2.getD y 0 = d := ⟨_, rfl⟩
                    have c1 : wd.cell? ⟨gd, x, none⟩ = some (.int .i64 ex) := by rw [← hex]; exact IBlk.get hS5.1 x (by omega)
                    have c2 : wd.cell? ⟨gd, y, none⟩ = some (.int .i64 ey) := by rw [← hey]; exact IBlk.get hS5.1 y (by omega)
                    have c3 : wd.cell? ⟨gb, x, none⟩ = some (.int .i64 (Y2.getD x 0)) := IBlk.get hS5.2.1 x (by omega)
                    have f2 := Blk.free hS5.1 x
                    have f3 := Blk.free hS5.2.1 x
                    have hby := hD5.2.2.2.1 y hyN
                    have hpy := hP.out.2.2.1 y hyN
                    rw [hey] at hby
                    unfold far at hby
                    have W2 : IntKind.i64.wrap (ey - u) = ey - u := IntWalk.i64_in _ (by omega)
                    have W3 : IntKind.i64.wrap ((m : Int) + (j : Int)) = (m : Int) + (j : Int) := IntWalk.i64_in _ (by omega)
                    have HEND := Lib.hid fun hn => halfD_end HH.out HX.out hn
                    have HTWO := Lib.hid fun h1 h2 h3 (W6 W' : World) (hA : Add wd W') hW => halfD_two HH.out hP.out (by rw [HL.out]; exact hlt) HX.out hxN hyN h1 h2 h3 (W6 := W6) (W' := W') hA hW
                    rw [HFF.out, hex, hey, HL.out] at HTWO
                    rw [HFF.out, hex, hey] at HEND
                    unfold far at HEND HTWO
                    have HS5 := Lib.hid hS5
                    have HD5 := Lib.hid hD5
                    obtain ⟨B2, hB⟩ : ∃ B : Bool, B = decide (0 < f ∧ ey < 1099511627776 ∧ ey - u < ex) := ⟨_, rfl⟩
                    clear hS5 hD5 hA5 hDl hYl hex hey hby hpy HH
                    go_upto_region 16 with fail
                    go_cut [120] from 32 to 141 (fun cv wx => cv = .bool B2 ∧ ∃ q, wx = wd.drewN q)
                    case first =>
                      have hcase : (0 < f ∧ ey < 1099511627776 ∧ ey - u < ex) ∨ ¬ 0 < f ∨ (0 < f ∧ ¬ ey < 1099511627776) ∨ (0 < f ∧ ey < 1099511627776 ∧ ¬ ey - u < ex) := by omega
                      clear HEND HTWO
                      rcases hcase with ⟨h1, h2, h3⟩ | h1 | ⟨h1, h2⟩ | ⟨h1, h2, h3⟩
                      · have hB2 : B2 = true := by rw [hB]; exact decide_eq_true (by omega)
                        have d1 : decide (0 < f) = true := decide_eq_true h1
                        have d2 : decide (ey < 1099511627776) = true := decide_eq_true h2
                        have d3 : decide (ey - u < ex) = true := decide_eq_true h3
                        clear h1 h2 h3 hB
                        go_quiet (fail)
                        go_wp2_with fail
                        go_meet
                        exact ⟨by rw [hB2], _, rfl⟩
                      · have hB2 : B2 = false := by rw [hB]; exact decide_eq_false (by omega)
                        have d1 : decide (0 < f) = false := decide_eq_false h1
                        clear h1 hB
                        go_quiet (fail)
                        go_wp2_with fail
                        go_meet
                        exact ⟨by rw [hB2], _, rfl⟩
                      · have hB2 : B2 = false := by rw [hB]; exact decide_eq_false (by omega)
                        have d1 : decide (0 < f) = true := decide_eq_true h1
                        have d2 : decide (ey < 1099511627776) = false := decide_eq_false h2
                        clear h1 h2 hB
                        go_quiet (fail)
                        go_wp2_with fail
                        go_meet
                        exact ⟨by rw [hB2], _, rfl⟩
                      · have hB2 : B2 = false := by rw [hB]; exact decide_eq_false (by omega)
                        have d1 : decide (0 < f) = true := decide_eq_true h1
                        have d2 : decide (ey < 1099511627776) = true := decide_eq_true h2
                        have d3 : decide (ey - u < ex) = false := decide_eq_false h3
                        clear h1 h2 h3 hB
                        go_quiet (fail)
                        go_wp2_with fail
                        go_meet
                        exact ⟨by rw [hB2], _, rfl⟩
                    case rest =>
                      obtain ⟨rfl, q2, hwc⟩ := hcut
                      have hAw : Add wd wc := by rw [hwc]; exact add_drewN _ _
                      replace a0 := (hAw.cell (p := ⟨wr.heap.size, 0, none⟩) m3).trans a0
                      replace a1 := (hAw.cell (p := ⟨wr.heap.size, 1, none⟩) m3).trans a1
                      replace a3 := (hAw.cell (p := ⟨wr.heap.size, 3, none⟩) m3).trans a3
                      replace b3 := (hAw.cell (p := ⟨w.heap.size, 3, none⟩) m4).trans b3
                      replace c1 := (hAw.cell (p := ⟨gd, x, none⟩) m1).trans c1
                      replace c2 := (hAw.cell (p := ⟨gd, y, none⟩) m1).trans c2
                      replace c3 := (hAw.cell (p := ⟨gb, x, none⟩) m2).trans c3
                      replace f2 := Blk.free (Blk.add HS5.out.1 hAw) x
                      replace f3 := Blk.free (Blk.add HS5.out.2.1 hAw) x
                      have HAW := Lib.hid hAw
                      have hBB : (B2 = true ∧ 0 < f ∧ ey < 1099511627776 ∧ ey - u < ex) ∨ (B2 = false ∧ ¬ (0 < f ∧ ey < 1099511627776 ∧ ey - u < ex)) := by
                        rw [hB]
                        by_cases c : 0 < f ∧ ey < 1099511627776 ∧ ey - u < ex
                        · exact .inl ⟨decide_eq_true c, c⟩
                        · exact .inr ⟨decide_eq_false c, c⟩
                      clear hB hwc hAw
                      rcases hBB with ⟨rfl, h1, h2, h3⟩ | ⟨rfl, hn⟩
                      · have HT := Lib.hid (HTWO.out h1 h2 h3)
                        clear HTWO HEND h1 h2 h3
                        go_wp2_with fail
                        go_region
                        go_wp2_with fail
                        go_roundg (gk - 1)
                        case measure => omega
                        case rel =>
                          have HT2 := HT.out _ _ (b_drew HAW.out) rfl
                          exact ⟨_, _, _, j + 1, by omega, rfl, by go_num, Lib.hid HT2.1, Lib.hid HT2.2.1, Lib.hid HT2.2.2⟩
                      · have HE := Lib.hid (HEND.out hn)
                        clear HTWO HEND hn
                        go_wp2_with fail
                        go_roundg (gk - 1)
                        case measure => omega
                        case rel => exact ⟨_, _, _, j + 1, by omega, rfl, by go_num, Lib.hid (HS5.out.add HAW.out), HD5, HE⟩
              · obtain rfl : j = m := by omega
                have hsD := hsum.out
                have hs1 := DS.sum hDS.out hP.out
                have HR : Hid (∃ g2, g2 < GK ∧ (b = false → ClosedD A F D1 A.length) ∧ sumD D1 + (if b = true then 1 else 0) = (g2 : Int)) := Lib.hid (by
                  have hsE : sumD D + 1 = (GK : Int) := by simpa using hsD
                  rcases hpass.out with ⟨rfl, rfl, h3⟩ | ⟨rfl, h3⟩
                  · exact ⟨GK - 1, by omega, fun _ => by rw [HL.out]; exact h3, by simp; omega⟩
                  · exact ⟨(sumD D1).toNat + 1, by omega, fun h => Bool.noConfusion h, by simp; omega⟩)
                clear hsum hpass hsD hs1 hadd
                obtain ⟨g2, k1, k2, k3⟩ := HR.out
                have K2 := Lib.hid k2
                have K3 := Lib.hid k3
                clear HR k2 k3
                go_wp2_with fail
                go_roundg g2
                case measure => exact k1
                case rel => exact ⟨_, _, _, rfl, hS, hDS, K2, K3⟩
end Go.Proofs.Ytaoibakbnimnkaa
