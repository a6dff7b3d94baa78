/- The reference of layer 5: Mul, all answers. Made by gen/lref5.py. | The reference of layer 5: Identity, all answers. -/
import Derived.Test.YtbeoeackahmpbaaGreatDoorJW2
import Derived.Test.YtbeoeackahmpbaaGreatDoorJVX

namespace Go.Proofs.YtbeoeackahmpbaaGreatDoor
open Go.RowKit NatM Go.Proofs.YtbeoeackahmpbaaGreatDoor.Api LinM

set_option maxRecDepth 100000 in
set_option maxHeartbeats 8000000 in
theorem refMul_ok {w : World} {va vb : Value} {n c p : Nat} {ma mb : Nat → Nat} {X Y : Nat → Nat → Tri} (h : MatP false w va n ma X) (hv : MatP false w vb c mb Y) (hb : shapeOk X ma n = true) (hc : ma 0 = c) (hy : shapeOk Y mb c = true) (hp : mb 0 = p)
    (hw : wtM (fun i j => can (qm X i j)) (fun _ => c) n + wtM (fun i j => can (qm Y i j)) (fun _ => p) c ≤ 3800) :
    Calls Tryz.prog 27 #[va, vb] w (MRes w n (fun _ => p) (fun i l => can (mulM (qm X) (qm Y) c i l)) 0) := by
  obtain ⟨hn, hc1, hX⟩ := shapeOk_iff.1 hb
  obtain ⟨-, hp1, hY⟩ := shapeOk_iff.1 hy
  rw [hc] at hX hc1
  rw [hp] at hY hp1
  have CS := Lib.hid (refShapeN (n, c, true) h (Lib.hid (by unfold shN; rw [if_pos hb, hc])))
  have CS2 := Lib.hid (fun w' (ha : Add w w') => refShapeN (c, p, true) (hv.add ha) (Lib.hid (by unfold shN; rw [if_pos hy, hp])))
  have CW := Lib.hid (fun w' (ha : Add w w') => refWeightsN (h.add ha) (fun i j hi hj => (hX i hi).2 j hj) (by omega) (fun i hi => by rw [(hX i hi).1]; omega))
  rw [wtM_shape fun i hi => (hX i hi).1] at CW
  have CW2 := Lib.hid (fun w' (ha : Add w w') => refWeightsN (hv.add ha) (fun i j hi hj => (hY i hi).2 j hj) (by omega) (fun i hi => by rw [(hY i hi).1]; omega))
  rw [wtM_shape fun i hi => (hY i hi).1] at CW2
  obtain ⟨N1, hN1⟩ : ∃ q, wtM (fun i j => can (qm X i j)) (fun _ => c) n = q := ⟨_, rfl⟩
  obtain ⟨N2, hN2⟩ : ∃ z, wtM (fun i j => can (qm Y i j)) (fun _ => p) c = z := ⟨_, rfl⟩
  have HFS : Hid (∀ i l, i < n → l < p → (∀ j, j < c → Fit (qm X i j * qm Y j l)) ∧ ∀ k, k ≤ c → Fit (LinM.sumQ (fun j => qm X i j * qm Y j l) k)) := Lib.hid fun i l hi hl => by
    have hwi : wtR (fun j => can (qm X i j)) c + wtR (fun j => can (qm Y j l)) c ≤ 3800 := by
      have h1 := wtM_row (fun i j => can (qm X i j)) (fun _ => c) hi
      have h2 := wt_col (qm Y) c p hl
      omega
    exact ⟨fun j hj => fit_prod (x := fun j => qm X i j) (y := fun j => qm Y j l) hwi (Nat.le_refl _) hj, fun k hk => fit_sum (x := fun j => qm X i j) (y := fun j => qm Y j l) hwi (Nat.le_refl _) (by omega) hk⟩
  have HOK : Hid (∀ i j, i < n → j < c → okF (X i j) = true) := Lib.hid fun i j hi hj => (hX i hi).2 j (by rw [(hX i hi).1]; exact hj)
  have HOK2 : Hid (∀ i j, i < c → j < p → okF (Y i j) = true) := Lib.hid fun i j hi hj => (hY i hi).2 j (by rw [(hY i hi).1]; exact hj)
  have HM : Hid ((∀ i, i < n → ma i = c) ∧ ∀ i, i < c → mb i = p) := Lib.hid ⟨fun i hi => (hX i hi).1, fun i hi => (hY i hi).1⟩
  have I0 : Hid (∀ w', Calls Tryz.prog 38 #[.int .i64 0] w' (RetQ w' 0)) := Lib.hid fun w' => intQ w' (by decide) (by decide +kernel)
  rw [hN1] at CW hw
  rw [hN2] at CW2 hw
  have HAB := Lib.hid (And.intro h hv)
  obtain ⟨ao, ca, rfl, -⟩ := h.isSlice
  obtain ⟨bo, cb, rfl, -⟩ := hv.isSlice
  have hnw : ¬ ((3800 : Int) < (N1 : Int) + (N2 : Int)) := by omega
  have dnw : decide ((3800 : Int) < (N1 : Int) + (N2 : Int)) = false := by simp; omega
  clear h hv hb hX hY hy hN1 hN2 hc hp
  go_enter Tryz.func27, Tryz.ntmps27
  go_wp2_with fail
  refine CS.out.mono ?_
  rintro e w1 ⟨rfl, h1⟩
  go_wp2_with fail
  refine (CS2.out w1 h1).mono ?_
  rintro e w2 ⟨rfl, h2⟩
  have h12 := Add.trans h1 h2
  clear h1 h2 CS CS2
  go_wp2_with fail
  refine (CW.out w2 h12).mono ?_
  rintro e w3 ⟨rfl, h3⟩
  have h13 := Add.trans h12 h3
  clear h12 h3 CW
  go_wp2_with fail
  refine (CW2.out w3 h13).mono ?_
  rintro e w4 ⟨rfl, h4⟩
  have HT4 := Lib.hid (Add.trans h13 h4)
  clear h13 h4 CW2
  go_wp2_with fail
  go_loopw [12, 13] (fun rv i wr => ∃ (k : Nat) (hv : Nat → Value), k ≤ n ∧ i = .int .i64 (k : Nat) ∧ GM wr w4.heap.size rv k hv p (fun i l => can (mulM (qm X) (qm Y) c i l)) ∧ Add w4 wr) (fun _ i _ => n - (intOf i).toNat)
  case atStart => exact ⟨0, fun _ => .slice none 0 0, Nat.zero_le _, rfl, GM.nil _ _ _ _ _, Below.refl _ _⟩
  case round =>
    obtain ⟨k, hv, hk, rfl, hE, T⟩ := hrel
    obtain ⟨ra, rc, rfl⟩ := own_isSlice hE.own
    by_cases h0 : k = n
    · rename World => wr
      have hF : MRes w n (fun _ => p) (fun i l => can (mulM (qm X) (qm Y) c i l)) 0 (.returned (.tuple #[.slice ra n rc, .int .i64 0])) wr := ⟨ra, rc, rfl, by rw [← h0]; exact hE.mat, Add.trans HT4.out T⟩
      have HF := Lib.hid hF
      clear hE T hF HAB HM HFS HOK HOK2 I0
      subst h0
      go_wp2_with fail
      go_ret2
      exact HF.out
    · have hlt : k < n := by omega
      rename World => wm
      have HE := Lib.hid (And.intro hE T)
      clear hE T h0
      go_wp2_with fail
      go_loopw [14, 15] (fun u j wq => ∃ q : Nat, q ≤ p ∧ j = .int .i64 (q : Nat) ∧ OwnF wq wm.heap.size u q (fun l => can (mulM (qm X) (qm Y) c k l)) ∧ Add wm wq) (fun _ j _ => p - (intOf j).toNat)
      case atStart => exact ⟨0, Nat.zero_le _, rfl, OwnF.nil _ _ _, Below.refl _ _⟩
      case round =>
        obtain ⟨q, hq, rfl, hO, T⟩ := hrel
        obtain ⟨ua, uc, rfl, -, -⟩ := hO.slice
        by_cases h1 : q = p
        · rename World => wq
          rw [h1] at hO
          have hbk : (wq.alloc (.cells #[.slice ua p uc] 23)).heap[wq.heap.size]? = some (.cells #[.slice ua p uc] 23 (0, 0)) := heap_alloc_new wq _
          have T9 := Add.trans T (add_new wq (.cells #[.slice ua p uc] 23))
          obtain ⟨a', c', w9, hrun, hG, hc9⟩ := HE.out.1.push T9 (hO.add (add_new wq (.cells #[.slice ua p uc] 23))) HE.out.2.size HE.out.2.size hbk (by omega) (c := 1)
          have T10 : Add w4 w9 := hc9.below (Add.trans HE.out.2 T9) (Add.trans HE.out.2 T9).size fun g hg => (own_in HE.out.1.own g hg).1
          have HRUN := Lib.hid hrun
          have HN := Lib.hid (And.intro hG T10)
          clear hO T hbk T9 hrun hG hc9 T10
          subst h1
          go_wp2_with (at_builtin; refine Lib.wpList_append_run _ rfl _ _ _ _ rfl _ _ rfl rfl _ _ HRUN.out ?_)
          go_roundw
          case rel => exact ⟨k + 1, _, by omega, by go_num, HN.out.1, HN.out.2⟩
          case measure => simp [intOf]; omega
        · have hlt2 : q < p := by omega
          rename World => wq
          have HQ := Lib.hid (And.intro hO T)
          clear hO T h1
          go_wp2_with fail
          refine (I0.out _).mono ?_
          rintro e w6 ⟨y6, a6, n6, c6, e6, d6, f6, rfl, x6, h6⟩
          have hB := box_new w6 y6 a6 n6 c6 e6 d6 f6
          have hA := add_new w6 (.cells #[.bool y6, .slice a6 n6 c6, .slice e6 d6 f6] 37)
          have hx6 := x6.mono hA
          have hO6 := (HQ.out.1.add h6).add hA
          have T6 := Add.trans HQ.out.2 (Add.trans h6 hA)
          obtain ⟨gx, hgx⟩ : ∃ g, g = w6.heap.size := ⟨_, rfl⟩
          have hgw : wm.heap.size ≤ gx := by have := (Add.trans HQ.out.2 h6).size; omega
          have hgo : ∀ g, (Value.slice ua q uc).ownBlock = some g → g ≠ gx := fun g hg e => by have := (HQ.out.1.lt g hg).2; have := h6.size; omega
          have hgw0 : w.heap.size ≤ gx := by have := HT4.out.size; have := HE.out.2.size; omega
          rw [← hgx] at hB
          have HGX := Lib.hid (And.intro hgx (And.intro hgw (And.intro hgo hgw0)))
          have e0 : can (0 : Rat) = can (LinM.sumQ (fun j => qm X k j * qm Y j q) 0) := rfl
          rw [e0] at hx6
          clear x6 h6 hA HQ hgx hgw hgo hgw0 e0
          go_wp2_with fail
          rw [← HGX.out.1]
          go_loopw [17] (fun i wr => ∃ (t : Nat) (ys : Bool) (az : Option Addr) (ns cs : Nat) (es : Option Addr) (ds fs : Nat), t ≤ c ∧ i = .int .i64 (t : Nat) ∧ Box wr gx ys az ns cs es ds fs ∧ FracT wr (.agg #[.bool ys, .slice az ns cs, .slice es ds fs]) (can (LinM.sumQ (fun j => qm X k j * qm Y j q) t)) ∧ OwnF wr wm.heap.size (.slice ua q uc) q (fun l => can (mulM (qm X) (qm Y) c k l)) ∧ Add wm wr) (fun i _ => c - (intOf i).toNat)
          case atStart => exact ⟨0, _, _, _, _, _, _, _, Nat.zero_le _, rfl, hB, hx6, hO6, T6⟩
          case round =>
            clear hB hx6 hO6 T6
            obtain ⟨t, ys, az, ns, cs, es, ds, fs, ht, rfl, hB, hx, hO, T⟩ := hrel
            by_cases h1 : t = c
            · rw [h1] at hx
              have p0 := hB.c0
              have p1 := hB.c1
              have p2 := hB.c2
              obtain ⟨a', c', w9, hrun, hO9, T9⟩ := app_box hO hx T (by omega)
              have HRUN := Lib.hid hrun
              have HN := Lib.hid (And.intro (hO9.congr (t' := fun l => can (mulM (qm X) (qm Y) c k l)) fun i hi => by
                by_cases e : i = q
                · rw [if_pos e, e]; rfl
                · rw [if_neg e]) T9)
              clear hB hx hO T hrun hO9 T9
              subst h1
              go_wp2_with (at_builtin; refine Lib.wpList_append_run _ rfl _ _ _ _ rfl _ _ rfl rfl _ _ HRUN.out ?_)
              go_roundw
              case rel => exact ⟨q + 1, by omega, by go_num, HN.out.1, HN.out.2⟩
              case measure => simp [intOf]; omega
            · have htc : t < c := by omega
              rename World => wr
              have Tw := Add.trans HT4.out (Add.trans HE.out.2 T)
              obtain ⟨b, off, a1, la, rfl, -, c0, r0⟩ := HAB.out.1.row hlt
              rw [HM.out.1 k hlt] at c0 r0
              obtain ⟨b1, o1, sx, ax, qx, cx, ex, dx, fx, rfl, -, c1, c2, c3, kx⟩ := r0.get htc
              obtain ⟨b3, off3, a3, lb, rfl, -, k0, r1⟩ := HAB.out.2.row htc
              rw [HM.out.2 t htc] at k0 r1
              obtain ⟨b2, o2, sy, ay, qy, cy, ey, dy, fy, rfl, -, k1, k2, k3, ky⟩ := r1.get hlt2
              obtain ⟨s0, hs0⟩ : ∃ s0, s0 = LinM.sumQ (fun j => qm X k j * qm Y j q) t := ⟨_, rfl⟩
              obtain ⟨q', hq'⟩ : ∃ q', q' = LinM.sumQ (fun j => qm X k j * qm Y j q) (t + 1) := ⟨_, rfl⟩
              obtain ⟨pr, hpr⟩ : ∃ pr, pr = qm X k t * qm Y t q := ⟨_, rfl⟩
              have esum : q' = s0 + pr := by rw [hs0, hq', hpr]; rfl
              obtain ⟨g1, g2⟩ := HFS.out k q hlt hlt2
              have f1 : Fit s0 := by rw [hs0]; exact g2 t ht
              have f2 : Fit pr := by rw [hpr]; exact g1 t htc
              have f3 : Fit q' := by rw [hq']; exact g2 (t + 1) htc
              have o3 := HOK.out k t hlt htc
              have o4 := HOK2.out t q htc hlt2
              rw [← hs0] at hx
              have CMU : Hid (∀ W, Add wr W → Calls Tryz.prog 61 #[.agg #[.bool sx, .slice ax qx cx, .slice ex dx fx], .agg #[.bool sy, .slice ay qy cy, .slice ey dy fy]] W (RetF W (can pr))) := Lib.hid fun W ha => by
                have := refMulL (can (qv (X k t) * qv (Y t q)), 0) (FracA.mono kx (Add.trans Tw ha)) (FracA.mono ky (Add.trans Tw ha)) (Lib.hid (mul_all o3 o4 (g1 t htc)))
                rw [hpr]; exact this
              have CAD : Hid (∀ W v, Add wr W → FracT W v (can pr) → Calls Tryz.prog 60 #[.agg #[.bool ys, .slice az ns cs, .slice es ds fs], v] W (RetF W (can q'))) := Lib.hid fun W v ha hv => by
                have := refAddL (can (s0 + pr), 0) (Sm.arg (hx.mono ha) f1.sm) (Sm.arg hv f2.sm) (Lib.hid (add_can f1 f2 (by rw [← esum]; exact f3)))
                rw [esum]; exact this
              have HS : Hid (∀ W : World, Add wr W → W.cell? ⟨b, off + k, none⟩ = some (.slice (some ⟨b1, o1, none⟩) c la) ∧ W.cell? ⟨b1, o1 + t * 3, none⟩ = some (.bool sx) ∧ W.cell? ⟨b1, o1 + t * 3 + 1, none⟩ = some (.slice ax qx cx) ∧ W.cell? ⟨b1, o1 + t * 3 + 2, none⟩ = some (.slice ex dx fx) ∧ W.cell? ⟨b3, off3 + t, none⟩ = some (.slice (some ⟨b2, o2, none⟩) p lb) ∧ W.cell? ⟨b2, o2 + q * 3, none⟩ = some (.bool sy) ∧ W.cell? ⟨b2, o2 + q * 3 + 1, none⟩ = some (.slice ay qy cy) ∧ W.cell? ⟨b2, o2 + q * 3 + 2, none⟩ = some (.slice ey dy fy)) := Lib.hid fun W g => ⟨cell_addL (cell_addL c0 Tw) g, cell_addL (cell_addL c1 Tw) g, cell_addL (cell_addL c2 Tw) g, cell_addL (cell_addL c3 Tw) g, cell_addL (cell_addL k0 Tw) g, cell_addL (cell_addL k1 Tw) g, cell_addL (cell_addL k2 Tw) g, cell_addL (cell_addL k3 Tw) g⟩
              have l1 : b < gx := by have h9 : b < w.heap.size := World.block_lt_of_cell? w _ c0; have := HGX.out.2.2.2; omega
              have l2 : b1 < gx := by have h9 : b1 < w.heap.size := World.block_lt_of_cell? w _ c1; have := HGX.out.2.2.2; omega
              have l3 : b3 < gx := by have h9 : b3 < w.heap.size := World.block_lt_of_cell? w _ k0; have := HGX.out.2.2.2; omega
              have l4 : b2 < gx := by have h9 : b2 < w.heap.size := World.block_lt_of_cell? w _ k1; have := HGX.out.2.2.2; omega
              have HS2 : Hid (∀ (W : World) (u0 u1 u2 : Value), Add wr W → (((W.setCell ⟨gx, 0, none⟩ u0).setCell ⟨gx, 1, none⟩ u1).setCell ⟨gx, 2, none⟩ u2).cell? ⟨b, off + k, none⟩ = some (.slice (some ⟨b1, o1, none⟩) c la) ∧ (((W.setCell ⟨gx, 0, none⟩ u0).setCell ⟨gx, 1, none⟩ u1).setCell ⟨gx, 2, none⟩ u2).cell? ⟨b1, o1 + t * 3, none⟩ = some (.bool sx) ∧ (((W.setCell ⟨gx, 0, none⟩ u0).setCell ⟨gx, 1, none⟩ u1).setCell ⟨gx, 2, none⟩ u2).cell? ⟨b1, o1 + t * 3 + 1, none⟩ = some (.slice ax qx cx) ∧ (((W.setCell ⟨gx, 0, none⟩ u0).setCell ⟨gx, 1, none⟩ u1).setCell ⟨gx, 2, none⟩ u2).cell? ⟨b1, o1 + t * 3 + 2, none⟩ = some (.slice ex dx fx) ∧ (((W.setCell ⟨gx, 0, none⟩ u0).setCell ⟨gx, 1, none⟩ u1).setCell ⟨gx, 2, none⟩ u2).cell? ⟨b3, off3 + t, none⟩ = some (.slice (some ⟨b2, o2, none⟩) p lb) ∧ (((W.setCell ⟨gx, 0, none⟩ u0).setCell ⟨gx, 1, none⟩ u1).setCell ⟨gx, 2, none⟩ u2).cell? ⟨b2, o2 + q * 3, none⟩ = some (.bool sy) ∧ (((W.setCell ⟨gx, 0, none⟩ u0).setCell ⟨gx, 1, none⟩ u1).setCell ⟨gx, 2, none⟩ u2).cell? ⟨b2, o2 + q * 3 + 1, none⟩ = some (.slice ay qy cy) ∧ (((W.setCell ⟨gx, 0, none⟩ u0).setCell ⟨gx, 1, none⟩ u1).setCell ⟨gx, 2, none⟩ u2).cell? ⟨b2, o2 + q * 3 + 2, none⟩ = some (.slice ey dy fy)) := Lib.hid fun W u0 u1 u2 ha => by
                obtain ⟨q1, q2, q3, q4, q5, q6, q7, q8⟩ := HS.out W ha
                exact ⟨(put3_cell u0 u1 u2 (show b ≠ gx by omega)).trans q1, (put3_cell u0 u1 u2 (show b1 ≠ gx by omega)).trans q2, (put3_cell u0 u1 u2 (show b1 ≠ gx by omega)).trans q3, (put3_cell u0 u1 u2 (show b1 ≠ gx by omega)).trans q4, (put3_cell u0 u1 u2 (show b3 ≠ gx by omega)).trans q5, (put3_cell u0 u1 u2 (show b2 ≠ gx by omega)).trans q6, (put3_cell u0 u1 u2 (show b2 ≠ gx by omega)).trans q7, (put3_cell u0 u1 u2 (show b2 ≠ gx by omega)).trans q8⟩
              have HC : Hid (∀ W : World, Add wr W → W.cell? ⟨gx, 0, none⟩ = some (.bool ys) ∧ W.cell? ⟨gx, 1, none⟩ = some (.slice az ns cs) ∧ W.cell? ⟨gx, 2, none⟩ = some (.slice es ds fs)) := Lib.hid fun W g => ⟨(hB.mono g).c0, (hB.mono g).c1, (hB.mono g).c2⟩
              have HSD := Lib.hid (HS.out _ (Below.drew (Below.refl _ _) : Add wr (World.drew wr)))
              have HCD := Lib.hid (HC.out _ (Below.drew (Below.refl _ _) : Add wr (World.drew wr)))
              have HBX := Lib.hid hB
              have HEE := Lib.hid (And.intro hO (And.intro T hq'))
              clear kx ky o3 o4 hs0 hq' hpr esum f1 f2 f3 g1 g2 hB hx hO T Tw h1 l1 l2 l3 l4 c0 c1 c2 c3 k0 k1 k2 k3 r0 r1
              go_upto_region 19 with fail
              refine wp_region_T (fun w' => w'.cell? ⟨b, off + k, none⟩ = some (.slice (some ⟨b1, o1, none⟩) c la) ∧ w'.cell? ⟨b1, o1 + t * 3, none⟩ = some (.bool sx) ∧ w'.cell? ⟨b1, o1 + t * 3 + 1, none⟩ = some (.slice ax qx cx) ∧ w'.cell? ⟨b1, o1 + t * 3 + 2, none⟩ = some (.slice ex dx fx) ∧ w'.cell? ⟨b3, off3 + t, none⟩ = some (.slice (some ⟨b2, o2, none⟩) p lb) ∧ w'.cell? ⟨b2, o2 + q * 3, none⟩ = some (.bool sy) ∧ w'.cell? ⟨b2, o2 + q * 3 + 1, none⟩ = some (.slice ay qy cy) ∧ w'.cell? ⟨b2, o2 + q * 3 + 2, none⟩ = some (.slice ey dy fy)) (fun w' => w'.cell? ⟨gx, 0, none⟩ = some (.bool ys) ∧ w'.cell? ⟨gx, 1, none⟩ = some (.slice az ns cs) ∧ w'.cell? ⟨gx, 2, none⟩ = some (.slice es ds fs)) 17 (by kernel_rfl) ?_
              show wpAnyT _ _ _ _ _ _ _ 18 #[false, false, false, false, false, false, false, false, false, false, false, false, false, false, false, false, false, false] _ _
              refine wpAnyT_take (i := 0) (v := ?_) (by simp only [List.getElem?_toArray, List.getElem?_cons_zero]; rfl) (by kernel_rfl) (by kernel_rfl) (by kernel_rfl) (by kernel_rfl) (by intro _ _ _ h; exact h) (Or.inl ⟨by rfl, ?_⟩) HSD.out HCD.out ?_
              rotate_left
              · intro w' hSw
                try dsimp only at hSw
                go_simp
                try with_reducible rfl
              try simp only [Act.put, List.setIfInBounds_toArray, List.set_cons_zero, List.set_cons_succ]
              refine wpAnyT_take (i := 1) (v := ?_) (by simp only [List.getElem?_toArray, List.getElem?_cons_zero, List.getElem?_cons_succ]; rfl) (by kernel_rfl) (by kernel_rfl) (by kernel_rfl) (by kernel_rfl) (by intro _ _ _ h; exact h) (Or.inl ⟨by rfl, ?_⟩) HSD.out HCD.out ?_
              rotate_left
              · intro w' hSw
                try dsimp only at hSw
                go_simp
                try with_reducible rfl
              try simp only [Act.put, List.setIfInBounds_toArray, List.set_cons_zero, List.set_cons_succ]
              refine wpAnyT_take (i := 2) (v := ?_) (by simp only [List.getElem?_toArray, List.getElem?_cons_zero, List.getElem?_cons_succ]; rfl) (by kernel_rfl) (by kernel_rfl) (by kernel_rfl) (by kernel_rfl) (by intro _ _ _ h; exact h) (Or.inl ⟨by rfl, ?_⟩) HSD.out HCD.out ?_
              rotate_left
              · intro w' hSw
                try dsimp only at hSw
                go_simp
                try with_reducible rfl
              try simp only [Act.put, List.setIfInBounds_toArray, List.set_cons_zero, List.set_cons_succ]
              refine wpAnyT_take (i := 3) (v := ?_) (by simp only [List.getElem?_toArray, List.getElem?_cons_zero, List.getElem?_cons_succ]; rfl) (by kernel_rfl) (by kernel_rfl) (by kernel_rfl) (by kernel_rfl) (by intro _ _ _ h; exact h) (Or.inl ⟨by rfl, ?_⟩) HSD.out HCD.out ?_
              rotate_left
              · intro w' hSw
                try dsimp only at hSw
                go_simp
                try with_reducible rfl
              try simp only [Act.put, List.setIfInBounds_toArray, List.set_cons_zero, List.set_cons_succ]
              refine wpAnyT_take (i := 4) (v := ?_) (by simp only [List.getElem?_toArray, List.getElem?_cons_zero, List.getElem?_cons_succ]; rfl) (by kernel_rfl) (by kernel_rfl) (by kernel_rfl) (by kernel_rfl) (by intro _ _ _ h; exact h) (Or.inl ⟨by rfl, ?_⟩) HSD.out HCD.out ?_
              rotate_left
              · intro w' hSw
                try dsimp only at hSw
                go_simp
                try with_reducible rfl
              try simp only [Act.put, List.setIfInBounds_toArray, List.set_cons_zero, List.set_cons_succ]
              refine wpAnyT_take (i := 5) (v := ?_) (by simp only [List.getElem?_toArray, List.getElem?_cons_zero, List.getElem?_cons_succ]; rfl) (by kernel_rfl) (by kernel_rfl) (by kernel_rfl) (by kernel_rfl) (by intro _ _ _ h; exact h) (Or.inl ⟨by rfl, ?_⟩) HSD.out HCD.out ?_
              rotate_left
              · intro w' hSw
                try dsimp only at hSw
                go_simp
                try with_reducible rfl
              try simp only [Act.put, List.setIfInBounds_toArray, List.set_cons_zero, List.set_cons_succ]
              refine wpAnyT_take (i := 6) (v := ?_) (by simp only [List.getElem?_toArray, List.getElem?_cons_zero, List.getElem?_cons_succ]; rfl) (by kernel_rfl) (by kernel_rfl) (by kernel_rfl) (by kernel_rfl) (by intro _ _ _ h; exact h) (Or.inl ⟨by rfl, ?_⟩) HSD.out HCD.out ?_
              rotate_left
              · intro w' hSw
                try dsimp only at hSw
                go_simp
                try with_reducible rfl
              try simp only [Act.put, List.setIfInBounds_toArray, List.set_cons_zero, List.set_cons_succ]
              refine wpAnyT_take (i := 7) (v := ?_) (by simp only [List.getElem?_toArray, List.getElem?_cons_zero, List.getElem?_cons_succ]; rfl) (by kernel_rfl) (by kernel_rfl) (by kernel_rfl) (by kernel_rfl) (by intro _ _ _ h; exact h) (Or.inl ⟨by rfl, ?_⟩) HSD.out HCD.out ?_
              rotate_left
              · intro w' hSw
                try dsimp only at hSw
                go_simp
                try with_reducible rfl
              try simp only [Act.put, List.setIfInBounds_toArray, List.set_cons_zero, List.set_cons_succ]
              refine wpAnyT_take (i := 8) (v := ?_) (by simp only [List.getElem?_toArray, List.getElem?_cons_zero, List.getElem?_cons_succ]; rfl) (by kernel_rfl) (by kernel_rfl) (by kernel_rfl) (by kernel_rfl) (by intro _ _ _ h; exact h) (Or.inl ⟨by rfl, ?_⟩) HSD.out HCD.out ?_
              rotate_left
              · intro w' hSw
                try dsimp only at hSw
                go_simp
                try with_reducible rfl
              try simp only [Act.put, List.setIfInBounds_toArray, List.set_cons_zero, List.set_cons_succ]
              refine wpAnyT_take (i := 9) (v := ?_) (by simp only [List.getElem?_toArray, List.getElem?_cons_zero, List.getElem?_cons_succ]; rfl) (by kernel_rfl) (by kernel_rfl) (by kernel_rfl) (by kernel_rfl) (by intro _ _ _ h; exact h) (Or.inl ⟨by rfl, ?_⟩) HSD.out HCD.out ?_
              rotate_left
              · intro w' hSw
                try dsimp only at hSw
                go_simp
                try with_reducible rfl
              try simp only [Act.put, List.setIfInBounds_toArray, List.set_cons_zero, List.set_cons_succ]
              refine wpAnyT_take (i := 10) (v := ?_) (by simp only [List.getElem?_toArray, List.getElem?_cons_zero, List.getElem?_cons_succ]; rfl) (by kernel_rfl) (by kernel_rfl) (by kernel_rfl) (by kernel_rfl) (by intro _ _ _ h; exact h) (Or.inl ⟨by rfl, ?_⟩) HSD.out HCD.out ?_
              rotate_left
              · intro w' hSw
                try dsimp only at hSw
                go_simp
                try with_reducible rfl
              try simp only [Act.put, List.setIfInBounds_toArray, List.set_cons_zero, List.set_cons_succ]
              refine wpAnyT_take (i := 11) (v := ?_) (by simp only [List.getElem?_toArray, List.getElem?_cons_zero, List.getElem?_cons_succ]; rfl) (by kernel_rfl) (by kernel_rfl) (by kernel_rfl) (by kernel_rfl) (by intro _ _ _ h; exact h) (Or.inl ⟨by rfl, ?_⟩) HSD.out HCD.out ?_
              rotate_left
              · intro w' hSw
                try dsimp only at hSw
                go_simp
                try with_reducible rfl
              try simp only [Act.put, List.setIfInBounds_toArray, List.set_cons_zero, List.set_cons_succ]
              refine wpAnyT_take (i := 12) (v := ?_) (by simp only [List.getElem?_toArray, List.getElem?_cons_zero, List.getElem?_cons_succ]; rfl) (by kernel_rfl) (by kernel_rfl) (by kernel_rfl) (by kernel_rfl) (by intro _ _ _ h; exact h) (Or.inl ⟨by rfl, ?_⟩) HSD.out HCD.out ?_
              rotate_left
              · intro w' hSw
                try dsimp only at hSw
                go_simp
                try with_reducible rfl
              try simp only [Act.put, List.setIfInBounds_toArray, List.set_cons_zero, List.set_cons_succ]
              refine wpAnyT_take (i := 13) (v := ?_) (by simp only [List.getElem?_toArray, List.getElem?_cons_zero, List.getElem?_cons_succ]; rfl) (by kernel_rfl) (by kernel_rfl) (by kernel_rfl) (by kernel_rfl) (by intro _ _ _ h; exact h) (Or.inl ⟨by rfl, ?_⟩) HSD.out HCD.out ?_
              rotate_left
              · intro w' hSw
                try dsimp only at hSw
                go_simp
                try with_reducible rfl
              try simp only [Act.put, List.setIfInBounds_toArray, List.set_cons_zero, List.set_cons_succ]
              refine wpAnyT_take (i := 14) (v := ?_) (by simp only [List.getElem?_toArray, List.getElem?_cons_zero, List.getElem?_cons_succ]; rfl) (by kernel_rfl) (by kernel_rfl) (by kernel_rfl) (by kernel_rfl) (by intro _ _ _ h; exact h) (Or.inl ⟨by rfl, ?_⟩) HSD.out HCD.out ?_
              rotate_left
              · intro w' hSw
                try dsimp only at hSw
                go_simp
                try with_reducible rfl
              try simp only [Act.put, List.setIfInBounds_toArray, List.set_cons_zero, List.set_cons_succ]
              refine wpAnyT_one (i := 15) (by kernel_rfl) (wpOp_do (by simp only [List.getElem?_toArray, List.getElem?_cons_zero, List.getElem?_cons_succ]; rfl) fun K hK => ?_)
              go_simp
              refine (CMU.out _ (Below.drew (Below.refl _ _))).mono ?_
              rintro e z1 ⟨v1, rfl, hv1, h1⟩
              obtain ⟨a1, n1, c1, e1, d1, f1, rfl, -, -⟩ := id hv1
              have A1 := Add.trans (Below.drew (Below.refl _ _) : Add wr (World.drew wr)) h1
              refine hK _ _ ⟨⟨HS.out _ A1, fun _ => HC.out _ A1⟩, ?_⟩
              clear hK K
              try simp only [List.setIfInBounds_toArray, List.set_cons_zero, List.set_cons_succ]
              refine wpAnyT_one (i := 16) (by kernel_rfl) (wpOp_do (by simp only [List.getElem?_toArray, List.getElem?_cons_zero, List.getElem?_cons_succ]; rfl) fun K hK => ?_)
              go_simp
              refine (CAD.out _ _ A1 hv1).mono ?_
              rintro e z2 ⟨v2, rfl, hv2, h2⟩
              obtain ⟨a2, n2, c2, e2, d2, f2, rfl, -, -⟩ := id hv2
              have A2 := Add.trans A1 h2
              obtain ⟨bx0, bx1, bx2⟩ := HC.out _ A2
              have bB := HBX.out.mono A2
              have bf0 := bB.fr 0
              have bf1 := bB.fr 1
              have bf2 := bB.fr 2
              have bl := bB.lt
              refine hK _ _ ⟨⟨HS.out _ A2, fun _ => HC.out _ A2⟩, ?_⟩
              clear hK K
              try simp only [List.setIfInBounds_toArray, List.set_cons_zero, List.set_cons_succ]
              refine wpAnyT_one (i := 17) (by kernel_rfl) (wpOp_do (by simp only [List.getElem?_toArray, List.getElem?_cons_zero, List.getElem?_cons_succ]; rfl) fun K hK => ?_)
              go_simp
              refine hK _ _ ⟨⟨HS2.out _ _ _ _ A2, fun h => absurd (show true = false from h) (by decide)⟩, ?_⟩
              clear hK K
              try simp only [List.setIfInBounds_toArray, List.set_cons_zero, List.set_cons_succ]
              refine wpAnyT_done (by kernel_rfl) ?_ _
              have hbz := HBX.out.mono A2
              have bE := hbz.put (can q').1 a2 n2 c2 e2 d2 f2
              have xE := hv2.put hbz (.bool (can q').1) (.slice a2 n2 c2) (.slice e2 d2 f2)
              have oE : OwnF (put3 z2 gx (.bool (can q').1) (.slice a2 n2 c2) (.slice e2 d2 f2)) wm.heap.size (.slice ua q uc) q (fun l => can (mulM (qm X) (qm Y) c k l)) := (HEE.out.1.add A2).chg (chg_put3 hbz _ _ _) fun g hg e => HGX.out.2.2.1 g hg e
              have tE := put3_below (.bool (can q').1) (.slice a2 n2 c2) (.slice e2 d2 f2) (Add.trans HEE.out.2.1 A2) HGX.out.2.1
              have xF : FracT (put3 z2 gx (.bool (can q').1) (.slice a2 n2 c2) (.slice e2 d2 f2)) (.agg #[.bool (can q').1, .slice a2 n2 c2, .slice e2 d2 f2]) (can (LinM.sumQ (fun j => qm X k j * qm Y j q) (t + 1))) := by
                rw [← HEE.out.2.2]; exact xE
              have HN := Lib.hid (And.intro bE (And.intro xF (And.intro oE tE)))
              unfold put3 at HN
              clear hbz bE xE oE tE xF hv1 hv2 h1 h2 A1 A2 CMU CAD HS HS2 HC HSD HCD HBX HEE bx0 bx1 bx2 bB bf0 bf1 bf2 bl
              go_wp2_with fail
              go_roundw
              case rel => exact ⟨t + 1, _, _, _, _, _, _, _, by omega, by go_num, HN.out.1, HN.out.2.1, HN.out.2.2.1, HN.out.2.2.2⟩
              case measure => simp [intOf]; omega
set_option maxRecDepth 100000 in
set_option maxHeartbeats 1000000 in
theorem refMul_size {w : World} {va vb : Value} {n c p : Nat} {ma mb : Nat → Nat} {X Y : Nat → Nat → Tri} (h : MatP false w va n ma X) (hv : MatP false w vb c mb Y) (hb : shapeOk X ma n = true) (hc : ma 0 = c) (hy : shapeOk Y mb c = true) (hp : mb 0 = p)
    (hw : wtM (fun i j => can (qm X i j)) (fun _ => c) n + wtM (fun i j => can (qm Y i j)) (fun _ => p) c > 3800) :
    Calls Tryz.prog 27 #[va, vb] w (RefP w 2) := by
  obtain ⟨hn, hc1, hX⟩ := shapeOk_iff.1 hb
  obtain ⟨-, hp1, hY⟩ := shapeOk_iff.1 hy
  rw [hc] at hX hc1
  rw [hp] at hY hp1
  have CS := Lib.hid (refShapeN (n, c, true) h (Lib.hid (by unfold shN; rw [if_pos hb, hc])))
  have CS2 := Lib.hid (fun w' (ha : Add w w') => refShapeN (c, p, true) (hv.add ha) (Lib.hid (by unfold shN; rw [if_pos hy, hp])))
  have CW := Lib.hid (fun w' (ha : Add w w') => refWeightsN (h.add ha) (fun i j hi hj => (hX i hi).2 j hj) (by omega) (fun i hi => by rw [(hX i hi).1]; omega))
  rw [wtM_shape fun i hi => (hX i hi).1] at CW
  have CW2 := Lib.hid (fun w' (ha : Add w w') => refWeightsN (hv.add ha) (fun i j hi hj => (hY i hi).2 j hj) (by omega) (fun i hi => by rw [(hY i hi).1]; omega))
  rw [wtM_shape fun i hi => (hY i hi).1] at CW2
  have u1 : wtM (fun i j => can (qm X i j)) (fun _ => c) n ≤ 8192000000 := wtM_le (n := n) (fun i j hi hj => (fit_red ((hX i hi).2 j (by rw [(hX i hi).1]; exact hj))).sm) (fun i _ => by omega) (by omega) (Nat.le_refl n)
  have u2 : wtM (fun i j => can (qm Y i j)) (fun _ => p) c ≤ 8192000000 := wtM_le (n := c) (fun i j hi hj => (fit_red ((hY i hi).2 j (by rw [(hY i hi).1]; exact hj))).sm) (fun i _ => by omega) (by omega) (Nat.le_refl c)
  obtain ⟨N1, hN1⟩ : ∃ q, wtM (fun i j => can (qm X i j)) (fun _ => c) n = q := ⟨_, rfl⟩
  obtain ⟨N2, hN2⟩ : ∃ z, wtM (fun i j => can (qm Y i j)) (fun _ => p) c = z := ⟨_, rfl⟩
  rw [hN1] at CW hw u1
  rw [hN2] at CW2 hw u2
  obtain ⟨ao, ca, rfl, -⟩ := h.isSlice
  obtain ⟨bo, cb, rfl, -⟩ := hv.isSlice
  have hnw : ((3800 : Int) < (N1 : Int) + (N2 : Int)) := by omega
  have dnw : decide ((3800 : Int) < (N1 : Int) + (N2 : Int)) = true := by simp; omega
  clear h hv hb hX hY hy hN1 hN2 hc hp
  go_enter Tryz.func27, Tryz.ntmps27
  go_wp2_with fail
  refine CS.out.mono ?_
  rintro e w1 ⟨rfl, h1⟩
  go_wp2_with fail
  refine (CS2.out w1 h1).mono ?_
  rintro e w2 ⟨rfl, h2⟩
  have h12 := Add.trans h1 h2
  clear h1 h2 CS CS2
  go_wp2_with fail
  refine (CW.out w2 h12).mono ?_
  rintro e w3 ⟨rfl, h3⟩
  have h13 := Add.trans h12 h3
  clear h12 h3 CW
  go_wp2_with fail
  refine (CW2.out w3 h13).mono ?_
  rintro e w4 ⟨rfl, h4⟩
  have HT4 := Lib.hid (Add.trans h13 h4)
  clear h13 h4 CW2
  go_wp2_with fail
  go_ret2
  exact refP2 HT4.out
set_option maxRecDepth 100000 in
set_option maxHeartbeats 1000000 in
theorem refMul_arg {w : World} {va vb : Value} {n c : Nat} {ma mb : Nat → Nat} {X Y : Nat → Nat → Tri} (h : MatP false w va n ma X) (hv : MatP false w vb c mb Y) (hb : mulOk X Y ma mb n c = false) :
    Calls Tryz.prog 27 #[va, vb] w (RefP w 1) := by
  obtain ⟨n1, q1, b1, hp1⟩ : ∃ a q b, shN X ma n = (a, q, b) := ⟨_, _, _, rfl⟩
  obtain ⟨n2, q2, b2, hp2⟩ : ∃ a q b, shN Y mb c = (a, q, b) := ⟨_, _, _, rfl⟩
  have CS := Lib.hid (refShapeN (n1, q1, b1) h (Lib.hid hp1))
  have CS2 := Lib.hid (fun w' (ha : Add w w') => refShapeN (n2, q2, b2) (hv.add ha) (Lib.hid hp2))
  have key : b1 = false ∨ b2 = false ∨ q1 ≠ n2 := by
    unfold shN at hp1 hp2
    unfold mulOk at hb
    by_cases e1 : shapeOk X ma n = true
    · rw [if_pos e1] at hp1
      obtain ⟨rfl, rfl, rfl⟩ : n = n1 ∧ ma 0 = q1 ∧ true = b1 := by simpa using hp1
      by_cases e2 : shapeOk Y mb c = true
      · rw [if_pos e2] at hp2
        obtain ⟨rfl, rfl, rfl⟩ : c = n2 ∧ mb 0 = q2 ∧ true = b2 := by simpa using hp2
        rw [e1, e2] at hb
        exact .inr (.inr (by simpa using hb))
      · rw [if_neg e2] at hp2
        obtain ⟨-, -, rfl⟩ : 0 = n2 ∧ 0 = q2 ∧ false = b2 := by simpa using hp2
        exact .inr (.inl rfl)
    · rw [if_neg e1] at hp1
      obtain ⟨-, -, rfl⟩ : 0 = n1 ∧ 0 = q1 ∧ false = b1 := by simpa using hp1
      exact .inl rfl
  obtain ⟨ao, ca, rfl, -⟩ := h.isSlice
  obtain ⟨bo, cb, rfl, -⟩ := hv.isSlice
  clear h hv hb hp1 hp2
  cases b1 with
  | false =>
    clear key
    go_enter Tryz.func27, Tryz.ntmps27
    go_wp2_with fail
    refine CS.out.mono ?_
    rintro e w1 ⟨rfl, h1⟩
    go_wp2_with fail
    refine (CS2.out w1 h1).mono ?_
    rintro e w2 ⟨rfl, h2⟩
    have h12 := Add.trans h1 h2
    clear h1 h2 CS CS2
    go_wp2_with fail
    go_ret2
    exact refP1 h12
  | true =>
    cases b2 with
    | false =>
      clear key
      go_enter Tryz.func27, Tryz.ntmps27
      go_wp2_with fail
      refine CS.out.mono ?_
      rintro e w1 ⟨rfl, h1⟩
      go_wp2_with fail
      refine (CS2.out w1 h1).mono ?_
      rintro e w2 ⟨rfl, h2⟩
      have h12 := Add.trans h1 h2
      clear h1 h2 CS CS2
      go_wp2_with fail
      go_ret2
      exact refP1 h12
    | true =>
      have hne : q1 ≠ n2 := by simpa using key
      have d : ((q1 : Int) != (n2 : Int)) = true := by simp; omega
      clear key hne
      go_enter Tryz.func27, Tryz.ntmps27
      go_wp2_with fail
      refine CS.out.mono ?_
      rintro e w1 ⟨rfl, h1⟩
      go_wp2_with fail
      refine (CS2.out w1 h1).mono ?_
      rintro e w2 ⟨rfl, h2⟩
      have h12 := Add.trans h1 h2
      clear h1 h2 CS CS2
      go_wp2_with fail
      go_ret2
      exact refP1 h12
/-- The program and the reference give the same. -/
theorem mul_both {w : World} {va vb : Value} {n c : Nat} {ma mb : Nat → Nat} {X Y : Nat → Nat → Tri} (h : MatP false w va n ma X) (hv : MatP false w vb c mb Y) (hT : Tab w) :
    ∃ (N p : Nat) (t : Nat → Nat → Tri) (k : Nat), p ≤ 24 ∧ ∀ w', Add w w' → Calls Tryz.prog 26 #[va, vb] w' (MRes w' N (fun _ => p) t k) ∧ Calls Tryz.prog 27 #[va, vb] w' (MRes w' N (fun _ => p) t k) := by
  by_cases hs : mulOk X Y ma mb n c = true
  · have hs' := hs
    unfold mulOk at hs'
    rw [Bool.and_eq_true, Bool.and_eq_true, decide_eq_true_eq] at hs'
    obtain ⟨⟨h1, h2⟩, h3⟩ := hs'
    obtain ⟨hn, hc1, -⟩ := shapeOk_iff.1 h1
    obtain ⟨-, hp1, -⟩ := shapeOk_iff.1 h2
    by_cases hw : wtM (fun i j => can (qm X i j)) (fun _ => c) n + wtM (fun i j => can (qm Y i j)) (fun _ => mb 0) c ≤ 3800
    · refine ⟨n, mb 0, fun i l => can (mulM (qm X) (qm Y) c i l), 0, hp1.2, fun w' ha => ⟨(mulN_ok (h.add ha) (hv.add ha) (hT.mono ha) h1 h3 h2 rfl hw).mono ?_, refMul_ok (h.add ha) (hv.add ha) h1 h3 h2 rfl hw⟩⟩
      rintro e w2 ⟨G, gs, rfl, hE, h2⟩
      exact ⟨_, _, rfl, hE.mat (by unfold maxLen; omega) (fun i hi => by unfold maxLen; omega), h2⟩
    · exact ⟨0, 0, fun _ _ => can 0, 2, by omega, fun w' ha => ⟨(mulN_size (h.add ha) (hv.add ha) (hT.mono ha) h1 h3 h2 rfl (by omega)).mono fun _ _ g => g.mat _ _, (refMul_size (h.add ha) (hv.add ha) h1 h3 h2 rfl (by omega)).mono fun _ _ g => g.mat _ _⟩⟩
  · exact ⟨0, 0, fun _ _ => can 0, 1, by omega, fun w' ha => ⟨(mulN_arg (h.add ha) (hv.add ha) (by simpa using hs)).mono fun _ _ g => g.mat _ _, (refMul_arg (h.add ha) (hv.add ha) (by simpa using hs)).mono fun _ _ g => g.mat _ _⟩⟩
end Go.Proofs.YtbeoeackahmpbaaGreatDoor

namespace Go.Proofs.YtbeoeackahmpbaaGreatDoor
open Go.RowKit NatM Go.Proofs.YtbeoeackahmpbaaGreatDoor.Api LinM

set_option maxRecDepth 100000 in
set_option maxHeartbeats 4000000 in
theorem refIdentity_ok {w : World} {n : Nat} (h1 : 1 ≤ n) (hn : n ≤ 24) :
    Calls Tryz.prog 31 #[.int .i64 (n : Nat)] w (MRes w n (fun _ => n) idX 0) := by
  have I0 : Hid (∀ w', Calls Tryz.prog 38 #[.int .i64 0] w' (RetQ w' 0)) := Lib.hid fun w' => intQ w' (by decide) (by decide +kernel)
  have I1 : Hid (∀ w', Calls Tryz.prog 38 #[.int .i64 1] w' (RetQ w' 1)) := Lib.hid fun w' => intQ w' (by decide) (by decide +kernel)
  have f1 : ¬ ((n : Int) < 1) := by omega
  have d1 : decide ((n : Int) < 1) = false := by simp; omega
  have f2 : ¬ ((24 : Int) < (n : Int)) := by omega
  have d2 : decide ((24 : Int) < (n : Int)) = false := by simp; omega
  go_enter Tryz.func31, Tryz.ntmps31
  go_wp2_with fail
  go_loopw [4, 5] (fun rv i wr => ∃ (k : Nat) (hv : Nat → Value), k ≤ n ∧ i = .int .i64 (k : Nat) ∧ GM wr w.heap.size rv k hv n idX ∧ Add w wr) (fun _ i _ => n - (intOf i).toNat)
  case atStart => exact ⟨0, fun _ => .slice none 0 0, Nat.zero_le _, rfl, GM.nil _ _ _ _ _, Below.refl _ _⟩
  case round =>
    clear f1 d1 f2 d2
    obtain ⟨k, hv, hk, rfl, hE, T⟩ := hrel
    obtain ⟨ra, rc, rfl⟩ := own_isSlice hE.own
    by_cases h0 : k = n
    · rename World => wr
      have hF : MRes w n (fun _ => n) idX 0 (.returned (.tuple #[.slice ra n rc, .int .i64 0])) wr := ⟨ra, rc, rfl, by rw [← h0]; have := hE.mat; rw [h0] at this ⊢; exact this, T⟩
      have HF := Lib.hid hF
      clear hE T hF I0 I1
      subst h0
      go_wp2_with fail
      go_ret2
      exact HF.out
    · have hlt : k < n := by omega
      rename World => wm
      have HE := Lib.hid (And.intro hE T)
      clear hE T h0
      go_wp2_with fail
      go_loopw [6, 7] (fun u j wq => ∃ q : Nat, q ≤ n ∧ j = .int .i64 (q : Nat) ∧ OwnF wq wm.heap.size u q (idX k) ∧ Add wm wq) (fun _ j _ => n - (intOf j).toNat)
      case atStart => exact ⟨0, Nat.zero_le _, rfl, OwnF.nil _ _ _, Below.refl _ _⟩
      case round =>
        obtain ⟨q, hq, rfl, hO, T⟩ := hrel
        obtain ⟨ua, uc, rfl, -, -⟩ := hO.slice
        by_cases h1 : q = n
        · rename World => wq
          rw [h1] at hO
          have hbk : (wq.alloc (.cells #[.slice ua n uc] 23)).heap[wq.heap.size]? = some (.cells #[.slice ua n uc] 23 (0, 0)) := heap_alloc_new wq _
          have T9 := Add.trans T (add_new wq (.cells #[.slice ua n uc] 23))
          obtain ⟨a', c', w9, hrun, hG, hc9⟩ := HE.out.1.push T9 (hO.add (add_new wq (.cells #[.slice ua n uc] 23))) HE.out.2.size HE.out.2.size hbk (by omega) (c := 1)
          have T10 : Add w w9 := hc9.below (Add.trans HE.out.2 T9) (Add.trans HE.out.2 T9).size fun g hg => (own_in HE.out.1.own g hg).1
          have HRUN := Lib.hid hrun
          have HN := Lib.hid (And.intro hG T10)
          clear hO T hbk T9 hrun hG hc9 T10
          subst h1
          go_wp2_with (at_builtin; refine Lib.wpList_append_run _ rfl _ _ _ _ rfl _ _ rfl rfl _ _ HRUN.out ?_)
          go_roundw
          case rel => exact ⟨k + 1, _, by omega, by go_num, HN.out.1, HN.out.2⟩
          case measure => simp [intOf]; omega
        · have hlt2 : q < n := by omega
          rename World => wq
          have HQ := Lib.hid (And.intro hO T)
          clear hO T h1
          by_cases hkq : k = q
          · have dkq : ((k : Int) == (q : Int)) = true := by simp [hkq]
            have CI := Lib.hid (I1.out wq)
            have HX : Hid (can (1 : Rat) = idX k q) := Lib.hid (by unfold idX; rw [if_pos hkq])
            have fkq : (k : Int) = (q : Int) := by omega
            go_wp2_with fail
            refine CI.out.mono ?_
            rintro e w6 ⟨y6, a6, n6, c6, e6, d6, f6, rfl, x6, h6⟩
            have T6 := Add.trans HQ.out.2 h6
            obtain ⟨a', c', w9, hrun, hO9, T9⟩ := app_box (HQ.out.1.add h6) x6 T6 (by omega)
            have HRUN := Lib.hid hrun
            have HN := Lib.hid (And.intro (hO9.congr (t' := idX k) fun i hi => by
              by_cases e : i = q
              · rw [if_pos e, e]; exact HX.out
              · rw [if_neg e]) T9)
            clear x6 h6 T6 hrun hO9 T9 HQ CI HX dkq fkq hkq
            go_wp2_with (at_builtin; refine Lib.wpList_append_run _ rfl _ _ _ _ rfl _ _ rfl rfl _ _ HRUN.out ?_)
            go_roundw
            case rel => exact ⟨q + 1, by omega, by go_num, HN.out.1, HN.out.2⟩
            case measure => simp [intOf]; omega
          · have dkq : ((k : Int) == (q : Int)) = false := by simp; omega
            have CI := Lib.hid (I0.out wq)
            have HX : Hid (can (0 : Rat) = idX k q) := Lib.hid (by unfold idX; rw [if_neg hkq])
            have fkq : ¬ ((k : Int) = (q : Int)) := by omega
            go_wp2_with fail
            refine CI.out.mono ?_
            rintro e w6 ⟨y6, a6, n6, c6, e6, d6, f6, rfl, x6, h6⟩
            have T6 := Add.trans HQ.out.2 h6
            obtain ⟨a', c', w9, hrun, hO9, T9⟩ := app_box (HQ.out.1.add h6) x6 T6 (by omega)
            have HRUN := Lib.hid hrun
            have HN := Lib.hid (And.intro (hO9.congr (t' := idX k) fun i hi => by
              by_cases e : i = q
              · rw [if_pos e, e]; exact HX.out
              · rw [if_neg e]) T9)
            clear x6 h6 T6 hrun hO9 T9 HQ CI HX dkq fkq hkq
            go_wp2_with (at_builtin; refine Lib.wpList_append_run _ rfl _ _ _ _ rfl _ _ rfl rfl _ _ HRUN.out ?_)
            go_roundw
            case rel => exact ⟨q + 1, by omega, by go_num, HN.out.1, HN.out.2⟩
            case measure => simp [intOf]; omega
set_option maxRecDepth 100000 in
theorem refIdentity_arg {w : World} {z : Int} (h : z < 1 ∨ 24 < z) : Calls Tryz.prog 31 #[.int .i64 z] w (RefP w 1) := by
  by_cases h1 : z < 1
  · have d1 : decide (z < 1) = true := by simp; omega
    clear h
    go_enter Tryz.func31, Tryz.ntmps31
    go_wp2_with fail
    go_ret2
    exact refP1 (Below.refl _ _)
  · have h2 : 24 < z := by omega
    have d1 : decide (z < 1) = false := by simp; omega
    have d2 : decide (24 < z) = true := by simp; omega
    clear h
    go_enter Tryz.func31, Tryz.ntmps31
    go_wp2_with fail
    go_ret2
    exact refP1 (Below.refl _ _)
/-- The program and the reference give the same. -/
theorem identity_both {w : World} {z : Int} (hT : Tab w) :
    ∃ (N p : Nat) (t : Nat → Nat → Tri) (k : Nat), p ≤ 24 ∧ ∀ w', Add w w' → Calls Tryz.prog 30 #[.int .i64 z] w' (MRes w' N (fun _ => p) t k) ∧ Calls Tryz.prog 31 #[.int .i64 z] w' (MRes w' N (fun _ => p) t k) := by
  by_cases h : 1 ≤ z ∧ z ≤ 24
  · obtain ⟨n, rfl⟩ : ∃ n : Nat, z = (n : Int) := ⟨z.toNat, by omega⟩
    refine ⟨n, n, idX, 0, by omega, fun w' ha => ⟨(identityN (hT.mono ha) (by omega) (by omega)).mono ?_, refIdentity_ok (by omega) (by omega)⟩⟩
    rintro e w2 ⟨G, g, rfl, hE, h2⟩
    exact ⟨_, _, rfl, hE.mat (by unfold maxLen; omega) (fun i hi => by unfold maxLen; omega), h2⟩
  · exact ⟨0, 0, fun _ _ => can 0, 1, by omega, fun w' ha => ⟨(identityN_arg (by omega)).mono fun _ _ g => g.mat _ _, (refIdentity_arg (by omega)).mono fun _ _ g => g.mat _ _⟩⟩
end Go.Proofs.YtbeoeackahmpbaaGreatDoor
