import Derived.Test.YtbeoeackahmpbaaGreatDoorVC
namespace Go.Proofs.YtbeoeackahmpbaaGreatDoor
open Go.RowKit NatM Go.Proofs.YtbeoeackahmpbaaGreatDoor.Api
def facT (x : Nat → Tri) : Nat → Tri
 | 0 => (makeF 1 1).1
 | k + 1 => (mulF (facT x k) (false, (mulF (facT x k) (x k)).1.2.2, (facT x k).2.2)).1
def wholeT (x : Nat → Tri) (m : Nat) : Nat → Tri := fun k => (mulF (facT x m) (x k)).1
theorem sm_make (n d : Int) : Sm (makeF n d).1 := by
 unfold makeF; split
 · exact sm_zero
 · exact sm_fit _
theorem sm_fac (x : Nat → Tri) (k : Nat) : Sm (facT x k) := by
 cases k with
 | zero => exact sm_make 1 1
 | succ k => exact sm_mul _ _
theorem fieldDenL (s : Bool) (a : Option Addr) (n c : Nat) (e : Option Addr) (d l : Nat) (w : World) : Sem.run Tryz.prog (Instr.field 37 (Value.agg #[Value.bool s, Value.slice a n c, Value.slice e d l]) 2) w = .ok (.slice e d l) w := by kernel_rfl
def mltF (a x : Tri) : Tri := (mulF a (false, (mulF a x).1.2.2, a.2.2)).1
set_option maxRecDepth 100000 in
set_option maxHeartbeats 1000000 in
theorem multipleN {v v' : Value} {a x : Tri} {w : World} (ha : FracT w v a) (hx : FracT w v' x) (ka : Sm a) (kx : Sm x) (hT : Tab w) : Calls Tryz.prog 101 #[v, v'] w (RetF w (mltF a x)) := by
 have ha' := ha
 have hx' := hx
 obtain ⟨an, n, cn, ad, d, cd, rfl, -, -⟩ := ha'
 obtain ⟨an', n', cn', ad', d', cd', rfl, -, -⟩ := hx'
 obtain ⟨T, hX, hY, hZ⟩ := start3 w a.1 an n cn ad d cd x.1 an' n' cn' ad' d' cd' false none 0 0 none 0 0
 obtain ⟨s3, N3, D3, hr⟩ : ∃ s N D, (mulF a x).1 = (s, N, D) := ⟨_, _, _, rfl⟩
 have S3 : Sm (s3, N3, D3) := by rw [← hr]; exact sm_mul _ _
 have C1 := productN _ ((Sm.arg ha ka).mono T) ((Sm.arg hx kx).mono T) (hT.mono T) (Lib.hid rfl)
 rw [hr] at C1
 have HC := Lib.hid C1
 obtain ⟨s4, N4, D4, hr4⟩ : ∃ s N D, (mulF a (false, D3, a.2.2)).1 = (s, N, D) := ⟨_, _, _, rfl⟩
 have HF4 : Hid ((s4, N4, D4) = mltF a x) := Lib.hid (by unfold mltF; rw [hr, hr4])
 have HR4 := Lib.hid hr4
 have HM := Lib.hid (And.intro (ha.mono T) (And.intro hX (And.intro hZ (And.intro T (hT.mono T)))))
 have HS := Lib.hid (And.intro ka S3)
 have x0 := hX.c0
 have x1 := hX.c1
 have x2 := hX.c2
 have y0 := hY.c0
 have y1 := hY.c1
 have y2 := hY.c2
 clear ha hx ka kx hX hY hZ T hT C1 hr S3 hr4
 go_enter Tryz.func101, Tryz.ntmps101
 go_wp2_with fail
 refine HC.out.mono ?_
 rintro ee w4 ⟨v4, rfl, hv4, h4⟩
 have hv5 := hv4
 obtain ⟨a4, n4, k4, e4, d4, l4, rfl, u1, u2⟩ := hv5
 obtain ⟨hv, hX, hZ, T, hT⟩ := HM.out
 replace hv := hv.mono h4
 replace hX := hX.mono h4
 replace hZ := hZ.mono h4
 replace T := Add.trans T h4
 replace hT := hT.mono h4
 obtain ⟨-, w1', w2'⟩ := hv.parts
 have hbuild : FracA w4 (.agg #[.bool false, .slice e4 d4 l4, .slice ad d cd]) (false, D3, a.2.2) := Sm.arg (t := (false, D3, a.2.2)) ⟨_, _, _, _, _, _, rfl, u2, w2'⟩ ⟨HS.out.2.2, HS.out.1.2⟩
 have C2 := productN _ (Sm.arg hv HS.out.1) hbuild hT (Lib.hid rfl)
 rw [HR4.out] at C2
 have HC2 := Lib.hid C2
 have HM2 := Lib.hid (And.intro hZ T)
 replace x0 := hX.c0
 replace x1 := hX.c1
 replace x2 := hX.c2
 clear hv hX hZ T hT h4 hv4 HM HC y0 y1 y2 u1 u2 w1' w2' hbuild C2 HS HR4
 go_wp2_with fail
 rw [fieldDenL]
 go_wp2_with fail
 refine HC2.out.mono ?_
 rintro ee w5 ⟨v5, rfl, hv5, h5⟩
 have hv6 := hv5
 obtain ⟨a5, n5, k5, e5, d5, l5, rfl, -, -⟩ := hv6
 obtain ⟨hZ, T⟩ := HM2.out
 replace hZ := hZ.mono h5
 replace T := Add.trans T h5
 have hF := retF_put (w := w) (x := (s4, N4, D4)) hZ hv5 T (by omega)
 have z0 := hZ.c0
 have z1 := hZ.c1
 have z2 := hZ.c2
 have z3 := hZ.fr 0
 have z4 := hZ.fr 1
 have z5 := hZ.fr 2
 clear hv5 hZ T h5 HM2 HC2 x0 x1 x2
 unfold put3 at hF
 have HF := Lib.hid hF
 clear hF
 go_wp2_with fail
 exact bodyPost_ret (v := .agg #[.bool s4, .slice a5 n5 k5, .slice e5 d5 l5]) (by simp [results, Tryz.results101, go_sem, z0, z1, z2]) rfl (by rw [← HF4.out]; exact HF.out)
def WhP (w : World) (x : Nat → Tri) (m : Nat) (e : Ending) (w' : World) : Prop := ∃ g v, e = .returned (.tuple #[.slice (some ⟨g, 0, none⟩) m m, v]) ∧ FBlk w' g m (wholeT x m) ∧ FracT w' v (facT x m) ∧ w.heap.size ≤ g ∧ Add w w'
theorem WhP.drew {w w' : World} {x : Nat → Tri} {m : Nat} {e : Ending} (h : WhP w x m e w') : WhP w x m e (World.drew w') := by
 obtain ⟨g, v, rfl, h1, h2, h3, h4⟩ := h
 have hd : Add w' (World.drew w') := b_drewL (Below.refl _ _)
 exact ⟨g, v, rfl, h1.add hd, h2.mono hd, h3, Add.trans h4 hd⟩
set_option maxRecDepth 100000 in
set_option maxHeartbeats 4000000 in
theorem wholeN {w : World} {v : Value} {m : Nat} {x : Nat → Tri} (hx : RowP true w v m x) (hs : ∀ i, i < m → Sm (x i)) (hT : Tab w) (hm : m ≤ 1000) :
 Calls Tryz.prog 80 #[v] w (WhP w x m) := by
 obtain ⟨i0, hi, hz0, hz1, hz2⟩ := info_parts infoFracL
 obtain ⟨ao, c, rfl, -⟩ := id hx
 have HX := Lib.hid hx
 have HS := Lib.hid hs
 obtain ⟨T, hR⟩ := laid_var w false none 0 0 none 0 0
 have HC := Lib.hid (integerN _ (hT.mono T) (Lib.hid (by decide)) (Lib.hid (rfl : makeF 1 1 = _)))
 clear hx hs
 go_enter Tryz.func80, Tryz.ntmps80
 go_wp2_with fail
 refine HC.out.mono ?_
 rintro e w1 ⟨v1, rfl, hv1, h1⟩
 have hv1' := hv1
 obtain ⟨a1, n1, c1, e1, d1, f1, rfl, -, -⟩ := hv1'
 obtain ⟨s1, hs1⟩ : ∃ s, s = (makeF 1 1).1.1 := ⟨_, rfl⟩
 rw [← hs1] at hv1 ⊢
 obtain ⟨T1, hF⟩ := laid_var w1 s1 a1 n1 c1 e1 d1 f1
 replace T := Add.trans (Add.trans T h1) T1
 replace hR := (hR.mono h1).mono T1
 replace hv1 := hv1.mono T1
 obtain ⟨gR, hgR⟩ : ∃ g, g = w.heap.size := ⟨_, rfl⟩
 obtain ⟨gF, hgF⟩ : ∃ g, g = w1.heap.size := ⟨_, rfl⟩
 have hRF : gR < gF := by
  have := hR.lt
  have h2 := h1.size
  simp at h2
  omega
 have hleF : w.heap.size ≤ gF := by omega
 rw [← hgR] at hR ⊢
 rw [← hgF] at hF
 have HGF := Lib.hid hgF
 have HG := Lib.hid (And.intro hgR (And.intro hRF hleF))
 clear h1 T1 HC hs1 hgR hgF hRF hleF
 go_wp2_with fail
 rw [← HGF.out]
 go_loopw [13] (fun i wr => ∃ (k : Nat) (s : Bool) (a : Option Addr) (n c : Nat) (e : Option Addr) (d f : Nat), k ≤ m ∧ i = .int .i64 (k : Nat) ∧ Box wr gF s a n c e d f ∧ FracT wr (.agg #[.bool s, .slice a n c, .slice e d f]) (facT x k) ∧ Box wr gR false none 0 0 none 0 0 ∧ Add w wr) (fun i _ => m - (intOf i).toNat)
 case atStart => exact ⟨0, _, _, _, _, _, _, _, Nat.zero_le _, rfl, hF, hv1, hR, T⟩
 case round =>
  clear hF hv1 hR T
  obtain ⟨k, s, a, n, c, e, d, f, hk, rfl, hF, hv, hR, T⟩ := hrel
  obtain ⟨hgR, hRF, hleF⟩ := HG.out
  by_cases h0 : k = m
  · obtain ⟨F, hFe⟩ : ∃ F, F = facT x m := ⟨_, rfl⟩
    rw [h0, ← hFe] at hv
    have HFE := Lib.hid hFe
    have SF : Sm F := by rw [hFe]; exact sm_fac x m
    have HSF := Lib.hid SF
    clear hFe SF
    subst h0
    rename World => wm
    have HM := Lib.hid (And.intro hF (And.intro hv (And.intro hR T)))
    clear hF hv hR T hgR hRF hleF
    go_wp2_with (at_make; refine wpList_make_full _ rfl _ _ 23 rfl wm.heap.size 37 i0 (.agg #[.bool false, .slice none 0 0, .slice none 0 0]) 3 Tryz.underlying23 hi hz0 hz1 _ _ _ _ k rfl rfl (by omega) (by omega) (by rw [hz2]; omega) (by unfold maxLen; omega) (Nat.le_refl _) ?_)
    intro w2 hown hgr
    have A2 : Add wm w2 := (Below.refl _ _).grown hgr (Nat.le_refl _) (by simp)
    have hO := FBlk.made hown
    obtain ⟨gO, hgO⟩ : ∃ g, g = wm.heap.size := ⟨_, rfl⟩
    rw [← hgO] at hO ⊢
    obtain ⟨hgR, hRF, hleF⟩ := HG.out
    have hFO : gF < gO := by rw [hgO]; exact HM.out.1.lt
    have HGO := Lib.hid (And.intro hFO (show w.heap.size ≤ gO by omega))
    have hM2 := And.intro (HM.out.1.mono A2) (And.intro (HM.out.2.1.mono A2) (And.intro (HM.out.2.2.1.mono A2) (Add.trans HM.out.2.2.2 A2)))
    have hO2 := hO.congr (t' := fun i => if i < 0 then wholeT x k i else (false, 0, 0)) fun i _ => by rw [if_neg (by omega)]
    clear hown hgr A2 hO HM hgO hFO hgR hRF hleF
    go_wp2_with fail
    go_loopw [26] (fun i wr => ∃ (j : Nat), j ≤ k ∧ i = .int .i64 (j : Nat) ∧ Box wr gF s a n c e d f ∧ FracT wr (.agg #[.bool s, .slice a n c, .slice e d f]) F ∧ Box wr gR false none 0 0 none 0 0 ∧ Add w wr ∧ FBlk wr gO k (fun i => if i < j then wholeT x k i else (false, 0, 0))) (fun i _ => k - (intOf i).toNat)
    case atStart => exact ⟨0, Nat.zero_le _, rfl, hM2.1, hM2.2.1, hM2.2.2.1, hM2.2.2.2, hO2⟩
    case round =>
     clear hM2 hO2
     obtain ⟨j, hj, rfl, hF, hv, hR, T, hO⟩ := hrel
     obtain ⟨hgR, hRF, hleF⟩ := HG.out
     obtain ⟨hFO, hleO⟩ := HGO.out
     by_cases h1 : j = k
     · have hne : gF ≠ gR := by omega
       have f0 := hF.c0
       have f1 := hF.c1
       have f2 := hF.c2
       have r0 := hR.c0
       have r1 := hR.c1
       have r2 := hR.c2
       have r3 := hR.fr 0
       have r4 := hR.fr 1
       have r5 := hR.fr 2
       have hP := hR.put s a n c e d f
       have hvP := hv.put hR (.bool s) (.slice a n c) (.slice e d f)
       have hTP := put3_below (.bool s) (.slice a n c) (.slice e d f) T (show w.heap.size ≤ gR by omega)
       have hOP := hO.chg (S := fun b => b = gR) (w' := put3 wr gR (.bool s) (.slice a n c) (.slice e d f)) (by
        have q := chg_putF (S := fun b => b = gR) (w := wr) (g := gR) (i := 0) rfl (fun j kk z => hR.not_int j kk z) s a n c e d f
        exact q) (by omega)
       have hF2 : WhP w x k (.returned (.tuple #[.slice (some ⟨gO, 0, none⟩) k k, .agg #[.bool s, .slice a n c, .slice e d f]])) (put3 wr gR (.bool s) (.slice a n c) (.slice e d f)) :=
        ⟨gO, _, rfl, hOP.congr fun i hi => by rw [if_pos (by omega)], by rw [← HFE.out]; exact hvP, hleO, hTP⟩
       obtain ⟨W7, hW7⟩ : ∃ W7, W7 = put3 wr gR (.bool s) (.slice a n c) (.slice e d f) := ⟨_, rfl⟩
       rw [← hW7] at hP hF2
       unfold put3 at hW7
       have p0 : (World.drew W7).cell? ⟨gR, 0, none⟩ = _ := hP.c0
       have p1 : (World.drew W7).cell? ⟨gR, 1, none⟩ = _ := hP.c1
       have p2 : (World.drew W7).cell? ⟨gR, 2, none⟩ = _ := hP.c2
       have HF := Lib.hid hF2.drew
       have HW := Lib.hid hW7
       clear hF hv hR T hO hgR hRF hleF hFO hleO hP hvP hTP hOP hF2 hW7
       subst h1
       go_wp2_with fail
       go_region
       all_goals
        go_wp2_with fail
        rw [← HW.out]
        exact bodyPost_ret (v := .tuple #[.slice (some ⟨gO, 0, none⟩) j j, .agg #[.bool s, .slice a n c, .slice e d f]]) (by simp [results, Tryz.results80, go_sem, p0, p1, p2]) rfl HF.out
     · have hlt2 : j < k := by omega
       obtain ⟨b2, off2, sx, ax, q, cx, ex, dx, fx, rfl, -, c0, c1, c2, hxx⟩ := (HX.out.add T).get hlt2
       obtain ⟨T3, hB⟩ := laid_var wr sx ax q cx ex dx fx
       have hxA := (Sm.arg hxx (HS.out j hlt2)).mono T3
       have hvA := (Sm.arg hv HSF.out).mono T3
       obtain ⟨s3, N3, D3, hr⟩ : ∃ s N D, (mulF F (x j)).1 = (s, N, D) := ⟨_, _, _, rfl⟩
       have C1 := productN _ hvA hxA ((hT.mono T).mono T3) (Lib.hid rfl)
       rw [hr] at C1
       have HC := Lib.hid C1
       replace hF := hF.mono T3
       replace hR := hR.mono T3
       replace hv := hv.mono T3
       replace hO := hO.add T3
       replace T := Add.trans T T3
       have HM := Lib.hid (And.intro hF (And.intro hv (And.intro hR (And.intro T hO))))
       have HR3 := Lib.hid hr
       have o0 := hB.c0
       have o1 := hB.c1
       have o2 := hB.c2
       have f0 := hF.c0
       have f1 := hF.c1
       have f2 := hF.c2
       clear hF hv hR T hO hxx T3 hxA hvA C1 hr h1 hgR hRF hleF hFO hleO hB
       go_wp2_with fail
       refine HC.out.mono ?_
       rintro ee w4 ⟨v4, rfl, hv4, h4⟩
       have hv5 := hv4
       obtain ⟨a4, n4, k4, e4, d4, l4, rfl, -, -⟩ := hv5
       obtain ⟨hF, hv, hR, T, hO⟩ := HM.out
       replace hF := hF.mono h4
       replace hR := hR.mono h4
       replace hv := hv.mono h4
       replace hO := hO.add h4
       replace T := Add.trans T h4
       obtain ⟨hFO, hleO⟩ := HGO.out
       obtain ⟨hgR, hRF, hleF⟩ := HG.out
       obtain ⟨_, _, _, _, _, _, _, k0, k1, k2, -⟩ := hO.get hlt2
       have k3 := hO.free (j * 3)
       have k4' := hO.free (j * 3 + 1)
       have k5 := hO.free (j * 3 + 2)
       have k6 := hO.lt
       have hc := hO.chgF (S := fun b => b = gO) rfl j s3 a4 n4 k4 e4 d4 l4
       have hN := Lib.hid (And.intro (hF.chg hc (by omega)) (And.intro (hv.chg hc) (And.intro (hR.chg hc (by omega)) (And.intro (putF_below (i := j) (.bool s3) (.slice a4 n4 k4) (.slice e4 d4 l4) T hleO) ((hO.put hlt2 hv4).congr (t' := fun i => if i < j + 1 then wholeT x k i else (false, 0, 0)) fun i _ => by
        by_cases e : i = j
        · rw [if_pos e, if_pos (by omega), e]; unfold wholeT; rw [← HFE.out, HR3.out]
        · rw [if_neg e]
          by_cases e2 : i < j
          · rw [if_pos e2, if_pos (by omega)]
          · rw [if_neg e2, if_neg (by omega)])))))
       unfold putF at hN
       clear hF hv hR T hO hc h4 hv4 HM HC c0 c1 c2 o0 o1 o2 f0 f1 f2 hFO hleO hgR hRF hleF
       go_wp2_with fail
       go_roundw
       case rel => exact ⟨j + 1, by omega, by go_num, hN.out.1, hN.out.2.1, hN.out.2.2.1, hN.out.2.2.2.1, hN.out.2.2.2.2⟩
       case measure => simp [intOf]; omega
  · have hlt : k < m := by omega
    obtain ⟨b2, off2, sx, ax, q, cx, ex, dx, fx, rfl, -, c0, c1, c2, hxx⟩ := (HX.out.add T).get hlt
    obtain ⟨T3, hB⟩ := laid_var wr sx ax q cx ex dx fx
    obtain ⟨F, hFe⟩ : ∃ F, F = facT x k := ⟨_, rfl⟩
    have SF : Sm F := by rw [hFe]; exact sm_fac x k
    rw [← hFe] at hv
    obtain ⟨s4, N4, D4, hr4⟩ : ∃ s N D, mltF F (x k) = (s, N, D) := ⟨_, _, _, rfl⟩
    have HN4 : Hid ((s4, N4, D4) = facT x (k + 1)) := Lib.hid (by rw [← hr4, hFe]; rfl)
    have C1 := multipleN (hv.mono T3) (hxx.mono T3) SF (HS.out k hlt) ((hT.mono T).mono T3)
    rw [hr4] at C1
    have HC2 := Lib.hid C1
    replace hF := hF.mono T3
    replace hR := hR.mono T3
    replace T := Add.trans T T3
    have HM2 := Lib.hid (And.intro hF (And.intro hR T))
    have o0 := hB.c0
    have o1 := hB.c1
    have o2 := hB.c2
    have f0 := hF.c0
    have f1 := hF.c1
    have f2 := hF.c2
    clear hF hv hR T hxx T3 C1 h0 hgR hRF hleF hB hFe SF hr4
    go_wp2_with fail
    refine HC2.out.mono ?_
    rintro ee w5 ⟨v5, rfl, hv5, h5⟩
    have hv6 := hv5
    obtain ⟨a5, n5, k5, e5, d5, l5, rfl, -, -⟩ := hv6
    obtain ⟨hF, hR, T⟩ := HM2.out
    replace hF := hF.mono h5
    replace hR := hR.mono h5
    replace T := Add.trans T h5
    obtain ⟨hgR, hRF, hleF⟩ := HG.out
    have r0 := hF.c0
    have r1 := hF.c1
    have r2 := hF.c2
    have r3 := hF.fr 0
    have r4 := hF.fr 1
    have r5 := hF.fr 2
    have hN := Lib.hid (And.intro (hF.put s4 a5 n5 k5 e5 d5 l5) (And.intro (hv5.put hF (.bool s4) (.slice a5 n5 k5) (.slice e5 d5 l5)) (And.intro (Box.other2 hR (show gR ≠ gF by omega) (.bool s4) (.slice a5 n5 k5) (.slice e5 d5 l5)) (put3_below (.bool s4) (.slice a5 n5 k5) (.slice e5 d5 l5) T (show w.heap.size ≤ gF by omega)))))
    unfold put3 at hN
    clear hF hR T h5 hv5 HM2 HC2 f0 f1 f2 o0 o1 o2 c0 c1 c2 hgR hRF hleF
    go_wp2_with fail
    go_roundw
    case rel => exact ⟨k + 1, _, _, _, _, _, _, _, by omega, by go_num, hN.out.1, by rw [← HN4.out]; exact hN.out.2.1, hN.out.2.2.1, hN.out.2.2.2⟩
    case measure => simp [intOf]; omega
end Go.Proofs.YtbeoeackahmpbaaGreatDoor
