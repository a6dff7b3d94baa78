/- Package fraction: Add. -/
import Derived.Test.YtbeoeackahmpbaaGreatDoorJL
import Derived.Test.YtbeoeackahmpbaaGreatDoorJH
namespace Go.Proofs.YtbeoeackahmpbaaGreatDoor
open Go.RowKit NatM Go.Proofs.YtbeoeackahmpbaaGreatDoor.Api

set_option maxRecDepth 100000 in
set_option maxHeartbeats 1000000 in
theorem add_refuses (p : Tri × Nat) {v v' : Value} {x y : Tri} {w : World} (hx : FracA w v x) (hy : FracA w v' y) (hT : Tab w) (h : Hid (okF x = false ∨ okF y = false)) (hp : Hid (addF x y = p)) :
    Calls Tryz.prog 116 #[v, v'] w (ResF w p) := by
  have hx0 := hx
  have hy0 := hy
  obtain ⟨an, n, cn, ad, d, cd, rfl, uN, uD⟩ := hx
  obtain ⟨an', n', cn', ad', d', cd', rfl, uN', uD'⟩ := hy
  obtain ⟨T, hX, hY, hB⟩ := start3 w x.1 an n cn ad d cd y.1 an' n' cn' ad' d' cd' false none 0 0 none 0 0
  replace hx0 := hx0.mono T
  replace hy0 := hy0.mono T
  replace hT := hT.mono T
  have hc0 := hX.c0
  have hc1 := hX.c1
  have hc2 := hX.c2
  have hd0 := hY.c0
  have hd1 := hY.c1
  have hd2 := hY.c2
  go_enter Tryz.func116, Tryz.ntmps116
  by_cases c : okF x = false
  · have FV := Lib.hid c
    have hpe := hp.out
    rw [addF_l c] at hpe
    subst hpe
    clear c h hp
    go_wp2_with fail
    refine (validN false hx0 FV).mono ?_
    rintro e w1 ⟨rfl, h1⟩
    replace hB := hB.mono h1
    replace T := Add.trans T h1
    clear h1 hc0 hc1 hc2 hd0 hd1 hd2 hX hY FV hx0 hy0 hT uN uD uN' uD'
    have hc0 := hB.c0
    have hc1 := hB.c1
    have hc2 := hB.c2
    have hc3 := hB.fr 0
    have hc4 := hB.fr 1
    have hc5 := hB.fr 2
    have hF := resF_put (w := w) (p := ((false, 0, 0), 1)) hB (fracT_zero _) T (by omega)
    clear hB T 
    unfold put3 at hF
    have HF := Lib.hid hF
    clear hF
    go_wp2_with fail
    exact bodyPost_ret (v := .tuple #[.agg #[.bool false, .slice none 0 0, .slice none 0 0], .int .i64 1]) (by simp [results, Tryz.results116, go_sem, hc0, hc1, hc2]) rfl HF.out
  · have c1 : okF x = true := by simpa using c
    have c2 : okF y = false := h.out.resolve_left c
    have FV := Lib.hid c1
    have FU := Lib.hid c2
    have hpe := hp.out
    rw [addF_r c2] at hpe
    subst hpe
    clear c c1 c2 h hp
    go_wp2_with fail
    refine (validN true hx0 FV).mono ?_
    rintro e w1 ⟨rfl, h1⟩
    replace hB := hB.mono h1
    replace hY := hY.mono h1
    replace hy0 := hy0.mono h1
    replace T := Add.trans T h1
    clear h1 hc0 hc1 hc2 hd0 hd1 hd2 hX FV hT uN uD uN' uD' hx0
    have hd0 := hY.c0
    have hd1 := hY.c1
    have hd2 := hY.c2
    go_wp2_with fail
    refine (validN false hy0 FU).mono ?_
    rintro e w2 ⟨rfl, h2⟩
    replace hB := hB.mono h2
    replace T := Add.trans T h2
    clear h2 hd0 hd1 hd2 hY FU hy0
    have hc0 := hB.c0
    have hc1 := hB.c1
    have hc2 := hB.c2
    have hc3 := hB.fr 0
    have hc4 := hB.fr 1
    have hc5 := hB.fr 2
    have hF := resF_put (w := w) (p := ((false, 0, 0), 1)) hB (fracT_zero _) T (by omega)
    clear hB T 
    unfold put3 at hF
    have HF := Lib.hid hF
    clear hF
    go_wp2_with fail
    exact bodyPost_ret (v := .tuple #[.agg #[.bool false, .slice none 0 0, .slice none 0 0], .int .i64 1]) (by simp [results, Tryz.results116, go_sem, hc0, hc1, hc2]) rfl HF.out

set_option maxRecDepth 100000 in
set_option maxHeartbeats 2000000 in
theorem add_works (p : Tri × Nat) {v v' : Value} {x y : Tri} {w : World} (hx : FracA w v x) (hy : FracA w v' y) (hT : Tab w) (h : Hid (okF x = true ∧ okF y = true)) (hp : Hid (addF x y = p)) :
    Calls Tryz.prog 116 #[v, v'] w (ResF w p) := by
  have hx0 := hx
  have hy0 := hy
  obtain ⟨an, n, cn, ad, d, cd, rfl, uN, uD⟩ := hx
  obtain ⟨an', n', cn', ad', d', cd', rfl, uN', uD'⟩ := hy
  obtain ⟨T, hX, hY, hB⟩ := start3 w x.1 an n cn ad d cd y.1 an' n' cn' ad' d' cd' false none 0 0 none 0 0
  replace hx0 := hx0.mono T
  replace hy0 := hy0.mono T
  replace hT := hT.mono T
  have hc0 := hX.c0
  have hc1 := hX.c1
  have hc2 := hX.c2
  have hd0 := hY.c0
  have hd1 := hY.c1
  have hd2 := hY.c2
  obtain ⟨X, Y, E, e1, e2, e3, e4, e5, e6, e7, e8⟩ := common h.out.1 h.out.2
  obtain ⟨x1, x2, x3⟩ := okF_iff.1 h.out.1
  obtain ⟨y1, y2, y3⟩ := okF_iff.1 h.out.2
  have FV := Lib.hid h.out.1
  have FU := Lib.hid h.out.2
  have FN : Hid (x.2.1 < pw 128 ∧ x.2.2 < pw 128 ∧ y.2.1 < pw 128 ∧ y.2.2 < pw 128 ∧ (if x.2.2 = y.2.2 then x.2.1 = X ∧ y.2.1 = Y else x.2.1 * y.2.2 = X ∧ y.2.1 * x.2.2 = Y)) := Lib.hid ⟨x2, x3, y2, y3, e1⟩
  have FD : Hid (x.2.2 < pw 128 ∧ y.2.2 < pw 128 ∧ (if x.2.2 = y.2.2 then x.2.2 = E else x.2.2 * y.2.2 = E)) := Lib.hid ⟨x3, y3, e2⟩
  have E3 := Lib.hid e3
  have E4 := Lib.hid e4
  have E5 := Lib.hid e5
  have LX := Lib.hid e6
  have LY := Lib.hid e7
  have LE := Lib.hid e8
  clear e1 e2 e3 e4 e5 e6 e7 e8 x1 x2 x3 y1 y2 y3 h uN uD uN' uD'
  go_enter Tryz.func116, Tryz.ntmps116
  go_wp2_with fail
  refine (validN true hx0 FV).mono ?_
  rintro e w1 ⟨rfl, h1⟩
  replace hB := hB.mono h1
  replace hX := hX.mono h1
  replace hY := hY.mono h1
  replace hx0 := hx0.mono h1
  replace hy0 := hy0.mono h1
  replace hT := hT.mono h1
  replace T := Add.trans T h1
  clear h1 hc0 hc1 hc2 hd0 hd1 hd2
  have hd0 := hY.c0
  have hd1 := hY.c1
  have hd2 := hY.c2
  go_wp2_with fail
  refine (validN true hy0 FU).mono ?_
  rintro e w2 ⟨rfl, h2⟩
  replace hB := hB.mono h2
  replace hX := hX.mono h2
  replace hY := hY.mono h2
  replace hx0 := hx0.mono h2
  replace hy0 := hy0.mono h2
  replace hT := hT.mono h2
  replace T := Add.trans T h2
  clear h2 hd0 hd1 hd2
  have hc0 := hX.c0
  have hc1 := hX.c1
  have hc2 := hX.c2
  have hd0 := hY.c0
  have hd1 := hY.c1
  have hd2 := hY.c2
  go_wp2_with fail
  refine (numeratorsN X Y hx0 hy0 FN).mono ?_
  rintro e w3 ⟨va, vb, rfl, ua, ub, h3⟩
  replace hB := hB.mono h3
  replace hX := hX.mono h3
  replace hY := hY.mono h3
  replace hx0 := hx0.mono h3
  replace hy0 := hy0.mono h3
  replace hT := hT.mono h3
  replace T := Add.trans T h3
  clear h3 hc0 hc1 hc2 hd0 hd1 hd2 FN
  have hc0 := hX.c0
  have hc1 := hX.c1
  have hc2 := hX.c2
  have hd0 := hY.c0
  have hd1 := hY.c1
  have hd2 := hY.c2
  go_wp2_with fail
  refine (commonDenN E hx0 hy0 FD).mono ?_
  rintro e w4 ⟨vd, rfl, ud, h4⟩
  replace hB := hB.mono h4
  replace hX := hX.mono h4
  replace hY := hY.mono h4
  replace ua := ua.mono h4
  replace ub := ub.mono h4
  replace hT := hT.mono h4
  replace T := Add.trans T h4
  clear h4 hc0 hc1 hc2 hd0 hd1 hd2 FD hx0 hy0
  by_cases c : x.1 = y.1
  · have hb : (x.1 == y.1) = true := by rw [c]; exact beq_self_eq_true _
    have hN : X + Y < pw 257 := lt_add LX.out LY.out
    have hpe := (addF_same FV.out FU.out E3.out E4.out E5.out c).trans hp.out
    have C1 : Hid (∀ w', Add w4 w' → Calls Tryz.prog 128 #[va, vb] w' (NumP w' (X + Y))) := Lib.hid fun w' a => plusF (ua.mono a) (ub.mono a) (Lib.hid (lt_up hN (by decide)))
    have C2 : Hid (∀ w', Add w4 w' → ∀ v1, Num w' v1 (X + Y) → Calls Tryz.prog 98 #[.bool x.1, v1, vd] w' (ResF w' p)) := Lib.hid fun w' a v1 n1 => lowestN p (num_nv n1 (lt_up hN (by decide))) (ud.mono a) (hT.mono a) (Lib.hid ⟨E5.out, lt_up hN (by decide), lt_up LE.out (by decide), hpe⟩)
    have K0 : Hid (∀ w', Add w4 w' → w'.cell? ⟨w.heap.size, 0, none⟩ = some (.bool x.1)) := Lib.hid fun w' a => (hX.mono a).c0
    clear hN hpe hp FV FU E3 E4 E5 LX LY LE c ua ub ud hT
    have hc0 := hX.c0
    have hc1 := hX.c1
    have hc2 := hX.c2
    have hd0 := hY.c0
    have hd1 := hY.c1
    have hd2 := hY.c2
    clear hX hY
    go_wp2_with fail
    go_region_held3 (fun w' => w'.cell? ⟨w.heap.size, 0, none⟩ = some (.bool x.1))
      (first | exact K0.out _ (Below.drew (Below.refl _ _)) | exact K0.out _ a2 | exact K0.out _ a3 | exact (put3_cell _ _ _ (by omega)).trans (K0.out _ a3) | go_keep)
      (first | (go_at_call 128; ((with_reducible refine (C1.out _ (Below.drew (Below.refl _ _))).mono ?_); rintro e w7 ⟨v1, rfl, n1, hq1⟩; have a2 := Add.trans (Below.drew (Below.refl _ _) : Add w4 (World.drew w4)) hq1))
             | (go_at_call 98; ((with_reducible refine (C2.out _ a2 _ n1).mono ?_); rintro e w8 ⟨vr, rfl, nr, hq2⟩; have a3 := Add.trans a2 hq2; obtain ⟨an2, n2, cn2, ad2, d2, cd2, rfl, m1, m2⟩ := nr; have hB3 := hB.mono a3; have s0 := hB3.c0; have s1 := hB3.c1; have s2 := hB3.c2; have s3 := hB3.fr 0; have s4 := hB3.fr 1; have s5 := hB3.fr 2)))
    have hF := resF_put (w := w) (p := p) hB3 ⟨an2, n2, cn2, ad2, d2, cd2, rfl, m1, m2⟩ (Add.trans T a3) (by omega)
    unfold put3 at hF
    have HF := Lib.hid hF
    clear hF m1 m2
    go_wp2_with fail
    exact bodyPost_ret (v := .tuple #[.agg #[.bool p.1.1, .slice an2 n2 cn2, .slice ad2 d2 cd2], .int .i64 (p.2 : Nat)]) (by simp [results, Tryz.results116, go_sem, s0, s1, s2]) rfl HF.out
  · have hb : (x.1 == y.1) = false := by
      rw [beq_eq_false_iff_ne]; exact c
    obtain ⟨t, ht⟩ : ∃ t, cmpI X Y = t := ⟨_, rfl⟩
    have FC := Lib.hid ht
    have hc0 := hX.c0
    have hc1 := hX.c1
    have hc2 := hX.c2
    have hd0 := hY.c0
    have hd1 := hY.c1
    have hd2 := hY.c2
    go_wp2_with fail
    refine (cmpN t ua.nu ub.nu FC).mono ?_
    rintro e w5 ⟨rfl, h5⟩
    replace hB := hB.mono h5
    replace hX := hX.mono h5
    replace hY := hY.mono h5
    replace ua := ua.mono h5
    replace ub := ub.mono h5
    replace ud := ud.mono h5
    replace hT := hT.mono h5
    replace T := Add.trans T h5
    clear h5 hc0 hc1 hc2 hd0 hd1 hd2 hb
    rcases Nat.lt_or_ge X Y with hl | hl
    · have dt : decide ((0 : Int) ≤ t) = false := by rw [← FC.out, cmpI_lt hl]; rfl
      have hN : Y - X < pw 256 := Nat.lt_of_le_of_lt (Nat.sub_le _ _) LY.out
      have hpe := (addF_lt FV.out FU.out E3.out E4.out E5.out c (Nat.le_of_lt hl)).trans hp.out
      have C1 : Hid (∀ w', Add w5 w' → Calls Tryz.prog 130 #[vb, va] w' (NumP w' (Y - X))) := Lib.hid fun w' a => minusF (ub.mono a) (ua.mono a) (Lib.hid ⟨lt_up LY.out (by decide), (Nat.le_of_lt hl)⟩)
      have C2 : Hid (∀ w', Add w5 w' → ∀ v1, Num w' v1 (Y - X) → Calls Tryz.prog 98 #[.bool y.1, v1, vd] w' (ResF w' p)) := Lib.hid fun w' a v1 n1 => lowestN p (num_nv n1 (lt_up hN (by decide))) (ud.mono a) (hT.mono a) (Lib.hid ⟨E5.out, lt_up hN (by decide), lt_up LE.out (by decide), hpe⟩)
      have K0 : Hid (∀ w', Add w5 w' → w'.cell? ⟨w.heap.size + 1, 0, none⟩ = some (.bool y.1)) := Lib.hid fun w' a => (hY.mono a).c0
      clear hN hpe hp FV FU E3 E4 E5 LX LY LE c ua ub ud hT
      clear hl FC
      have hd0 := hY.c0
      have hd1 := hY.c1
      have hd2 := hY.c2
      clear hX hY
      go_wp2_with fail
      go_region_held3 (fun w' => w'.cell? ⟨w.heap.size + 1, 0, none⟩ = some (.bool y.1))
        (first | exact K0.out _ (Below.drew (Below.refl _ _)) | exact K0.out _ a2 | exact K0.out _ a3 | exact (put3_cell _ _ _ (by omega)).trans (K0.out _ a3) | go_keep)
        (first | (go_at_call 130; ((with_reducible refine (C1.out _ (Below.drew (Below.refl _ _))).mono ?_); rintro e w7 ⟨v1, rfl, n1, hq1⟩; have a2 := Add.trans (Below.drew (Below.refl _ _) : Add w5 (World.drew w5)) hq1))
               | (go_at_call 98; ((with_reducible refine (C2.out _ a2 _ n1).mono ?_); rintro e w8 ⟨vr, rfl, nr, hq2⟩; have a3 := Add.trans a2 hq2; obtain ⟨an2, n2, cn2, ad2, d2, cd2, rfl, m1, m2⟩ := nr; have hB3 := hB.mono a3; have s0 := hB3.c0; have s1 := hB3.c1; have s2 := hB3.c2; have s3 := hB3.fr 0; have s4 := hB3.fr 1; have s5 := hB3.fr 2)))
      have hF := resF_put (w := w) (p := p) hB3 ⟨an2, n2, cn2, ad2, d2, cd2, rfl, m1, m2⟩ (Add.trans T a3) (by omega)
      unfold put3 at hF
      have HF := Lib.hid hF
      clear hF m1 m2
      go_wp2_with fail
      exact bodyPost_ret (v := .tuple #[.agg #[.bool p.1.1, .slice an2 n2 cn2, .slice ad2 d2 cd2], .int .i64 (p.2 : Nat)]) (by simp [results, Tryz.results116, go_sem, s0, s1, s2]) rfl HF.out
    · have dt : decide ((0 : Int) ≤ t) = true := by
        rw [← FC.out]
        rcases Nat.lt_or_ge Y X with h2 | h2
        · rw [cmpI_gt h2]; rfl
        · rw [cmpI_eq (by omega)]; rfl
      have hN : X - Y < pw 256 := Nat.lt_of_le_of_lt (Nat.sub_le _ _) LX.out
      have hpe := (addF_ge FV.out FU.out E3.out E4.out E5.out c hl).trans hp.out
      have C1 : Hid (∀ w', Add w5 w' → Calls Tryz.prog 130 #[va, vb] w' (NumP w' (X - Y))) := Lib.hid fun w' a => minusF (ua.mono a) (ub.mono a) (Lib.hid ⟨lt_up LX.out (by decide), hl⟩)
      have C2 : Hid (∀ w', Add w5 w' → ∀ v1, Num w' v1 (X - Y) → Calls Tryz.prog 98 #[.bool x.1, v1, vd] w' (ResF w' p)) := Lib.hid fun w' a v1 n1 => lowestN p (num_nv n1 (lt_up hN (by decide))) (ud.mono a) (hT.mono a) (Lib.hid ⟨E5.out, lt_up hN (by decide), lt_up LE.out (by decide), hpe⟩)
      have K0 : Hid (∀ w', Add w5 w' → w'.cell? ⟨w.heap.size, 0, none⟩ = some (.bool x.1)) := Lib.hid fun w' a => (hX.mono a).c0
      clear hN hpe hp FV FU E3 E4 E5 LX LY LE c ua ub ud hT
      clear hl FC
      have hc0 := hX.c0
      have hc1 := hX.c1
      have hc2 := hX.c2
      clear hX hY
      go_wp2_with fail
      go_region_held3 (fun w' => w'.cell? ⟨w.heap.size, 0, none⟩ = some (.bool x.1))
        (first | exact K0.out _ (Below.drew (Below.refl _ _)) | exact K0.out _ a2 | exact K0.out _ a3 | exact (put3_cell _ _ _ (by omega)).trans (K0.out _ a3) | go_keep)
        (first | (go_at_call 130; ((with_reducible refine (C1.out _ (Below.drew (Below.refl _ _))).mono ?_); rintro e w7 ⟨v1, rfl, n1, hq1⟩; have a2 := Add.trans (Below.drew (Below.refl _ _) : Add w5 (World.drew w5)) hq1))
               | (go_at_call 98; ((with_reducible refine (C2.out _ a2 _ n1).mono ?_); rintro e w8 ⟨vr, rfl, nr, hq2⟩; have a3 := Add.trans a2 hq2; obtain ⟨an2, n2, cn2, ad2, d2, cd2, rfl, m1, m2⟩ := nr; have hB3 := hB.mono a3; have s0 := hB3.c0; have s1 := hB3.c1; have s2 := hB3.c2; have s3 := hB3.fr 0; have s4 := hB3.fr 1; have s5 := hB3.fr 2)))
      have hF := resF_put (w := w) (p := p) hB3 ⟨an2, n2, cn2, ad2, d2, cd2, rfl, m1, m2⟩ (Add.trans T a3) (by omega)
      unfold put3 at hF
      have HF := Lib.hid hF
      clear hF m1 m2
      go_wp2_with fail
      exact bodyPost_ret (v := .tuple #[.agg #[.bool p.1.1, .slice an2 n2 cn2, .slice ad2 d2 cd2], .int .i64 (p.2 : Nat)]) (by simp [results, Tryz.results116, go_sem, s0, s1, s2]) rfl HF.out
theorem addN' (p : Tri × Nat) {v v' : Value} {x y : Tri} {w : World} (hx : FracA w v x) (hy : FracA w v' y) (hT : Tab w) (hp : Hid (addF x y = p)) : Calls Tryz.prog 116 #[v, v'] w (ResF w p) := by
  by_cases h : okF x = true ∧ okF y = true
  · exact add_works p hx hy hT (Lib.hid h) hp
  · refine add_refuses p hx hy hT (Lib.hid ?_) hp
    rcases hx1 : okF x with _ | _
    · exact .inl rfl
    · rcases hy1 : okF y with _ | _
      · exact .inr rfl
      · exact absurd ⟨hx1, hy1⟩ h
end Go.Proofs.YtbeoeackahmpbaaGreatDoor
