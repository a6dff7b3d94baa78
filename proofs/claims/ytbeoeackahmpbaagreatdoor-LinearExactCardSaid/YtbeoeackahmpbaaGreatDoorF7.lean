/- Package fraction: Mul and Quo. -/
import Derived.Test.YtbeoeackahmpbaaGreatDoorF6
namespace Go.Proofs.YtbeoeackahmpbaaGreatDoor
open Go.RowKit NatM Go.Proofs.YtbeoeackahmpbaaGreatDoor.Api

set_option maxRecDepth 100000 in
set_option maxHeartbeats 1000000 in
theorem mul_refuses (p : Tri × Nat) {v v' : Value} {x y : Tri} {w : World} (hx : FracA w v x) (hy : FracA w v' y) (hT : Tab w) (h : Hid (okF x = false ∨ okF y = false)) (hp : Hid (mulF x y = p)) :
    Calls Tryz.prog 102 #[v, v'] w (ResF w p) := by
  have hx0 := hx
  have hy0 := hy
  obtain ⟨an, n, cn, ad, d, cd, rfl, uN, uD⟩ := hx
  obtain ⟨an', n', cn', ad', d', cd', rfl, uN', uD'⟩ := hy
  obtain ⟨T, hX, hY, hB⟩ := start3 w x.1 an n cn ad d cd y.1 an' n' cn' ad' d' cd' false none 0 0 none 0 0
  replace hx0 := hx0.mono T
  replace hy0 := hy0.mono T
  replace hT := hT.mono T
  have hc0 := hX.c0
  have hc1 := hX.c1
  have hc2 := hX.c2
  have hd0 := hY.c0
  have hd1 := hY.c1
  have hd2 := hY.c2
  go_enter Tryz.func102, Tryz.ntmps102
  by_cases c : okF x = false
  · have FV := Lib.hid c
    have hpe := hp.out
    rw [mulF_l c] at hpe
    subst hpe
    clear c h hp
    go_wp2_with fail
    refine (validN false hx0 FV).mono ?_
    rintro e w1 ⟨rfl, h1⟩
    replace hB := hB.mono h1
    replace T := Add.trans T h1
    clear h1 hc0 hc1 hc2 hd0 hd1 hd2 hX hY FV hx0 hy0 hT uN uD uN' uD'
    have hc0 := hB.c0
    have hc1 := hB.c1
    have hc2 := hB.c2
    have hc3 := hB.fr 0
    have hc4 := hB.fr 1
    have hc5 := hB.fr 2
    have hF := resF_put (w := w) (p := ((false, 0, 0), 1)) hB (fracT_zero _) T (by omega)
    clear hB T 
    unfold put3 at hF
    have HF := Lib.hid hF
    clear hF
    go_wp2_with fail
    exact bodyPost_ret (v := .tuple #[.agg #[.bool false, .slice none 0 0, .slice none 0 0], .int .i64 1]) (by simp [results, Tryz.results102, go_sem, hc0, hc1, hc2]) rfl HF.out
  · have c1 : okF x = true := by simpa using c
    have c2 : okF y = false := h.out.resolve_left c
    have FV := Lib.hid c1
    have FU := Lib.hid c2
    have hpe := hp.out
    rw [mulF_r c2] at hpe
    subst hpe
    clear c c1 c2 h hp
    go_wp2_with fail
    refine (validN true hx0 FV).mono ?_
    rintro e w1 ⟨rfl, h1⟩
    replace hB := hB.mono h1
    replace hY := hY.mono h1
    replace hy0 := hy0.mono h1
    replace T := Add.trans T h1
    clear h1 hc0 hc1 hc2 hd0 hd1 hd2 hX FV hT uN uD uN' uD' hx0
    have hd0 := hY.c0
    have hd1 := hY.c1
    have hd2 := hY.c2
    go_wp2_with fail
    refine (validN false hy0 FU).mono ?_
    rintro e w2 ⟨rfl, h2⟩
    replace hB := hB.mono h2
    replace T := Add.trans T h2
    clear h2 hd0 hd1 hd2 hY FU hy0
    have hc0 := hB.c0
    have hc1 := hB.c1
    have hc2 := hB.c2
    have hc3 := hB.fr 0
    have hc4 := hB.fr 1
    have hc5 := hB.fr 2
    have hF := resF_put (w := w) (p := ((false, 0, 0), 1)) hB (fracT_zero _) T (by omega)
    clear hB T 
    unfold put3 at hF
    have HF := Lib.hid hF
    clear hF
    go_wp2_with fail
    exact bodyPost_ret (v := .tuple #[.agg #[.bool false, .slice none 0 0, .slice none 0 0], .int .i64 1]) (by simp [results, Tryz.results102, go_sem, hc0, hc1, hc2]) rfl HF.out

set_option maxRecDepth 100000 in
set_option maxHeartbeats 1000000 in
theorem quo_refuses (p : Tri × Nat) {v v' : Value} {x y : Tri} {w : World} (hx : FracA w v x) (hy : FracA w v' y) (hT : Tab w) (h : Hid (okF x = false ∨ okF y = false)) (hp : Hid (quoF x y = p)) :
    Calls Tryz.prog 85 #[v, v'] w (ResF w p) := by
  have hx0 := hx
  have hy0 := hy
  obtain ⟨an, n, cn, ad, d, cd, rfl, uN, uD⟩ := hx
  obtain ⟨an', n', cn', ad', d', cd', rfl, uN', uD'⟩ := hy
  obtain ⟨T, hX, hY, hB⟩ := start3 w x.1 an n cn ad d cd y.1 an' n' cn' ad' d' cd' false none 0 0 none 0 0
  replace hx0 := hx0.mono T
  replace hy0 := hy0.mono T
  replace hT := hT.mono T
  have hc0 := hX.c0
  have hc1 := hX.c1
  have hc2 := hX.c2
  have hd0 := hY.c0
  have hd1 := hY.c1
  have hd2 := hY.c2
  go_enter Tryz.func85, Tryz.ntmps85
  by_cases c : okF x = false
  · have FV := Lib.hid c
    have hpe := hp.out
    rw [quoF_l c] at hpe
    subst hpe
    clear c h hp
    go_wp2_with fail
    refine (validN false hx0 FV).mono ?_
    rintro e w1 ⟨rfl, h1⟩
    replace hB := hB.mono h1
    replace T := Add.trans T h1
    clear h1 hc0 hc1 hc2 hd0 hd1 hd2 hX hY FV hx0 hy0 hT uN uD uN' uD'
    have hc0 := hB.c0
    have hc1 := hB.c1
    have hc2 := hB.c2
    have hc3 := hB.fr 0
    have hc4 := hB.fr 1
    have hc5 := hB.fr 2
    have hF := resF_put (w := w) (p := ((false, 0, 0), 1)) hB (fracT_zero _) T (by omega)
    clear hB T 
    unfold put3 at hF
    have HF := Lib.hid hF
    clear hF
    go_wp2_with fail
    exact bodyPost_ret (v := .tuple #[.agg #[.bool false, .slice none 0 0, .slice none 0 0], .int .i64 1]) (by simp [results, Tryz.results85, go_sem, hc0, hc1, hc2]) rfl HF.out
  · have c1 : okF x = true := by simpa using c
    have c2 : okF y = false := h.out.resolve_left c
    have FV := Lib.hid c1
    have FU := Lib.hid c2
    have hpe := hp.out
    rw [quoF_r c2] at hpe
    subst hpe
    clear c c1 c2 h hp
    go_wp2_with fail
    refine (validN true hx0 FV).mono ?_
    rintro e w1 ⟨rfl, h1⟩
    replace hB := hB.mono h1
    replace hY := hY.mono h1
    replace hy0 := hy0.mono h1
    replace T := Add.trans T h1
    clear h1 hc0 hc1 hc2 hd0 hd1 hd2 hX FV hT uN uD uN' uD' hx0
    have hd0 := hY.c0
    have hd1 := hY.c1
    have hd2 := hY.c2
    go_wp2_with fail
    refine (validN false hy0 FU).mono ?_
    rintro e w2 ⟨rfl, h2⟩
    replace hB := hB.mono h2
    replace T := Add.trans T h2
    clear h2 hd0 hd1 hd2 hY FU hy0
    have hc0 := hB.c0
    have hc1 := hB.c1
    have hc2 := hB.c2
    have hc3 := hB.fr 0
    have hc4 := hB.fr 1
    have hc5 := hB.fr 2
    have hF := resF_put (w := w) (p := ((false, 0, 0), 1)) hB (fracT_zero _) T (by omega)
    clear hB T 
    unfold put3 at hF
    have HF := Lib.hid hF
    clear hF
    go_wp2_with fail
    exact bodyPost_ret (v := .tuple #[.agg #[.bool false, .slice none 0 0, .slice none 0 0], .int .i64 1]) (by simp [results, Tryz.results85, go_sem, hc0, hc1, hc2]) rfl HF.out

set_option maxRecDepth 100000 in
set_option maxHeartbeats 2000000 in
theorem mul_works (p : Tri × Nat) {v v' : Value} {x y : Tri} {w : World} (hx : FracA w v x) (hy : FracA w v' y) (hT : Tab w) (h : Hid (okF x = true ∧ okF y = true)) (hp : Hid (mulF x y = p)) :
    Calls Tryz.prog 102 #[v, v'] w (ResF w p) := by
  have hx0 := hx
  have hy0 := hy
  obtain ⟨an, n, cn, ad, d, cd, rfl, uN, uD⟩ := hx
  obtain ⟨an', n', cn', ad', d', cd', rfl, uN', uD'⟩ := hy
  obtain ⟨T, hX, hY, hB⟩ := start3 w x.1 an n cn ad d cd y.1 an' n' cn' ad' d' cd' false none 0 0 none 0 0
  replace hx0 := hx0.mono T
  replace hy0 := hy0.mono T
  replace hT := hT.mono T
  have hc0 := hX.c0
  have hc1 := hX.c1
  have hc2 := hX.c2
  have hd0 := hY.c0
  have hd1 := hY.c1
  have hd2 := hY.c2
  replace uN := uN.mono T
  replace uD := uD.mono T
  replace uN' := uN'.mono T
  replace uD' := uD'.mono T
  obtain ⟨x1, x2, x3⟩ := okF_iff.1 h.out.1
  obtain ⟨y1, y2, y3⟩ := okF_iff.1 h.out.2
  have FV := Lib.hid h.out.1
  have FU := Lib.hid h.out.2
  have m1 : x.2.1 * y.2.1 < pw 256 := lt_mul (i := 128) (j := 128) x2 y2
  have m2 : x.2.2 * y.2.2 < pw 256 := lt_mul (i := 128) (j := 128) x3 y3
  have FM1 : Hid (x.2.1 < pw 512 ∧ y.2.1 < pw 512 ∧ x.2.1 * y.2.1 < pw 512) := Lib.hid ⟨lt_up x2 (by decide), lt_up y2 (by decide), lt_up m1 (by decide)⟩
  have FM2 : Hid (x.2.2 < pw 512 ∧ y.2.2 < pw 512 ∧ x.2.2 * y.2.2 < pw 512) := Lib.hid ⟨lt_up x3 (by decide), lt_up y3 (by decide), lt_up m2 (by decide)⟩
  have hE : x.2.2 * y.2.2 ≠ 0 := Nat.mul_ne_zero x1 y1
  have hpe : fitQ (frac (!(x.1 == y.1)) (x.2.1 * y.2.1) (x.2.2 * y.2.2)) = p := (mulF_ok FV.out FU.out).trans hp.out
  clear x1 x2 x3 y1 y2 y3 h
  have HM := Lib.hid (And.intro m1 (And.intro m2 (And.intro hE hpe)))
  clear m1 m2 hE hpe
  go_enter Tryz.func102, Tryz.ntmps102
  go_wp2_with fail
  refine (validN true hx0 FV).mono ?_
  rintro e w1 ⟨rfl, h1⟩
  replace hB := hB.mono h1
  replace hX := hX.mono h1
  replace hY := hY.mono h1
  replace hx0 := hx0.mono h1
  replace hy0 := hy0.mono h1
  replace hT := hT.mono h1
  replace uN := uN.mono h1
  replace uD := uD.mono h1
  replace uN' := uN'.mono h1
  replace uD' := uD'.mono h1
  replace T := Add.trans T h1
  clear h1 hc0 hc1 hc2 hd0 hd1 hd2
  have hd0 := hY.c0
  have hd1 := hY.c1
  have hd2 := hY.c2
  go_wp2_with fail
  refine (validN true hy0 FU).mono ?_
  rintro e w2 ⟨rfl, h2⟩
  replace hB := hB.mono h2
  replace hX := hX.mono h2
  replace hY := hY.mono h2
  replace hT := hT.mono h2
  replace uN := uN.mono h2
  replace uD := uD.mono h2
  replace uN' := uN'.mono h2
  replace uD' := uD'.mono h2
  replace T := Add.trans T h2
  clear h2 hd0 hd1 hd2 hx0 hy0
  obtain ⟨m1, m2, hE, hpe⟩ := HM.out
  clear HM
  have K0 : Hid (∀ w', Add w2 w' → w'.cell? ⟨w.heap.size, 0, none⟩ = some (.bool x.1) ∧ w'.cell? ⟨w.heap.size, 1, none⟩ = some (.slice an n cn) ∧ w'.cell? ⟨w.heap.size, 2, none⟩ = some (.slice ad d cd) ∧ w'.cell? ⟨w.heap.size + 1, 0, none⟩ = some (.bool y.1) ∧ w'.cell? ⟨w.heap.size + 1, 1, none⟩ = some (.slice an' n' cn') ∧ w'.cell? ⟨w.heap.size + 1, 2, none⟩ = some (.slice ad' d' cd')) := Lib.hid fun w' a => ⟨(hX.mono a).c0, (hX.mono a).c1, (hX.mono a).c2, (hY.mono a).c0, (hY.mono a).c1, (hY.mono a).c2⟩
  have C1 : Hid (∀ w', Add w2 w' → Calls Tryz.prog 106 #[.slice an n cn, .slice an' n' cn'] w' (NumP w' (x.2.1 * y.2.1))) := Lib.hid fun w' a => timesF (uN.mono a) (uN'.mono a) FM1
  have C2 : Hid (∀ w', Add w2 w' → Calls Tryz.prog 106 #[.slice ad d cd, .slice ad' d' cd'] w' (NumP w' (x.2.2 * y.2.2))) := Lib.hid fun w' a => timesF (uD.mono a) (uD'.mono a) FM2
  have C3 : Hid (∀ w', Add w2 w' → ∀ v1 v2, Num w' v1 (x.2.1 * y.2.1) → Num w' v2 (x.2.2 * y.2.2) → Calls Tryz.prog 98 #[.bool (!(x.1 == y.1)), v1, v2] w' (ResF w' p)) := Lib.hid fun w' a v1 v2 n1 n2 => lowestN p (num_nv n1 (lt_up m1 (by decide))) (num_nv n2 (lt_up m2 (by decide))) (hT.mono a) (Lib.hid ⟨hE, lt_up m1 (by decide), lt_up m2 (by decide), hpe⟩)
  have hc0 := hX.c0
  have hc1 := hX.c1
  have hc2 := hX.c2
  have hd0 := hY.c0
  have hd1 := hY.c1
  have hd2 := hY.c2
  clear hX hY uN uD uN' uD' hT m1 m2 hE hpe FM1 FM2 hp FV FU
  go_wp2_with fail
  go_region_held3 (fun w' => w'.cell? ⟨w.heap.size, 0, none⟩ = some (.bool x.1) ∧ w'.cell? ⟨w.heap.size, 1, none⟩ = some (.slice an n cn) ∧ w'.cell? ⟨w.heap.size, 2, none⟩ = some (.slice ad d cd) ∧ w'.cell? ⟨w.heap.size + 1, 0, none⟩ = some (.bool y.1) ∧ w'.cell? ⟨w.heap.size + 1, 1, none⟩ = some (.slice an' n' cn') ∧ w'.cell? ⟨w.heap.size + 1, 2, none⟩ = some (.slice ad' d' cd'))
    (first | exact K0.out _ (Below.drew (Below.refl _ _)) | exact K0.out _ a2 | exact K0.out _ a3 | exact K0.out _ a4 | exact ⟨(put3_cell (g := w.heap.size + 2) _ _ _ (by omega)).trans (K0.out _ a4 |>.1), (put3_cell (g := w.heap.size + 2) _ _ _ (by omega)).trans (K0.out _ a4 |>.2.1), (put3_cell (g := w.heap.size + 2) _ _ _ (by omega)).trans (K0.out _ a4 |>.2.2.1), (put3_cell (g := w.heap.size + 2) _ _ _ (by omega)).trans (K0.out _ a4 |>.2.2.2.1), (put3_cell (g := w.heap.size + 2) _ _ _ (by omega)).trans (K0.out _ a4 |>.2.2.2.2.1), (put3_cell (g := w.heap.size + 2) _ _ _ (by omega)).trans (K0.out _ a4 |>.2.2.2.2.2)⟩ | go_keep)
    (first | (go_at_call 106; ((with_reducible refine (C1.out _ (Below.drew (Below.refl _ _))).mono ?_); rintro e w7 ⟨v1, rfl, n1, hq1⟩; have a2 := Add.trans (Below.drew (Below.refl _ _) : Add w2 (World.drew w2)) hq1))
           | (go_at_call 106; ((with_reducible refine (C2.out _ a2).mono ?_); rintro e w8 ⟨v2, rfl, n2, hq2⟩; have a3 := Add.trans a2 hq2; have n1' := n1.mono hq2))
           | (go_at_call 98; ((with_reducible refine (C3.out _ a3 _ _ n1' n2).mono ?_); rintro e w9 ⟨vr, rfl, nr, hq3⟩; have a4 := Add.trans a3 hq3; obtain ⟨an2, n2, cn2, ad2, d2, cd2, rfl, m1, m2⟩ := nr; have hB3 := hB.mono a4; have s0 := hB3.c0; have s1 := hB3.c1; have s2 := hB3.c2; have s3 := hB3.fr 0; have s4 := hB3.fr 1; have s5 := hB3.fr 2)))
  have hF := resF_put (w := w) (p := p) hB3 ⟨an2, n2, cn2, ad2, d2, cd2, rfl, m1, m2⟩ (Add.trans T a4) (by omega)
  unfold put3 at hF
  have HF := Lib.hid hF
  clear hF m1 m2
  go_wp2_with fail
  exact bodyPost_ret (v := .tuple #[.agg #[.bool p.1.1, .slice an2 n2 cn2, .slice ad2 d2 cd2], .int .i64 (p.2 : Nat)]) (by simp [results, Tryz.results102, go_sem, s0, s1, s2]) rfl HF.out
set_option maxRecDepth 100000 in
set_option maxHeartbeats 2000000 in
theorem quo_zero (p : Tri × Nat) {v v' : Value} {x y : Tri} {w : World} (hx : FracA w v x) (hy : FracA w v' y) (hT : Tab w) (h : Hid (okF x = true ∧ okF y = true)) (h0 : Hid (y.2.1 = 0)) (hp : Hid (quoF x y = p)) :
    Calls Tryz.prog 85 #[v, v'] w (ResF w p) := by
  have hx0 := hx
  have hy0 := hy
  obtain ⟨an, n, cn, ad, d, cd, rfl, uN, uD⟩ := hx
  obtain ⟨an', n', cn', ad', d', cd', rfl, uN', uD'⟩ := hy
  obtain ⟨T, hX, hY, hB⟩ := start3 w x.1 an n cn ad d cd y.1 an' n' cn' ad' d' cd' false none 0 0 none 0 0
  replace hx0 := hx0.mono T
  replace hy0 := hy0.mono T
  replace hT := hT.mono T
  have hc0 := hX.c0
  have hc1 := hX.c1
  have hc2 := hX.c2
  have hd0 := hY.c0
  have hd1 := hY.c1
  have hd2 := hY.c2
  replace uN := uN.mono T
  replace uD := uD.mono T
  replace uN' := uN'.mono T
  replace uD' := uD'.mono T
  obtain ⟨x1, x2, x3⟩ := okF_iff.1 h.out.1
  obtain ⟨y1, y2, y3⟩ := okF_iff.1 h.out.2
  have FV := Lib.hid h.out.1
  have FU := Lib.hid h.out.2
  have hpe := (quoF_zero FV.out FU.out h0.out).symm.trans hp.out
  subst hpe
  have FZ : Hid (decide (y.2.1 = 0) = true) := Lib.hid (decide_eq_true h0.out)
  clear x1 x2 x3 y1 y2 y3 h hp h0
  go_enter Tryz.func85, Tryz.ntmps85
  go_wp2_with fail
  refine (validN true hx0 FV).mono ?_
  rintro e w1 ⟨rfl, h1⟩
  replace hB := hB.mono h1
  replace hX := hX.mono h1
  replace hY := hY.mono h1
  replace hx0 := hx0.mono h1
  replace hy0 := hy0.mono h1
  replace hT := hT.mono h1
  replace uN := uN.mono h1
  replace uD := uD.mono h1
  replace uN' := uN'.mono h1
  replace uD' := uD'.mono h1
  replace T := Add.trans T h1
  clear h1 hc0 hc1 hc2 hd0 hd1 hd2
  have hd0 := hY.c0
  have hd1 := hY.c1
  have hd2 := hY.c2
  go_wp2_with fail
  refine (validN true hy0 FU).mono ?_
  rintro e w2 ⟨rfl, h2⟩
  replace hB := hB.mono h2
  replace hX := hX.mono h2
  replace hY := hY.mono h2
  replace hT := hT.mono h2
  replace uN := uN.mono h2
  replace uD := uD.mono h2
  replace uN' := uN'.mono h2
  replace uD' := uD'.mono h2
  replace T := Add.trans T h2
  clear h2 hd0 hd1 hd2 hx0 hy0
  have hd0 := hY.c0
  have hd1 := hY.c1
  have hd2 := hY.c2
  go_wp2_with fail
  refine (isZeroN true uN' FZ).mono ?_
  rintro e w3 ⟨rfl, h3⟩
  replace hB := hB.mono h3
  replace T := Add.trans T h3
  clear h3 hd0 hd1 hd2 hX hY hT uN uD uN' uD' FZ FV FU
  have hc0 := hB.c0
  have hc1 := hB.c1
  have hc2 := hB.c2
  have hc3 := hB.fr 0
  have hc4 := hB.fr 1
  have hc5 := hB.fr 2
  have hF := resF_put (w := w) (p := ((false, 0, 0), 3)) hB (fracT_zero _) T (by omega)
  clear hB T 
  unfold put3 at hF
  have HF := Lib.hid hF
  clear hF
  go_wp2_with fail
  exact bodyPost_ret (v := .tuple #[.agg #[.bool false, .slice none 0 0, .slice none 0 0], .int .i64 3]) (by simp [results, Tryz.results85, go_sem, hc0, hc1, hc2]) rfl HF.out

set_option maxRecDepth 100000 in
set_option maxHeartbeats 2000000 in
theorem quo_works (p : Tri × Nat) {v v' : Value} {x y : Tri} {w : World} (hx : FracA w v x) (hy : FracA w v' y) (hT : Tab w) (h : Hid (okF x = true ∧ okF y = true)) (h0 : Hid (y.2.1 ≠ 0)) (hp : Hid (quoF x y = p)) :
    Calls Tryz.prog 85 #[v, v'] w (ResF w p) := by
  have hx0 := hx
  have hy0 := hy
  obtain ⟨an, n, cn, ad, d, cd, rfl, uN, uD⟩ := hx
  obtain ⟨an', n', cn', ad', d', cd', rfl, uN', uD'⟩ := hy
  obtain ⟨T, hX, hY, hB⟩ := start3 w x.1 an n cn ad d cd y.1 an' n' cn' ad' d' cd' false none 0 0 none 0 0
  replace hx0 := hx0.mono T
  replace hy0 := hy0.mono T
  replace hT := hT.mono T
  have hc0 := hX.c0
  have hc1 := hX.c1
  have hc2 := hX.c2
  have hd0 := hY.c0
  have hd1 := hY.c1
  have hd2 := hY.c2
  replace uN := uN.mono T
  replace uD := uD.mono T
  replace uN' := uN'.mono T
  replace uD' := uD'.mono T
  obtain ⟨x1, x2, x3⟩ := okF_iff.1 h.out.1
  obtain ⟨y1, y2, y3⟩ := okF_iff.1 h.out.2
  have FV := Lib.hid h.out.1
  have FU := Lib.hid h.out.2
  have m1 : x.2.1 * y.2.2 < pw 256 := lt_mul (i := 128) (j := 128) x2 y3
  have m2 : x.2.2 * y.2.1 < pw 256 := lt_mul (i := 128) (j := 128) x3 y2
  have FM1 : Hid (x.2.1 < pw 512 ∧ y.2.2 < pw 512 ∧ x.2.1 * y.2.2 < pw 512) := Lib.hid ⟨lt_up x2 (by decide), lt_up y3 (by decide), lt_up m1 (by decide)⟩
  have FM2 : Hid (x.2.2 < pw 512 ∧ y.2.1 < pw 512 ∧ x.2.2 * y.2.1 < pw 512) := Lib.hid ⟨lt_up x3 (by decide), lt_up y2 (by decide), lt_up m2 (by decide)⟩
  have hE : x.2.2 * y.2.1 ≠ 0 := Nat.mul_ne_zero x1 h0.out
  have hpe : fitQ (frac (!(x.1 == y.1)) (x.2.1 * y.2.2) (x.2.2 * y.2.1)) = p := (quoF_ok FV.out FU.out h0.out).trans hp.out
  have FZ : Hid (decide (y.2.1 = 0) = false) := Lib.hid (decide_eq_false h0.out)
  clear x1 x2 x3 y1 y2 y3 h h0
  have HM := Lib.hid (And.intro m1 (And.intro m2 (And.intro hE hpe)))
  clear m1 m2 hE hpe
  go_enter Tryz.func85, Tryz.ntmps85
  go_wp2_with fail
  refine (validN true hx0 FV).mono ?_
  rintro e w1 ⟨rfl, h1⟩
  replace hB := hB.mono h1
  replace hX := hX.mono h1
  replace hY := hY.mono h1
  replace hx0 := hx0.mono h1
  replace hy0 := hy0.mono h1
  replace hT := hT.mono h1
  replace uN := uN.mono h1
  replace uD := uD.mono h1
  replace uN' := uN'.mono h1
  replace uD' := uD'.mono h1
  replace T := Add.trans T h1
  clear h1 hc0 hc1 hc2 hd0 hd1 hd2
  have hd0 := hY.c0
  have hd1 := hY.c1
  have hd2 := hY.c2
  go_wp2_with fail
  refine (validN true hy0 FU).mono ?_
  rintro e w2 ⟨rfl, h2⟩
  replace hB := hB.mono h2
  replace hX := hX.mono h2
  replace hY := hY.mono h2
  replace hT := hT.mono h2
  replace uN := uN.mono h2
  replace uD := uD.mono h2
  replace uN' := uN'.mono h2
  replace uD' := uD'.mono h2
  replace T := Add.trans T h2
  clear h2 hd0 hd1 hd2 hx0 hy0
  have hd0 := hY.c0
  have hd1 := hY.c1
  have hd2 := hY.c2
  go_wp2_with fail
  refine (isZeroN false uN' FZ).mono ?_
  rintro e w3 ⟨rfl, h3⟩
  replace hB := hB.mono h3
  replace hX := hX.mono h3
  replace hY := hY.mono h3
  replace hT := hT.mono h3
  replace uN := uN.mono h3
  replace uD := uD.mono h3
  replace uN' := uN'.mono h3
  replace uD' := uD'.mono h3
  replace T := Add.trans T h3
  clear h3 hd0 hd1 hd2 FZ
  obtain ⟨m1, m2, hE, hpe⟩ := HM.out
  clear HM
  have K0 : Hid (∀ w', Add w3 w' → w'.cell? ⟨w.heap.size, 0, none⟩ = some (.bool x.1) ∧ w'.cell? ⟨w.heap.size, 1, none⟩ = some (.slice an n cn) ∧ w'.cell? ⟨w.heap.size, 2, none⟩ = some (.slice ad d cd) ∧ w'.cell? ⟨w.heap.size + 1, 0, none⟩ = some (.bool y.1) ∧ w'.cell? ⟨w.heap.size + 1, 1, none⟩ = some (.slice an' n' cn') ∧ w'.cell? ⟨w.heap.size + 1, 2, none⟩ = some (.slice ad' d' cd')) := Lib.hid fun w' a => ⟨(hX.mono a).c0, (hX.mono a).c1, (hX.mono a).c2, (hY.mono a).c0, (hY.mono a).c1, (hY.mono a).c2⟩
  have C1 : Hid (∀ w', Add w3 w' → Calls Tryz.prog 106 #[.slice an n cn, .slice ad' d' cd'] w' (NumP w' (x.2.1 * y.2.2))) := Lib.hid fun w' a => timesF (uN.mono a) (uD'.mono a) FM1
  have C2 : Hid (∀ w', Add w3 w' → Calls Tryz.prog 106 #[.slice ad d cd, .slice an' n' cn'] w' (NumP w' (x.2.2 * y.2.1))) := Lib.hid fun w' a => timesF (uD.mono a) (uN'.mono a) FM2
  have C3 : Hid (∀ w', Add w3 w' → ∀ v1 v2, Num w' v1 (x.2.1 * y.2.2) → Num w' v2 (x.2.2 * y.2.1) → Calls Tryz.prog 98 #[.bool (!(x.1 == y.1)), v1, v2] w' (ResF w' p)) := Lib.hid fun w' a v1 v2 n1 n2 => lowestN p (num_nv n1 (lt_up m1 (by decide))) (num_nv n2 (lt_up m2 (by decide))) (hT.mono a) (Lib.hid ⟨hE, lt_up m1 (by decide), lt_up m2 (by decide), hpe⟩)
  have hc0 := hX.c0
  have hc1 := hX.c1
  have hc2 := hX.c2
  have hd0 := hY.c0
  have hd1 := hY.c1
  have hd2 := hY.c2
  clear hX hY uN uD uN' uD' hT m1 m2 hE hpe FM1 FM2 hp FV FU
  go_wp2_with fail
  go_region_held3 (fun w' => w'.cell? ⟨w.heap.size, 0, none⟩ = some (.bool x.1) ∧ w'.cell? ⟨w.heap.size, 1, none⟩ = some (.slice an n cn) ∧ w'.cell? ⟨w.heap.size, 2, none⟩ = some (.slice ad d cd) ∧ w'.cell? ⟨w.heap.size + 1, 0, none⟩ = some (.bool y.1) ∧ w'.cell? ⟨w.heap.size + 1, 1, none⟩ = some (.slice an' n' cn') ∧ w'.cell? ⟨w.heap.size + 1, 2, none⟩ = some (.slice ad' d' cd'))
    (first | exact K0.out _ (Below.drew (Below.refl _ _)) | exact K0.out _ a2 | exact K0.out _ a3 | exact K0.out _ a4 | exact ⟨(put3_cell (g := w.heap.size + 2) _ _ _ (by omega)).trans (K0.out _ a4 |>.1), (put3_cell (g := w.heap.size + 2) _ _ _ (by omega)).trans (K0.out _ a4 |>.2.1), (put3_cell (g := w.heap.size + 2) _ _ _ (by omega)).trans (K0.out _ a4 |>.2.2.1), (put3_cell (g := w.heap.size + 2) _ _ _ (by omega)).trans (K0.out _ a4 |>.2.2.2.1), (put3_cell (g := w.heap.size + 2) _ _ _ (by omega)).trans (K0.out _ a4 |>.2.2.2.2.1), (put3_cell (g := w.heap.size + 2) _ _ _ (by omega)).trans (K0.out _ a4 |>.2.2.2.2.2)⟩ | go_keep)
    (first | (go_at_call 106; ((with_reducible refine (C1.out _ (Below.drew (Below.refl _ _))).mono ?_); rintro e w7 ⟨v1, rfl, n1, hq1⟩; have a2 := Add.trans (Below.drew (Below.refl _ _) : Add w3 (World.drew w3)) hq1))
           | (go_at_call 106; ((with_reducible refine (C2.out _ a2).mono ?_); rintro e w8 ⟨v2, rfl, n2, hq2⟩; have a3 := Add.trans a2 hq2; have n1' := n1.mono hq2))
           | (go_at_call 98; ((with_reducible refine (C3.out _ a3 _ _ n1' n2).mono ?_); rintro e w9 ⟨vr, rfl, nr, hq3⟩; have a4 := Add.trans a3 hq3; obtain ⟨an2, n2, cn2, ad2, d2, cd2, rfl, m1, m2⟩ := nr; have hB3 := hB.mono a4; have s0 := hB3.c0; have s1 := hB3.c1; have s2 := hB3.c2; have s3 := hB3.fr 0; have s4 := hB3.fr 1; have s5 := hB3.fr 2)))
  have hF := resF_put (w := w) (p := p) hB3 ⟨an2, n2, cn2, ad2, d2, cd2, rfl, m1, m2⟩ (Add.trans T a4) (by omega)
  unfold put3 at hF
  have HF := Lib.hid hF
  clear hF m1 m2
  go_wp2_with fail
  exact bodyPost_ret (v := .tuple #[.agg #[.bool p.1.1, .slice an2 n2 cn2, .slice ad2 d2 cd2], .int .i64 (p.2 : Nat)]) (by simp [results, Tryz.results85, go_sem, s0, s1, s2]) rfl HF.out
theorem both_or (x y : Tri) : (okF x = true ∧ okF y = true) ∨ (okF x = false ∨ okF y = false) := by
  cases okF x <;> cases okF y <;> simp
theorem mulN' (p : Tri × Nat) {v v' : Value} {x y : Tri} {w : World} (hx : FracA w v x) (hy : FracA w v' y) (hT : Tab w) (hp : Hid (mulF x y = p)) : Calls Tryz.prog 102 #[v, v'] w (ResF w p) := by
  rcases both_or x y with h | h
  · exact mul_works p hx hy hT (Lib.hid h) hp
  · exact mul_refuses p hx hy hT (Lib.hid h) hp
theorem quoN' (p : Tri × Nat) {v v' : Value} {x y : Tri} {w : World} (hx : FracA w v x) (hy : FracA w v' y) (hT : Tab w) (hp : Hid (quoF x y = p)) : Calls Tryz.prog 85 #[v, v'] w (ResF w p) := by
  rcases both_or x y with h | h
  · by_cases h0 : y.2.1 = 0
    · exact quo_zero p hx hy hT (Lib.hid h) (Lib.hid h0) hp
    · exact quo_works p hx hy hT (Lib.hid h) (Lib.hid h0) hp
  · exact quo_refuses p hx hy hT (Lib.hid h) hp
end Go.Proofs.YtbeoeackahmpbaaGreatDoor
