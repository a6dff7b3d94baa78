/- The reference of layer 2: fits, Opposite, Add, Mul, Quo, Sub, Cmp. | The reference of layer 2: Add, Opposite, Sub, Cmp. -/
import Derived.Test.YtbeoeackahmpbaaGreatDoorJP
import Derived.Test.YtbeoeackahmpbaaGreatDoorJM

namespace Go.Proofs.YtbeoeackahmpbaaGreatDoor
open Go.RowKit NatM Go.Proofs.YtbeoeackahmpbaaGreatDoor.Api

set_option maxRecDepth 100000 in
set_option maxHeartbeats 1000000 in
theorem refLargeF (t : Bool) {v : Value} {x : Tri} {w : World} (hx : FracT w v x) (h : Hid (decide (pw 128 ≤ x.2.1 ∨ pw 128 ≤ x.2.2) = t)) : Calls Tryz.prog 89 #[v] w (BoolIs w t) := by
  obtain ⟨an, n, cn, ad, d, cd, rfl, m1, m2⟩ := hx
  obtain ⟨T, hX⟩ := start1 w x.1 an n cn ad d cd
  obtain ⟨a1, l1, k1, e1, -, s1⟩ := num_size m1
  obtain ⟨a2, l2, k2, e2, -, s2⟩ := num_size m2
  simp only [Value.slice.injEq] at e1 e2
  obtain ⟨rfl, rfl, rfl⟩ := e1
  obtain ⟨rfl, rfl, rfl⟩ := e2
  have hc1 := hX.c1
  have hc2 := hX.c2
  have ht := h.out
  by_cases c1 : 128 < n
  · have d1 : decide ((128 : Int) < (n : Int)) = true := by simp; omega
    have e : t = true := by rw [← ht]; exact decide_eq_true (.inl (by omega))
    subst e
    clear h ht s1 s2 c1 m1 m2 hX
    go_enter Tryz.func89, Tryz.ntmps89
    go_wp2_with fail
    go_ret
    exact ⟨rfl, T⟩
  · have d1 : decide ((128 : Int) < (n : Int)) = false := by simp; omega
    by_cases c2 : 128 < d
    · have d2 : decide ((128 : Int) < (d : Int)) = true := by simp; omega
      have e : t = true := by rw [← ht]; exact decide_eq_true (.inr (by omega))
      subst e
      clear h ht s1 s2 c1 c2 m1 m2 hX
      go_enter Tryz.func89, Tryz.ntmps89
      go_wp2_with fail
      go_ret
      exact ⟨rfl, T⟩
    · have d2 : decide ((128 : Int) < (d : Int)) = false := by simp; omega
      have e : t = false := by rw [← ht]; exact decide_eq_false (by omega)
      subst e
      clear h ht s1 s2 c1 c2 m1 m2 hX
      go_enter Tryz.func89, Tryz.ntmps89
      go_wp2_with fail
      go_ret
      exact ⟨rfl, T⟩
set_option maxRecDepth 100000 in
set_option maxHeartbeats 1000000 in
theorem fitsN (p : Tri × Nat) {v : Value} {q : Rat} {w : World} (hx : FracT w v (can q)) (hp : Hid (fitQ q = p)) : Calls Tryz.prog 66 #[v] w (ResF w p) := by
  have hx0 := hx
  obtain ⟨an, n, cn, ad, d, cd, rfl, m1, m2⟩ := hx
  obtain ⟨T, hX, hB⟩ := start2 w (can q).1 an n cn ad d cd false none 0 0 none 0 0
  replace hx0 := hx0.mono T
  replace m1 := m1.mono T
  replace m2 := m2.mono T
  have hpe := hp.out
  unfold fitQ at hpe
  clear hp
  have hc0 := hX.c0
  have hc1 := hX.c1
  have hc2 := hX.c2
  by_cases c : pw 128 ≤ q.num.natAbs ∨ pw 128 ≤ q.den
  · rw [if_pos c] at hpe
    have FL : Hid (decide (pw 128 ≤ (can q).2.1 ∨ pw 128 ≤ (can q).2.2) = true) := Lib.hid (decide_eq_true c)
    subst hpe
    clear c
    go_enter Tryz.func66, Tryz.ntmps66
    go_wp2_with fail
    refine (refLargeF true hx0 FL).mono ?_
    rintro e w1 ⟨rfl, h1⟩
    replace hB := hB.mono h1
    replace T := Add.trans T h1
    clear h1 hc0 hc1 hc2 hX hx0 FL m1 m2
    have hc0 := hB.c0
    have hc1 := hB.c1
    have hc2 := hB.c2
    have hc3 := hB.fr 0
    have hc4 := hB.fr 1
    have hc5 := hB.fr 2
    have hF := resF_put (w := w) (p := ((false, 0, 0), 2)) hB (fracT_zero _) T (by omega)
    clear hB T 
    unfold put3 at hF
    have HF := Lib.hid hF
    clear hF
    go_wp2_with fail
    exact bodyPost_ret (v := .tuple #[.agg #[.bool false, .slice none 0 0, .slice none 0 0], .int .i64 2]) (by simp [results, Tryz.results66, go_sem, hc0, hc1, hc2]) rfl HF.out
  · rw [if_neg c] at hpe
    have FL : Hid (decide (pw 128 ≤ (can q).2.1 ∨ pw 128 ≤ (can q).2.2) = false) := Lib.hid (decide_eq_false c)
    subst hpe
    clear c
    go_enter Tryz.func66, Tryz.ntmps66
    go_wp2_with fail
    refine (refLargeF false hx0 FL).mono ?_
    rintro e w1 ⟨rfl, h1⟩
    replace hB := hB.mono h1
    replace hX := hX.mono h1
    replace m1 := m1.mono h1
    replace m2 := m2.mono h1
    replace T := Add.trans T h1
    clear h1 hc0 hc1 hc2 hx0 FL
    have ha0 := hX.c0
    have ha1 := hX.c1
    have ha2 := hX.c2
    have hc0 := hB.c0
    have hc1 := hB.c1
    have hc2 := hB.c2
    have hc3 := hB.fr 0
    have hc4 := hB.fr 1
    have hc5 := hB.fr 2
    have hF := resF_put (w := w) (p := (can q, 0)) hB (⟨an, n, cn, ad, d, cd, rfl, m1, m2⟩) T (by omega)
    clear hB T m1 m2 hX
    unfold put3 at hF
    have HF := Lib.hid hF
    clear hF
    go_wp2_with fail
    exact bodyPost_ret (v := .tuple #[.agg #[.bool (can q).1, .slice an n cn, .slice ad d cd], .int .i64 0]) (by simp [results, Tryz.results66, go_sem, hc0, hc1, hc2]) rfl HF.out

set_option maxRecDepth 100000 in
set_option maxHeartbeats 1000000 in
theorem refAdd2_refuses (p : Tri × Nat) {v v' : Value} {x y : Tri} {w : World} (hx : FracA w v x) (hy : FracA w v' y) (h : Hid (okF x = false ∨ okF y = false)) (hp : Hid (addF x y = p)) :
    Calls Tryz.prog 39 #[v, v'] w (ResF w p) := by
  have hx0 := hx
  have hy0 := hy
  obtain ⟨an, n, cn, ad, d, cd, rfl, uN, uD⟩ := hx
  obtain ⟨an', n', cn', ad', d', cd', rfl, uN', uD'⟩ := hy
  obtain ⟨T, hX, hY, hB⟩ := start3 w x.1 an n cn ad d cd y.1 an' n' cn' ad' d' cd' false none 0 0 none 0 0
  replace hx0 := hx0.mono T
  replace hy0 := hy0.mono T
  have hc0 := hX.c0
  have hc1 := hX.c1
  have hc2 := hX.c2
  have hd0 := hY.c0
  have hd1 := hY.c1
  have hd2 := hY.c2
  go_enter Tryz.func39, Tryz.ntmps39
  by_cases c : okF x = false
  · have FV := Lib.hid c
    have hpe := hp.out
    rw [addF_l c] at hpe
    subst hpe
    clear c h hp
    go_wp2_with fail
    refine (refValidN false hx0 FV).mono ?_
    rintro e w1 ⟨rfl, h1⟩
    replace hB := hB.mono h1
    replace T := Add.trans T h1
    clear h1 hc0 hc1 hc2 hd0 hd1 hd2 hX hY FV hx0 hy0 uN uD uN' uD'
    have hc0 := hB.c0
    have hc1 := hB.c1
    have hc2 := hB.c2
    have hc3 := hB.fr 0
    have hc4 := hB.fr 1
    have hc5 := hB.fr 2
    have hF := resF_put (w := w) (p := ((false, 0, 0), 1)) hB (fracT_zero _) T (by omega)
    clear hB T 
    unfold put3 at hF
    have HF := Lib.hid hF
    clear hF
    go_wp2_with fail
    exact bodyPost_ret (v := .tuple #[.agg #[.bool false, .slice none 0 0, .slice none 0 0], .int .i64 1]) (by simp [results, Tryz.results39, go_sem, hc0, hc1, hc2]) rfl HF.out
  · have c1 : okF x = true := by simpa using c
    have c2 : okF y = false := h.out.resolve_left c
    have FV := Lib.hid c1
    have FU := Lib.hid c2
    have hpe := hp.out
    rw [addF_r c2] at hpe
    subst hpe
    clear c c1 c2 h hp
    go_wp2_with fail
    refine (refValidN true hx0 FV).mono ?_
    rintro e w1 ⟨rfl, h1⟩
    replace hB := hB.mono h1
    replace hY := hY.mono h1
    replace hy0 := hy0.mono h1
    replace T := Add.trans T h1
    clear h1 hc0 hc1 hc2 hd0 hd1 hd2 hX FV uN uD uN' uD' hx0
    have hd0 := hY.c0
    have hd1 := hY.c1
    have hd2 := hY.c2
    go_wp2_with fail
    refine (refValidN false hy0 FU).mono ?_
    rintro e w2 ⟨rfl, h2⟩
    replace hB := hB.mono h2
    replace T := Add.trans T h2
    clear h2 hd0 hd1 hd2 hY FU hy0
    have hc0 := hB.c0
    have hc1 := hB.c1
    have hc2 := hB.c2
    have hc3 := hB.fr 0
    have hc4 := hB.fr 1
    have hc5 := hB.fr 2
    have hF := resF_put (w := w) (p := ((false, 0, 0), 1)) hB (fracT_zero _) T (by omega)
    clear hB T 
    unfold put3 at hF
    have HF := Lib.hid hF
    clear hF
    go_wp2_with fail
    exact bodyPost_ret (v := .tuple #[.agg #[.bool false, .slice none 0 0, .slice none 0 0], .int .i64 1]) (by simp [results, Tryz.results39, go_sem, hc0, hc1, hc2]) rfl HF.out

set_option maxRecDepth 100000 in
set_option maxHeartbeats 1000000 in
theorem refMul2_refuses (p : Tri × Nat) {v v' : Value} {x y : Tri} {w : World} (hx : FracA w v x) (hy : FracA w v' y) (h : Hid (okF x = false ∨ okF y = false)) (hp : Hid (mulF x y = p)) :
    Calls Tryz.prog 35 #[v, v'] w (ResF w p) := by
  have hx0 := hx
  have hy0 := hy
  obtain ⟨an, n, cn, ad, d, cd, rfl, uN, uD⟩ := hx
  obtain ⟨an', n', cn', ad', d', cd', rfl, uN', uD'⟩ := hy
  obtain ⟨T, hX, hY, hB⟩ := start3 w x.1 an n cn ad d cd y.1 an' n' cn' ad' d' cd' false none 0 0 none 0 0
  replace hx0 := hx0.mono T
  replace hy0 := hy0.mono T
  have hc0 := hX.c0
  have hc1 := hX.c1
  have hc2 := hX.c2
  have hd0 := hY.c0
  have hd1 := hY.c1
  have hd2 := hY.c2
  go_enter Tryz.func35, Tryz.ntmps35
  by_cases c : okF x = false
  · have FV := Lib.hid c
    have hpe := hp.out
    rw [mulF_l c] at hpe
    subst hpe
    clear c h hp
    go_wp2_with fail
    refine (refValidN false hx0 FV).mono ?_
    rintro e w1 ⟨rfl, h1⟩
    replace hB := hB.mono h1
    replace T := Add.trans T h1
    clear h1 hc0 hc1 hc2 hd0 hd1 hd2 hX hY FV hx0 hy0 uN uD uN' uD'
    have hc0 := hB.c0
    have hc1 := hB.c1
    have hc2 := hB.c2
    have hc3 := hB.fr 0
    have hc4 := hB.fr 1
    have hc5 := hB.fr 2
    have hF := resF_put (w := w) (p := ((false, 0, 0), 1)) hB (fracT_zero _) T (by omega)
    clear hB T 
    unfold put3 at hF
    have HF := Lib.hid hF
    clear hF
    go_wp2_with fail
    exact bodyPost_ret (v := .tuple #[.agg #[.bool false, .slice none 0 0, .slice none 0 0], .int .i64 1]) (by simp [results, Tryz.results35, go_sem, hc0, hc1, hc2]) rfl HF.out
  · have c1 : okF x = true := by simpa using c
    have c2 : okF y = false := h.out.resolve_left c
    have FV := Lib.hid c1
    have FU := Lib.hid c2
    have hpe := hp.out
    rw [mulF_r c2] at hpe
    subst hpe
    clear c c1 c2 h hp
    go_wp2_with fail
    refine (refValidN true hx0 FV).mono ?_
    rintro e w1 ⟨rfl, h1⟩
    replace hB := hB.mono h1
    replace hY := hY.mono h1
    replace hy0 := hy0.mono h1
    replace T := Add.trans T h1
    clear h1 hc0 hc1 hc2 hd0 hd1 hd2 hX FV uN uD uN' uD' hx0
    have hd0 := hY.c0
    have hd1 := hY.c1
    have hd2 := hY.c2
    go_wp2_with fail
    refine (refValidN false hy0 FU).mono ?_
    rintro e w2 ⟨rfl, h2⟩
    replace hB := hB.mono h2
    replace T := Add.trans T h2
    clear h2 hd0 hd1 hd2 hY FU hy0
    have hc0 := hB.c0
    have hc1 := hB.c1
    have hc2 := hB.c2
    have hc3 := hB.fr 0
    have hc4 := hB.fr 1
    have hc5 := hB.fr 2
    have hF := resF_put (w := w) (p := ((false, 0, 0), 1)) hB (fracT_zero _) T (by omega)
    clear hB T 
    unfold put3 at hF
    have HF := Lib.hid hF
    clear hF
    go_wp2_with fail
    exact bodyPost_ret (v := .tuple #[.agg #[.bool false, .slice none 0 0, .slice none 0 0], .int .i64 1]) (by simp [results, Tryz.results35, go_sem, hc0, hc1, hc2]) rfl HF.out

set_option maxRecDepth 100000 in
set_option maxHeartbeats 1000000 in
theorem refQuo2_refuses (p : Tri × Nat) {v v' : Value} {x y : Tri} {w : World} (hx : FracA w v x) (hy : FracA w v' y) (h : Hid (okF x = false ∨ okF y = false)) (hp : Hid (quoF x y = p)) :
    Calls Tryz.prog 79 #[v, v'] w (ResF w p) := by
  have hx0 := hx
  have hy0 := hy
  obtain ⟨an, n, cn, ad, d, cd, rfl, uN, uD⟩ := hx
  obtain ⟨an', n', cn', ad', d', cd', rfl, uN', uD'⟩ := hy
  obtain ⟨T, hX, hY, hB⟩ := start3 w x.1 an n cn ad d cd y.1 an' n' cn' ad' d' cd' false none 0 0 none 0 0
  replace hx0 := hx0.mono T
  replace hy0 := hy0.mono T
  have hc0 := hX.c0
  have hc1 := hX.c1
  have hc2 := hX.c2
  have hd0 := hY.c0
  have hd1 := hY.c1
  have hd2 := hY.c2
  go_enter Tryz.func79, Tryz.ntmps79
  by_cases c : okF x = false
  · have FV := Lib.hid c
    have hpe := hp.out
    rw [quoF_l c] at hpe
    subst hpe
    clear c h hp
    go_wp2_with fail
    refine (refValidN false hx0 FV).mono ?_
    rintro e w1 ⟨rfl, h1⟩
    replace hB := hB.mono h1
    replace T := Add.trans T h1
    clear h1 hc0 hc1 hc2 hd0 hd1 hd2 hX hY FV hx0 hy0 uN uD uN' uD'
    have hc0 := hB.c0
    have hc1 := hB.c1
    have hc2 := hB.c2
    have hc3 := hB.fr 0
    have hc4 := hB.fr 1
    have hc5 := hB.fr 2
    have hF := resF_put (w := w) (p := ((false, 0, 0), 1)) hB (fracT_zero _) T (by omega)
    clear hB T 
    unfold put3 at hF
    have HF := Lib.hid hF
    clear hF
    go_wp2_with fail
    exact bodyPost_ret (v := .tuple #[.agg #[.bool false, .slice none 0 0, .slice none 0 0], .int .i64 1]) (by simp [results, Tryz.results79, go_sem, hc0, hc1, hc2]) rfl HF.out
  · have c1 : okF x = true := by simpa using c
    have c2 : okF y = false := h.out.resolve_left c
    have FV := Lib.hid c1
    have FU := Lib.hid c2
    have hpe := hp.out
    rw [quoF_r c2] at hpe
    subst hpe
    clear c c1 c2 h hp
    go_wp2_with fail
    refine (refValidN true hx0 FV).mono ?_
    rintro e w1 ⟨rfl, h1⟩
    replace hB := hB.mono h1
    replace hY := hY.mono h1
    replace hy0 := hy0.mono h1
    replace T := Add.trans T h1
    clear h1 hc0 hc1 hc2 hd0 hd1 hd2 hX FV uN uD uN' uD' hx0
    have hd0 := hY.c0
    have hd1 := hY.c1
    have hd2 := hY.c2
    go_wp2_with fail
    refine (refValidN false hy0 FU).mono ?_
    rintro e w2 ⟨rfl, h2⟩
    replace hB := hB.mono h2
    replace T := Add.trans T h2
    clear h2 hd0 hd1 hd2 hY FU hy0
    have hc0 := hB.c0
    have hc1 := hB.c1
    have hc2 := hB.c2
    have hc3 := hB.fr 0
    have hc4 := hB.fr 1
    have hc5 := hB.fr 2
    have hF := resF_put (w := w) (p := ((false, 0, 0), 1)) hB (fracT_zero _) T (by omega)
    clear hB T 
    unfold put3 at hF
    have HF := Lib.hid hF
    clear hF
    go_wp2_with fail
    exact bodyPost_ret (v := .tuple #[.agg #[.bool false, .slice none 0 0, .slice none 0 0], .int .i64 1]) (by simp [results, Tryz.results79, go_sem, hc0, hc1, hc2]) rfl HF.out


set_option maxRecDepth 100000 in
set_option maxHeartbeats 2000000 in
theorem refMul2_works (p : Tri × Nat) {v v' : Value} {x y : Tri} {w : World} (hx : FracA w v x) (hy : FracA w v' y) (h : Hid (okF x = true ∧ okF y = true)) (hp : Hid (mulF x y = p)) :
    Calls Tryz.prog 35 #[v, v'] w (ResF w p) := by
  have hx0 := hx
  have hy0 := hy
  obtain ⟨an, n, cn, ad, d, cd, rfl, uN, uD⟩ := hx
  obtain ⟨an', n', cn', ad', d', cd', rfl, uN', uD'⟩ := hy
  obtain ⟨T, hX, hY, hB⟩ := start3 w x.1 an n cn ad d cd y.1 an' n' cn' ad' d' cd' false none 0 0 none 0 0
  replace hx0 := hx0.mono T
  replace hy0 := hy0.mono T
  have hc0 := hX.c0
  have hc1 := hX.c1
  have hc2 := hX.c2
  have hd0 := hY.c0
  have hd1 := hY.c1
  have hd2 := hY.c2
  replace uN := uN.mono T
  replace uD := uD.mono T
  replace uN' := uN'.mono T
  replace uD' := uD'.mono T
  obtain ⟨x1, x2, x3⟩ := okF_iff.1 h.out.1
  obtain ⟨y1, y2, y3⟩ := okF_iff.1 h.out.2
  have FV := Lib.hid h.out.1
  have FU := Lib.hid h.out.2
  have m1 : x.2.1 * y.2.1 < pw 256 := lt_mul (i := 128) (j := 128) x2 y2
  have m2 : x.2.2 * y.2.2 < pw 256 := lt_mul (i := 128) (j := 128) x3 y3
  have FM1 : Hid (x.2.1 < pw 512 ∧ y.2.1 < pw 512 ∧ x.2.1 * y.2.1 < pw 512) := Lib.hid ⟨lt_up x2 (by decide), lt_up y2 (by decide), lt_up m1 (by decide)⟩
  have FM2 : Hid (x.2.2 < pw 512 ∧ y.2.2 < pw 512 ∧ x.2.2 * y.2.2 < pw 512) := Lib.hid ⟨lt_up x3 (by decide), lt_up y3 (by decide), lt_up m2 (by decide)⟩
  have hE : x.2.2 * y.2.2 ≠ 0 := Nat.mul_ne_zero x1 y1
  have hpe : fitQ (frac (!(x.1 == y.1)) (x.2.1 * y.2.1) (x.2.2 * y.2.2)) = p := (mulF_ok FV.out FU.out).trans hp.out
  obtain ⟨qq, hqq⟩ : ∃ qq, frac (!(x.1 == y.1)) (x.2.1 * y.2.1) (x.2.2 * y.2.2) = qq := ⟨_, rfl⟩
  clear x1 x2 x3 y1 y2 y3 h
  have HM := Lib.hid (And.intro m1 (And.intro m2 (And.intro hE (And.intro hpe hqq))))
  clear m1 m2 hE hpe hqq
  go_enter Tryz.func35, Tryz.ntmps35
  go_wp2_with fail
  refine (refValidN true hx0 FV).mono ?_
  rintro e w1 ⟨rfl, h1⟩
  replace hB := hB.mono h1
  replace hX := hX.mono h1
  replace hY := hY.mono h1
  replace hx0 := hx0.mono h1
  replace hy0 := hy0.mono h1
  replace uN := uN.mono h1
  replace uD := uD.mono h1
  replace uN' := uN'.mono h1
  replace uD' := uD'.mono h1
  replace T := Add.trans T h1
  clear h1 hc0 hc1 hc2 hd0 hd1 hd2
  have hd0 := hY.c0
  have hd1 := hY.c1
  have hd2 := hY.c2
  go_wp2_with fail
  refine (refValidN true hy0 FU).mono ?_
  rintro e w2 ⟨rfl, h2⟩
  replace hB := hB.mono h2
  replace hX := hX.mono h2
  replace hY := hY.mono h2
  replace uN := uN.mono h2
  replace uD := uD.mono h2
  replace uN' := uN'.mono h2
  replace uD' := uD'.mono h2
  replace T := Add.trans T h2
  clear h2 hd0 hd1 hd2 hx0 hy0
  obtain ⟨m1, m2, hE, hpe, hqq⟩ := HM.out
  clear HM
  have K0 : Hid (∀ w', Add w2 w' → w'.cell? ⟨w.heap.size, 0, none⟩ = some (.bool x.1) ∧ w'.cell? ⟨w.heap.size, 1, none⟩ = some (.slice an n cn) ∧ w'.cell? ⟨w.heap.size, 2, none⟩ = some (.slice ad d cd) ∧ w'.cell? ⟨w.heap.size + 1, 0, none⟩ = some (.bool y.1) ∧ w'.cell? ⟨w.heap.size + 1, 1, none⟩ = some (.slice an' n' cn') ∧ w'.cell? ⟨w.heap.size + 1, 2, none⟩ = some (.slice ad' d' cd')) := Lib.hid fun w' a => ⟨(hX.mono a).c0, (hX.mono a).c1, (hX.mono a).c2, (hY.mono a).c0, (hY.mono a).c1, (hY.mono a).c2⟩
  have C1 : Hid (∀ w', Add w2 w' → Calls Tryz.prog 68 #[.slice an n cn, .slice an' n' cn'] w' (NumP w' (x.2.1 * y.2.1))) := Lib.hid fun w' a => refTimesF (uN.mono a) (uN'.mono a) FM1
  have C2 : Hid (∀ w', Add w2 w' → Calls Tryz.prog 68 #[.slice ad d cd, .slice ad' d' cd'] w' (NumP w' (x.2.2 * y.2.2))) := Lib.hid fun w' a => refTimesF (uD.mono a) (uD'.mono a) FM2
  have C3 : Hid (∀ w', Add w2 w' → ∀ v1 v2, Num w' v1 (x.2.1 * y.2.1) → Num w' v2 (x.2.2 * y.2.2) → Calls Tryz.prog 67 #[.bool (!(x.1 == y.1)), v1, v2] w' (RetF w' (can qq))) := Lib.hid fun w' a v1 v2 n1 n2 => refLowestN _ (num_nv n1 (lt_up m1 (by decide))) (num_nv n2 (lt_up m2 (by decide))) (Lib.hid ⟨hE, lt_up m1 (by decide), lt_up m2 (by decide), by rw [hqq]⟩)
  have C4 : Hid (∀ w' v0, FracT w' v0 (can qq) → Calls Tryz.prog 66 #[v0] w' (ResF w' p)) := Lib.hid fun w' v0 f0 => fitsN p f0 (Lib.hid (by rw [← hqq]; exact hpe))
  have hc0 := hX.c0
  have hc1 := hX.c1
  have hc2 := hX.c2
  have hd0 := hY.c0
  have hd1 := hY.c1
  have hd2 := hY.c2
  clear hX hY uN uD uN' uD' m1 m2 hE hpe hqq FM1 FM2 hp FV FU
  go_wp2_with fail
  go_region_held3 (fun w' => w'.cell? ⟨w.heap.size, 0, none⟩ = some (.bool x.1) ∧ w'.cell? ⟨w.heap.size, 1, none⟩ = some (.slice an n cn) ∧ w'.cell? ⟨w.heap.size, 2, none⟩ = some (.slice ad d cd) ∧ w'.cell? ⟨w.heap.size + 1, 0, none⟩ = some (.bool y.1) ∧ w'.cell? ⟨w.heap.size + 1, 1, none⟩ = some (.slice an' n' cn') ∧ w'.cell? ⟨w.heap.size + 1, 2, none⟩ = some (.slice ad' d' cd'))
    (first | exact K0.out _ (Below.drew (Below.refl _ _)) | exact K0.out _ a2 | exact K0.out _ a3 | exact K0.out _ a4 | exact K0.out _ a5 | exact ⟨(put3_cell (g := w.heap.size + 2) _ _ _ (by omega)).trans (K0.out _ a5 |>.1), (put3_cell (g := w.heap.size + 2) _ _ _ (by omega)).trans (K0.out _ a5 |>.2.1), (put3_cell (g := w.heap.size + 2) _ _ _ (by omega)).trans (K0.out _ a5 |>.2.2.1), (put3_cell (g := w.heap.size + 2) _ _ _ (by omega)).trans (K0.out _ a5 |>.2.2.2.1), (put3_cell (g := w.heap.size + 2) _ _ _ (by omega)).trans (K0.out _ a5 |>.2.2.2.2.1), (put3_cell (g := w.heap.size + 2) _ _ _ (by omega)).trans (K0.out _ a5 |>.2.2.2.2.2)⟩ | go_keep)
    (first | (go_at_call 68; ((with_reducible refine (C1.out _ (Below.drew (Below.refl _ _))).mono ?_); rintro e w7 ⟨v1, rfl, n1, hq1⟩; have a2 := Add.trans (Below.drew (Below.refl _ _) : Add w2 (World.drew w2)) hq1))
           | (go_at_call 68; ((with_reducible refine (C2.out _ a2).mono ?_); rintro e w8 ⟨v2, rfl, n2, hq2⟩; have a3 := Add.trans a2 hq2; have n1' := n1.mono hq2))
           | (go_at_call 67; ((with_reducible refine (C3.out _ a3 _ _ n1' n2).mono ?_); rintro e w9 ⟨v0, rfl, f0, hq3⟩; have a4 := Add.trans a3 hq3))
           | (go_at_call 66; ((with_reducible refine (C4.out _ _ f0).mono ?_); rintro e w10 ⟨vr, rfl, nr, hq4⟩; have a5 := Add.trans a4 hq4; obtain ⟨an2, n2, cn2, ad2, d2, cd2, rfl, m1, m2⟩ := nr; have hB3 := hB.mono a5; have s0 := hB3.c0; have s1 := hB3.c1; have s2 := hB3.c2; have s3 := hB3.fr 0; have s4 := hB3.fr 1; have s5 := hB3.fr 2)))
  have hF := resF_put (w := w) (p := p) hB3 ⟨an2, n2, cn2, ad2, d2, cd2, rfl, m1, m2⟩ (Add.trans T a5) (by omega)
  unfold put3 at hF
  have HF := Lib.hid hF
  clear hF m1 m2
  go_wp2_with fail
  exact bodyPost_ret (v := .tuple #[.agg #[.bool p.1.1, .slice an2 n2 cn2, .slice ad2 d2 cd2], .int .i64 (p.2 : Nat)]) (by simp [results, Tryz.results35, go_sem, s0, s1, s2]) rfl HF.out

set_option maxRecDepth 100000 in
set_option maxHeartbeats 2000000 in
theorem refQuo2_zero (p : Tri × Nat) {v v' : Value} {x y : Tri} {w : World} (hx : FracA w v x) (hy : FracA w v' y) (h : Hid (okF x = true ∧ okF y = true)) (h0 : Hid (y.2.1 = 0)) (hp : Hid (quoF x y = p)) :
    Calls Tryz.prog 79 #[v, v'] w (ResF w p) := by
  have hx0 := hx
  have hy0 := hy
  obtain ⟨an, n, cn, ad, d, cd, rfl, uN, uD⟩ := hx
  obtain ⟨an', n', cn', ad', d', cd', rfl, uN', uD'⟩ := hy
  obtain ⟨T, hX, hY, hB⟩ := start3 w x.1 an n cn ad d cd y.1 an' n' cn' ad' d' cd' false none 0 0 none 0 0
  replace hx0 := hx0.mono T
  replace hy0 := hy0.mono T
  have hc0 := hX.c0
  have hc1 := hX.c1
  have hc2 := hX.c2
  have hd0 := hY.c0
  have hd1 := hY.c1
  have hd2 := hY.c2
  replace uN := uN.mono T
  replace uD := uD.mono T
  replace uN' := uN'.mono T
  replace uD' := uD'.mono T
  obtain ⟨x1, x2, x3⟩ := okF_iff.1 h.out.1
  obtain ⟨y1, y2, y3⟩ := okF_iff.1 h.out.2
  have FV := Lib.hid h.out.1
  have FU := Lib.hid h.out.2
  have hpe := (quoF_zero FV.out FU.out h0.out).symm.trans hp.out
  subst hpe
  clear x1 x2 x3 y1 y2 y3 h hp
  go_enter Tryz.func79, Tryz.ntmps79
  go_wp2_with fail
  refine (refValidN true hx0 FV).mono ?_
  rintro e w1 ⟨rfl, h1⟩
  replace hB := hB.mono h1
  replace hX := hX.mono h1
  replace hY := hY.mono h1
  replace hx0 := hx0.mono h1
  replace hy0 := hy0.mono h1
  replace uN := uN.mono h1
  replace uD := uD.mono h1
  replace uN' := uN'.mono h1
  replace uD' := uD'.mono h1
  replace T := Add.trans T h1
  clear h1 hc0 hc1 hc2 hd0 hd1 hd2
  have hd0 := hY.c0
  have hd1 := hY.c1
  have hd2 := hY.c2
  go_wp2_with fail
  refine (refValidN true hy0 FU).mono ?_
  rintro e w2 ⟨rfl, h2⟩
  replace hB := hB.mono h2
  replace hX := hX.mono h2
  replace hY := hY.mono h2
  replace uN := uN.mono h2
  replace uD := uD.mono h2
  replace uN' := uN'.mono h2
  replace uD' := uD'.mono h2
  replace T := Add.trans T h2
  clear h2 hd0 hd1 hd2 hx0 hy0
  have hd0 := hY.c0
  have hd1 := hY.c1
  have hd2 := hY.c2
  go_wp2_with fail
  refine (refTrimX uN').mono ?_
  rintro e w3 ⟨v3, rfl, n3, h3⟩
  replace hB := hB.mono h3
  replace T := Add.trans T h3
  clear h3 hd0 hd1 hd2 hX hY uN uD uN' uD' FV FU
  rw [h0.out] at n3
  obtain ⟨ao, c3, rfl⟩ := num_len0 n3
  clear n3 h0
  have hc0 := hB.c0
  have hc1 := hB.c1
  have hc2 := hB.c2
  have hc3 := hB.fr 0
  have hc4 := hB.fr 1
  have hc5 := hB.fr 2
  have hF := resF_put (w := w) (p := ((false, 0, 0), 3)) hB (fracT_zero _) T (by omega)
  clear hB T 
  unfold put3 at hF
  have HF := Lib.hid hF
  clear hF
  go_wp2_with fail
  exact bodyPost_ret (v := .tuple #[.agg #[.bool false, .slice none 0 0, .slice none 0 0], .int .i64 3]) (by simp [results, Tryz.results79, go_sem, hc0, hc1, hc2]) rfl HF.out


set_option maxRecDepth 100000 in
set_option maxHeartbeats 2000000 in
theorem refQuo2_works (p : Tri × Nat) {v v' : Value} {x y : Tri} {w : World} (hx : FracA w v x) (hy : FracA w v' y) (h : Hid (okF x = true ∧ okF y = true)) (h0 : Hid (y.2.1 ≠ 0)) (hp : Hid (quoF x y = p)) :
    Calls Tryz.prog 79 #[v, v'] w (ResF w p) := by
  have hx0 := hx
  have hy0 := hy
  obtain ⟨an, n, cn, ad, d, cd, rfl, uN, uD⟩ := hx
  obtain ⟨an', n', cn', ad', d', cd', rfl, uN', uD'⟩ := hy
  obtain ⟨T, hX, hY, hB⟩ := start3 w x.1 an n cn ad d cd y.1 an' n' cn' ad' d' cd' false none 0 0 none 0 0
  replace hx0 := hx0.mono T
  replace hy0 := hy0.mono T
  have hc0 := hX.c0
  have hc1 := hX.c1
  have hc2 := hX.c2
  have hd0 := hY.c0
  have hd1 := hY.c1
  have hd2 := hY.c2
  replace uN := uN.mono T
  replace uD := uD.mono T
  replace uN' := uN'.mono T
  replace uD' := uD'.mono T
  obtain ⟨x1, x2, x3⟩ := okF_iff.1 h.out.1
  obtain ⟨y1, y2, y3⟩ := okF_iff.1 h.out.2
  have FV := Lib.hid h.out.1
  have FU := Lib.hid h.out.2
  have m1 : x.2.1 * y.2.2 < pw 256 := lt_mul (i := 128) (j := 128) x2 y3
  have m2 : x.2.2 * y.2.1 < pw 256 := lt_mul (i := 128) (j := 128) x3 y2
  have FM1 : Hid (x.2.1 < pw 512 ∧ y.2.2 < pw 512 ∧ x.2.1 * y.2.2 < pw 512) := Lib.hid ⟨lt_up x2 (by decide), lt_up y3 (by decide), lt_up m1 (by decide)⟩
  have FM2 : Hid (x.2.2 < pw 512 ∧ y.2.1 < pw 512 ∧ x.2.2 * y.2.1 < pw 512) := Lib.hid ⟨lt_up x3 (by decide), lt_up y2 (by decide), lt_up m2 (by decide)⟩
  have hE : x.2.2 * y.2.1 ≠ 0 := Nat.mul_ne_zero x1 h0.out
  have hpe : fitQ (frac (!(x.1 == y.1)) (x.2.1 * y.2.2) (x.2.2 * y.2.1)) = p := (quoF_ok FV.out FU.out h0.out).trans hp.out
  obtain ⟨qq, hqq⟩ : ∃ qq, frac (!(x.1 == y.1)) (x.2.1 * y.2.2) (x.2.2 * y.2.1) = qq := ⟨_, rfl⟩
  have LY := Lib.hid y2
  clear x1 x2 x3 y1 y2 y3 h
  have HM := Lib.hid (And.intro m1 (And.intro m2 (And.intro hE (And.intro hpe hqq))))
  clear m1 m2 hE hpe hqq
  go_enter Tryz.func79, Tryz.ntmps79
  go_wp2_with fail
  refine (refValidN true hx0 FV).mono ?_
  rintro e w1 ⟨rfl, h1⟩
  replace hB := hB.mono h1
  replace hX := hX.mono h1
  replace hY := hY.mono h1
  replace hx0 := hx0.mono h1
  replace hy0 := hy0.mono h1
  replace uN := uN.mono h1
  replace uD := uD.mono h1
  replace uN' := uN'.mono h1
  replace uD' := uD'.mono h1
  replace T := Add.trans T h1
  clear h1 hc0 hc1 hc2 hd0 hd1 hd2
  have hd0 := hY.c0
  have hd1 := hY.c1
  have hd2 := hY.c2
  go_wp2_with fail
  refine (refValidN true hy0 FU).mono ?_
  rintro e w2 ⟨rfl, h2⟩
  replace hB := hB.mono h2
  replace hX := hX.mono h2
  replace hY := hY.mono h2
  replace uN := uN.mono h2
  replace uD := uD.mono h2
  replace uN' := uN'.mono h2
  replace uD' := uD'.mono h2
  replace T := Add.trans T h2
  clear h2 hd0 hd1 hd2 hx0 hy0
  have hd0 := hY.c0
  have hd1 := hY.c1
  have hd2 := hY.c2
  go_wp2_with fail
  refine (refTrimX uN').mono ?_
  rintro e w3 ⟨v3, rfl, n3, h3⟩
  replace hB := hB.mono h3
  replace hX := hX.mono h3
  replace hY := hY.mono h3
  replace uN := uN.mono h3
  replace uD := uD.mono h3
  replace uN' := uN'.mono h3
  replace uD' := uD'.mono h3
  replace T := Add.trans T h3
  clear h3 hd0 hd1 hd2
  obtain ⟨ao, m3, c3, rfl, -, hm3⟩ := num_shape n3 (lt_up LY.out (by decide) : y.2.1 < pw 512)
  have d3 : ((m3 : Int) == 0) = false := by
    have := mt hm3.1 h0.out
    simp; omega
  clear n3 hm3 h0 LY
  obtain ⟨m1, m2, hE, hpe, hqq⟩ := HM.out
  clear HM
  have K0 : Hid (∀ w', Add w3 w' → w'.cell? ⟨w.heap.size, 0, none⟩ = some (.bool x.1) ∧ w'.cell? ⟨w.heap.size, 1, none⟩ = some (.slice an n cn) ∧ w'.cell? ⟨w.heap.size, 2, none⟩ = some (.slice ad d cd) ∧ w'.cell? ⟨w.heap.size + 1, 0, none⟩ = some (.bool y.1) ∧ w'.cell? ⟨w.heap.size + 1, 1, none⟩ = some (.slice an' n' cn') ∧ w'.cell? ⟨w.heap.size + 1, 2, none⟩ = some (.slice ad' d' cd')) := Lib.hid fun w' a => ⟨(hX.mono a).c0, (hX.mono a).c1, (hX.mono a).c2, (hY.mono a).c0, (hY.mono a).c1, (hY.mono a).c2⟩
  have C1 : Hid (∀ w', Add w3 w' → Calls Tryz.prog 68 #[.slice an n cn, .slice ad' d' cd'] w' (NumP w' (x.2.1 * y.2.2))) := Lib.hid fun w' a => refTimesF (uN.mono a) (uD'.mono a) FM1
  have C2 : Hid (∀ w', Add w3 w' → Calls Tryz.prog 68 #[.slice ad d cd, .slice an' n' cn'] w' (NumP w' (x.2.2 * y.2.1))) := Lib.hid fun w' a => refTimesF (uD.mono a) (uN'.mono a) FM2
  have C3 : Hid (∀ w', Add w3 w' → ∀ v1 v2, Num w' v1 (x.2.1 * y.2.2) → Num w' v2 (x.2.2 * y.2.1) → Calls Tryz.prog 67 #[.bool (!(x.1 == y.1)), v1, v2] w' (RetF w' (can qq))) := Lib.hid fun w' a v1 v2 n1 n2 => refLowestN _ (num_nv n1 (lt_up m1 (by decide))) (num_nv n2 (lt_up m2 (by decide))) (Lib.hid ⟨hE, lt_up m1 (by decide), lt_up m2 (by decide), by rw [hqq]⟩)
  have C4 : Hid (∀ w' v0, FracT w' v0 (can qq) → Calls Tryz.prog 66 #[v0] w' (ResF w' p)) := Lib.hid fun w' v0 f0 => fitsN p f0 (Lib.hid (by rw [← hqq]; exact hpe))
  have hc0 := hX.c0
  have hc1 := hX.c1
  have hc2 := hX.c2
  have hd0 := hY.c0
  have hd1 := hY.c1
  have hd2 := hY.c2
  clear hX hY uN uD uN' uD' m1 m2 hE hpe hqq FM1 FM2 hp FV FU
  go_wp2_with fail
  go_region_held3 (fun w' => w'.cell? ⟨w.heap.size, 0, none⟩ = some (.bool x.1) ∧ w'.cell? ⟨w.heap.size, 1, none⟩ = some (.slice an n cn) ∧ w'.cell? ⟨w.heap.size, 2, none⟩ = some (.slice ad d cd) ∧ w'.cell? ⟨w.heap.size + 1, 0, none⟩ = some (.bool y.1) ∧ w'.cell? ⟨w.heap.size + 1, 1, none⟩ = some (.slice an' n' cn') ∧ w'.cell? ⟨w.heap.size + 1, 2, none⟩ = some (.slice ad' d' cd'))
    (first | exact K0.out _ (Below.drew (Below.refl _ _)) | exact K0.out _ a2 | exact K0.out _ a3 | exact K0.out _ a4 | exact K0.out _ a5 | exact ⟨(put3_cell (g := w.heap.size + 2) _ _ _ (by omega)).trans (K0.out _ a5 |>.1), (put3_cell (g := w.heap.size + 2) _ _ _ (by omega)).trans (K0.out _ a5 |>.2.1), (put3_cell (g := w.heap.size + 2) _ _ _ (by omega)).trans (K0.out _ a5 |>.2.2.1), (put3_cell (g := w.heap.size + 2) _ _ _ (by omega)).trans (K0.out _ a5 |>.2.2.2.1), (put3_cell (g := w.heap.size + 2) _ _ _ (by omega)).trans (K0.out _ a5 |>.2.2.2.2.1), (put3_cell (g := w.heap.size + 2) _ _ _ (by omega)).trans (K0.out _ a5 |>.2.2.2.2.2)⟩ | go_keep)
    (first | (go_at_call 68; ((with_reducible refine (C1.out _ (Below.drew (Below.refl _ _))).mono ?_); rintro e w7 ⟨v1, rfl, n1, hq1⟩; have a2 := Add.trans (Below.drew (Below.refl _ _) : Add w3 (World.drew w3)) hq1))
           | (go_at_call 68; ((with_reducible refine (C2.out _ a2).mono ?_); rintro e w8 ⟨v2, rfl, n2, hq2⟩; have a3 := Add.trans a2 hq2; have n1' := n1.mono hq2))
           | (go_at_call 67; ((with_reducible refine (C3.out _ a3 _ _ n1' n2).mono ?_); rintro e w9 ⟨v0, rfl, f0, hq3⟩; have a4 := Add.trans a3 hq3))
           | (go_at_call 66; ((with_reducible refine (C4.out _ _ f0).mono ?_); rintro e w10 ⟨vr, rfl, nr, hq4⟩; have a5 := Add.trans a4 hq4; obtain ⟨an2, n2, cn2, ad2, d2, cd2, rfl, m1, m2⟩ := nr; have hB3 := hB.mono a5; have s0 := hB3.c0; have s1 := hB3.c1; have s2 := hB3.c2; have s3 := hB3.fr 0; have s4 := hB3.fr 1; have s5 := hB3.fr 2)))
  have hF := resF_put (w := w) (p := p) hB3 ⟨an2, n2, cn2, ad2, d2, cd2, rfl, m1, m2⟩ (Add.trans T a5) (by omega)
  unfold put3 at hF
  have HF := Lib.hid hF
  clear hF m1 m2
  go_wp2_with fail
  exact bodyPost_ret (v := .tuple #[.agg #[.bool p.1.1, .slice an2 n2 cn2, .slice ad2 d2 cd2], .int .i64 (p.2 : Nat)]) (by simp [results, Tryz.results79, go_sem, s0, s1, s2]) rfl HF.out

theorem refMulN2 (p : Tri × Nat) {v v' : Value} {x y : Tri} {w : World} (hx : FracA w v x) (hy : FracA w v' y) (hp : Hid (mulF x y = p)) : Calls Tryz.prog 35 #[v, v'] w (ResF w p) := by
  rcases both_or x y with h | h
  · exact refMul2_works p hx hy (Lib.hid h) hp
  · exact refMul2_refuses p hx hy (Lib.hid h) hp
theorem refQuoN2 (p : Tri × Nat) {v v' : Value} {x y : Tri} {w : World} (hx : FracA w v x) (hy : FracA w v' y) (hp : Hid (quoF x y = p)) : Calls Tryz.prog 79 #[v, v'] w (ResF w p) := by
  rcases both_or x y with h | h
  · by_cases h0 : y.2.1 = 0
    · exact refQuo2_zero p hx hy (Lib.hid h) (Lib.hid h0) hp
    · exact refQuo2_works p hx hy (Lib.hid h) (Lib.hid h0) hp
  · exact refQuo2_refuses p hx hy (Lib.hid h) hp
end Go.Proofs.YtbeoeackahmpbaaGreatDoor

namespace Go.Proofs.YtbeoeackahmpbaaGreatDoor
open Go.RowKit NatM Go.Proofs.YtbeoeackahmpbaaGreatDoor.Api

theorem addF_parts {x y : Tri} (hx : okF x = true) (hy : okF y = true) : qv x = frac x.1 (x.2.1 * y.2.2) (x.2.2 * y.2.2) ∧ qv y = frac y.1 (y.2.1 * x.2.2) (x.2.2 * y.2.2) ∧ x.2.2 * y.2.2 ≠ 0 := by
  obtain ⟨x1, -, -⟩ := okF_iff.1 hx
  obtain ⟨y1, -, -⟩ := okF_iff.1 hy
  exact ⟨by unfold qv; rw [frac_scale y1], by unfold qv; rw [Nat.mul_comm x.2.2 y.2.2, frac_scale x1], Nat.mul_ne_zero x1 y1⟩
set_option maxRecDepth 100000 in
set_option maxHeartbeats 4000000 in
theorem refAdd2_works (p : Tri × Nat) {v v' : Value} {x y : Tri} {w : World} (hx : FracA w v x) (hy : FracA w v' y) (h : Hid (okF x = true ∧ okF y = true)) (hp : Hid (addF x y = p)) :
    Calls Tryz.prog 39 #[v, v'] w (ResF w p) := by
  have hx0 := hx
  have hy0 := hy
  obtain ⟨an, n, cn, ad, d, cd, rfl, uN, uD⟩ := hx
  obtain ⟨an', n', cn', ad', d', cd', rfl, uN', uD'⟩ := hy
  obtain ⟨T, hX, hY, hB⟩ := start3 w x.1 an n cn ad d cd y.1 an' n' cn' ad' d' cd' false none 0 0 none 0 0
  replace hx0 := hx0.mono T
  replace hy0 := hy0.mono T
  have hc0 := hX.c0
  have hc1 := hX.c1
  have hc2 := hX.c2
  have hd0 := hY.c0
  have hd1 := hY.c1
  have hd2 := hY.c2
  replace uN := uN.mono T
  replace uD := uD.mono T
  replace uN' := uN'.mono T
  replace uD' := uD'.mono T
  obtain ⟨x1, x2, x3⟩ := okF_iff.1 h.out.1
  obtain ⟨y1, y2, y3⟩ := okF_iff.1 h.out.2
  obtain ⟨e1, e2, hE⟩ := addF_parts h.out.1 h.out.2
  have FV := Lib.hid h.out.1
  have FU := Lib.hid h.out.2
  have m1 : x.2.1 * y.2.2 < pw 256 := lt_mul (i := 128) (j := 128) x2 y3
  have m2 : y.2.1 * x.2.2 < pw 256 := lt_mul (i := 128) (j := 128) y2 x3
  have m3 : x.2.2 * y.2.2 < pw 256 := lt_mul (i := 128) (j := 128) x3 y3
  have FM1 : Hid (x.2.1 < pw 512 ∧ y.2.2 < pw 512 ∧ x.2.1 * y.2.2 < pw 512) := Lib.hid ⟨lt_up x2 (by decide), lt_up y3 (by decide), lt_up m1 (by decide)⟩
  have FM2 : Hid (y.2.1 < pw 512 ∧ x.2.2 < pw 512 ∧ y.2.1 * x.2.2 < pw 512) := Lib.hid ⟨lt_up y2 (by decide), lt_up x3 (by decide), lt_up m2 (by decide)⟩
  have FM3 : Hid (x.2.2 < pw 512 ∧ y.2.2 < pw 512 ∧ x.2.2 * y.2.2 < pw 512) := Lib.hid ⟨lt_up x3 (by decide), lt_up y3 (by decide), lt_up m3 (by decide)⟩
  obtain ⟨A, hA⟩ : ∃ A, x.2.1 * y.2.2 = A := ⟨_, rfl⟩
  obtain ⟨B, hB2⟩ : ∃ B, y.2.1 * x.2.2 = B := ⟨_, rfl⟩
  obtain ⟨E, hE2⟩ : ∃ E, x.2.2 * y.2.2 = E := ⟨_, rfl⟩
  have HA := Lib.hid hA
  have HB := Lib.hid hB2
  have HE := Lib.hid hE2
  rw [hA] at m1 e1
  rw [hB2] at m2 e2
  rw [hE2] at m3 e1 e2 hE
  have E3 := Lib.hid e1
  have E4 := Lib.hid e2
  have E5 := Lib.hid hE
  have LX := Lib.hid m1
  have LY := Lib.hid m2
  have LE := Lib.hid m3
  clear x1 x2 x3 y1 y2 y3 e1 e2 hE m1 m2 m3 hA hB2 hE2 h
  go_enter Tryz.func39, Tryz.ntmps39
  go_wp2_with fail
  refine (refValidN true hx0 FV).mono ?_
  rintro e w1 ⟨rfl, h1⟩
  replace hB := hB.mono h1
  replace hX := hX.mono h1
  replace hY := hY.mono h1
  replace hx0 := hx0.mono h1
  replace hy0 := hy0.mono h1
  replace uN := uN.mono h1
  replace uD := uD.mono h1
  replace uN' := uN'.mono h1
  replace uD' := uD'.mono h1
  replace T := Add.trans T h1
  clear h1 hc0 hc1 hc2 hd0 hd1 hd2
  have hd0 := hY.c0
  have hd1 := hY.c1
  have hd2 := hY.c2
  go_wp2_with fail
  refine (refValidN true hy0 FU).mono ?_
  rintro e w2 ⟨rfl, h2⟩
  replace hB := hB.mono h2
  replace hX := hX.mono h2
  replace hY := hY.mono h2
  replace uN := uN.mono h2
  replace uD := uD.mono h2
  replace uN' := uN'.mono h2
  replace uD' := uD'.mono h2
  replace T := Add.trans T h2
  clear h2 hd0 hd1 hd2 hx0 hy0
  have K0 : Hid (∀ w', Add w2 w' → w'.cell? ⟨w.heap.size, 1, none⟩ = some (.slice an n cn) ∧ w'.cell? ⟨w.heap.size, 2, none⟩ = some (.slice ad d cd) ∧ w'.cell? ⟨w.heap.size + 1, 1, none⟩ = some (.slice an' n' cn') ∧ w'.cell? ⟨w.heap.size + 1, 2, none⟩ = some (.slice ad' d' cd')) := Lib.hid fun w' a => ⟨(hX.mono a).c1, (hX.mono a).c2, (hY.mono a).c1, (hY.mono a).c2⟩
  have C1 : Hid (∀ w', Add w2 w' → Calls Tryz.prog 68 #[.slice an n cn, .slice ad' d' cd'] w' (NumP w' A)) := Lib.hid fun w' a => by rw [← HA.out]; exact refTimesF (uN.mono a) (uD'.mono a) FM1
  have C2 : Hid (∀ w', Add w2 w' → Calls Tryz.prog 68 #[.slice an' n' cn', .slice ad d cd] w' (NumP w' B)) := Lib.hid fun w' a => by rw [← HB.out]; exact refTimesF (uN'.mono a) (uD.mono a) FM2
  have C3 : Hid (∀ w', Add w2 w' → Calls Tryz.prog 68 #[.slice ad d cd, .slice ad' d' cd'] w' (NumP w' E)) := Lib.hid fun w' a => by rw [← HE.out]; exact refTimesF (uD.mono a) (uD'.mono a) FM3
  have hc1 := hX.c1
  have hc2 := hX.c2
  have hd1 := hY.c1
  have hd2 := hY.c2
  clear uN uD uN' uD' FM1 FM2 FM3 HA HB HE
  go_wp2_with fail
  go_region_held3 (fun w' => w'.cell? ⟨w.heap.size, 1, none⟩ = some (.slice an n cn) ∧ w'.cell? ⟨w.heap.size, 2, none⟩ = some (.slice ad d cd) ∧ w'.cell? ⟨w.heap.size + 1, 1, none⟩ = some (.slice an' n' cn') ∧ w'.cell? ⟨w.heap.size + 1, 2, none⟩ = some (.slice ad' d' cd'))
    (first | exact K0.out _ (Below.drew (Below.refl _ _)) | exact K0.out _ a2 | exact K0.out _ a3 | exact K0.out _ a4 | go_keep)
    (first | (go_at_call 68; ((with_reducible refine (C1.out _ (Below.drew (Below.refl _ _))).mono ?_); rintro e w7 ⟨v1, rfl, n1, hq1⟩; have a2 := Add.trans (Below.drew (Below.refl _ _) : Add w2 (World.drew w2)) hq1))
           | (go_at_call 68; ((with_reducible refine (C2.out _ a2).mono ?_); rintro e w8 ⟨v2, rfl, n2, hq2⟩; have a3 := Add.trans a2 hq2; have n1' := n1.mono hq2))
           | (go_at_call 68; ((with_reducible refine (C3.out _ a3).mono ?_); rintro e w9 ⟨v3, rfl, n3, hq3⟩; have a4 := Add.trans a3 hq3; have n1'' := n1'.mono hq3; have n2' := n2.mono hq3)))
  replace hX := hX.mono a4
  replace hY := hY.mono a4
  replace hB := hB.mono a4
  replace T := Add.trans T a4
  have ua := num_nv n1'' (lt_up LX.out (by decide))
  have ub := num_nv n2' (lt_up LY.out (by decide))
  have ud := num_nv n3 (lt_up LE.out (by decide))
  clear C1 C2 C3 K0 hq1 hq2 hq3 a2 a3 a4 n1 n1' n1'' n2 n2' n3 hc1 hc2 hd1 hd2
  have hc0 := hX.c0
  have hd0 := hY.c0
  by_cases c : x.1 = y.1
  · have hb : (x.1 == y.1) = true := by rw [c]; exact beq_self_eq_true _
    have HCC := Lib.hid c
    clear c
    have hN : A + B < pw 257 := lt_add LX.out LY.out
    have FA : Hid (addS A B = (A + B, 0)) := Lib.hid (by unfold addS; rw [if_pos (lt_up hN (by decide))])
    have HN := Lib.hid hN
    clear hN
    go_wp2_with fail
    refine (refAddX (A + B, 0) ua ub FA).mono ?_
    rintro e w10 ⟨vs, rfl, ns, h10⟩
    replace hB := hB.mono h10
    replace hX := hX.mono h10
    replace hY := hY.mono h10
    replace ud := ud.mono h10
    replace T := Add.trans T h10
    clear h10 ua ub FA hb hc0 hd0
    have us := num_nv ns (lt_up HN.out (by decide))
    have hpe := (addF_same FV.out FU.out E3.out E4.out E5.out HCC.out).trans hp.out
    obtain ⟨qq, hqq⟩ : ∃ qq, frac x.1 (A + B) E = qq := ⟨_, rfl⟩
    have CL := Lib.hid (refLowestN (can qq) us ud (Lib.hid ⟨E5.out, lt_up HN.out (by decide), lt_up LE.out (by decide), by rw [hqq]⟩))
    have FP : Hid (fitQ qq = p) := Lib.hid (by rw [← hqq]; exact hpe)
    clear HCC hpe hqq us ns ud hp FV FU E3 E4 E5 LX LY LE
    have hs0 := hX.c0
    clear hX hY
    go_wp2_with fail
    refine (CL.out).mono ?_
    rintro e w11 ⟨v0, rfl, f0, h11⟩
    replace hB := hB.mono h11
    replace T := Add.trans T h11
    clear h11 CL hs0
    go_wp2_with fail
    refine (fitsN p f0 FP).mono ?_
    rintro e w12 ⟨vr, rfl, nr, h12⟩
    replace hB := hB.mono h12
    replace T := Add.trans T h12
    clear h12 FP f0
    obtain ⟨an2, n2, cn2, ad2, d2, cd2, rfl, m1, m2⟩ := nr
    have s0 := hB.c0
    have s1 := hB.c1
    have s2 := hB.c2
    have s3 := hB.fr 0
    have s4 := hB.fr 1
    have s5 := hB.fr 2
    have hF := resF_put (w := w) (p := p) hB ⟨an2, n2, cn2, ad2, d2, cd2, rfl, m1, m2⟩ T (by omega)
    clear hB T m1 m2
    unfold put3 at hF
    have HF := Lib.hid hF
    clear hF
    go_wp2_with fail
    exact bodyPost_ret (v := .tuple #[.agg #[.bool p.1.1, .slice an2 n2 cn2, .slice ad2 d2 cd2], .int .i64 (p.2 : Nat)]) (by simp [results, Tryz.results39, go_sem, s0, s1, s2]) rfl HF.out
  · have hb : (x.1 == y.1) = false := by
      rw [beq_eq_false_iff_ne]; exact c
    have HCC := Lib.hid c
    clear c
    obtain ⟨t, ht⟩ : ∃ t, cmpI A B = t := ⟨_, rfl⟩
    have FC := Lib.hid ht
    clear ht
    go_wp2_with fail
    refine (refCmpX t ua ub FC).mono ?_
    rintro e w10 ⟨rfl, h10⟩
    replace hB := hB.mono h10
    replace hX := hX.mono h10
    replace hY := hY.mono h10
    replace ua := ua.mono h10
    replace ub := ub.mono h10
    replace ud := ud.mono h10
    replace T := Add.trans T h10
    clear h10 hb hc0 hd0
    rcases Nat.lt_or_ge A B with hl | hl
    · have dt : decide ((0 : Int) ≤ t) = false := by rw [← FC.out, cmpI_lt hl]; rfl
      have hN : B - A < pw 256 := Nat.lt_of_le_of_lt (Nat.sub_le _ _) LY.out
      have FA : Hid (subS B A = (B - A, 0)) := Lib.hid (by
        have h1 := lt_up LX.out (show 256 ≤ 512 by decide)
        have h2 := lt_up LY.out (show 256 ≤ 512 by decide)
        unfold subS; rw [if_neg (by omega), if_neg (by omega)])
      have HN := Lib.hid hN
      have HL := Lib.hid (Nat.le_of_lt hl)
      clear hN hl FC
      go_wp2_with fail
      refine (refSubX (B - A, 0) ub ua FA).mono ?_
      rintro e w11 ⟨vs, rfl, ns, h11⟩
      replace hB := hB.mono h11
      replace hX := hX.mono h11
      replace hY := hY.mono h11
      replace ud := ud.mono h11
      replace T := Add.trans T h11
      clear h11 ua ub FA dt
      have us := num_nv ns (lt_up HN.out (by decide))
      have hpe := (addF_lt FV.out FU.out E3.out E4.out E5.out HCC.out HL.out).trans hp.out
      obtain ⟨qq, hqq⟩ : ∃ qq, frac y.1 (B - A) E = qq := ⟨_, rfl⟩
      have CL := Lib.hid (refLowestN (can qq) us ud (Lib.hid ⟨E5.out, lt_up HN.out (by decide), lt_up LE.out (by decide), by rw [hqq]⟩))
      have FP : Hid (fitQ qq = p) := Lib.hid (by rw [← hqq]; exact hpe)
      clear HCC hpe hqq us ns ud hp FV FU E3 E4 E5 LX LY LE
      have hs0 := hY.c0
      clear hX hY
      go_wp2_with fail
      refine (CL.out).mono ?_
      rintro e w12 ⟨v0, rfl, f0, h12⟩
      replace hB := hB.mono h12
      replace T := Add.trans T h12
      clear h12 CL hs0
      go_wp2_with fail
      refine (fitsN p f0 FP).mono ?_
      rintro e w13 ⟨vr, rfl, nr, h13⟩
      replace hB := hB.mono h13
      replace T := Add.trans T h13
      clear h13 FP f0
      obtain ⟨an2, n2, cn2, ad2, d2, cd2, rfl, m1, m2⟩ := nr
      have s0 := hB.c0
      have s1 := hB.c1
      have s2 := hB.c2
      have s3 := hB.fr 0
      have s4 := hB.fr 1
      have s5 := hB.fr 2
      have hF := resF_put (w := w) (p := p) hB ⟨an2, n2, cn2, ad2, d2, cd2, rfl, m1, m2⟩ T (by omega)
      clear hB T m1 m2
      unfold put3 at hF
      have HF := Lib.hid hF
      clear hF
      go_wp2_with fail
      exact bodyPost_ret (v := .tuple #[.agg #[.bool p.1.1, .slice an2 n2 cn2, .slice ad2 d2 cd2], .int .i64 (p.2 : Nat)]) (by simp [results, Tryz.results39, go_sem, s0, s1, s2]) rfl HF.out
    · have dt : decide ((0 : Int) ≤ t) = true := by
        rw [← FC.out]
        rcases Nat.lt_or_ge B A with h2 | h2
        · rw [cmpI_gt h2]; rfl
        · rw [cmpI_eq (by omega)]; rfl
      have hN : A - B < pw 256 := Nat.lt_of_le_of_lt (Nat.sub_le _ _) LX.out
      have FA : Hid (subS A B = (A - B, 0)) := Lib.hid (by
        have h1 := lt_up LX.out (show 256 ≤ 512 by decide)
        have h2 := lt_up LY.out (show 256 ≤ 512 by decide)
        unfold subS; rw [if_neg (by omega), if_neg (by omega)])
      have HN := Lib.hid hN
      have HL := Lib.hid hl
      clear hN hl FC
      go_wp2_with fail
      refine (refSubX (A - B, 0) ua ub FA).mono ?_
      rintro e w11 ⟨vs, rfl, ns, h11⟩
      replace hB := hB.mono h11
      replace hX := hX.mono h11
      replace hY := hY.mono h11
      replace ud := ud.mono h11
      replace T := Add.trans T h11
      clear h11 ua ub FA dt
      have us := num_nv ns (lt_up HN.out (by decide))
      have hpe := (addF_ge FV.out FU.out E3.out E4.out E5.out HCC.out HL.out).trans hp.out
      obtain ⟨qq, hqq⟩ : ∃ qq, frac x.1 (A - B) E = qq := ⟨_, rfl⟩
      have CL := Lib.hid (refLowestN (can qq) us ud (Lib.hid ⟨E5.out, lt_up HN.out (by decide), lt_up LE.out (by decide), by rw [hqq]⟩))
      have FP : Hid (fitQ qq = p) := Lib.hid (by rw [← hqq]; exact hpe)
      clear HCC hpe hqq us ns ud hp FV FU E3 E4 E5 LX LY LE
      have hs0 := hX.c0
      clear hX hY
      go_wp2_with fail
      refine (CL.out).mono ?_
      rintro e w12 ⟨v0, rfl, f0, h12⟩
      replace hB := hB.mono h12
      replace T := Add.trans T h12
      clear h12 CL hs0
      go_wp2_with fail
      refine (fitsN p f0 FP).mono ?_
      rintro e w13 ⟨vr, rfl, nr, h13⟩
      replace hB := hB.mono h13
      replace T := Add.trans T h13
      clear h13 FP f0
      obtain ⟨an2, n2, cn2, ad2, d2, cd2, rfl, m1, m2⟩ := nr
      have s0 := hB.c0
      have s1 := hB.c1
      have s2 := hB.c2
      have s3 := hB.fr 0
      have s4 := hB.fr 1
      have s5 := hB.fr 2
      have hF := resF_put (w := w) (p := p) hB ⟨an2, n2, cn2, ad2, d2, cd2, rfl, m1, m2⟩ T (by omega)
      clear hB T m1 m2
      unfold put3 at hF
      have HF := Lib.hid hF
      clear hF
      go_wp2_with fail
      exact bodyPost_ret (v := .tuple #[.agg #[.bool p.1.1, .slice an2 n2 cn2, .slice ad2 d2 cd2], .int .i64 (p.2 : Nat)]) (by simp [results, Tryz.results39, go_sem, s0, s1, s2]) rfl HF.out

theorem refAddN2 (p : Tri × Nat) {v v' : Value} {x y : Tri} {w : World} (hx : FracA w v x) (hy : FracA w v' y) (hp : Hid (addF x y = p)) : Calls Tryz.prog 39 #[v, v'] w (ResF w p) := by
  rcases both_or x y with h | h
  · exact refAdd2_works p hx hy (Lib.hid h) hp
  · exact refAdd2_refuses p hx hy (Lib.hid h) hp

/-- Minus x, as the reference writes it. -/
def oppF (x : Tri) : Tri := if x.2.1 = 0 then x else negF x
theorem addF_opp (x y : Tri) : addF x (oppF y) = subF x y := by
  unfold oppF subF
  by_cases h : y.2.1 = 0
  · rw [if_pos h]
    have e1 : okF (negF y) = okF y := rfl
    have e2 : qv y = 0 := by unfold qv; rw [h, frac_zero]
    have e3 : qv (negF y) = 0 := by
      show frac (!y.1) y.2.1 y.2.2 = 0
      rw [h, frac_zero]
    unfold addF
    rw [e1, e2, e3]
  · rw [if_neg h]
def RetA (w : World) (x : Tri) (e : Ending) (w' : World) : Prop := ∃ v, e = .returned v ∧ FracA w' v x ∧ Add w w'
theorem Nv.put {w : World} {v : Value} {N g : Nat} {b an n cn ad d cd} (h : Nv w v N) (hB : Box w g b an n cn ad d cd) (u0 u1 u2 : Value) : Nv (put3 w g u0 u1 u2) v N := by
  obtain ⟨zs, h1, h2⟩ := h; exact ⟨zs, h1.put hB u0 u1 u2, h2⟩
theorem retA_put {w wk : World} {g : Nat} {b an n cn ad d cd} {x : Tri} {an' n' cn' ad' d' cd'} (t : Bool) (ht : x.1 = t) (hB : Box wk g b an n cn ad d cd) (h1 : Nv wk (.slice an' n' cn') x.2.1) (h2 : Nv wk (.slice ad' d' cd') x.2.2) (hT : Add w wk) (hg : w.heap.size ≤ g) :
    RetA w x (.returned (.agg #[.bool t, .slice an' n' cn', .slice ad' d' cd'])) (put3 wk g (.bool t) (.slice an' n' cn') (.slice ad' d' cd')) := by
  subst ht; exact ⟨_, rfl, ⟨an', n', cn', ad', d', cd', rfl, Nv.put h1 hB _ _ _, Nv.put h2 hB _ _ _⟩, put3_below _ _ _ hT hg⟩
set_option maxRecDepth 100000 in
set_option maxHeartbeats 1000000 in
theorem oppN {v : Value} {x : Tri} {w : World} (hx : FracA w v x) : Calls Tryz.prog 36 #[v] w (RetA w (oppF x)) := by
  obtain ⟨an, n, cn, ad, d, cd, rfl, uN, uD⟩ := hx
  obtain ⟨T, hX, hB⟩ := start2 w x.1 an n cn ad d cd false none 0 0 none 0 0
  replace uN := uN.mono T
  replace uD := uD.mono T
  have hc0 := hX.c0
  have hc1 := hX.c1
  have hc2 := hX.c2
  go_enter Tryz.func36, Tryz.ntmps36
  go_wp2_with fail
  refine (refTrimX uN).mono ?_
  rintro e w1 ⟨v1, rfl, n1, h1⟩
  replace hB := hB.mono h1
  replace hX := hX.mono h1
  replace uN := uN.mono h1
  replace uD := uD.mono h1
  replace T := Add.trans T h1
  clear h1 hc0 hc1 hc2
  by_cases c : x.2.1 = 0
  · rw [c] at n1
    obtain ⟨ao, c1, rfl⟩ := num_len0 n1
    have e : oppF x = x := by unfold oppF; rw [if_pos c]
    have FE := Lib.hid e
    clear c n1 e
    have hb0 := hB.c0
    have hb1 := hB.c1
    have hb2 := hB.c2
    have hb3 := hB.fr 0
    have hb4 := hB.fr 1
    have hb5 := hB.fr 2
    have ha0 := hX.c0
    have ha1 := hX.c1
    have ha2 := hX.c2
    have hF := retA_put (w := w) (x := x) x.1 rfl hB uN uD T (by omega)
    clear hB T uN uD hX
    unfold put3 at hF
    have HF := Lib.hid hF
    clear hF
    go_wp2_with fail
    exact bodyPost_ret (v := .agg #[.bool x.1, .slice an n cn, .slice ad d cd]) (by simp [results, Tryz.results36, go_sem, hb0, hb1, hb2]) rfl (by rw [FE.out]; exact HF.out)
  · obtain ⟨ao, m, c1, rfl, hz, -⟩ := num_size n1
    have hm : m ≠ 0 := fun e => c (hz.1 e)
    have d0 : ((m : Int) == 0) = false := by simp; omega
    have e : oppF x = negF x := by unfold oppF; rw [if_neg c]
    have FE := Lib.hid e
    clear c n1 e hz hm
    have hb0 := hB.c0
    have hb1 := hB.c1
    have hb2 := hB.c2
    have hb3 := hB.fr 0
    have hb4 := hB.fr 1
    have hb5 := hB.fr 2
    have ha0 := hX.c0
    have ha1 := hX.c1
    have ha2 := hX.c2
    have hF := retA_put (w := w) (x := negF x) (!x.1) rfl hB uN uD T (by omega)
    clear hB T uN uD hX
    unfold put3 at hF
    have HF := Lib.hid hF
    clear hF
    go_wp2_with fail
    exact bodyPost_ret (v := .agg #[.bool (!x.1), .slice an n cn, .slice ad d cd]) (by simp [results, Tryz.results36, go_sem, hb0, hb1, hb2]) rfl (by rw [FE.out]; exact HF.out)

end Go.Proofs.YtbeoeackahmpbaaGreatDoor
