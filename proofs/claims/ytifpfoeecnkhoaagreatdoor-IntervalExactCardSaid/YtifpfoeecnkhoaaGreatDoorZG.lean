/- The reference of layer 2: floor, Floor, Ceil, Power.
(With the texts that are joined here: The reference of layer 2: fits, Opposite, Add, Mul, Quo, Sub, Cmp. | The reference of layer 2: Add, Opposite, Sub, Cmp. | Sums of lists of fractions: the answers. | Package fraction: Sum. | The reference of layer 2: Sum. | Rounding to binary digits: the answers. | Lists of fractions as arguments: as they came in, cut, and the guard on long ones. | Package fraction: rounded, Floor, Ceil.) -/
import Derived.Test.YtifpfoeecnkhoaaGreatDoorZF

namespace Go.Proofs.YtifpfoeecnkhoaaGreatDoor
open Go.RowKit NatM Go.Proofs.YtifpfoeecnkhoaaGreatDoor.Api

set_option maxRecDepth 100000 in
set_option maxHeartbeats 1000000 in
theorem refLargeF (t : Bool) {v : Value} {x : Tri} {w : World} (hx : FracT w v x) (h : Hid (decide (pw 128 ≤ x.2.1 ∨ pw 128 ≤ x.2.2) = t)) : Calls Tryz.prog 88 #[v] w (BoolIs w t) := by
  obtain ⟨an, n, cn, ad, d, cd, rfl, m1, m2⟩ := hx
  obtain ⟨T, hX⟩ := start1 w x.1 an n cn ad d cd
  obtain ⟨a1, l1, k1, e1, -, s1⟩ := num_size m1
  obtain ⟨a2, l2, k2, e2, -, s2⟩ := num_size m2
  simp only [Value.slice.injEq] at e1 e2
  obtain ⟨rfl, rfl, rfl⟩ := e1
  obtain ⟨rfl, rfl, rfl⟩ := e2
  have hc1 := hX.c1
  have hc2 := hX.c2
  have ht := h.out
  by_cases c1 : 128 < n
  · have d1 : decide ((128 : Int) < (n : Int)) = true := by simp; omega
    have e : t = true := by rw [← ht]; exact decide_eq_true (.inl (by omega))
    subst e
    clear h ht s1 s2 c1 m1 m2 hX
    go_enter Tryz.func88, Tryz.ntmps88
    go_wp2_with fail
    go_ret
    exact ⟨rfl, T⟩
  · have d1 : decide ((128 : Int) < (n : Int)) = false := by simp; omega
    by_cases c2 : 128 < d
    · have d2 : decide ((128 : Int) < (d : Int)) = true := by simp; omega
      have e : t = true := by rw [← ht]; exact decide_eq_true (.inr (by omega))
      subst e
      clear h ht s1 s2 c1 c2 m1 m2 hX
      go_enter Tryz.func88, Tryz.ntmps88
      go_wp2_with fail
      go_ret
      exact ⟨rfl, T⟩
    · have d2 : decide ((128 : Int) < (d : Int)) = false := by simp; omega
      have e : t = false := by rw [← ht]; exact decide_eq_false (by omega)
      subst e
      clear h ht s1 s2 c1 c2 m1 m2 hX
      go_enter Tryz.func88, Tryz.ntmps88
      go_wp2_with fail
      go_ret
      exact ⟨rfl, T⟩
set_option maxRecDepth 100000 in
set_option maxHeartbeats 1000000 in
theorem fitsN (p : Tri × Nat) {v : Value} {q : Rat} {w : World} (hx : FracT w v (can q)) (hp : Hid (fitQ q = p)) : Calls Tryz.prog 63 #[v] w (ResF w p) := by
  have hx0 := hx
  obtain ⟨an, n, cn, ad, d, cd, rfl, m1, m2⟩ := hx
  obtain ⟨T, hX, hB⟩ := start2 w (can q).1 an n cn ad d cd false none 0 0 none 0 0
  replace hx0 := hx0.mono T
  replace m1 := m1.mono T
  replace m2 := m2.mono T
  have hpe := hp.out
  unfold fitQ at hpe
  clear hp
  have hc0 := hX.c0
  have hc1 := hX.c1
  have hc2 := hX.c2
  by_cases c : pw 128 ≤ q.num.natAbs ∨ pw 128 ≤ q.den
  · rw [if_pos c] at hpe
    have FL : Hid (decide (pw 128 ≤ (can q).2.1 ∨ pw 128 ≤ (can q).2.2) = true) := Lib.hid (decide_eq_true c)
    subst hpe
    clear c
    go_enter Tryz.func63, Tryz.ntmps63
    go_wp2_with fail
    refine (refLargeF true hx0 FL).mono ?_
    rintro e w1 ⟨rfl, h1⟩
    replace hB := hB.mono h1
    replace T := Add.trans T h1
    clear h1 hc0 hc1 hc2 hX hx0 FL m1 m2
    have hc0 := hB.c0
    have hc1 := hB.c1
    have hc2 := hB.c2
    have hc3 := hB.fr 0
    have hc4 := hB.fr 1
    have hc5 := hB.fr 2
    have hF := resF_put (w := w) (p := ((false, 0, 0), 2)) hB (fracT_zero _) T (by omega)
    clear hB T 
    unfold put3 at hF
    have HF := Lib.hid hF
    clear hF
    go_wp2_with fail
    exact bodyPost_ret (v := .tuple #[.agg #[.bool false, .slice none 0 0, .slice none 0 0], .int .i64 2]) (by simp [results, Tryz.results63, go_sem, hc0, hc1, hc2]) rfl HF.out
  · rw [if_neg c] at hpe
    have FL : Hid (decide (pw 128 ≤ (can q).2.1 ∨ pw 128 ≤ (can q).2.2) = false) := Lib.hid (decide_eq_false c)
    subst hpe
    clear c
    go_enter Tryz.func63, Tryz.ntmps63
    go_wp2_with fail
    refine (refLargeF false hx0 FL).mono ?_
    rintro e w1 ⟨rfl, h1⟩
    replace hB := hB.mono h1
    replace hX := hX.mono h1
    replace m1 := m1.mono h1
    replace m2 := m2.mono h1
    replace T := Add.trans T h1
    clear h1 hc0 hc1 hc2 hx0 FL
    have ha0 := hX.c0
    have ha1 := hX.c1
    have ha2 := hX.c2
    have hc0 := hB.c0
    have hc1 := hB.c1
    have hc2 := hB.c2
    have hc3 := hB.fr 0
    have hc4 := hB.fr 1
    have hc5 := hB.fr 2
    have hF := resF_put (w := w) (p := (can q, 0)) hB (⟨an, n, cn, ad, d, cd, rfl, m1, m2⟩) T (by omega)
    clear hB T m1 m2 hX
    unfold put3 at hF
    have HF := Lib.hid hF
    clear hF
    go_wp2_with fail
    exact bodyPost_ret (v := .tuple #[.agg #[.bool (can q).1, .slice an n cn, .slice ad d cd], .int .i64 0]) (by simp [results, Tryz.results63, go_sem, hc0, hc1, hc2]) rfl HF.out

set_option maxRecDepth 100000 in
set_option maxHeartbeats 1000000 in
theorem refAdd2_refuses (p : Tri × Nat) {v v' : Value} {x y : Tri} {w : World} (hx : FracA w v x) (hy : FracA w v' y) (h : Hid (okF x = false ∨ okF y = false)) (hp : Hid (addF x y = p)) :
    Calls Tryz.prog 34 #[v, v'] w (ResF w p) := by
  have hx0 := hx
  have hy0 := hy
  obtain ⟨an, n, cn, ad, d, cd, rfl, uN, uD⟩ := hx
  obtain ⟨an', n', cn', ad', d', cd', rfl, uN', uD'⟩ := hy
  obtain ⟨T, hX, hY, hB⟩ := start3 w x.1 an n cn ad d cd y.1 an' n' cn' ad' d' cd' false none 0 0 none 0 0
  replace hx0 := hx0.mono T
  replace hy0 := hy0.mono T
  have hc0 := hX.c0
  have hc1 := hX.c1
  have hc2 := hX.c2
  have hd0 := hY.c0
  have hd1 := hY.c1
  have hd2 := hY.c2
  go_enter Tryz.func34, Tryz.ntmps34
  by_cases c : okF x = false
  · have FV := Lib.hid c
    have hpe := hp.out
    rw [addF_l c] at hpe
    subst hpe
    clear c h hp
    go_wp2_with fail
    refine (refValidN false hx0 FV).mono ?_
    rintro e w1 ⟨rfl, h1⟩
    replace hB := hB.mono h1
    replace T := Add.trans T h1
    clear h1 hc0 hc1 hc2 hd0 hd1 hd2 hX hY FV hx0 hy0 uN uD uN' uD'
    have hc0 := hB.c0
    have hc1 := hB.c1
    have hc2 := hB.c2
    have hc3 := hB.fr 0
    have hc4 := hB.fr 1
    have hc5 := hB.fr 2
    have hF := resF_put (w := w) (p := ((false, 0, 0), 1)) hB (fracT_zero _) T (by omega)
    clear hB T 
    unfold put3 at hF
    have HF := Lib.hid hF
    clear hF
    go_wp2_with fail
    exact bodyPost_ret (v := .tuple #[.agg #[.bool false, .slice none 0 0, .slice none 0 0], .int .i64 1]) (by simp [results, Tryz.results34, go_sem, hc0, hc1, hc2]) rfl HF.out
  · have c1 : okF x = true := by simpa using c
    have c2 : okF y = false := h.out.resolve_left c
    have FV := Lib.hid c1
    have FU := Lib.hid c2
    have hpe := hp.out
    rw [addF_r c2] at hpe
    subst hpe
    clear c c1 c2 h hp
    go_wp2_with fail
    refine (refValidN true hx0 FV).mono ?_
    rintro e w1 ⟨rfl, h1⟩
    replace hB := hB.mono h1
    replace hY := hY.mono h1
    replace hy0 := hy0.mono h1
    replace T := Add.trans T h1
    clear h1 hc0 hc1 hc2 hd0 hd1 hd2 hX FV uN uD uN' uD' hx0
    have hd0 := hY.c0
    have hd1 := hY.c1
    have hd2 := hY.c2
    go_wp2_with fail
    refine (refValidN false hy0 FU).mono ?_
    rintro e w2 ⟨rfl, h2⟩
    replace hB := hB.mono h2
    replace T := Add.trans T h2
    clear h2 hd0 hd1 hd2 hY FU hy0
    have hc0 := hB.c0
    have hc1 := hB.c1
    have hc2 := hB.c2
    have hc3 := hB.fr 0
    have hc4 := hB.fr 1
    have hc5 := hB.fr 2
    have hF := resF_put (w := w) (p := ((false, 0, 0), 1)) hB (fracT_zero _) T (by omega)
    clear hB T 
    unfold put3 at hF
    have HF := Lib.hid hF
    clear hF
    go_wp2_with fail
    exact bodyPost_ret (v := .tuple #[.agg #[.bool false, .slice none 0 0, .slice none 0 0], .int .i64 1]) (by simp [results, Tryz.results34, go_sem, hc0, hc1, hc2]) rfl HF.out

set_option maxRecDepth 100000 in
set_option maxHeartbeats 1000000 in
theorem refMul2_refuses (p : Tri × Nat) {v v' : Value} {x y : Tri} {w : World} (hx : FracA w v x) (hy : FracA w v' y) (h : Hid (okF x = false ∨ okF y = false)) (hp : Hid (mulF x y = p)) :
    Calls Tryz.prog 69 #[v, v'] w (ResF w p) := by
  have hx0 := hx
  have hy0 := hy
  obtain ⟨an, n, cn, ad, d, cd, rfl, uN, uD⟩ := hx
  obtain ⟨an', n', cn', ad', d', cd', rfl, uN', uD'⟩ := hy
  obtain ⟨T, hX, hY, hB⟩ := start3 w x.1 an n cn ad d cd y.1 an' n' cn' ad' d' cd' false none 0 0 none 0 0
  replace hx0 := hx0.mono T
  replace hy0 := hy0.mono T
  have hc0 := hX.c0
  have hc1 := hX.c1
  have hc2 := hX.c2
  have hd0 := hY.c0
  have hd1 := hY.c1
  have hd2 := hY.c2
  go_enter Tryz.func69, Tryz.ntmps69
  by_cases c : okF x = false
  · have FV := Lib.hid c
    have hpe := hp.out
    rw [mulF_l c] at hpe
    subst hpe
    clear c h hp
    go_wp2_with fail
    refine (refValidN false hx0 FV).mono ?_
    rintro e w1 ⟨rfl, h1⟩
    replace hB := hB.mono h1
    replace T := Add.trans T h1
    clear h1 hc0 hc1 hc2 hd0 hd1 hd2 hX hY FV hx0 hy0 uN uD uN' uD'
    have hc0 := hB.c0
    have hc1 := hB.c1
    have hc2 := hB.c2
    have hc3 := hB.fr 0
    have hc4 := hB.fr 1
    have hc5 := hB.fr 2
    have hF := resF_put (w := w) (p := ((false, 0, 0), 1)) hB (fracT_zero _) T (by omega)
    clear hB T 
    unfold put3 at hF
    have HF := Lib.hid hF
    clear hF
    go_wp2_with fail
    exact bodyPost_ret (v := .tuple #[.agg #[.bool false, .slice none 0 0, .slice none 0 0], .int .i64 1]) (by simp [results, Tryz.results69, go_sem, hc0, hc1, hc2]) rfl HF.out
  · have c1 : okF x = true := by simpa using c
    have c2 : okF y = false := h.out.resolve_left c
    have FV := Lib.hid c1
    have FU := Lib.hid c2
    have hpe := hp.out
    rw [mulF_r c2] at hpe
    subst hpe
    clear c c1 c2 h hp
    go_wp2_with fail
    refine (refValidN true hx0 FV).mono ?_
    rintro e w1 ⟨rfl, h1⟩
    replace hB := hB.mono h1
    replace hY := hY.mono h1
    replace hy0 := hy0.mono h1
    replace T := Add.trans T h1
    clear h1 hc0 hc1 hc2 hd0 hd1 hd2 hX FV uN uD uN' uD' hx0
    have hd0 := hY.c0
    have hd1 := hY.c1
    have hd2 := hY.c2
    go_wp2_with fail
    refine (refValidN false hy0 FU).mono ?_
    rintro e w2 ⟨rfl, h2⟩
    replace hB := hB.mono h2
    replace T := Add.trans T h2
    clear h2 hd0 hd1 hd2 hY FU hy0
    have hc0 := hB.c0
    have hc1 := hB.c1
    have hc2 := hB.c2
    have hc3 := hB.fr 0
    have hc4 := hB.fr 1
    have hc5 := hB.fr 2
    have hF := resF_put (w := w) (p := ((false, 0, 0), 1)) hB (fracT_zero _) T (by omega)
    clear hB T 
    unfold put3 at hF
    have HF := Lib.hid hF
    clear hF
    go_wp2_with fail
    exact bodyPost_ret (v := .tuple #[.agg #[.bool false, .slice none 0 0, .slice none 0 0], .int .i64 1]) (by simp [results, Tryz.results69, go_sem, hc0, hc1, hc2]) rfl HF.out

set_option maxRecDepth 100000 in
set_option maxHeartbeats 2000000 in
theorem refMul2_works (p : Tri × Nat) {v v' : Value} {x y : Tri} {w : World} (hx : FracA w v x) (hy : FracA w v' y) (h : Hid (okF x = true ∧ okF y = true)) (hp : Hid (mulF x y = p)) :
    Calls Tryz.prog 69 #[v, v'] w (ResF w p) := by
  have hx0 := hx
  have hy0 := hy
  obtain ⟨an, n, cn, ad, d, cd, rfl, uN, uD⟩ := hx
  obtain ⟨an', n', cn', ad', d', cd', rfl, uN', uD'⟩ := hy
  obtain ⟨T, hX, hY, hB⟩ := start3 w x.1 an n cn ad d cd y.1 an' n' cn' ad' d' cd' false none 0 0 none 0 0
  replace hx0 := hx0.mono T
  replace hy0 := hy0.mono T
  have hc0 := hX.c0
  have hc1 := hX.c1
  have hc2 := hX.c2
  have hd0 := hY.c0
  have hd1 := hY.c1
  have hd2 := hY.c2
  replace uN := uN.mono T
  replace uD := uD.mono T
  replace uN' := uN'.mono T
  replace uD' := uD'.mono T
  obtain ⟨x1, x2, x3⟩ := okF_iff.1 h.out.1
  obtain ⟨y1, y2, y3⟩ := okF_iff.1 h.out.2
  have FV := Lib.hid h.out.1
  have FU := Lib.hid h.out.2
  have m1 : x.2.1 * y.2.1 < pw 256 := lt_mul (i := 128) (j := 128) x2 y2
  have m2 : x.2.2 * y.2.2 < pw 256 := lt_mul (i := 128) (j := 128) x3 y3
  have FM1 : Hid (x.2.1 < pw 512 ∧ y.2.1 < pw 512 ∧ x.2.1 * y.2.1 < pw 512) := Lib.hid ⟨lt_up x2 (by decide), lt_up y2 (by decide), lt_up m1 (by decide)⟩
  have FM2 : Hid (x.2.2 < pw 512 ∧ y.2.2 < pw 512 ∧ x.2.2 * y.2.2 < pw 512) := Lib.hid ⟨lt_up x3 (by decide), lt_up y3 (by decide), lt_up m2 (by decide)⟩
  have hE : x.2.2 * y.2.2 ≠ 0 := Nat.mul_ne_zero x1 y1
  have hpe : fitQ (frac (!(x.1 == y.1)) (x.2.1 * y.2.1) (x.2.2 * y.2.2)) = p := (mulF_ok FV.out FU.out).trans hp.out
  obtain ⟨qq, hqq⟩ : ∃ qq, frac (!(x.1 == y.1)) (x.2.1 * y.2.1) (x.2.2 * y.2.2) = qq := ⟨_, rfl⟩
  clear x1 x2 x3 y1 y2 y3 h
  have HM := Lib.hid (And.intro m1 (And.intro m2 (And.intro hE (And.intro hpe hqq))))
  clear m1 m2 hE hpe hqq
  go_enter Tryz.func69, Tryz.ntmps69
  go_wp2_with fail
  refine (refValidN true hx0 FV).mono ?_
  rintro e w1 ⟨rfl, h1⟩
  replace hB := hB.mono h1
  replace hX := hX.mono h1
  replace hY := hY.mono h1
  replace hx0 := hx0.mono h1
  replace hy0 := hy0.mono h1
  replace uN := uN.mono h1
  replace uD := uD.mono h1
  replace uN' := uN'.mono h1
  replace uD' := uD'.mono h1
  replace T := Add.trans T h1
  clear h1 hc0 hc1 hc2 hd0 hd1 hd2
  have hd0 := hY.c0
  have hd1 := hY.c1
  have hd2 := hY.c2
  go_wp2_with fail
  refine (refValidN true hy0 FU).mono ?_
  rintro e w2 ⟨rfl, h2⟩
  replace hB := hB.mono h2
  replace hX := hX.mono h2
  replace hY := hY.mono h2
  replace uN := uN.mono h2
  replace uD := uD.mono h2
  replace uN' := uN'.mono h2
  replace uD' := uD'.mono h2
  replace T := Add.trans T h2
  clear h2 hd0 hd1 hd2 hx0 hy0
  obtain ⟨m1, m2, hE, hpe, hqq⟩ := HM.out
  clear HM
  have K0 : Hid (∀ w', Add w2 w' → w'.cell? ⟨w.heap.size, 0, none⟩ = some (.bool x.1) ∧ w'.cell? ⟨w.heap.size, 1, none⟩ = some (.slice an n cn) ∧ w'.cell? ⟨w.heap.size, 2, none⟩ = some (.slice ad d cd) ∧ w'.cell? ⟨w.heap.size + 1, 0, none⟩ = some (.bool y.1) ∧ w'.cell? ⟨w.heap.size + 1, 1, none⟩ = some (.slice an' n' cn') ∧ w'.cell? ⟨w.heap.size + 1, 2, none⟩ = some (.slice ad' d' cd')) := Lib.hid fun w' a => ⟨(hX.mono a).c0, (hX.mono a).c1, (hX.mono a).c2, (hY.mono a).c0, (hY.mono a).c1, (hY.mono a).c2⟩
  have C1 : Hid (∀ w', Add w2 w' → Calls Tryz.prog 61 #[.slice an n cn, .slice an' n' cn'] w' (NumP w' (x.2.1 * y.2.1))) := Lib.hid fun w' a => refTimesF (uN.mono a) (uN'.mono a) FM1
  have C2 : Hid (∀ w', Add w2 w' → Calls Tryz.prog 61 #[.slice ad d cd, .slice ad' d' cd'] w' (NumP w' (x.2.2 * y.2.2))) := Lib.hid fun w' a => refTimesF (uD.mono a) (uD'.mono a) FM2
  have C3 : Hid (∀ w', Add w2 w' → ∀ v1 v2, Num w' v1 (x.2.1 * y.2.1) → Num w' v2 (x.2.2 * y.2.2) → Calls Tryz.prog 64 #[.bool (!(x.1 == y.1)), v1, v2] w' (RetF w' (can qq))) := Lib.hid fun w' a v1 v2 n1 n2 => refLowestN _ (num_nv n1 (lt_up m1 (by decide))) (num_nv n2 (lt_up m2 (by decide))) (Lib.hid ⟨hE, lt_up m1 (by decide), lt_up m2 (by decide), by rw [hqq]⟩)
  have C4 : Hid (∀ w' v0, FracT w' v0 (can qq) → Calls Tryz.prog 63 #[v0] w' (ResF w' p)) := Lib.hid fun w' v0 f0 => fitsN p f0 (Lib.hid (by rw [← hqq]; exact hpe))
  have hc0 := hX.c0
  have hc1 := hX.c1
  have hc2 := hX.c2
  have hd0 := hY.c0
  have hd1 := hY.c1
  have hd2 := hY.c2
  clear hX hY uN uD uN' uD' m1 m2 hE hpe hqq FM1 FM2 hp FV FU
  go_wp2_with fail
  go_region_held3 (fun w' => w'.cell? ⟨w.heap.size, 0, none⟩ = some (.bool x.1) ∧ w'.cell? ⟨w.heap.size, 1, none⟩ = some (.slice an n cn) ∧ w'.cell? ⟨w.heap.size, 2, none⟩ = some (.slice ad d cd) ∧ w'.cell? ⟨w.heap.size + 1, 0, none⟩ = some (.bool y.1) ∧ w'.cell? ⟨w.heap.size + 1, 1, none⟩ = some (.slice an' n' cn') ∧ w'.cell? ⟨w.heap.size + 1, 2, none⟩ = some (.slice ad' d' cd'))
    (first | exact K0.out _ (Below.drew (Below.refl _ _)) | exact K0.out _ a2 | exact K0.out _ a3 | exact K0.out _ a4 | exact K0.out _ a5 | exact ⟨(put3_cell (g := w.heap.size + 2) _ _ _ (by omega)).trans (K0.out _ a5 |>.1), (put3_cell (g := w.heap.size + 2) _ _ _ (by omega)).trans (K0.out _ a5 |>.2.1), (put3_cell (g := w.heap.size + 2) _ _ _ (by omega)).trans (K0.out _ a5 |>.2.2.1), (put3_cell (g := w.heap.size + 2) _ _ _ (by omega)).trans (K0.out _ a5 |>.2.2.2.1), (put3_cell (g := w.heap.size + 2) _ _ _ (by omega)).trans (K0.out _ a5 |>.2.2.2.2.1), (put3_cell (g := w.heap.size + 2) _ _ _ (by omega)).trans (K0.out _ a5 |>.2.2.2.2.2)⟩ | go_keep)
    (first | (go_at_call 61; ((with_reducible refine (C1.out _ (Below.drew (Below.refl _ _))).mono ?_); rintro e w7 ⟨v1, rfl, n1, hq1⟩; have a2 := Add.trans (Below.drew (Below.refl _ _) : Add w2 (World.drew w2)) hq1))
           | (go_at_call 61; ((with_reducible refine (C2.out _ a2).mono ?_); rintro e w8 ⟨v2, rfl, n2, hq2⟩; have a3 := Add.trans a2 hq2; have n1' := n1.mono hq2))
           | (go_at_call 64; ((with_reducible refine (C3.out _ a3 _ _ n1' n2).mono ?_); rintro e w9 ⟨v0, rfl, f0, hq3⟩; have a4 := Add.trans a3 hq3))
           | (go_at_call 63; ((with_reducible refine (C4.out _ _ f0).mono ?_); rintro e w10 ⟨vr, rfl, nr, hq4⟩; have a5 := Add.trans a4 hq4; obtain ⟨an2, n2, cn2, ad2, d2, cd2, rfl, m1, m2⟩ := nr; have hB3 := hB.mono a5; have s0 := hB3.c0; have s1 := hB3.c1; have s2 := hB3.c2; have s3 := hB3.fr 0; have s4 := hB3.fr 1; have s5 := hB3.fr 2)))
  have hF := resF_put (w := w) (p := p) hB3 ⟨an2, n2, cn2, ad2, d2, cd2, rfl, m1, m2⟩ (Add.trans T a5) (by omega)
  unfold put3 at hF
  have HF := Lib.hid hF
  clear hF m1 m2
  go_wp2_with fail
  exact bodyPost_ret (v := .tuple #[.agg #[.bool p.1.1, .slice an2 n2 cn2, .slice ad2 d2 cd2], .int .i64 (p.2 : Nat)]) (by simp [results, Tryz.results69, go_sem, s0, s1, s2]) rfl HF.out

theorem refMulN2 (p : Tri × Nat) {v v' : Value} {x y : Tri} {w : World} (hx : FracA w v x) (hy : FracA w v' y) (hp : Hid (mulF x y = p)) : Calls Tryz.prog 69 #[v, v'] w (ResF w p) := by
  rcases both_or x y with h | h
  · exact refMul2_works p hx hy (Lib.hid h) hp
  · exact refMul2_refuses p hx hy (Lib.hid h) hp
end Go.Proofs.YtifpfoeecnkhoaaGreatDoor

namespace Go.Proofs.YtifpfoeecnkhoaaGreatDoor
open Go.RowKit NatM Go.Proofs.YtifpfoeecnkhoaaGreatDoor.Api

theorem addF_parts {x y : Tri} (hx : okF x = true) (hy : okF y = true) : qv x = frac x.1 (x.2.1 * y.2.2) (x.2.2 * y.2.2) ∧ qv y = frac y.1 (y.2.1 * x.2.2) (x.2.2 * y.2.2) ∧ x.2.2 * y.2.2 ≠ 0 := by
  obtain ⟨x1, -, -⟩ := okF_iff.1 hx
  obtain ⟨y1, -, -⟩ := okF_iff.1 hy
  exact ⟨by unfold qv; rw [frac_scale y1], by unfold qv; rw [Nat.mul_comm x.2.2 y.2.2, frac_scale x1], Nat.mul_ne_zero x1 y1⟩
set_option maxRecDepth 100000 in
set_option maxHeartbeats 4000000 in
theorem refAdd2_works (p : Tri × Nat) {v v' : Value} {x y : Tri} {w : World} (hx : FracA w v x) (hy : FracA w v' y) (h : Hid (okF x = true ∧ okF y = true)) (hp : Hid (addF x y = p)) :
    Calls Tryz.prog 34 #[v, v'] w (ResF w p) := by
  have hx0 := hx
  have hy0 := hy
  obtain ⟨an, n, cn, ad, d, cd, rfl, uN, uD⟩ := hx
  obtain ⟨an', n', cn', ad', d', cd', rfl, uN', uD'⟩ := hy
  obtain ⟨T, hX, hY, hB⟩ := start3 w x.1 an n cn ad d cd y.1 an' n' cn' ad' d' cd' false none 0 0 none 0 0
  replace hx0 := hx0.mono T
  replace hy0 := hy0.mono T
  have hc0 := hX.c0
  have hc1 := hX.c1
  have hc2 := hX.c2
  have hd0 := hY.c0
  have hd1 := hY.c1
  have hd2 := hY.c2
  replace uN := uN.mono T
  replace uD := uD.mono T
  replace uN' := uN'.mono T
  replace uD' := uD'.mono T
  obtain ⟨x1, x2, x3⟩ := okF_iff.1 h.out.1
  obtain ⟨y1, y2, y3⟩ := okF_iff.1 h.out.2
  obtain ⟨e1, e2, hE⟩ := addF_parts h.out.1 h.out.2
  have FV := Lib.hid h.out.1
  have FU := Lib.hid h.out.2
  have m1 : x.2.1 * y.2.2 < pw 256 := lt_mul (i := 128) (j := 128) x2 y3
  have m2 : y.2.1 * x.2.2 < pw 256 := lt_mul (i := 128) (j := 128) y2 x3
  have m3 : x.2.2 * y.2.2 < pw 256 := lt_mul (i := 128) (j := 128) x3 y3
  have FM1 : Hid (x.2.1 < pw 512 ∧ y.2.2 < pw 512 ∧ x.2.1 * y.2.2 < pw 512) := Lib.hid ⟨lt_up x2 (by decide), lt_up y3 (by decide), lt_up m1 (by decide)⟩
  have FM2 : Hid (y.2.1 < pw 512 ∧ x.2.2 < pw 512 ∧ y.2.1 * x.2.2 < pw 512) := Lib.hid ⟨lt_up y2 (by decide), lt_up x3 (by decide), lt_up m2 (by decide)⟩
  have FM3 : Hid (x.2.2 < pw 512 ∧ y.2.2 < pw 512 ∧ x.2.2 * y.2.2 < pw 512) := Lib.hid ⟨lt_up x3 (by decide), lt_up y3 (by decide), lt_up m3 (by decide)⟩
  obtain ⟨A, hA⟩ : ∃ A, x.2.1 * y.2.2 = A := ⟨_, rfl⟩
  obtain ⟨B, hB2⟩ : ∃ B, y.2.1 * x.2.2 = B := ⟨_, rfl⟩
  obtain ⟨E, hE2⟩ : ∃ E, x.2.2 * y.2.2 = E := ⟨_, rfl⟩
  have HA := Lib.hid hA
  have HB := Lib.hid hB2
  have HE := Lib.hid hE2
  rw [hA] at m1 e1
  rw [hB2] at m2 e2
  rw [hE2] at m3 e1 e2 hE
  have E3 := Lib.hid e1
  have E4 := Lib.hid e2
  have E5 := Lib.hid hE
  have LX := Lib.hid m1
  have LY := Lib.hid m2
  have LE := Lib.hid m3
  clear x1 x2 x3 y1 y2 y3 e1 e2 hE m1 m2 m3 hA hB2 hE2 h
  go_enter Tryz.func34, Tryz.ntmps34
  go_wp2_with fail
  refine (refValidN true hx0 FV).mono ?_
  rintro e w1 ⟨rfl, h1⟩
  replace hB := hB.mono h1
  replace hX := hX.mono h1
  replace hY := hY.mono h1
  replace hx0 := hx0.mono h1
  replace hy0 := hy0.mono h1
  replace uN := uN.mono h1
  replace uD := uD.mono h1
  replace uN' := uN'.mono h1
  replace uD' := uD'.mono h1
  replace T := Add.trans T h1
  clear h1 hc0 hc1 hc2 hd0 hd1 hd2
  have hd0 := hY.c0
  have hd1 := hY.c1
  have hd2 := hY.c2
  go_wp2_with fail
  refine (refValidN true hy0 FU).mono ?_
  rintro e w2 ⟨rfl, h2⟩
  replace hB := hB.mono h2
  replace hX := hX.mono h2
  replace hY := hY.mono h2
  replace uN := uN.mono h2
  replace uD := uD.mono h2
  replace uN' := uN'.mono h2
  replace uD' := uD'.mono h2
  replace T := Add.trans T h2
  clear h2 hd0 hd1 hd2 hx0 hy0
  have K0 : Hid (∀ w', Add w2 w' → w'.cell? ⟨w.heap.size, 1, none⟩ = some (.slice an n cn) ∧ w'.cell? ⟨w.heap.size, 2, none⟩ = some (.slice ad d cd) ∧ w'.cell? ⟨w.heap.size + 1, 1, none⟩ = some (.slice an' n' cn') ∧ w'.cell? ⟨w.heap.size + 1, 2, none⟩ = some (.slice ad' d' cd')) := Lib.hid fun w' a => ⟨(hX.mono a).c1, (hX.mono a).c2, (hY.mono a).c1, (hY.mono a).c2⟩
  have C1 : Hid (∀ w', Add w2 w' → Calls Tryz.prog 61 #[.slice an n cn, .slice ad' d' cd'] w' (NumP w' A)) := Lib.hid fun w' a => by rw [← HA.out]; exact refTimesF (uN.mono a) (uD'.mono a) FM1
  have C2 : Hid (∀ w', Add w2 w' → Calls Tryz.prog 61 #[.slice an' n' cn', .slice ad d cd] w' (NumP w' B)) := Lib.hid fun w' a => by rw [← HB.out]; exact refTimesF (uN'.mono a) (uD.mono a) FM2
  have C3 : Hid (∀ w', Add w2 w' → Calls Tryz.prog 61 #[.slice ad d cd, .slice ad' d' cd'] w' (NumP w' E)) := Lib.hid fun w' a => by rw [← HE.out]; exact refTimesF (uD.mono a) (uD'.mono a) FM3
  have hc1 := hX.c1
  have hc2 := hX.c2
  have hd1 := hY.c1
  have hd2 := hY.c2
  clear uN uD uN' uD' FM1 FM2 FM3 HA HB HE
  go_wp2_with fail
  go_region_held3 (fun w' => w'.cell? ⟨w.heap.size, 1, none⟩ = some (.slice an n cn) ∧ w'.cell? ⟨w.heap.size, 2, none⟩ = some (.slice ad d cd) ∧ w'.cell? ⟨w.heap.size + 1, 1, none⟩ = some (.slice an' n' cn') ∧ w'.cell? ⟨w.heap.size + 1, 2, none⟩ = some (.slice ad' d' cd'))
    (first | exact K0.out _ (Below.drew (Below.refl _ _)) | exact K0.out _ a2 | exact K0.out _ a3 | exact K0.out _ a4 | go_keep)
    (first | (go_at_call 61; ((with_reducible refine (C1.out _ (Below.drew (Below.refl _ _))).mono ?_); rintro e w7 ⟨v1, rfl, n1, hq1⟩; have a2 := Add.trans (Below.drew (Below.refl _ _) : Add w2 (World.drew w2)) hq1))
           | (go_at_call 61; ((with_reducible refine (C2.out _ a2).mono ?_); rintro e w8 ⟨v2, rfl, n2, hq2⟩; have a3 := Add.trans a2 hq2; have n1' := n1.mono hq2))
           | (go_at_call 61; ((with_reducible refine (C3.out _ a3).mono ?_); rintro e w9 ⟨v3, rfl, n3, hq3⟩; have a4 := Add.trans a3 hq3; have n1'' := n1'.mono hq3; have n2' := n2.mono hq3)))
  replace hX := hX.mono a4
  replace hY := hY.mono a4
  replace hB := hB.mono a4
  replace T := Add.trans T a4
  have ua := num_nv n1'' (lt_up LX.out (by decide))
  have ub := num_nv n2' (lt_up LY.out (by decide))
  have ud := num_nv n3 (lt_up LE.out (by decide))
  clear C1 C2 C3 K0 hq1 hq2 hq3 a2 a3 a4 n1 n1' n1'' n2 n2' n3 hc1 hc2 hd1 hd2
  have hc0 := hX.c0
  have hd0 := hY.c0
  by_cases c : x.1 = y.1
  · have hb : (x.1 == y.1) = true := by rw [c]; exact beq_self_eq_true _
    have HCC := Lib.hid c
    clear c
    have hN : A + B < pw 257 := lt_add LX.out LY.out
    have FA : Hid (addS A B = (A + B, 0)) := Lib.hid (by unfold addS; rw [if_pos (lt_up hN (by decide))])
    have HN := Lib.hid hN
    clear hN
    go_wp2_with fail
    refine (refAddX (A + B, 0) ua ub FA).mono ?_
    rintro e w10 ⟨vs, rfl, ns, h10⟩
    replace hB := hB.mono h10
    replace hX := hX.mono h10
    replace hY := hY.mono h10
    replace ud := ud.mono h10
    replace T := Add.trans T h10
    clear h10 ua ub FA hb hc0 hd0
    have us := num_nv ns (lt_up HN.out (by decide))
    have hpe := (addF_same FV.out FU.out E3.out E4.out E5.out HCC.out).trans hp.out
    obtain ⟨qq, hqq⟩ : ∃ qq, frac x.1 (A + B) E = qq := ⟨_, rfl⟩
    have CL := Lib.hid (refLowestN (can qq) us ud (Lib.hid ⟨E5.out, lt_up HN.out (by decide), lt_up LE.out (by decide), by rw [hqq]⟩))
    have FP : Hid (fitQ qq = p) := Lib.hid (by rw [← hqq]; exact hpe)
    clear HCC hpe hqq us ns ud hp FV FU E3 E4 E5 LX LY LE
    have hs0 := hX.c0
    clear hX hY
    go_wp2_with fail
    refine (CL.out).mono ?_
    rintro e w11 ⟨v0, rfl, f0, h11⟩
    replace hB := hB.mono h11
    replace T := Add.trans T h11
    clear h11 CL hs0
    go_wp2_with fail
    refine (fitsN p f0 FP).mono ?_
    rintro e w12 ⟨vr, rfl, nr, h12⟩
    replace hB := hB.mono h12
    replace T := Add.trans T h12
    clear h12 FP f0
    obtain ⟨an2, n2, cn2, ad2, d2, cd2, rfl, m1, m2⟩ := nr
    have s0 := hB.c0
    have s1 := hB.c1
    have s2 := hB.c2
    have s3 := hB.fr 0
    have s4 := hB.fr 1
    have s5 := hB.fr 2
    have hF := resF_put (w := w) (p := p) hB ⟨an2, n2, cn2, ad2, d2, cd2, rfl, m1, m2⟩ T (by omega)
    clear hB T m1 m2
    unfold put3 at hF
    have HF := Lib.hid hF
    clear hF
    go_wp2_with fail
    exact bodyPost_ret (v := .tuple #[.agg #[.bool p.1.1, .slice an2 n2 cn2, .slice ad2 d2 cd2], .int .i64 (p.2 : Nat)]) (by simp [results, Tryz.results34, go_sem, s0, s1, s2]) rfl HF.out
  · have hb : (x.1 == y.1) = false := by
      rw [beq_eq_false_iff_ne]; exact c
    have HCC := Lib.hid c
    clear c
    obtain ⟨t, ht⟩ : ∃ t, cmpI A B = t := ⟨_, rfl⟩
    have FC := Lib.hid ht
    clear ht
    go_wp2_with fail
    refine (refCmpX t ua ub FC).mono ?_
    rintro e w10 ⟨rfl, h10⟩
    replace hB := hB.mono h10
    replace hX := hX.mono h10
    replace hY := hY.mono h10
    replace ua := ua.mono h10
    replace ub := ub.mono h10
    replace ud := ud.mono h10
    replace T := Add.trans T h10
    clear h10 hb hc0 hd0
    rcases Nat.lt_or_ge A B with hl | hl
    · have dt : decide ((0 : Int) ≤ t) = false := by rw [← FC.out, cmpI_lt hl]; rfl
      have hN : B - A < pw 256 := Nat.lt_of_le_of_lt (Nat.sub_le _ _) LY.out
      have FA : Hid (subS B A = (B - A, 0)) := Lib.hid (by
        have h1 := lt_up LX.out (show 256 ≤ 512 by decide)
        have h2 := lt_up LY.out (show 256 ≤ 512 by decide)
        unfold subS; rw [if_neg (by omega), if_neg (by omega)])
      have HN := Lib.hid hN
      have HL := Lib.hid (Nat.le_of_lt hl)
      clear hN hl FC
      go_wp2_with fail
      refine (refSubX (B - A, 0) ub ua FA).mono ?_
      rintro e w11 ⟨vs, rfl, ns, h11⟩
      replace hB := hB.mono h11
      replace hX := hX.mono h11
      replace hY := hY.mono h11
      replace ud := ud.mono h11
      replace T := Add.trans T h11
      clear h11 ua ub FA dt
      have us := num_nv ns (lt_up HN.out (by decide))
      have hpe := (addF_lt FV.out FU.out E3.out E4.out E5.out HCC.out HL.out).trans hp.out
      obtain ⟨qq, hqq⟩ : ∃ qq, frac y.1 (B - A) E = qq := ⟨_, rfl⟩
      have CL := Lib.hid (refLowestN (can qq) us ud (Lib.hid ⟨E5.out, lt_up HN.out (by decide), lt_up LE.out (by decide), by rw [hqq]⟩))
      have FP : Hid (fitQ qq = p) := Lib.hid (by rw [← hqq]; exact hpe)
      clear HCC hpe hqq us ns ud hp FV FU E3 E4 E5 LX LY LE
      have hs0 := hY.c0
      clear hX hY
      go_wp2_with fail
      refine (CL.out).mono ?_
      rintro e w12 ⟨v0, rfl, f0, h12⟩
      replace hB := hB.mono h12
      replace T := Add.trans T h12
      clear h12 CL hs0
      go_wp2_with fail
      refine (fitsN p f0 FP).mono ?_
      rintro e w13 ⟨vr, rfl, nr, h13⟩
      replace hB := hB.mono h13
      replace T := Add.trans T h13
      clear h13 FP f0
      obtain ⟨an2, n2, cn2, ad2, d2, cd2, rfl, m1, m2⟩ := nr
      have s0 := hB.c0
      have s1 := hB.c1
      have s2 := hB.c2
      have s3 := hB.fr 0
      have s4 := hB.fr 1
      have s5 := hB.fr 2
      have hF := resF_put (w := w) (p := p) hB ⟨an2, n2, cn2, ad2, d2, cd2, rfl, m1, m2⟩ T (by omega)
      clear hB T m1 m2
      unfold put3 at hF
      have HF := Lib.hid hF
      clear hF
      go_wp2_with fail
      exact bodyPost_ret (v := .tuple #[.agg #[.bool p.1.1, .slice an2 n2 cn2, .slice ad2 d2 cd2], .int .i64 (p.2 : Nat)]) (by simp [results, Tryz.results34, go_sem, s0, s1, s2]) rfl HF.out
    · have dt : decide ((0 : Int) ≤ t) = true := by
        rw [← FC.out]
        rcases Nat.lt_or_ge B A with h2 | h2
        · rw [cmpI_gt h2]; rfl
        · rw [cmpI_eq (by omega)]; rfl
      have hN : A - B < pw 256 := Nat.lt_of_le_of_lt (Nat.sub_le _ _) LX.out
      have FA : Hid (subS A B = (A - B, 0)) := Lib.hid (by
        have h1 := lt_up LX.out (show 256 ≤ 512 by decide)
        have h2 := lt_up LY.out (show 256 ≤ 512 by decide)
        unfold subS; rw [if_neg (by omega), if_neg (by omega)])
      have HN := Lib.hid hN
      have HL := Lib.hid hl
      clear hN hl FC
      go_wp2_with fail
      refine (refSubX (A - B, 0) ua ub FA).mono ?_
      rintro e w11 ⟨vs, rfl, ns, h11⟩
      replace hB := hB.mono h11
      replace hX := hX.mono h11
      replace hY := hY.mono h11
      replace ud := ud.mono h11
      replace T := Add.trans T h11
      clear h11 ua ub FA dt
      have us := num_nv ns (lt_up HN.out (by decide))
      have hpe := (addF_ge FV.out FU.out E3.out E4.out E5.out HCC.out HL.out).trans hp.out
      obtain ⟨qq, hqq⟩ : ∃ qq, frac x.1 (A - B) E = qq := ⟨_, rfl⟩
      have CL := Lib.hid (refLowestN (can qq) us ud (Lib.hid ⟨E5.out, lt_up HN.out (by decide), lt_up LE.out (by decide), by rw [hqq]⟩))
      have FP : Hid (fitQ qq = p) := Lib.hid (by rw [← hqq]; exact hpe)
      clear HCC hpe hqq us ns ud hp FV FU E3 E4 E5 LX LY LE
      have hs0 := hX.c0
      clear hX hY
      go_wp2_with fail
      refine (CL.out).mono ?_
      rintro e w12 ⟨v0, rfl, f0, h12⟩
      replace hB := hB.mono h12
      replace T := Add.trans T h12
      clear h12 CL hs0
      go_wp2_with fail
      refine (fitsN p f0 FP).mono ?_
      rintro e w13 ⟨vr, rfl, nr, h13⟩
      replace hB := hB.mono h13
      replace T := Add.trans T h13
      clear h13 FP f0
      obtain ⟨an2, n2, cn2, ad2, d2, cd2, rfl, m1, m2⟩ := nr
      have s0 := hB.c0
      have s1 := hB.c1
      have s2 := hB.c2
      have s3 := hB.fr 0
      have s4 := hB.fr 1
      have s5 := hB.fr 2
      have hF := resF_put (w := w) (p := p) hB ⟨an2, n2, cn2, ad2, d2, cd2, rfl, m1, m2⟩ T (by omega)
      clear hB T m1 m2
      unfold put3 at hF
      have HF := Lib.hid hF
      clear hF
      go_wp2_with fail
      exact bodyPost_ret (v := .tuple #[.agg #[.bool p.1.1, .slice an2 n2 cn2, .slice ad2 d2 cd2], .int .i64 (p.2 : Nat)]) (by simp [results, Tryz.results34, go_sem, s0, s1, s2]) rfl HF.out

theorem refAddN2 (p : Tri × Nat) {v v' : Value} {x y : Tri} {w : World} (hx : FracA w v x) (hy : FracA w v' y) (hp : Hid (addF x y = p)) : Calls Tryz.prog 34 #[v, v'] w (ResF w p) := by
  rcases both_or x y with h | h
  · exact refAdd2_works p hx hy (Lib.hid h) hp
  · exact refAdd2_refuses p hx hy (Lib.hid h) hp

/-- Minus x, as the reference writes it. -/
def oppF (x : Tri) : Tri := if x.2.1 = 0 then x else negF x
theorem addF_opp (x y : Tri) : addF x (oppF y) = subF x y := by
  unfold oppF subF
  by_cases h : y.2.1 = 0
  · rw [if_pos h]
    have e1 : okF (negF y) = okF y := rfl
    have e2 : qv y = 0 := by unfold qv; rw [h, frac_zero]
    have e3 : qv (negF y) = 0 := by
      show frac (!y.1) y.2.1 y.2.2 = 0
      rw [h, frac_zero]
    unfold addF
    rw [e1, e2, e3]
  · rw [if_neg h]
def RetA (w : World) (x : Tri) (e : Ending) (w' : World) : Prop := ∃ v, e = .returned v ∧ FracA w' v x ∧ Add w w'
theorem Nv.put {w : World} {v : Value} {N g : Nat} {b an n cn ad d cd} (h : Nv w v N) (hB : Box w g b an n cn ad d cd) (u0 u1 u2 : Value) : Nv (put3 w g u0 u1 u2) v N := by
  obtain ⟨zs, h1, h2⟩ := h; exact ⟨zs, h1.put hB u0 u1 u2, h2⟩
theorem retA_put {w wk : World} {g : Nat} {b an n cn ad d cd} {x : Tri} {an' n' cn' ad' d' cd'} (t : Bool) (ht : x.1 = t) (hB : Box wk g b an n cn ad d cd) (h1 : Nv wk (.slice an' n' cn') x.2.1) (h2 : Nv wk (.slice ad' d' cd') x.2.2) (hT : Add w wk) (hg : w.heap.size ≤ g) :
    RetA w x (.returned (.agg #[.bool t, .slice an' n' cn', .slice ad' d' cd'])) (put3 wk g (.bool t) (.slice an' n' cn') (.slice ad' d' cd')) := by
  subst ht; exact ⟨_, rfl, ⟨an', n', cn', ad', d', cd', rfl, Nv.put h1 hB _ _ _, Nv.put h2 hB _ _ _⟩, put3_below _ _ _ hT hg⟩
set_option maxRecDepth 100000 in
set_option maxHeartbeats 1000000 in
theorem oppN {v : Value} {x : Tri} {w : World} (hx : FracA w v x) : Calls Tryz.prog 67 #[v] w (RetA w (oppF x)) := by
  obtain ⟨an, n, cn, ad, d, cd, rfl, uN, uD⟩ := hx
  obtain ⟨T, hX, hB⟩ := start2 w x.1 an n cn ad d cd false none 0 0 none 0 0
  replace uN := uN.mono T
  replace uD := uD.mono T
  have hc0 := hX.c0
  have hc1 := hX.c1
  have hc2 := hX.c2
  go_enter Tryz.func67, Tryz.ntmps67
  go_wp2_with fail
  refine (refTrimX uN).mono ?_
  rintro e w1 ⟨v1, rfl, n1, h1⟩
  replace hB := hB.mono h1
  replace hX := hX.mono h1
  replace uN := uN.mono h1
  replace uD := uD.mono h1
  replace T := Add.trans T h1
  clear h1 hc0 hc1 hc2
  by_cases c : x.2.1 = 0
  · rw [c] at n1
    obtain ⟨ao, c1, rfl⟩ := num_len0 n1
    have e : oppF x = x := by unfold oppF; rw [if_pos c]
    have FE := Lib.hid e
    clear c n1 e
    have hb0 := hB.c0
    have hb1 := hB.c1
    have hb2 := hB.c2
    have hb3 := hB.fr 0
    have hb4 := hB.fr 1
    have hb5 := hB.fr 2
    have ha0 := hX.c0
    have ha1 := hX.c1
    have ha2 := hX.c2
    have hF := retA_put (w := w) (x := x) x.1 rfl hB uN uD T (by omega)
    clear hB T uN uD hX
    unfold put3 at hF
    have HF := Lib.hid hF
    clear hF
    go_wp2_with fail
    exact bodyPost_ret (v := .agg #[.bool x.1, .slice an n cn, .slice ad d cd]) (by simp [results, Tryz.results67, go_sem, hb0, hb1, hb2]) rfl (by rw [FE.out]; exact HF.out)
  · obtain ⟨ao, m, c1, rfl, hz, -⟩ := num_size n1
    have hm : m ≠ 0 := fun e => c (hz.1 e)
    have d0 : ((m : Int) == 0) = false := by simp; omega
    have e : oppF x = negF x := by unfold oppF; rw [if_neg c]
    have FE := Lib.hid e
    clear c n1 e hz hm
    have hb0 := hB.c0
    have hb1 := hB.c1
    have hb2 := hB.c2
    have hb3 := hB.fr 0
    have hb4 := hB.fr 1
    have hb5 := hB.fr 2
    have ha0 := hX.c0
    have ha1 := hX.c1
    have ha2 := hX.c2
    have hF := retA_put (w := w) (x := negF x) (!x.1) rfl hB uN uD T (by omega)
    clear hB T uN uD hX
    unfold put3 at hF
    have HF := Lib.hid hF
    clear hF
    go_wp2_with fail
    exact bodyPost_ret (v := .agg #[.bool (!x.1), .slice an n cn, .slice ad d cd]) (by simp [results, Tryz.results67, go_sem, hb0, hb1, hb2]) rfl (by rw [FE.out]; exact HF.out)

set_option maxRecDepth 100000 in
set_option maxHeartbeats 1000000 in
theorem refSubN2 (p : Tri × Nat) {v v' : Value} {x y : Tri} {w : World} (hx : FracA w v x) (hy : FracA w v' y) (hp : Hid (subF x y = p)) : Calls Tryz.prog 37 #[v, v'] w (ResF w p) := by
  have hx0 := hx
  have hy0 := hy
  obtain ⟨an, n, cn, ad, d, cd, rfl, uN, uD⟩ := hx
  obtain ⟨an', n', cn', ad', d', cd', rfl, uN', uD'⟩ := hy
  obtain ⟨T, hX, hY, hB⟩ := start3 w x.1 an n cn ad d cd y.1 an' n' cn' ad' d' cd' false none 0 0 none 0 0
  replace hx0 := hx0.mono T
  replace hy0 := hy0.mono T
  have FP : Hid (addF x (oppF y) = p) := Lib.hid (by rw [addF_opp]; exact hp.out)
  clear uN uD uN' uD' hp
  have K0 : Hid (∀ w', Add (((w.alloc (.cells #[.bool x.1, .slice an n cn, .slice ad d cd] 25)).alloc (.cells #[.bool y.1, .slice an' n' cn', .slice ad' d' cd'] 25)).alloc (.cells #[.bool false, .slice none 0 0, .slice none 0 0] 25)) w' → w'.cell? ⟨w.heap.size, 0, none⟩ = some (.bool x.1) ∧ w'.cell? ⟨w.heap.size, 1, none⟩ = some (.slice an n cn) ∧ w'.cell? ⟨w.heap.size, 2, none⟩ = some (.slice ad d cd) ∧ w'.cell? ⟨w.heap.size + 1, 0, none⟩ = some (.bool y.1) ∧ w'.cell? ⟨w.heap.size + 1, 1, none⟩ = some (.slice an' n' cn') ∧ w'.cell? ⟨w.heap.size + 1, 2, none⟩ = some (.slice ad' d' cd')) := Lib.hid fun w' a => ⟨(hX.mono a).c0, (hX.mono a).c1, (hX.mono a).c2, (hY.mono a).c0, (hY.mono a).c1, (hY.mono a).c2⟩
  have C1 : Hid (∀ w', Add (((w.alloc (.cells #[.bool x.1, .slice an n cn, .slice ad d cd] 25)).alloc (.cells #[.bool y.1, .slice an' n' cn', .slice ad' d' cd'] 25)).alloc (.cells #[.bool false, .slice none 0 0, .slice none 0 0] 25)) w' → Calls Tryz.prog 67 #[.agg #[.bool y.1, .slice an' n' cn', .slice ad' d' cd']] w' (RetA w' (oppF y))) := Lib.hid fun w' a => oppN (hy0.mono a)
  have C2 : Hid (∀ w', Add (((w.alloc (.cells #[.bool x.1, .slice an n cn, .slice ad d cd] 25)).alloc (.cells #[.bool y.1, .slice an' n' cn', .slice ad' d' cd'] 25)).alloc (.cells #[.bool false, .slice none 0 0, .slice none 0 0] 25)) w' → ∀ v1, FracA w' v1 (oppF y) → Calls Tryz.prog 34 #[.agg #[.bool x.1, .slice an n cn, .slice ad d cd], v1] w' (ResF w' p)) := Lib.hid fun w' a v1 f1 => refAddN2 p (hx0.mono a) f1 FP
  have hc0 := hX.c0
  have hc1 := hX.c1
  have hc2 := hX.c2
  have hd0 := hY.c0
  have hd1 := hY.c1
  have hd2 := hY.c2
  clear hX hY hx0 hy0 FP
  go_enter Tryz.func37, Tryz.ntmps37
  go_wp2_with fail
  go_region_held3 (fun w' => w'.cell? ⟨w.heap.size, 0, none⟩ = some (.bool x.1) ∧ w'.cell? ⟨w.heap.size, 1, none⟩ = some (.slice an n cn) ∧ w'.cell? ⟨w.heap.size, 2, none⟩ = some (.slice ad d cd) ∧ w'.cell? ⟨w.heap.size + 1, 0, none⟩ = some (.bool y.1) ∧ w'.cell? ⟨w.heap.size + 1, 1, none⟩ = some (.slice an' n' cn') ∧ w'.cell? ⟨w.heap.size + 1, 2, none⟩ = some (.slice ad' d' cd'))
    (first | exact K0.out _ (Below.drew (Below.refl _ _)) | exact K0.out _ a2 | exact K0.out _ a3 | exact ⟨(put3_cell (g := w.heap.size + 2) _ _ _ (by omega)).trans (K0.out _ a3 |>.1), (put3_cell (g := w.heap.size + 2) _ _ _ (by omega)).trans (K0.out _ a3 |>.2.1), (put3_cell (g := w.heap.size + 2) _ _ _ (by omega)).trans (K0.out _ a3 |>.2.2.1), (put3_cell (g := w.heap.size + 2) _ _ _ (by omega)).trans (K0.out _ a3 |>.2.2.2.1), (put3_cell (g := w.heap.size + 2) _ _ _ (by omega)).trans (K0.out _ a3 |>.2.2.2.2.1), (put3_cell (g := w.heap.size + 2) _ _ _ (by omega)).trans (K0.out _ a3 |>.2.2.2.2.2)⟩ | go_keep)
    (first | (go_at_call 67; ((with_reducible refine (C1.out _ (Below.drew (Below.refl _ _))).mono ?_); rintro e w7 ⟨v1, rfl, f1, hq1⟩; have a2 := Add.trans (Below.drew (Below.refl _ _) : Add (((w.alloc (.cells #[.bool x.1, .slice an n cn, .slice ad d cd] 25)).alloc (.cells #[.bool y.1, .slice an' n' cn', .slice ad' d' cd'] 25)).alloc (.cells #[.bool false, .slice none 0 0, .slice none 0 0] 25)) (World.drew (((w.alloc (.cells #[.bool x.1, .slice an n cn, .slice ad d cd] 25)).alloc (.cells #[.bool y.1, .slice an' n' cn', .slice ad' d' cd'] 25)).alloc (.cells #[.bool false, .slice none 0 0, .slice none 0 0] 25)))) hq1))
           | (go_at_call 34; ((with_reducible refine (C2.out _ a2 _ f1).mono ?_); rintro e w8 ⟨vr, rfl, nr, hq2⟩; have a3 := Add.trans a2 hq2; obtain ⟨an2, n2, cn2, ad2, d2, cd2, rfl, m1, m2⟩ := nr; have hB3 := hB.mono a3; have s0 := hB3.c0; have s1 := hB3.c1; have s2 := hB3.c2; have s3 := hB3.fr 0; have s4 := hB3.fr 1; have s5 := hB3.fr 2)))
  have hF := resF_put (w := w) (p := p) hB3 ⟨an2, n2, cn2, ad2, d2, cd2, rfl, m1, m2⟩ (Add.trans T a3) (by omega)
  unfold put3 at hF
  have HF := Lib.hid hF
  clear hF m1 m2
  go_wp2_with fail
  exact bodyPost_ret (v := .tuple #[.agg #[.bool p.1.1, .slice an2 n2 cn2, .slice ad2 d2 cd2], .int .i64 (p.2 : Nat)]) (by simp [results, Tryz.results37, go_sem, s0, s1, s2]) rfl HF.out

end Go.Proofs.YtifpfoeecnkhoaaGreatDoor

namespace Go.Proofs.YtifpfoeecnkhoaaGreatDoor
open NatM

/-- The sum of a list. -/
def sumQ : List Tri → Rat
  | [] => 0
  | x :: l => qv x + sumQ l
/-- A total, to which a list is added from the first to the last. -/
def sumF (t : Tri) : List Tri → Tri × Nat
  | [] => (t, 0)
  | x :: l => if (addF t x).2 = 0 then sumF (addF t x).1 l else ((false, 0, 0), (addF t x).2)
theorem sumQ_append (a b : List Tri) : sumQ (a ++ b) = sumQ a + sumQ b := by
  induction a with
  | nil => rw [List.nil_append, sumQ, Rat.zero_add]
  | cons x l h => rw [List.cons_append, sumQ, sumQ, h, Rat.add_assoc]
theorem sumF_append (a b : List Tri) : ∀ t, sumF t (a ++ b) = if (sumF t a).2 = 0 then sumF (sumF t a).1 b else ((false, 0, 0), (sumF t a).2) := by
  induction a with
  | nil => intro t; rw [List.nil_append, sumF, if_pos rfl]
  | cons x l h =>
    intro t
    rw [List.cons_append, sumF, sumF]
    by_cases c : (addF t x).2 = 0
    · rw [if_pos c, if_pos c, h]
    · rw [if_neg c, if_neg c, if_neg c]
/-- Of valid fractions of at most 8 limbs: the sum, in lowest terms. -/
theorem sumF_ok : ∀ (L : List Tri) (q : Rat) (i : Nat), Sz i (can q) → (∀ x ∈ L, Sz 8 x) → i + 9 * L.length ≤ 128 →
    sumF (can q) L = (can (q + sumQ L), 0) ∧ Sz (i + 9 * L.length) (can (q + sumQ L))
  | [], q, i, hi, _, _ => by
    rw [sumF, sumQ, Rat.add_zero]; exact ⟨rfl, hi⟩
  | x :: l, q, i, hi, hL, h => by
    rw [List.length_cons] at h
    obtain ⟨e, z⟩ := add_sz hi (hL x (by simp)) (by omega)
    rw [qv_can] at e z
    have := sumF_ok l (q + qv x) (i + 8 + 1) z (fun y hy => hL y (by simp [hy])) (by omega)
    rw [sumF, e, if_pos rfl, sumQ, ← Rat.add_assoc, List.length_cons]
    exact ⟨this.1, this.2.up (by omega)⟩
/-- One of them isn't valid: ErrArg. -/
theorem sumF_bad : ∀ (L : List Tri) (q : Rat) (i : Nat), Sz i (can q) → (∀ x ∈ L, x.2.1 < pw 8 ∧ x.2.2 < pw 8) → i + 9 * L.length ≤ 128 → (∃ x ∈ L, okF x = false) →
    sumF (can q) L = ((false, 0, 0), 1)
  | [], _, _, _, _, _, h => by obtain ⟨x, h, -⟩ := h; cases h
  | x :: l, q, i, hi, hL, h, hx => by
    rw [List.length_cons] at h
    rw [sumF]
    have hb := hL x (by simp)
    by_cases c : okF x = true
    · have z8 : Sz 8 x := ⟨(okF_iff.1 c).1, hb⟩
      obtain ⟨e, z⟩ := add_sz hi z8 (by omega)
      rw [qv_can] at e z
      rw [e, if_pos rfl]
      refine sumF_bad l (q + qv x) (i + 8 + 1) z (fun y hy => hL y (by simp [hy])) (by omega) ?_
      obtain ⟨y, hy, hn⟩ := hx
      rcases List.mem_cons.1 hy with rfl | hy
      · rw [c] at hn; cases hn
      · exact ⟨y, hy, hn⟩
    · have e : addF (can q) x = ((false, 0, 0), 1) := by unfold addF; rw [if_neg fun h => c h.2]
      rw [e, if_neg (by decide)]
theorem can0 : can 0 = (false, 0, 1) := rfl
theorem sz0 : Sz 1 (can 0) := ⟨by rw [can0]; decide, by rw [can0]; decide, by rw [can0]; decide⟩
end Go.Proofs.YtifpfoeecnkhoaaGreatDoor

namespace Go.Proofs.YtifpfoeecnkhoaaGreatDoor
open Go.RowKit NatM Go.Proofs.YtifpfoeecnkhoaaGreatDoor.Api

/-- A list of fractions in memory. -/
def FracsA (w : World) (v : Value) (L : List Tri) : Prop := ∃ (a : Option Addr) (n c : Nat), v = .slice a n c ∧ L.length = n ∧ n ≤ 100000 ∧
  ∀ i, i < n → ∃ b off s an m cn ad d cd, a = some ⟨b, off, none⟩ ∧ w.cell? ⟨b, off + i * 3, none⟩ = some (.bool s) ∧ w.cell? ⟨b, off + i * 3 + 1, none⟩ = some (.slice an m cn) ∧ w.cell? ⟨b, off + i * 3 + 2, none⟩ = some (.slice ad d cd) ∧
    FracA w (.agg #[.bool s, .slice an m cn, .slice ad d cd]) (L.getD i (false, 0, 0))
theorem FracsA.mono {w w' : World} {v : Value} {L : List Tri} (h : FracsA w v L) (hb : Add w w') : FracsA w' v L := by
  obtain ⟨a, n, c, rfl, hl, hn, h⟩ := h
  refine ⟨a, n, c, rfl, hl, hn, fun i hi => ?_⟩
  obtain ⟨b, off, s, an, m, cn, ad, d, cd, h1, h2, h3, h4, h5⟩ := h i hi
  have k := fun (p : Addr) (v : Value) (g : w.cell? p = some v) => (hb.cell (p := p) (World.block_lt_of_cell? w _ g)).trans g
  exact ⟨b, off, s, an, m, cn, ad, d, cd, h1, k _ _ h2, k _ _ h3, k _ _ h4, h5.mono hb⟩
theorem fitQ_lt (q : Rat) : (fitQ q).1.2.1 < pw 128 ∧ (fitQ q).1.2.2 < pw 128 := by
  unfold fitQ
  split
  · exact ⟨pw_pos 128, pw_pos 128⟩
  · next h =>
    have h1 : q.num.natAbs < pw 128 := by omega
    have h2 : q.den < pw 128 := by omega
    exact ⟨h1, h2⟩
theorem addF_lt128 {x y : Tri} {s : Bool} {N D c : Nat} (h : addF x y = ((s, N, D), c)) : N < pw 128 ∧ D < pw 128 := by
  have g : (addF x y).1.2.1 < pw 128 ∧ (addF x y).1.2.2 < pw 128 := by
    unfold addF
    split
    · exact fitQ_lt _
    · exact ⟨pw_pos 128, pw_pos 128⟩
  rw [h] at g; exact g
theorem sumF_step0 {t x : Tri} {l : List Tri} {r : Tri} (h : addF t x = (r, 0)) : sumF t (x :: l) = sumF r l := by
  rw [sumF, h, if_pos rfl]
theorem sumF_stop {t x : Tri} {l : List Tri} {r : Tri} {c : Nat} (h : addF t x = (r, c)) (hc : c ≠ 0) : sumF t (x :: l) = ((false, 0, 0), c) := by
  rw [sumF, h, if_neg hc]
theorem drop_get {L : List Tri} {k n : Nat} (hn : L.length = n) (hk : k < n) : L.drop k = L.getD k (false, 0, 0) :: L.drop (k + 1) := by
  rw [List.drop_eq_getElem_cons (by omega)]; simp [List.getD, show k < L.length by omega]
/-- A result of which the parts have names. -/
def ResE2 (w : World) (s : Bool) (N D c : Nat) (e : Ending) (w' : World) : Prop := ∃ a n k a' n' k', e = .returned (.tuple #[.agg #[.bool s, .slice a n k, .slice a' n' k'], .int .i64 (c : Nat)]) ∧ Num w' (.slice a n k) N ∧ Num w' (.slice a' n' k') D ∧ Add w w'
theorem resE2 {w : World} {p : Tri × Nat} {s : Bool} {N D c : Nat} {e : Ending} {w' : World} (g : ResF w p e w') (h : Hid (p = ((s, N, D), c))) : ResE2 w s N D c e w' := by
  obtain ⟨v, he, ⟨a, n, k, a', n', k', rfl, h1, h2⟩, h3⟩ := g
  have e1 := h.out
  subst e1
  exact ⟨a, n, k, a', n', k', he, h1, h2, h3⟩
theorem Box.other2 {w : World} {g k : Nat} {b an n cn ad d cd} (h : Box w k b an n cn ad d cd) (hk : k ≠ g) (u0 u1 u2 : Value) : Box (put3 w g u0 u1 u2) k b an n cn ad d cd := (put3_other u0 u1 u2 hk).trans h
theorem nzi {c : Nat} (h : c ≠ 0) : ((c : Int) != 0) = true := by simp [bne]; omega
end Go.Proofs.YtifpfoeecnkhoaaGreatDoor

namespace Go.Proofs.YtifpfoeecnkhoaaGreatDoor
open Go.RowKit NatM Go.Proofs.YtifpfoeecnkhoaaGreatDoor.Api
end Go.Proofs.YtifpfoeecnkhoaaGreatDoor

namespace Go.Proofs.YtifpfoeecnkhoaaGreatDoor
open Go.RowKit NatM Go.Proofs.YtifpfoeecnkhoaaGreatDoor.Api

/-- Over one denominator. -/
theorem mk_lt {a b : Int} {d : Nat} (hd : d ≠ 0) : mkRat a d < mkRat b d ↔ a < b := by
  have sg : ∀ z : Int, sgq (decide (z < 0)) z.natAbs = z := by
    intro z
    by_cases h : z < 0
    · simp only [sgq, h, decide_true, if_true]; omega
    · simp only [sgq, h, decide_false, Bool.false_eq_true, if_false]; omega
  have h := frac_lt (m := decide (a < 0)) (n := decide (b < 0)) (N := a.natAbs) (M := b.natAbs) hd hd
  unfold frac at h
  rw [sg, sg] at h
  rw [h]
  exact Int.mul_lt_mul_right (by omega)
theorem mk_le {a b : Int} {d : Nat} (hd : d ≠ 0) : mkRat a d ≤ mkRat b d ↔ a ≤ b := by
  rw [← Rat.not_lt, mk_lt hd]; omega
theorem mk_eq {a b : Int} {d : Nat} (hd : d ≠ 0) : mkRat a d = mkRat b d ↔ a = b := by
  rw [Rat.mkRat_eq_iff hd hd]
  exact ⟨fun h => Int.eq_of_mul_eq_mul_right (by omega) h, fun h => by rw [h]⟩
theorem mk_add {a b : Int} {d : Nat} (hd : d ≠ 0) : mkRat a d + mkRat b d = mkRat (a + b) d := by
  rw [Rat.mkRat_add_mkRat _ _ hd hd, ← Int.add_mul, Rat.mkRat_mul_right hd]

/-- How many units: away from 0, or towards it. -/
def countR (N D n : Nat) (away : Bool) : Nat := N * 2 ^ n / D + (if away = true ∧ N * 2 ^ n % D ≠ 0 then 1 else 0)
/-- The rounded number. -/
def roundQ (s : Bool) (N D n : Nat) (away : Bool) : Rat := frac s (countR N D n away) (2 ^ n)
def unitQ (n : Nat) : Rat := frac false 1 (2 ^ n)
/-- What rounding answers. -/
def roundF (x : Tri) (z : Int) (away : Bool) : Tri × Nat :=
  if okF x = true then (if z < 0 ∨ 256 < z then ((false, 0, 0), 5) else fitQ (roundQ x.1 x.2.1 x.2.2 z.toNat away)) else ((false, 0, 0), 1)
theorem two_ne (n : Nat) : 2 ^ n ≠ 0 := Nat.pos_iff_ne_zero.1 (Nat.two_pow_pos n)
theorem round_common {s : Bool} {N D n : Nat} (hD : D ≠ 0) (away : Bool) :
    roundQ s N D n away = mkRat (sgq s (countR N D n away * D)) (2 ^ n * D) ∧ frac s N D = mkRat (sgq s (N * 2 ^ n)) (2 ^ n * D) ∧ unitQ n = mkRat (D : Int) (2 ^ n * D) := by
  refine ⟨?_, ?_, ?_⟩
  · show frac s _ _ = frac s _ _
    rw [frac_scale hD]
  · show frac s N D = frac s _ _
    rw [Nat.mul_comm (2 ^ n) D, frac_scale (two_ne n)]
  · show frac false 1 (2 ^ n) = frac false D _
    have h := frac_scale (neg := false) (N := 1) (D := 2 ^ n) (k := D) hD
    rw [Nat.one_mul] at h
    exact h.symm
theorem count_mul (N D n : Nat) (away : Bool) : countR N D n away * D + N * 2 ^ n % D = N * 2 ^ n + (if away = true ∧ N * 2 ^ n % D ≠ 0 then D else 0) := by
  have h := Nat.div_add_mod (N * 2 ^ n) D
  rw [Nat.mul_comm] at h
  unfold countR
  split
  · rw [Nat.add_mul, Nat.one_mul]; omega
  · rw [Nat.add_zero]; omega
/-- Floor and Ceil of a number: below and above, and one unit apart if they are not the same. -/
theorem round_law {s : Bool} {N D n : Nat} (hD : D ≠ 0) :
    roundQ s N D n s ≤ frac s N D ∧ frac s N D < roundQ s N D n s + unitQ n ∧ frac s N D ≤ roundQ s N D n (!s) ∧ (roundQ s N D n s = roundQ s N D n (!s) ∨ roundQ s N D n (!s) = roundQ s N D n s + unitQ n) := by
  obtain ⟨e1, e2, e3⟩ := round_common (s := s) (N := N) (n := n) hD s
  obtain ⟨e4, -, -⟩ := round_common (s := s) (N := N) (n := n) hD (!s)
  have hE : 2 ^ n * D ≠ 0 := Nat.mul_ne_zero (two_ne n) hD
  have c1 := count_mul N D n s
  have c2 := count_mul N D n (!s)
  have hm : N * 2 ^ n % D < D := Nat.mod_lt _ (Nat.pos_of_ne_zero hD)
  rw [e1, e2, e3, e4, mk_add hE, mk_le hE, mk_lt hE, mk_le hE, mk_eq hE, mk_eq hE]
  generalize countR N D n s * D = C1 at *
  generalize countR N D n (!s) * D = C2 at *
  generalize N * 2 ^ n % D = M at *
  generalize N * 2 ^ n = A at *
  clear e1 e2 e3 e4 hE
  cases s
  · simp only [sgq, Bool.false_eq_true, false_and, if_false, Bool.not_false, true_and, ne_eq] at *
    split at c2 <;> omega
  · simp only [sgq, Bool.not_true, Bool.false_eq_true, false_and, if_false, if_true, true_and, ne_eq] at *
    split at c1 <;> omega
theorem round_den {s : Bool} {N D n : Nat} {away : Bool} : (roundQ s N D n away).den ∣ 2 ^ n := by
  unfold roundQ
  rw [frac_den (two_ne n)]
  exact Nat.div_dvd_of_dvd (Nat.gcd_dvd_right _ _)
theorem two_lt {n : Nat} (h : n ≤ 256) : 2 ^ n < pw 9 := by
  obtain ⟨m, hm⟩ : ∃ m, m = 32 * 9 := ⟨_, rfl⟩
  rw [pw_two, ← hm]; exact Nat.pow_lt_pow_right (by decide) (by omega)
theorem count_lt {N D n k : Nat} {away : Bool} (hN : N < pw k) (h : n ≤ 256) : N * 2 ^ n < pw (k + 9) ∧ countR N D n away < pw (k + 10) := by
  have h1 : N * 2 ^ n < pw (k + 9) := lt_mul hN (two_lt h)
  have h2 : N * 2 ^ n / D ≤ N * 2 ^ n := Nat.div_le_self _ _
  have h3 : pw (k + 9) < pw (k + 10) := pw_lt (by omega)
  refine ⟨h1, ?_⟩
  unfold countR
  split <;> omega
/-- Of a fraction that isn't long: no error. -/
theorem round_sz {x : Tri} {z : Int} {away : Bool} (hx : Sz 24 x) (h0 : 0 ≤ z) (h1 : z ≤ 256) :
    roundF x z away = (can (roundQ x.1 x.2.1 x.2.2 z.toNat away), 0) ∧ Sz 34 (can (roundQ x.1 x.2.1 x.2.2 z.toNat away)) := by
  unfold roundF
  rw [if_pos (hx.ok (by decide)), if_neg (by omega)]
  exact fit_of (k := 34) rfl (two_ne _) (count_lt hx.2.1 (by omega)).2 (lt_up (two_lt (by omega)) (by decide)) (by decide)
theorem unit_sz {n : Nat} (h : n ≤ 256) : Sz 9 (false, 1, 2 ^ n) := ⟨two_ne n, show 1 < pw 9 from Nat.lt_of_lt_of_le (show 1 < pw 1 by decide) (pw_le (by decide)), two_lt h⟩
/-- Minus a rounded number is the number minus x rounded the other way. -/
theorem roundF_bad {x : Tri} {z : Int} {away : Bool} (h : okF x = false) : roundF x z away = ((false, 0, 0), 1) := by
  unfold roundF; rw [if_neg (by rw [h]; simp)]
theorem roundF_range {x : Tri} {z : Int} {away : Bool} (h : okF x = true) (hz : z < 0 ∨ 256 < z) : roundF x z away = ((false, 0, 0), 5) := by
  unfold roundF; rw [if_pos h, if_pos hz]
theorem roundF_in {x : Tri} {z : Int} {away : Bool} (h : okF x = true) (hz : ¬ (z < 0 ∨ 256 < z)) : roundF x z away = fitQ (roundQ x.1 x.2.1 x.2.2 z.toNat away) := by
  unfold roundF; rw [if_pos h, if_neg hz]
theorem fitQ_neg {q : Rat} : fitQ (-q) = (if (fitQ q).2 = 0 then (if (fitQ q).1.2.1 = 0 then (fitQ q).1 else (!(fitQ q).1.1, (fitQ q).1.2.1, (fitQ q).1.2.2)) else (fitQ q).1, (fitQ q).2) := by
  unfold fitQ
  simp only [Rat.neg_num, Rat.neg_den, Int.natAbs_neg]
  split
  · simp
  · unfold can
    simp only [Rat.neg_num, Rat.neg_den, Int.natAbs_neg]
    by_cases h : q.num = 0
    · simp [h]
    · simp only [Int.natAbs_eq_zero, h, if_false, if_true, Prod.mk.injEq, and_true]
      rw [← decide_not, decide_eq_decide]; omega
end Go.Proofs.YtifpfoeecnkhoaaGreatDoor

namespace Go.Proofs.YtifpfoeecnkhoaaGreatDoor
open Go.RowKit NatM Go.Proofs.YtifpfoeecnkhoaaGreatDoor.Api

/-- What came in as one fraction. -/
abbrev FrL := Bool × List Nat × List Nat
def triOf (x : FrL) : Tri := (x.1, val x.2.1, val x.2.2)
/-- A list of fractions as it came in. -/
def FracsI (w : World) (v : Value) (L : List FrL) : Prop := ∃ (a : Option Addr) (n c : Nat), v = .slice a n c ∧ L.length = n ∧ n ≤ c ∧ c ≤ maxLen ∧ (a = none → n = 0 ∧ c = 0) ∧
  ∀ i, i < n → ∃ b off s an m cn ad d cd, a = some ⟨b, off, none⟩ ∧ w.cell? ⟨b, off + i * 3, none⟩ = some (.bool s) ∧ w.cell? ⟨b, off + i * 3 + 1, none⟩ = some (.slice an m cn) ∧ w.cell? ⟨b, off + i * 3 + 2, none⟩ = some (.slice ad d cd) ∧
    FracI w (.agg #[.bool s, .slice an m cn, .slice ad d cd]) (L.getD i (false, [], [])).1 (L.getD i (false, [], [])).2.1 (L.getD i (false, [], [])).2.2
def longL (L : List FrL) : Bool := L.any fun x => longB x.2.1 x.2.2
theorem FracsI.arg {w : World} {v : Value} {L : List FrL} (h : FracsI w v L) (hl : longL L = false) (hn : L.length ≤ 12) : FracsA w v (L.map triOf) := by
  obtain ⟨a, n, c, rfl, he, -, -, -, h⟩ := h
  refine ⟨a, n, c, rfl, by rw [List.length_map, he], by omega, fun i hi => ?_⟩
  obtain ⟨b, off, s, an, m, cn, ad, d, cd, h1, h2, h3, h4, h5⟩ := h i hi
  refine ⟨b, off, s, an, m, cn, ad, d, cd, h1, h2, h3, h4, ?_⟩
  have hi' : i < L.length := by omega
  have e : (L.map triOf).getD i (false, 0, 0) = triOf (L.getD i (false, [], [])) := by simp [List.getD, hi']
  rw [e]
  refine h5.arg ?_
  have hm : L.getD i (false, [], []) ∈ L := by simp [List.getD, hi']
  cases hb : longB (L.getD i (false, [], [])).2.1 (L.getD i (false, [], [])).2.2
  · rfl
  · have : longL L = true := List.any_eq_true.2 ⟨_, hm, hb⟩
    rw [hl] at this; cases this
theorem FracsA.cutL {w : World} {a : Option Addr} {n c : Nat} {L : List Tri} (h : FracsA w (.slice a n c) L) {k : Nat} (hk : k ≤ n) (c' : Nat) : FracsA w (.slice a k c') (L.take k) := by
  obtain ⟨a', n', c2, e, hl, hn, h⟩ := h
  simp only [Value.slice.injEq] at e
  obtain ⟨rfl, rfl, rfl⟩ := e
  refine ⟨a, k, c', rfl, by rw [List.length_take]; omega, by omega, fun i hi => ?_⟩
  obtain ⟨b, off, s, an, m, cn, ad, d, cd, h1, h2, h3, h4, h5⟩ := h i (by omega)
  refine ⟨b, off, s, an, m, cn, ad, d, cd, h1, h2, h3, h4, ?_⟩
  have e : (L.take k).getD i (false, 0, 0) = L.getD i (false, 0, 0) := by simp [List.getD, hi]
  rw [e]; exact h5
theorem FracsA.cutR {w : World} {a a2 : Option Addr} {n c : Nat} {L : List Tri} (h : FracsA w (.slice a n c) L) {k : Nat} (hk : k ≤ n) (c' : Nat)
    (ha : k < n → ∀ b off, a = some ⟨b, off, none⟩ → a2 = some ⟨b, off + k * 3, none⟩) : FracsA w (.slice a2 (n - k) c') (L.drop k) := by
  obtain ⟨a', n', c2, e, hl, hn, h⟩ := h
  simp only [Value.slice.injEq] at e
  obtain ⟨rfl, rfl, rfl⟩ := e
  refine ⟨a2, n - k, c', rfl, by rw [List.length_drop]; omega, by omega, fun i hi => ?_⟩
  obtain ⟨b, off, s, an, m, cn, ad, d, cd, h1, h2, h3, h4, h5⟩ := h (k + i) (by omega)
  have e0 : off + (k + i) * 3 = off + k * 3 + i * 3 := by omega
  rw [e0] at h2 h3 h4
  refine ⟨b, off + k * 3, s, an, m, cn, ad, d, cd, ha (by omega) b off h1, h2, h3, h4, ?_⟩
  have e : (L.drop k).getD i (false, 0, 0) = L.getD (k + i) (false, 0, 0) := by simp [List.getD, List.getElem?_drop]
  rw [e]; exact h5
/-- All of them valid, of at most 8 limbs: what the sums are. -/
theorem sum_good {L : List Tri} (h : ∀ x ∈ L, Sz 8 x) (hl : L.length ≤ 12) : sumF (false, 0, 1) L = (can (sumQ L), 0) ∧ Sz 118 (can (sumQ L)) := by
  have := sumF_ok L 0 1 sz0 h (by omega)
  rw [can0, Rat.zero_add] at this
  exact ⟨this.1, this.2.up (by omega)⟩
theorem sum_bad {L : List Tri} (h : ∀ x ∈ L, x.2.1 < pw 8 ∧ x.2.2 < pw 8) (hl : L.length ≤ 12) (hx : ∃ x ∈ L, okF x = false) : sumF (false, 0, 1) L = ((false, 0, 0), 1) := by
  have := sumF_bad L 0 1 sz0 h (by omega) hx
  rwa [can0] at this
theorem FracsI.mono {w w' : World} {v : Value} {L : List FrL} (h : FracsI w v L) (hb : Add w w') : FracsI w' v L := by
  obtain ⟨a, n, c, rfl, hl, h1, h2, h3, h⟩ := h
  refine ⟨a, n, c, rfl, hl, h1, h2, h3, fun i hi => ?_⟩
  obtain ⟨b, off, s, an, m, cn, ad, d, cd, g1, g2, g3, g4, a1, l1, k1, a2, l2, k2, e, r1, r2⟩ := h i hi
  have k := fun (p : Addr) (v : Value) (g : w.cell? p = some v) => (hb.cell (p := p) (World.block_lt_of_cell? w _ g)).trans g
  exact ⟨b, off, s, an, m, cn, ad, d, cd, g1, k _ _ g2, k _ _ g3, k _ _ g4, a1, l1, k1, a2, l2, k2, e, r1.mono hb, r2.mono hb⟩
/-- The parts have at most 8 limbs. -/
def short8 (x : FrL) : Bool := decide (x.2.1.length ≤ 8) && decide (x.2.2.length ≤ 8)
theorem FracsI.cell {w : World} {a : Option Addr} {n c : Nat} {L : List FrL} (h : FracsI w (.slice a n c) L) {k : Nat} (hk : k < n) :
    ∃ b off s an m cn ad d cd, a = some ⟨b, off, none⟩ ∧ w.cell? ⟨b, off + k * 3, none⟩ = some (.bool s) ∧ w.cell? ⟨b, off + k * 3 + 1, none⟩ = some (.slice an m cn) ∧ w.cell? ⟨b, off + k * 3 + 2, none⟩ = some (.slice ad d cd) ∧
      short8 (L.getD k (false, [], [])) = (decide (m ≤ 8) && decide (d ≤ 8)) := by
  obtain ⟨a', n', c', e, hl, -, -, -, h⟩ := h
  simp only [Value.slice.injEq] at e
  obtain ⟨rfl, rfl, rfl⟩ := e
  obtain ⟨b, off, s, an, m, cn, ad, d, cd, g1, g2, g3, g4, a1, l1, k1, a2, l2, k2, e, r1, r2⟩ := h k hk
  simp only [Value.agg.injEq, Array.mk.injEq, List.cons.injEq, Value.bool.injEq, Value.slice.injEq, and_true] at e
  obtain ⟨-, ⟨rfl, rfl, rfl⟩, rfl, rfl, rfl⟩ := e
  refine ⟨b, off, s, an, m, cn, ad, d, cd, g1, g2, g3, g4, ?_⟩
  have e1 : m = _ := r1.lenV
  have e2 : d = _ := r2.lenV
  unfold short8
  rw [← e1, ← e2]
theorem FracsI.limbs {w : World} {v : Value} {L : List FrL} (h : FracsI w v L) : ∀ x ∈ L, Limbs x.2.1 ∧ Limbs x.2.2 := by
  obtain ⟨a, n, c, rfl, hl, -, -, -, h⟩ := h
  intro x hx
  obtain ⟨i, hi, rfl⟩ := List.mem_iff_getElem.1 hx
  obtain ⟨b, off, s, an, m, cn, ad, d, cd, g1, g2, g3, g4, a1, l1, k1, a2, l2, k2, e, r1, r2⟩ := h i (by omega)
  have e1 : L.getD i (false, [], []) = L[i] := by simp [List.getD, hi]
  rw [e1] at r1 r2
  exact ⟨r1.limbs, r2.limbs⟩
theorem short_tri {L : List FrL} (h : ∀ x ∈ L, Limbs x.2.1 ∧ Limbs x.2.2) (hs : ∀ x ∈ L, short8 x = true) : ∀ x ∈ L.map triOf, x.2.1 < pw 8 ∧ x.2.2 < pw 8 := by
  intro x hx
  obtain ⟨y, hy, rfl⟩ := List.mem_map.1 hx
  have h1 := hs y hy
  simp only [short8, Bool.and_eq_true, decide_eq_true_eq] at h1
  exact ⟨Nat.lt_of_lt_of_le (val_lt (h y hy).1) (pw_le h1.1), Nat.lt_of_lt_of_le (val_lt (h y hy).2) (pw_le h1.2)⟩
end Go.Proofs.YtifpfoeecnkhoaaGreatDoor

namespace Go.Proofs.YtifpfoeecnkhoaaGreatDoor
open Go.RowKit NatM Go.Proofs.YtifpfoeecnkhoaaGreatDoor.Api

theorem natMake1 (w : World) : Calls Tryz.prog 79 #[.int .u64 1] w (NumP w 1) := natMakeZ 1 (Lib.hid ⟨rfl, by decide⟩)
theorem shiftUpF (N k : Nat) {va : Value} {A : Nat} {w : World} (ha : Nv w va A) (h : Hid (A < pw 512 ∧ nb A + k ≤ 16384 ∧ A * 2 ^ k = N)) : Calls Tryz.prog 97 #[va, .int .i64 (k : Nat)] w (NumP w N) :=
  shiftF N _ (Lib.hid (upN N k ha.nu h))
theorem nb_small {N k : Nat} (h : N < pw k) : nb N ≤ 32 * k := nb_lt_pw.1 h
end Go.Proofs.YtifpfoeecnkhoaaGreatDoor

namespace Go.Proofs.YtifpfoeecnkhoaaGreatDoor
open Go.RowKit NatM Go.Proofs.YtifpfoeecnkhoaaGreatDoor.Api

theorem shiftS_up {A k N : Nat} (hN : A * 2 ^ k = N) (h : N < pw 512) (hk : k ≤ 16384) : shiftS A (k : Nat) = (N, 0) := by
  have hA : A ≤ A * 2 ^ k := Nat.le_mul_of_pos_right _ (Nat.two_pow_pos k)
  unfold shiftS
  rw [if_neg (by omega)]
  by_cases h0 : A = 0
  · rw [if_pos (.inl h0), ← hN, h0, Nat.zero_mul]
  · rw [if_neg (by omega), if_neg (by omega), if_neg (by omega), Int.toNat_natCast, hN, if_neg (by omega)]
theorem litOne (w : World) (g : Nat) (hg : w.heap.size = g) : Nv (w.alloc (.cells #[.int .u32 1] 77)) (.slice (some ⟨g, 0, none⟩) 1 1) 1 :=
  num_nv (num_lit w g hg 1 1 rfl (by decide) (by decide)) (Nat.lt_of_lt_of_le (show 1 < pw 1 by decide) (pw_le (by decide)))
set_option maxRecDepth 100000 in
set_option maxHeartbeats 1000000 in
theorem oppT {v : Value} {x : Tri} {w : World} (hx : FracT w v x) (hA : FracA w v x) : Calls Tryz.prog 67 #[v] w (RetF w (oppF x)) := by
  obtain ⟨an, n, cn, ad, d, cd, rfl, m1, m2⟩ := hx
  obtain ⟨an', n', cn', ad', d', cd', e, uN, uD⟩ := hA
  simp only [Value.agg.injEq, Array.mk.injEq, List.cons.injEq, Value.slice.injEq, and_true, true_and] at e
  obtain ⟨⟨rfl, rfl, rfl⟩, rfl, rfl, rfl⟩ := e
  obtain ⟨T, hX, hB⟩ := start2 w x.1 an n cn ad d cd false none 0 0 none 0 0
  replace uN := uN.mono T
  replace m1 := m1.mono T
  replace m2 := m2.mono T
  clear uD
  have hc0 := hX.c0
  have hc1 := hX.c1
  have hc2 := hX.c2
  go_enter Tryz.func67, Tryz.ntmps67
  go_wp2_with fail
  refine (refTrimX uN).mono ?_
  rintro e w1 ⟨v1, rfl, n1, h1⟩
  replace hB := hB.mono h1
  replace hX := hX.mono h1
  replace m1 := m1.mono h1
  replace m2 := m2.mono h1
  clear uN
  replace T := Add.trans T h1
  clear h1 hc0 hc1 hc2
  by_cases c : x.2.1 = 0
  · rw [c] at n1
    obtain ⟨ao, c1, rfl⟩ := num_len0 n1
    have e : oppF x = x := by unfold oppF; rw [if_pos c]
    have FE := Lib.hid e
    clear c n1 e
    have hb0 := hB.c0
    have hb1 := hB.c1
    have hb2 := hB.c2
    have hb3 := hB.fr 0
    have hb4 := hB.fr 1
    have hb5 := hB.fr 2
    have ha0 := hX.c0
    have ha1 := hX.c1
    have ha2 := hX.c2
    have hF := retF_put (w := w) (x := x) hB ⟨an, n, cn, ad, d, cd, rfl, m1, m2⟩ T (by omega)
    clear hB T m1 m2 hX
    unfold put3 at hF
    have HF := Lib.hid hF
    clear hF
    go_wp2_with fail
    exact bodyPost_ret (v := .agg #[.bool x.1, .slice an n cn, .slice ad d cd]) (by simp [results, Tryz.results67, go_sem, hb0, hb1, hb2]) rfl (by rw [FE.out]; exact HF.out)
  · obtain ⟨ao, m, c1, rfl, hz, -⟩ := num_size n1
    have hm : m ≠ 0 := fun e => c (hz.1 e)
    have d0 : ((m : Int) == 0) = false := by simp; omega
    have e : oppF x = negF x := by unfold oppF; rw [if_neg c]
    have FE := Lib.hid e
    clear c n1 e hz hm
    have hb0 := hB.c0
    have hb1 := hB.c1
    have hb2 := hB.c2
    have hb3 := hB.fr 0
    have hb4 := hB.fr 1
    have hb5 := hB.fr 2
    have ha0 := hX.c0
    have ha1 := hX.c1
    have ha2 := hX.c2
    have hF := retF_put (w := w) (x := negF x) hB ⟨an, n, cn, ad, d, cd, rfl, m1, m2⟩ T (by omega)
    clear hB T m1 m2 hX
    unfold put3 at hF
    have HF := Lib.hid hF
    clear hF
    go_wp2_with fail
    exact bodyPost_ret (v := .agg #[.bool (!x.1), .slice an n cn, .slice ad d cd]) (by simp [results, Tryz.results67, go_sem, hb0, hb1, hb2]) rfl (by rw [FE.out]; exact HF.out)
/-- The denominator of a fraction that is a value. -/
theorem fieldDen (s : Bool) (a : Option Addr) (n c : Nat) (e : Option Addr) (d l : Nat) (w : World) : Sem.run Tryz.prog (Instr.field 25 (Value.agg #[Value.bool s, Value.slice a n c, Value.slice e d l]) 2) w = .ok (.slice e d l) w := by kernel_rfl
/-- A power of two, written as a shifted one. -/
def FracP (k : Nat) : Tri := (false, 1, 2 ^ k)
theorem round_neg {x : Tri} {n : Nat} : roundQ x.1 x.2.1 x.2.2 n (!x.1) = -roundQ (oppF x).1 (oppF x).2.1 (oppF x).2.2 n (oppF x).1 := by
  unfold oppF
  split
  · next h0 =>
    have e1 : ∀ a, countR x.2.1 x.2.2 n a = 0 := by intro a; unfold countR; rw [h0]; simp
    unfold roundQ
    rw [e1, e1, frac_zero]; rfl
  · show frac x.1 (countR x.2.1 x.2.2 n (!x.1)) _ = -frac (!x.1) (countR x.2.1 x.2.2 n (!x.1)) _
    rw [frac_not, Rat.neg_neg]
/-- Minus the floor of minus x. -/
theorem round_opp {x : Tri} {z : Int} {t : Tri} (h : roundF (oppF x) z (oppF x).1 = (t, 0)) : roundF x z (!x.1) = (oppF t, 0) := by
  have hok : okF (oppF x) = okF x := by unfold oppF; split <;> rfl
  have hx : okF x = true := by
    cases c : okF x
    · rw [roundF_bad (by rw [hok]; exact c)] at h; simp at h
    · rfl
  by_cases hz : z < 0 ∨ 256 < z
  · rw [roundF_range (by rw [hok]; exact hx) hz] at h; simp at h
  · rw [roundF_in (by rw [hok]; exact hx) hz] at h
    rw [roundF_in hx hz]
    rw [round_neg, fitQ_neg, h]
    unfold oppF negF
    simp
theorem round_opp_err {x : Tri} {z : Int} {t : Tri} {c : Nat} (h : roundF (oppF x) z (oppF x).1 = (t, c)) (hc : c ≠ 0) : roundF x z (!x.1) = ((false, 0, 0), c) := by
  have hok : okF (oppF x) = okF x := by unfold oppF; split <;> rfl
  cases hx : okF x
  · rw [roundF_bad (by rw [hok]; exact hx)] at h
    rw [roundF_bad hx]
    simp only [Prod.mk.injEq] at h
    rw [← h.2]
  · by_cases hz : z < 0 ∨ 256 < z
    · rw [roundF_range (by rw [hok]; exact hx) hz] at h
      rw [roundF_range hx hz]
      simp only [Prod.mk.injEq] at h
      rw [← h.2]
    · rw [roundF_in (by rw [hok]; exact hx) hz] at h
      rw [roundF_in hx hz, round_neg, fitQ_neg, h]
      have ht : t = (false, 0, 0) := by
        unfold fitQ at h
        split at h
        · simp only [Prod.mk.injEq] at h; exact h.1.symm
        · simp only [Prod.mk.injEq] at h; exact absurd h.2.symm hc
      rw [if_neg hc, ht]
theorem round_small {x : Tri} {z : Int} {a s : Bool} {N D c : Nat} (h : roundF x z a = ((s, N, D), c)) : N < pw 128 ∧ D < pw 128 := by
  have g : (roundF x z a).1.2.1 < pw 128 ∧ (roundF x z a).1.2.2 < pw 128 := by
    unfold roundF
    split
    · split
      · exact ⟨pw_pos 128, pw_pos 128⟩
      · exact fitQ_lt _
    · exact ⟨pw_pos 128, pw_pos 128⟩
  rw [h] at g; exact g
end Go.Proofs.YtifpfoeecnkhoaaGreatDoor
