/- The reference of layer 2: times, Reduce, Int, Order, Sign. -/
import Derived.Test.YtbeoeackahmpbaaGreatDoorJO
namespace Go.Proofs.YtbeoeackahmpbaaGreatDoor
open Go.RowKit NatM Go.Proofs.YtbeoeackahmpbaaGreatDoor.Api

theorem refTimesF {va vb : Value} {A B : Nat} {w : World} (ha : Nv w va A) (hb : Nv w vb B) (h : Hid (A < pw 512 ∧ B < pw 512 ∧ A * B < pw 512)) : Calls Tryz.prog 68 #[va, vb] w (NumP w (A * B)) := by
  obtain ⟨N, hN⟩ : ∃ N, A * B = N := ⟨_, rfl⟩
  have FM : Hid (mulS A B = (N, 0)) := Lib.hid (by have := h.out; unfold mulS; rw [if_neg (by rw [hN] at *; omega), hN])
  rw [hN]
  have HC := Lib.hid (refMulX (N, 0) ha hb FM)
  clear ha hb h hN FM
  go_enter Tryz.func68, Tryz.ntmps68
  go_wp2_with fail
  refine HC.out.mono ?_
  rintro e w1 ⟨v, rfl, n1, h1⟩
  have hF : NumP w N (.returned v) w1 := ⟨v, rfl, n1, h1⟩
  clear HC n1 h1
  go_wp2_with fail
  go_ret
  exact hF

set_option maxRecDepth 100000 in
set_option maxHeartbeats 1000000 in
theorem refReduceN (p : Tri × Nat) {v : Value} {x : Tri} {w : World} (hx : FracA w v x) (hp : Hid (redF x = p)) :
    Calls Tryz.prog 53 #[v] w (ResF w p) := by
  have hx0 := hx
  obtain ⟨an, n, cn, ad, d, cd, rfl, uN, uD⟩ := hx
  obtain ⟨T, hX, hB⟩ := start2 w x.1 an n cn ad d cd false none 0 0 none 0 0
  replace hx0 := hx0.mono T
  replace uN := uN.mono T
  replace uD := uD.mono T
  have hc0 := hX.c0
  have hc1 := hX.c1
  have hc2 := hX.c2
  by_cases c : okF x = true
  · have hpe := (redF_ok c).symm.trans hp.out
    have e1 : p.2 = 0 := by rw [← hpe]
    have e2 : can (qv x) = p.1 := by rw [← hpe]
    obtain ⟨x1, x2, x3⟩ := okF_iff.1 c
    have FV := Lib.hid c
    have E1 := Lib.hid e1
    have C : Hid (∀ w', Nv w' (.slice an n cn) x.2.1 → Nv w' (.slice ad d cd) x.2.2 → Calls Tryz.prog 67 #[.bool x.1, .slice an n cn, .slice ad d cd] w' (RetF w' p.1)) := Lib.hid fun w' a b => refLowestN p.1 a b (Lib.hid ⟨x1, lt_up x2 (by decide), lt_up x3 (by decide), e2⟩)
    clear c x1 x2 x3 hpe e1 e2 hp
    go_enter Tryz.func53, Tryz.ntmps53
    go_wp2_with fail
    refine (refValidN true hx0 FV).mono ?_
    rintro e w1 ⟨rfl, h1⟩
    replace hB := hB.mono h1
    replace hX := hX.mono h1
    replace uN := uN.mono h1
    replace uD := uD.mono h1
    replace T := Add.trans T h1
    clear h1 hc0 hc1 hc2 hx0 FV
    have hc0 := hX.c0
    have hc1 := hX.c1
    have hc2 := hX.c2
    go_wp2_with fail
    refine (C.out _ uN uD).mono ?_
    rintro e w2 ⟨vr, rfl, nr, h2⟩
    replace hB := hB.mono h2
    replace T := Add.trans T h2
    clear h2 C hX uN uD hc0 hc1 hc2
    obtain ⟨an2, n2, cn2, ad2, d2, cd2, rfl, m1, m2⟩ := nr
    have s0 := hB.c0
    have s1 := hB.c1
    have s2 := hB.c2
    have s3 := hB.fr 0
    have s4 := hB.fr 1
    have s5 := hB.fr 2
    have hF := resF_put (w := w) (p := p) hB ⟨an2, n2, cn2, ad2, d2, cd2, rfl, m1, m2⟩ T (by omega)
    clear hB T m1 m2
    unfold put3 at hF
    rw [E1.out] at hF
    have HF := Lib.hid hF
    clear hF E1
    go_wp2_with fail
    exact bodyPost_ret (v := .tuple #[.agg #[.bool p.1.1, .slice an2 n2 cn2, .slice ad2 d2 cd2], .int .i64 0]) (by simp [results, Tryz.results53, go_sem, s0, s1, s2]) rfl HF.out
  · have hpe := hp.out
    unfold redF at hpe
    rw [if_neg c] at hpe
    subst hpe
    have FV : Hid (okF x = false) := Lib.hid (by simpa using c)
    clear c hp
    go_enter Tryz.func53, Tryz.ntmps53
    go_wp2_with fail
    refine (refValidN false hx0 FV).mono ?_
    rintro e w1 ⟨rfl, h1⟩
    replace hB := hB.mono h1
    replace T := Add.trans T h1
    clear h1 hc0 hc1 hc2 hx0 FV hX uN uD
    have hc0 := hB.c0
    have hc1 := hB.c1
    have hc2 := hB.c2
    have hc3 := hB.fr 0
    have hc4 := hB.fr 1
    have hc5 := hB.fr 2
    have hF := resF_put (w := w) (p := ((false, 0, 0), 1)) hB (fracT_zero _) T (by omega)
    clear hB T 
    unfold put3 at hF
    have HF := Lib.hid hF
    clear hF
    go_wp2_with fail
    exact bodyPost_ret (v := .tuple #[.agg #[.bool false, .slice none 0 0, .slice none 0 0], .int .i64 1]) (by simp [results, Tryz.results53, go_sem, hc0, hc1, hc2]) rfl HF.out
theorem make01 : makeF 0 1 = ((false, 0, 1), 0) := by
  unfold makeF
  rw [if_neg (by decide)]
  exact fitQ_zero _ _
set_option maxRecDepth 100000 in
set_option maxHeartbeats 1000000 in
theorem refInt0 (w : World) : Calls Tryz.prog 38 #[.int .i64 0] w (RetF w (false, 0, 1)) := by
  have hB := box_new w false none 0 0 none 0 0
  have T : Add w (w.alloc (.cells #[.bool false, .slice none 0 0, .slice none 0 0] 37)) := add_new _ _
  have r1 : Hid (((-9223372036854775808 : Int) ≤ 0 ∧ (0 : Int) ≤ 9223372036854775807) ∧ (-9223372036854775808 : Int) ≤ 1 ∧ (1 : Int) ≤ 9223372036854775807) := Lib.hid (by decide)
  go_enter Tryz.func38, Tryz.ntmps38
  go_wp2_with fail
  refine ((refMakeF _ r1 (Lib.hid make01)).mono fun _ _ g => g.ok).mono ?_
  rintro e w1 ⟨a1, n1, c1, e1, d1, k1, rfl, x1, y1, h1⟩
  replace hB := hB.mono h1
  replace T := Add.trans T h1
  clear h1 r1
  obtain ⟨tt, hV⟩ := laid_var w1 false a1 n1 c1 e1 d1 k1
  replace hB := hB.mono tt
  replace x1 := x1.mono tt
  replace y1 := y1.mono tt
  replace T := Add.trans T tt
  clear tt
  have ha0 := hV.c0
  have ha1 := hV.c1
  have ha2 := hV.c2
  have hc0 := hB.c0
  have hc1 := hB.c1
  have hc2 := hB.c2
  have hc3 := hB.fr 0
  have hc4 := hB.fr 1
  have hc5 := hB.fr 2
  have hF := retF_put (w := w) (x := (false, 0, 1)) hB ⟨a1, n1, c1, e1, d1, k1, rfl, x1, y1⟩ T (Nat.le_refl _)
  clear hB T x1 y1 hV
  unfold put3 at hF
  have HF := Lib.hid hF
  clear hF
  go_wp2_with fail
  exact bodyPost_ret (v := .agg #[.bool false, .slice a1 n1 c1, .slice e1 d1 k1]) (by simp [results, Tryz.results38, go_sem, hc0, hc1, hc2]) rfl HF.out
/-- The order of two valid fractions, by the numerators over a common denominator. -/
theorem ord_math {x y : Tri} {A B : Nat} (hx : x.2.2 ≠ 0) (hy : y.2.2 ≠ 0) (hA : x.2.1 * y.2.2 = A) (hB : y.2.1 * x.2.2 = B) :
    cmpQ (qv x) (qv y) = if (x.1 = true ∧ A ≠ 0) ∧ ¬ (y.1 = true ∧ B ≠ 0) then -1 else if (y.1 = true ∧ B ≠ 0) ∧ ¬ (x.1 = true ∧ A ≠ 0) then 1 else if x.1 = true ∧ A ≠ 0 then cmpI B A else cmpI A B := by
  have e1 : qv x = frac x.1 A (x.2.2 * y.2.2) := by rw [← hA]; unfold qv; rw [frac_scale hy]
  have e2 : qv y = frac y.1 B (x.2.2 * y.2.2) := by rw [← hB]; unfold qv; rw [Nat.mul_comm x.2.2 y.2.2, frac_scale hx]
  rw [e1, e2, cmpQ_frac (Nat.mul_ne_zero hx hy)]
  unfold cmpI
  cases x.1 <;> cases y.1 <;> simp only [sgq, Bool.false_eq_true, if_false, if_true, false_and, true_and, not_false_eq_true, and_true] <;> (repeat' split) <;> omega
set_option maxRecDepth 100000 in
set_option maxHeartbeats 2000000 in
theorem orderN (t : Int) {v v' : Value} {x y : Tri} {w : World} (hx : FracA w v x) (hy : FracA w v' y) (h : Hid (okF x = true ∧ okF y = true)) (ht : Hid (cmpQ (qv x) (qv y) = t)) :
    Calls Tryz.prog 64 #[v, v'] w (IntIs w t) := by
  obtain ⟨an, n, cn, ad, d, cd, rfl, uN, uD⟩ := hx
  obtain ⟨an', n', cn', ad', d', cd', rfl, uN', uD'⟩ := hy
  obtain ⟨T, hX, hY⟩ := start2 w x.1 an n cn ad d cd y.1 an' n' cn' ad' d' cd'
  replace uN := uN.mono T
  replace uD := uD.mono T
  replace uN' := uN'.mono T
  replace uD' := uD'.mono T
  obtain ⟨x1, x2, x3⟩ := okF_iff.1 h.out.1
  obtain ⟨y1, y2, y3⟩ := okF_iff.1 h.out.2
  have m1 : x.2.1 * y.2.2 < pw 256 := lt_mul (i := 128) (j := 128) x2 y3
  have m2 : y.2.1 * x.2.2 < pw 256 := lt_mul (i := 128) (j := 128) y2 x3
  have FM1 : Hid (x.2.1 < pw 512 ∧ y.2.2 < pw 512 ∧ x.2.1 * y.2.2 < pw 512) := Lib.hid ⟨lt_up x2 (by decide), lt_up y3 (by decide), lt_up m1 (by decide)⟩
  have FM2 : Hid (y.2.1 < pw 512 ∧ x.2.2 < pw 512 ∧ y.2.1 * x.2.2 < pw 512) := Lib.hid ⟨lt_up y2 (by decide), lt_up x3 (by decide), lt_up m2 (by decide)⟩
  obtain ⟨A, hA⟩ : ∃ A, x.2.1 * y.2.2 = A := ⟨_, rfl⟩
  obtain ⟨B, hB⟩ : ∃ B, y.2.1 * x.2.2 = B := ⟨_, rfl⟩
  have hm := (ord_math x1 y1 hA hB).symm.trans ht.out
  rw [hA] at m1
  rw [hB] at m2
  have L1 := Lib.hid m1
  have L2 := Lib.hid m2
  have C1 : Hid (∀ w', Add ((w.alloc (.cells #[.bool x.1, .slice an n cn, .slice ad d cd] 37)).alloc (.cells #[.bool y.1, .slice an' n' cn', .slice ad' d' cd'] 37)) w' → Calls Tryz.prog 68 #[.slice an n cn, .slice ad' d' cd'] w' (NumP w' A)) := Lib.hid fun w' a => by rw [← hA]; exact refTimesF (uN.mono a) (uD'.mono a) FM1
  have C2 : Hid (∀ w', Add ((w.alloc (.cells #[.bool x.1, .slice an n cn, .slice ad d cd] 37)).alloc (.cells #[.bool y.1, .slice an' n' cn', .slice ad' d' cd'] 37)) w' → Calls Tryz.prog 68 #[.slice an' n' cn', .slice ad d cd] w' (NumP w' B)) := Lib.hid fun w' a => by rw [← hB]; exact refTimesF (uN'.mono a) (uD.mono a) FM2
  obtain ⟨W0, hW0⟩ : ∃ W0, W0 = ((w.alloc (.cells #[.bool x.1, .slice an n cn, .slice ad d cd] 37)).alloc (.cells #[.bool y.1, .slice an' n' cn', .slice ad' d' cd'] 37)) := ⟨_, rfl⟩
  rw [← hW0] at C1 C2 hX hY T
  have K0 : Hid (∀ w', Add W0 w' → w'.cell? ⟨w.heap.size, 1, none⟩ = some (.slice an n cn) ∧ w'.cell? ⟨w.heap.size, 2, none⟩ = some (.slice ad d cd) ∧ w'.cell? ⟨w.heap.size + 1, 1, none⟩ = some (.slice an' n' cn') ∧ w'.cell? ⟨w.heap.size + 1, 2, none⟩ = some (.slice ad' d' cd')) := Lib.hid fun w' a => ⟨(hX.mono a).c1, (hX.mono a).c2, (hY.mono a).c1, (hY.mono a).c2⟩
  have HM := Lib.hid hm
  clear hm m1 m2 FM1 FM2 hA hB x1 x2 x3 y1 y2 y3 uN uD uN' uD' h ht
  go_enter Tryz.func64, Tryz.ntmps64
  go_wp2_with fail
  rw [← hW0]
  have hc1 := hX.c1
  have hc2 := hX.c2
  have hd1 := hY.c1
  have hd2 := hY.c2
  clear hW0
  go_region_held3 (fun w' => w'.cell? ⟨w.heap.size, 1, none⟩ = some (.slice an n cn) ∧ w'.cell? ⟨w.heap.size, 2, none⟩ = some (.slice ad d cd) ∧ w'.cell? ⟨w.heap.size + 1, 1, none⟩ = some (.slice an' n' cn') ∧ w'.cell? ⟨w.heap.size + 1, 2, none⟩ = some (.slice ad' d' cd'))
    (first | exact K0.out _ (Below.drew (Below.refl _ _)) | exact K0.out _ a2 | exact K0.out _ a3 | go_keep)
    (first | (go_at_call 68; ((with_reducible refine (C1.out _ (Below.drew (Below.refl _ _))).mono ?_); rintro e w7 ⟨v1, rfl, n1, hq1⟩; have a2 := Add.trans (Below.drew (Below.refl _ _) : Add W0 (World.drew W0)) hq1))
           | (go_at_call 68; ((with_reducible refine (C2.out _ a2).mono ?_); rintro e w8 ⟨v2, rfl, n2, hq2⟩; have a3 := Add.trans a2 hq2; have n1' := n1.mono hq2)))
  replace hX := hX.mono a3
  replace hY := hY.mono a3
  replace T := Add.trans T a3
  clear C1 C2 K0 hq1 hq2 a2 a3 n1 hc1 hc2 hd1 hd2
  obtain ⟨a5, m5, c5, rfl, -, hm5⟩ := num_shape n1' L1.out
  obtain ⟨a6, m6, c6, rfl, -, hm6⟩ := num_shape n2 L2.out
  have u1 := num_nv n1' (lt_up L1.out (by decide))
  have u2 := num_nv n2 (lt_up L2.out (by decide))
  obtain ⟨sx, hsx⟩ : ∃ s, x.1 = s := ⟨_, rfl⟩
  obtain ⟨sy, hsy⟩ : ∃ s, y.1 = s := ⟨_, rfl⟩
  have hm := HM.out
  rw [hsx, hsy] at hm
  rw [hsx] at hX
  rw [hsy] at hY
  have hc0 := hX.c0
  have hd0 := hY.c0
  obtain ⟨r1, hr1⟩ : ∃ r, cmpI A B = r := ⟨_, rfl⟩
  obtain ⟨r2, hr2⟩ : ∃ r, cmpI B A = r := ⟨_, rfl⟩
  have R1 := Lib.hid hr1
  have R2 := Lib.hid hr2
  rw [hr1, hr2] at hm
  clear HM hX hY L1 L2 n1' n2 hsx hsy hr1 hr2
  by_cases zA : A = 0
  · have z5 : m5 = 0 := hm5.2 zA
    by_cases zB : B = 0
    · have z6 : m6 = 0 := hm6.2 zB
      simp only [zA, zB, ne_eq, not_true_eq_false, and_false, not_false_eq_true, if_false] at hm
      subst z5 z6 hm
      clear hm5 hm6 zA zB
      cases sx <;> cases sy <;> (go_wp2_with fail; refine (refCmpX r1 u1 u2 R1).mono ?_; rintro e w9 ⟨rfl, h9⟩; go_wp2_with fail; go_ret; exact ⟨rfl, Add.trans T h9⟩)
    · have z6 : decide ((0 : Int) < (m6 : Int)) = true := by have := mt hm6.1 zB; simp; omega
      have z6' : decide (0 < m6) = true := by have := mt hm6.1 zB; simp; omega
      simp only [zA, zB, ne_eq, not_true_eq_false, and_false, not_false_eq_true, if_false, and_true] at hm
      subst z5
      clear hm5 hm6 zA zB
      cases sy with
      | true =>
        simp only [if_true] at hm
        subst hm
        cases sx <;> (go_wp2_with fail; go_ret; exact ⟨rfl, T⟩)
      | false =>
        simp only [Bool.false_eq_true, if_false] at hm
        subst hm
        cases sx <;> (go_wp2_with fail; refine (refCmpX r1 u1 u2 R1).mono ?_; rintro e w9 ⟨rfl, h9⟩; go_wp2_with fail; go_ret; exact ⟨rfl, Add.trans T h9⟩)
  · have z5 : decide ((0 : Int) < (m5 : Int)) = true := by have := mt hm5.1 zA; simp; omega
    have z5' : decide (0 < m5) = true := by have := mt hm5.1 zA; simp; omega
    by_cases zB : B = 0
    · have z6 : m6 = 0 := hm6.2 zB
      simp only [zA, zB, ne_eq, not_true_eq_false, and_false, not_false_eq_true, if_false, and_true, false_and] at hm
      subst z6
      clear hm5 hm6 zA zB
      cases sx with
      | true =>
        simp only [if_true] at hm
        subst hm
        cases sy <;> (go_wp2_with fail; go_ret; exact ⟨rfl, T⟩)
      | false =>
        simp only [Bool.false_eq_true, if_false] at hm
        subst hm
        cases sy <;> (go_wp2_with fail; refine (refCmpX r1 u1 u2 R1).mono ?_; rintro e w9 ⟨rfl, h9⟩; go_wp2_with fail; go_ret; exact ⟨rfl, Add.trans T h9⟩)
    · have z6 : decide ((0 : Int) < (m6 : Int)) = true := by have := mt hm6.1 zB; simp; omega
      have z6' : decide (0 < m6) = true := by have := mt hm6.1 zB; simp; omega
      simp only [zA, zB, ne_eq, not_false_eq_true, and_true] at hm
      clear hm5 hm6 zA zB
      cases sx with
      | true =>
        cases sy with
        | true =>
          simp only [not_true_eq_false, and_false, if_false, if_true] at hm
          subst hm
          go_wp2_with fail
          refine (refCmpX r2 u2 u1 R2).mono ?_
          rintro e w9 ⟨rfl, h9⟩
          go_wp2_with fail
          go_ret
          exact ⟨rfl, Add.trans T h9⟩
        | false =>
          simp only [Bool.false_eq_true, not_false_eq_true, and_self, if_true] at hm
          subst hm
          go_wp2_with fail
          go_ret
          exact ⟨rfl, T⟩
      | false =>
        cases sy with
        | true =>
          simp only [Bool.false_eq_true, not_false_eq_true, not_true_eq_false, and_self, if_true, if_false] at hm
          subst hm
          go_wp2_with fail
          go_ret
          exact ⟨rfl, T⟩
        | false =>
          simp only [Bool.false_eq_true, not_false_eq_true, false_and, if_false] at hm
          subst hm
          go_wp2_with fail
          refine (refCmpX r1 u1 u2 R1).mono ?_
          rintro e w9 ⟨rfl, h9⟩
          go_wp2_with fail
          go_ret
          exact ⟨rfl, Add.trans T h9⟩
theorem ok01 : okF (false, 0, 1) = true := okF_iff.2 ⟨by decide, small128 (by decide), small128 (by decide)⟩
theorem qv01 : qv (false, 0, 1) = 0 := frac_zero _ _
set_option maxRecDepth 100000 in
set_option maxHeartbeats 1000000 in
theorem refSignN (t : Int) {v : Value} {x : Tri} {w : World} (hx : FracA w v x) (h : Hid (okF x = true)) (ht : Hid (signQ (qv x) = t)) : Calls Tryz.prog 34 #[v] w (IntIs w t) := by
  have hx0 := hx
  obtain ⟨an, n, cn, ad, d, cd, rfl, uN, uD⟩ := hx
  obtain ⟨T, hX⟩ := start1 w x.1 an n cn ad d cd
  replace hx0 := hx0.mono T
  obtain ⟨W0, hW0⟩ : ∃ W0, W0 = w.alloc (.cells #[.bool x.1, .slice an n cn, .slice ad d cd] 37) := ⟨_, rfl⟩
  rw [← hW0] at hX T hx0
  have K0 : Hid (∀ w', Add W0 w' → w'.cell? ⟨w.heap.size, 0, none⟩ = some (.bool x.1) ∧ w'.cell? ⟨w.heap.size, 1, none⟩ = some (.slice an n cn) ∧ w'.cell? ⟨w.heap.size, 2, none⟩ = some (.slice ad d cd)) := Lib.hid fun w' a => ⟨(hX.mono a).c0, (hX.mono a).c1, (hX.mono a).c2⟩
  have C2 : Hid (∀ w', Add W0 w' → ∀ v0, FracT w' v0 (false, 0, 1) → Calls Tryz.prog 64 #[.agg #[.bool x.1, .slice an n cn, .slice ad d cd], v0] w' (IntIs w' t)) := Lib.hid fun w' a v0 f0 => orderN t (hx0.mono a) (f0.arg (lt_up (small128 (N := 0) (by decide)) (by decide)) (lt_up (small128 (N := 1) (by decide)) (by decide))) (Lib.hid ⟨h.out, ok01⟩) (Lib.hid (by rw [qv01]; exact ht.out))
  have hc0 := hX.c0
  have hc1 := hX.c1
  have hc2 := hX.c2
  clear hX hx0 h ht uN uD
  go_enter Tryz.func34, Tryz.ntmps34
  go_wp2_with fail
  rw [← hW0]
  clear hW0
  go_region_held3 (fun w' => w'.cell? ⟨w.heap.size, 0, none⟩ = some (.bool x.1) ∧ w'.cell? ⟨w.heap.size, 1, none⟩ = some (.slice an n cn) ∧ w'.cell? ⟨w.heap.size, 2, none⟩ = some (.slice ad d cd))
    (first | exact K0.out _ (Below.drew (Below.refl _ _)) | exact K0.out _ a2 | exact K0.out _ a3 | go_keep)
    (first | (go_at_call 38; ((with_reducible refine (refInt0 _).mono ?_); rintro e w7 ⟨v0, rfl, f0, hq1⟩; have a2 := Add.trans (Below.drew (Below.refl _ _) : Add W0 (World.drew W0)) hq1))
           | (go_at_call 64; ((with_reducible refine (C2.out _ a2 _ f0).mono ?_); rintro e w8 ⟨rfl, hq2⟩; have a3 := Add.trans a2 hq2)))
  go_wp2_with fail
  go_ret
  exact ⟨rfl, Add.trans T a3⟩
end Go.Proofs.YtbeoeackahmpbaaGreatDoor
