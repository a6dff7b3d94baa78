/- Package fraction: Reduce, Make and Sub. | Package fraction: Cmp. | Package fraction: Sub. -/
import Derived.Test.YtbeoeackahmpbaaGreatDoorF7

namespace Go.Proofs.YtbeoeackahmpbaaGreatDoor
open Go.RowKit NatM Go.Proofs.YtbeoeackahmpbaaGreatDoor.Api

theorem makeZ (v : Nat) {z : Int} {w : World} (h : Hid (z = (v : Int) ∧ v < 18446744073709551616)) : Calls Tryz.prog 112 #[.int .u64 z] w (NumP w v) := by
  obtain ⟨rfl, h1⟩ := h.out
  exact make_any (v : Nat) w (by omega) (by omega)
theorem mag_neg (v : Int) (h : -9223372036854775808 ≤ v ∧ v < 0) : IntKind.u64.wrap (IntKind.u64.wrap (wrap64 (-wrap64 (v + 1))) + 1) = ((v.natAbs : Nat) : Int) := by
  have e1 : wrap64 (v + 1) = v + 1 := by unfold wrap64; omega
  have e2 : wrap64 (-(v + 1)) = -(v + 1) := by unfold wrap64; omega
  rw [e1, e2, IntKind.wrap_u64, IntKind.wrap_u64]; omega
theorem mag_pos (v : Int) (h : v ≤ 9223372036854775807 ∧ 0 ≤ v) : IntKind.u64.wrap v = ((v.natAbs : Nat) : Int) := by
  rw [IntKind.wrap_u64]; omega
set_option maxRecDepth 100000 in
set_option maxHeartbeats 1000000 in
theorem magN (N : Nat) {v : Int} {w : World} (h : Hid (-9223372036854775808 ≤ v ∧ v ≤ 9223372036854775807 ∧ v.natAbs = N)) : Calls Tryz.prog 105 #[.int .i64 v] w (NumP w N) := by
  have hN : N < 18446744073709551616 := by have := h.out; omega
  have LN := Lib.hid hN
  clear hN
  by_cases c : v < 0
  · have dv : decide (v < 0) = true := decide_eq_true c
    have M := Lib.hid (mag_neg v ⟨h.out.1, c⟩)
    have e := h.out.2.2
    have EN := Lib.hid e
    clear e c h
    go_enter Tryz.func105, Tryz.ntmps105
    go_wp2_with fail
    refine (makeZ N (Lib.hid ⟨by rw [← EN.out]; exact M.out, LN.out⟩)).mono ?_
    rintro e w1 ⟨v1, rfl, n1, h1⟩
    have hF : NumP w N (.returned v1) w1 := ⟨_, rfl, n1, h1⟩
    clear n1 h1
    go_wp2_with fail
    go_ret
    exact hF
  · have dv : decide (v < 0) = false := decide_eq_false c
    have M := Lib.hid (mag_pos v ⟨h.out.2.1, by omega⟩)
    have e := h.out.2.2
    have EN := Lib.hid e
    clear e c h
    go_enter Tryz.func105, Tryz.ntmps105
    go_wp2_with fail
    refine (makeZ N (Lib.hid ⟨by rw [← EN.out]; exact M.out, LN.out⟩)).mono ?_
    rintro e w1 ⟨v1, rfl, n1, h1⟩
    have hF : NumP w N (.returned v1) w1 := ⟨_, rfl, n1, h1⟩
    clear n1 h1
    go_wp2_with fail
    go_ret
    exact hF

/-- The value of num / den. -/
def makeF (n d : Int) : Tri × Nat := if d = 0 then ((false, 0, 0), 3) else fitQ (frac (!(decide (n < 0) == decide (d < 0))) n.natAbs d.natAbs)
theorem small_int {v : Int} {N : Nat} (h : -9223372036854775808 ≤ v ∧ v ≤ 9223372036854775807 ∧ v.natAbs = N) : N < pw 128 := by
  have h1 : pw 2 ≤ pw 128 := pw_le (by decide)
  have h2 : pw 2 = 18446744073709551616 := by decide
  omega

set_option maxRecDepth 100000 in
set_option maxHeartbeats 1000000 in
theorem makeN' (p : Tri × Nat) {n d : Int} {w : World} (hT : Tab w) (h : Hid ((-9223372036854775808 ≤ n ∧ n ≤ 9223372036854775807) ∧ -9223372036854775808 ≤ d ∧ d ≤ 9223372036854775807)) (hp : Hid (makeF n d = p)) :
    Calls Tryz.prog 84 #[.int .i64 n, .int .i64 d] w (ResF w p) := by
  have hB := box_new w false none 0 0 none 0 0
  have T : Add w (w.alloc (.cells #[.bool false, .slice none 0 0, .slice none 0 0] 37)) := add_new _ _
  replace hT := hT.mono T
  obtain ⟨N, hN⟩ : ∃ N, n.natAbs = N := ⟨_, rfl⟩
  obtain ⟨D, hD⟩ : ∃ D, d.natAbs = D := ⟨_, rfl⟩
  have FN : Hid (-9223372036854775808 ≤ n ∧ n ≤ 9223372036854775807 ∧ n.natAbs = N) := Lib.hid ⟨h.out.1.1, h.out.1.2, hN⟩
  have FD : Hid (-9223372036854775808 ≤ d ∧ d ≤ 9223372036854775807 ∧ d.natAbs = D) := Lib.hid ⟨h.out.2.1, h.out.2.2, hD⟩
  have hpe := hp.out
  unfold makeF at hpe
  rw [hN, hD] at hpe
  obtain ⟨sn, hsn⟩ : ∃ s, decide (n < 0) = s := ⟨_, rfl⟩
  obtain ⟨sd, hsd⟩ : ∃ s, decide (d < 0) = s := ⟨_, rfl⟩
  rw [hsn, hsd] at hpe
  clear h hp
  by_cases c : d = 0
  · rw [if_pos c] at hpe
    subst hpe
    have dc : (d == 0) = true := by rw [c]; rfl
    clear hN hD FN FD c hsn hsd
    go_enter Tryz.func84, Tryz.ntmps84
    have hF : ResF w ((false, 0, 0), 3) (.returned (.tuple #[.agg #[.bool false, .slice none 0 0, .slice none 0 0], .int .i64 3])) (w.alloc (.cells #[.bool false, .slice none 0 0, .slice none 0 0] 37)) := ⟨_, rfl, fracT_zero _, T⟩
    have HF := Lib.hid hF
    clear hF T hB
    go_wp2_with fail
    exact bodyPost_ret (v := .tuple #[.agg #[.bool false, .slice none 0 0, .slice none 0 0], .int .i64 3]) (by simp [results, Tryz.results84, go_sem]) rfl HF.out
  · rw [if_neg c] at hpe
    have HPE := Lib.hid hpe
    have hD0 : D ≠ 0 := by omega
    have HD0 := Lib.hid hD0
    have dc : (d == 0) = false := by rw [beq_eq_false_iff_ne]; exact c
    clear hN hD c hpe hD0
    go_enter Tryz.func84, Tryz.ntmps84
    go_wp2_with fail
    refine (magN N FN).mono ?_
    rintro e w1 ⟨v1, rfl, n1, h1⟩
    replace hB := hB.mono h1
    replace hT := hT.mono h1
    replace T := Add.trans T h1
    clear h1 
    go_wp2_with fail
    refine (magN D FD).mono ?_
    rintro e w2 ⟨v2, rfl, n2, h2⟩
    replace hB := hB.mono h2
    replace hT := hT.mono h2
    replace n1 := n1.mono h2
    replace T := Add.trans T h2
    clear h2 
    have b1 := small_int FN.out
    have b2 := small_int FD.out
    have C := Lib.hid (lowestN p (num_nv n1 (lt_up b1 (by decide))) (num_nv n2 (lt_up b2 (by decide))) hT (Lib.hid ⟨HD0.out, lt_up b1 (by decide), lt_up b2 (by decide), HPE.out⟩))
    clear b1 b2 n1 n2 hT FN FD HPE HD0
    go_wp2_with fail
    refine (C.out).mono ?_
    rintro e w3 ⟨vr, rfl, nr, h3⟩
    replace hB := hB.mono h3
    replace T := Add.trans T h3
    clear h3 C
    obtain ⟨an2, n2, cn2, ad2, d2, cd2, rfl, m1, m2⟩ := nr
    have s0 := hB.c0
    have s1 := hB.c1
    have s2 := hB.c2
    have s3 := hB.fr 0
    have s4 := hB.fr 1
    have s5 := hB.fr 2
    have hF := resF_put (w := w) (p := p) hB ⟨an2, n2, cn2, ad2, d2, cd2, rfl, m1, m2⟩ T (Nat.le_refl _)
    clear hB T m1 m2
    unfold put3 at hF
    have HF := Lib.hid hF
    clear hF
    go_wp2_with fail
    exact bodyPost_ret (v := .tuple #[.agg #[.bool p.1.1, .slice an2 n2 cn2, .slice ad2 d2 cd2], .int .i64 (p.2 : Nat)]) (by simp [results, Tryz.results84, go_sem, s0, s1, s2]) rfl HF.out

set_option maxRecDepth 100000 in
set_option maxHeartbeats 1000000 in
theorem reduceN' (p : Tri × Nat) {v : Value} {x : Tri} {w : World} (hx : FracA w v x) (hT : Tab w) (hp : Hid (redF x = p)) :
    Calls Tryz.prog 75 #[v] w (ResF w p) := by
  have hx0 := hx
  obtain ⟨an, n, cn, ad, d, cd, rfl, uN, uD⟩ := hx
  obtain ⟨T, hX, hB⟩ := start2 w x.1 an n cn ad d cd false none 0 0 none 0 0
  replace hx0 := hx0.mono T
  replace uN := uN.mono T
  replace uD := uD.mono T
  replace hT := hT.mono T
  have hpe := hp.out
  unfold redF at hpe
  clear hp
  have hc0 := hX.c0
  have hc1 := hX.c1
  have hc2 := hX.c2
  by_cases c : okF x = true
  · rw [if_pos c] at hpe
    obtain ⟨x1, x2, x3⟩ := okF_iff.1 c
    have FV := Lib.hid c
    have C : Hid (∀ w', Tab w' → Nv w' (.slice an n cn) x.2.1 → Nv w' (.slice ad d cd) x.2.2 → Calls Tryz.prog 98 #[.bool x.1, .slice an n cn, .slice ad d cd] w' (ResF w' p)) := Lib.hid fun w' t a b => lowestN p a b t (Lib.hid ⟨x1, lt_up x2 (by decide), lt_up x3 (by decide), hpe⟩)
    clear c x1 x2 x3 hpe
    go_enter Tryz.func75, Tryz.ntmps75
    go_wp2_with fail
    refine (validN true hx0 FV).mono ?_
    rintro e w1 ⟨rfl, h1⟩
    replace hB := hB.mono h1
    replace hX := hX.mono h1
    replace hT := hT.mono h1
    replace uN := uN.mono h1
    replace uD := uD.mono h1
    replace T := Add.trans T h1
    clear h1 hc0 hc1 hc2 hx0 FV
    have hc0 := hX.c0
    have hc1 := hX.c1
    have hc2 := hX.c2
    go_wp2_with fail
    refine (C.out _ hT uN uD).mono ?_
    rintro e w2 ⟨vr, rfl, nr, h2⟩
    replace hB := hB.mono h2
    replace T := Add.trans T h2
    clear h2 C hX hT uN uD hc0 hc1 hc2
    obtain ⟨an2, n2, cn2, ad2, d2, cd2, rfl, m1, m2⟩ := nr
    have s0 := hB.c0
    have s1 := hB.c1
    have s2 := hB.c2
    have s3 := hB.fr 0
    have s4 := hB.fr 1
    have s5 := hB.fr 2
    have hF := resF_put (w := w) (p := p) hB ⟨an2, n2, cn2, ad2, d2, cd2, rfl, m1, m2⟩ T (by omega)
    clear hB T m1 m2
    unfold put3 at hF
    have HF := Lib.hid hF
    clear hF
    go_wp2_with fail
    exact bodyPost_ret (v := .tuple #[.agg #[.bool p.1.1, .slice an2 n2 cn2, .slice ad2 d2 cd2], .int .i64 (p.2 : Nat)]) (by simp [results, Tryz.results75, go_sem, s0, s1, s2]) rfl HF.out
  · rw [if_neg c] at hpe
    subst hpe
    have FV : Hid (okF x = false) := Lib.hid (by simpa using c)
    clear c
    go_enter Tryz.func75, Tryz.ntmps75
    go_wp2_with fail
    refine (validN false hx0 FV).mono ?_
    rintro e w1 ⟨rfl, h1⟩
    replace hB := hB.mono h1
    replace T := Add.trans T h1
    clear h1 hc0 hc1 hc2 hx0 FV hX hT uN uD
    have hc0 := hB.c0
    have hc1 := hB.c1
    have hc2 := hB.c2
    have hc3 := hB.fr 0
    have hc4 := hB.fr 1
    have hc5 := hB.fr 2
    have hF := resF_put (w := w) (p := ((false, 0, 0), 1)) hB (fracT_zero _) T (by omega)
    clear hB T 
    unfold put3 at hF
    have HF := Lib.hid hF
    clear hF
    go_wp2_with fail
    exact bodyPost_ret (v := .tuple #[.agg #[.bool false, .slice none 0 0, .slice none 0 0], .int .i64 1]) (by simp [results, Tryz.results75, go_sem, hc0, hc1, hc2]) rfl HF.out
end Go.Proofs.YtbeoeackahmpbaaGreatDoor

namespace Go.Proofs.YtbeoeackahmpbaaGreatDoor
open Go.RowKit NatM Go.Proofs.YtbeoeackahmpbaaGreatDoor.Api

/-- What cmp.Compare answers. -/
def ordI (a b : Int) : Int := if a < b then -1 else if b < a then 1 else 0
theorem sgn_signQ {x : Tri} (h : x.2.2 ≠ 0) : sgn x = signQ (qv x) := by
  unfold sgn qv; rw [signQ_frac h]
theorem signQ_lt {p q : Rat} (h : signQ p < signQ q) : p < q := by
  unfold signQ cmpQ at h
  grind
theorem cmp_signs {x y : Tri} (hx : x.2.2 ≠ 0) (hy : y.2.2 ≠ 0) (h : sgn x ≠ sgn y) : ordI (sgn x) (sgn y) = cmpQ (qv x) (qv y) := by
  rw [sgn_signQ hx, sgn_signQ hy] at h ⊢
  unfold ordI
  rcases Int.lt_or_gt_of_ne h with h1 | h1
  · rw [if_pos h1, cmpQ_lt (signQ_lt h1)]
  · rw [if_neg (by omega), if_pos h1, cmpQ_gt (signQ_lt h1)]
theorem cmp_same {x y : Tri} {X Y E : Nat} (hx : x.2.2 ≠ 0) (hy : y.2.2 ≠ 0) (e1 : qv x = frac x.1 X E) (e2 : qv y = frac y.1 Y E) (hE : E ≠ 0) (h : sgn x = sgn y) : sgn x * cmpI X Y = cmpQ (qv x) (qv y) := by
  have z1 : X = 0 ↔ x.2.1 = 0 := by
    rw [← frac_eq_zero (neg := x.1) hE, ← e1]; exact frac_eq_zero hx
  have z2 : Y = 0 ↔ y.2.1 = 0 := by
    rw [← frac_eq_zero (neg := y.1) hE, ← e2]; exact frac_eq_zero hy
  rw [e1, e2, cmpQ_frac hE]
  unfold sgn at h ⊢
  unfold cmpI
  simp only [← z1, ← z2] at h
  simp only [← z1]
  cases h1 : x.1 <;> cases h2 : y.1 <;> simp only [h1, h2, sgq, Bool.false_eq_true, if_false, if_true] at h ⊢ <;> (repeat' split at h) <;> (repeat' split) <;> omega

/-- What Cmp answers. -/
def CmpR (w : World) (p : Int × Nat) (e : Ending) (w' : World) : Prop := e = .returned (.tuple #[.int .i64 p.1, .int .i64 (p.2 : Nat)]) ∧ Add w w'
end Go.Proofs.YtbeoeackahmpbaaGreatDoor

namespace Go.Proofs.YtbeoeackahmpbaaGreatDoor
open Go.RowKit NatM Go.Proofs.YtbeoeackahmpbaaGreatDoor.Api

def negF (x : Tri) : Tri := (!x.1, x.2.1, x.2.2)
def subF (x y : Tri) : Tri × Nat := addF x (negF y)
set_option maxRecDepth 100000 in
set_option maxHeartbeats 1000000 in
theorem subN' (p : Tri × Nat) {v v' : Value} {x y : Tri} {w : World} (hx : FracA w v x) (hy : FracA w v' y) (hT : Tab w) (hp : Hid (subF x y = p)) : Calls Tryz.prog 122 #[v, v'] w (ResF w p) := by
  have hx0 := hx
  obtain ⟨an, n, cn, ad, d, cd, rfl, uN, uD⟩ := hx
  obtain ⟨an', n', cn', ad', d', cd', rfl, uN', uD'⟩ := hy
  obtain ⟨T, hX, hY, hB⟩ := start3 w x.1 an n cn ad d cd (!y.1) an' n' cn' ad' d' cd' false none 0 0 none 0 0
  replace hx0 := hx0.mono T
  replace hT := hT.mono T
  have hy0 : FracA _ (.agg #[.bool (!y.1), .slice an' n' cn', .slice ad' d' cd']) (negF y) := ⟨an', n', cn', ad', d', cd', rfl, uN'.mono T, uD'.mono T⟩
  have C := Lib.hid (addN' p hx0 hy0 hT hp)
  have hc0 := hX.c0
  have hc1 := hX.c1
  have hc2 := hX.c2
  have hd0 := hY.c0
  have hd1 := hY.c1
  have hd2 := hY.c2
  clear hx0 hy0 hT hp uN uD uN' uD'
  go_enter Tryz.func122, Tryz.ntmps122
  go_wp2_with fail
  refine (C.out).mono ?_
  rintro e w1 ⟨vr, rfl, nr, h1⟩
  replace hB := hB.mono h1
  replace T := Add.trans T h1
  clear h1 hX hY C hc0 hc1 hc2 hd0 hd1 hd2
  obtain ⟨an2, n2, cn2, ad2, d2, cd2, rfl, m1, m2⟩ := nr
  have s0 := hB.c0
  have s1 := hB.c1
  have s2 := hB.c2
  have s3 := hB.fr 0
  have s4 := hB.fr 1
  have s5 := hB.fr 2
  have hF := resF_put (w := w) (p := p) hB ⟨an2, n2, cn2, ad2, d2, cd2, rfl, m1, m2⟩ T (by omega)
  clear hB T m1 m2
  unfold put3 at hF
  have HF := Lib.hid hF
  clear hF
  go_wp2_with fail
  exact bodyPost_ret (v := .tuple #[.agg #[.bool p.1.1, .slice an2 n2 cn2, .slice ad2 d2 cd2], .int .i64 (p.2 : Nat)]) (by simp [results, Tryz.results122, go_sem, s0, s1, s2]) rfl HF.out
end Go.Proofs.YtbeoeackahmpbaaGreatDoor
