/- Package fraction on numbers: withoutCommonFactor. | Package fraction: lowest. | Package fraction: Valid, sign, sameDenominator. | Package fraction: numerators and commonDenominator. -/
import Derived.Test.YtbeoeackahmpbaaGreatDoorJG
import Derived.Test.YtbeoeackahmpbaaGreatDoorJH
import Derived.Deep.RegionHeld3

namespace Go.Proofs.YtbeoeackahmpbaaGreatDoor
open Go.RowKit NatM Go.Proofs.YtbeoeackahmpbaaGreatDoor.Api

/-- Two numbers. -/
def NumP2 (w : World) (X Y : Nat) (e : Ending) (w' : World) : Prop := ∃ vx vy, e = .returned (.tuple #[vx, vy]) ∧ Num w' vx X ∧ Num w' vy Y ∧ Add w w'
theorem zerosN {va : Value} {A : Nat} {w : World} (ha : Nv w va A) (hT : Tab w) (h : Hid (A ≠ 0)) : Calls Tryz.prog 117 #[va] w (TzI w A) := by
  obtain ⟨xs, r, rfl, l⟩ := ha
  exact zerosAtEnd_any va xs w r (by omega) h.out hT
theorem pow2N (b : Bool) {va : Value} {A : Nat} {w : World} (ha : Nv w va A) (hT : Tab w) (h : Hid (A ≠ 0 ∧ pow2 A = b)) : Calls Tryz.prog 119 #[va] w (BoolIs w b) := by
  obtain ⟨xs, r, rfl, l⟩ := ha
  obtain ⟨h1, rfl⟩ := h.out
  exact isPowerOfTwo_any va xs w r (by omega) h1 hT
theorem pow2_true {A z : Nat} (h : Tz A z) (hp : pow2 A = true) : A = 2 ^ z := by
  rw [pow2_tz h] at hp
  have := of_decide_eq_true hp
  exact h.pow (by omega)
set_option maxRecDepth 100000 in
set_option maxHeartbeats 1000000 in
theorem withoutN (X Y : Nat) {va vb : Value} {A B : Nat} {w : World} (ha : Nv w va A) (hb : Nv w vb B) (hT : Tab w)
    (h : Hid (A ≠ 0 ∧ B ≠ 0 ∧ A < pw 512 ∧ B < pw 512 ∧ A / Nat.gcd A B = X ∧ B / Nat.gcd A B = Y)) : Calls Tryz.prog 113 #[va, vb] w (NumP2 w X Y) := by
  obtain ⟨hA, hB, lA, lB, hX, hY⟩ := h.out
  have HA := Lib.hid hA
  have HB := Lib.hid hB
  have LA := Lib.hid lA
  have LB := Lib.hid lB
  have HX := Lib.hid hX
  have HY := Lib.hid hY
  clear h hA hB lA lB hX hY
  go_enter Tryz.func113, Tryz.ntmps113
  go_wp2_with fail
  refine (zerosN ha hT HA).mono ?_
  rintro e w1 ⟨za, rfl, ta, ba, h1⟩
  replace hb := hb.mono h1
  replace ha := ha.mono h1
  replace hT := hT.mono h1
  have T := h1
  clear h1
  have TA := Lib.hid ta
  clear ta
  go_wp2_with fail
  refine (zerosN hb hT HB).mono ?_
  rintro e w2 ⟨zb, rfl, tb, bb, h2⟩
  replace hb := hb.mono h2
  replace ha := ha.mono h2
  replace hT := hT.mono h2
  replace T := Add.trans T h2
  have TB := Lib.hid tb
  clear tb h2
  obtain ⟨k, hk⟩ : ∃ k, k = min za zb := ⟨_, rfl⟩
  have hwk : wrap64 (-(k : Int)) = -(k : Int) := by unfold wrap64; omega
  have hmin : min (za : Int) (zb : Int) = (k : Int) := by omega
  obtain ⟨A', hA'⟩ : ∃ A', A / 2 ^ k = A' := ⟨_, rfl⟩
  obtain ⟨B', hB'⟩ : ∃ B', B / 2 ^ k = B' := ⟨_, rfl⟩
  obtain ⟨ea, ta⟩ := TA.out.div (k := k) (by omega)
  obtain ⟨eb, tb⟩ := TB.out.div (k := k) (by omega)
  rw [hA'] at ea ta
  rw [hB'] at eb tb
  obtain ⟨gx, gy⟩ := gcd_out ea eb
  rw [HX.out] at gx
  rw [HY.out] at gy
  have h0 : za - k = 0 ∨ zb - k = 0 := by omega
  have lA' : A' < pw 512 := by rw [← hA']; exact Nat.lt_of_le_of_lt (Nat.div_le_self _ _) LA.out
  have lB' : B' < pw 512 := by rw [← hB']; exact Nat.lt_of_le_of_lt (Nat.div_le_self _ _) LB.out
  have FA : Hid (A < pw 512 ∧ A / 2 ^ k = A') := Lib.hid ⟨LA.out, hA'⟩
  have FB : Hid (B < pw 512 ∧ B / 2 ^ k = B') := Lib.hid ⟨LB.out, hB'⟩
  have NA : Hid (A' ≠ 0) := Lib.hid ta.ne
  have NB : Hid (B' ≠ 0) := Lib.hid tb.ne
  have LA' := Lib.hid lA'
  have LB' := Lib.hid lB'
  have GX := Lib.hid gx
  have GY := Lib.hid gy
  have PA : Hid (pow2 A' = true → Nat.gcd A' B' = 1) := Lib.hid fun hp => pow_coprime tb h0 (pow2_true ta hp)
  have PB : Hid (pow2 B' = true → Nat.gcd A' B' = 1) := Lib.hid fun hp => by rw [Nat.gcd_comm]; exact pow_coprime ta h0.symm (pow2_true tb hp)
  clear hA' hB' ea ta eb tb gx gy h0 lA' lB' TA TB HX HY LA LB HA HB hk ba bb
  go_wp2_with fail
  refine (shiftDownF A' k ha FA).mono ?_
  rintro e w3 ⟨va', rfl, na, h3⟩
  replace hb := hb.mono h3
  replace hT := hT.mono h3
  replace T := Add.trans T h3
  clear ha h3 FA
  go_wp2_with fail
  refine (shiftDownF B' k hb FB).mono ?_
  rintro e w4 ⟨vb', rfl, nb', h4⟩
  replace na := na.mono h4
  replace hT := hT.mono h4
  replace T := Add.trans T h4
  clear hb h4 FB hwk hmin
  have ua := num_nv na (lt_up LA'.out (by decide))
  have ub := num_nv nb' (lt_up LB'.out (by decide))
  obtain ⟨pa, hpa⟩ : ∃ p, pow2 A' = p := ⟨_, rfl⟩
  have FPA : Hid (A' ≠ 0 ∧ pow2 A' = pa) := Lib.hid ⟨NA.out, hpa⟩
  cases pa with
  | true =>
    have hg := PA.out hpa
    have hx : X = A' := by rw [GX.out, hg, Nat.div_one]
    have hy : Y = B' := by rw [GY.out, hg, Nat.div_one]
    subst hx hy
    clear PA PB GX GY hpa hg
    go_wp2_with fail
    refine (pow2N true ua hT FPA).mono ?_
    rintro e w5 ⟨rfl, h5⟩
    have hF : NumP2 w X Y (.returned (.tuple #[va', vb'])) w5 := ⟨_, _, rfl, na.mono h5, nb'.mono h5, Add.trans T h5⟩
    clear h5 T na nb' ua ub hT
    go_wp2_with fail
    go_ret2
    exact hF
  | false =>
    obtain ⟨pb, hpb⟩ : ∃ p, pow2 B' = p := ⟨_, rfl⟩
    have FPB : Hid (B' ≠ 0 ∧ pow2 B' = pb) := Lib.hid ⟨NB.out, hpb⟩
    clear hpa PA
    go_wp2_with fail
    refine (pow2N false ua hT FPA).mono ?_
    rintro e w5 ⟨rfl, h5⟩
    replace na := na.mono h5
    replace nb' := nb'.mono h5
    replace ua := ua.mono h5
    replace ub := ub.mono h5
    replace hT := hT.mono h5
    replace T := Add.trans T h5
    clear h5 FPA
    cases pb with
    | true =>
      have hg := PB.out hpb
      have hx : X = A' := by rw [GX.out, hg, Nat.div_one]
      have hy : Y = B' := by rw [GY.out, hg, Nat.div_one]
      subst hx hy
      clear PB GX GY hpb hg
      go_wp2_with fail
      refine (pow2N true ub hT FPB).mono ?_
      rintro e w6 ⟨rfl, h6⟩
      have hF : NumP2 w X Y (.returned (.tuple #[va', vb'])) w6 := ⟨_, _, rfl, na.mono h6, nb'.mono h6, Add.trans T h6⟩
      clear h6 T na nb' ua ub hT
      go_wp2_with fail
      go_ret2
      exact hF
    | false =>
      clear PB hpb
      go_wp2_with fail
      refine (pow2N false ub hT FPB).mono ?_
      rintro e w6 ⟨rfl, h6⟩
      replace na := na.mono h6
      replace nb' := nb'.mono h6
      replace ua := ua.mono h6
      replace ub := ub.mono h6
      replace T := Add.trans T h6
      clear h6 FPB hT
      obtain ⟨G, hG⟩ : ∃ G, Nat.gcd A' B' = G := ⟨_, rfl⟩
      have hGp : 0 < G := by rw [← hG]; exact Nat.gcd_pos_of_pos_left _ (Nat.pos_of_ne_zero NA.out)
      have hGl : G < pw 512 := by rw [← hG]; exact Nat.lt_of_le_of_lt (Nat.gcd_le_left _ (Nat.pos_of_ne_zero NA.out)) LA'.out
      have FG : Hid (A' < pw 512 ∧ B' < pw 512 ∧ Nat.gcd A' B' = G) := Lib.hid ⟨LA'.out, LB'.out, hG⟩
      have FX : Hid (A' < pw 512 ∧ G < pw 512 ∧ G ≠ 0 ∧ A' / G = X ∧ A' % G = 0) := Lib.hid ⟨LA'.out, hGl, by omega, by rw [GX.out, hG], Nat.mod_eq_zero_of_dvd (by rw [← hG]; exact Nat.gcd_dvd_left _ _)⟩
      have FY : Hid (B' < pw 512 ∧ G < pw 512 ∧ G ≠ 0 ∧ B' / G = Y ∧ B' % G = 0) := Lib.hid ⟨LB'.out, hGl, by omega, by rw [GY.out, hG], Nat.mod_eq_zero_of_dvd (by rw [← hG]; exact Nat.gcd_dvd_right _ _)⟩
      obtain ⟨t, ht⟩ : ∃ t, nb G = t := ⟨_, rfl⟩
      have FT : Hid (nb G = t) := Lib.hid ht
      by_cases h1 : G = 1
      · have hx : X = A' := by rw [GX.out, hG, h1, Nat.div_one]
        have hy : Y = B' := by rw [GY.out, hG, h1, Nat.div_one]
        have ht1 : t = 1 := by rw [← ht, h1]; rfl
        subst hx hy ht1
        clear GX GY hG hGp hGl FX FY h1 ht
        go_wp2_with fail
        refine (gcdN G ua.nu ub.nu FG).mono ?_
        rintro e w7 ⟨vg, rfl, -, ug, h7⟩
        replace na := na.mono h7
        replace nb' := nb'.mono h7
        replace T := Add.trans T h7
        clear h7 FG ua ub
        go_wp2_with fail
        refine (bitsN 1 ug FT).mono ?_
        rintro e w8 ⟨rfl, h8⟩
        have hF : NumP2 w X Y (.returned (.tuple #[va', vb'])) w8 := ⟨_, _, rfl, na.mono h8, nb'.mono h8, Add.trans T h8⟩
        clear h8 T na nb' ug FT
        go_wp2_with fail
        go_ret2
        exact hF
      · have dt : ((t : Int) == 1) = false := by
          have h2 : 2 ^ 1 ≤ G := by omega
          have := lt_nb_of_le h2
          simp; omega
        clear GX GY hG hGp hGl h1 ht
        go_wp2_with fail
        refine (gcdN G ua.nu ub.nu FG).mono ?_
        rintro e w7 ⟨vg, rfl, -, ug, h7⟩
        replace ua := ua.mono h7
        replace ub := ub.mono h7
        replace T := Add.trans T h7
        clear h7 FG na nb'
        go_wp2_with fail
        refine (bitsN t ug FT).mono ?_
        rintro e w8 ⟨rfl, h8⟩
        replace ua := ua.mono h8
        replace ub := ub.mono h8
        replace ug := ug.mono h8
        replace T := Add.trans T h8
        clear h8 FT
        go_wp2_with fail
        refine (divN X 0 ua.nu ug FX).mono ?_
        rintro e w9 ⟨vx, vr, rfl, nx, -, -, -, h9⟩
        replace ub := ub.mono h9
        replace ug := ug.mono h9
        replace T := Add.trans T h9
        clear h9 FX ua
        go_wp2_with fail
        refine (divN Y 0 ub.nu ug FY).mono ?_
        rintro e w10 ⟨vy, vs, rfl, ny, -, -, -, h10⟩
        have hF : NumP2 w X Y (.returned (.tuple #[vx, vy])) w10 := ⟨_, _, rfl, nx.mono h10, ny, Add.trans T h10⟩
        clear h10 T nx ny ub ug FY
        go_wp2_with fail
        go_ret2
        exact hF
end Go.Proofs.YtbeoeackahmpbaaGreatDoor

namespace Go.Proofs.YtbeoeackahmpbaaGreatDoor
open Go.RowKit NatM Go.Proofs.YtbeoeackahmpbaaGreatDoor.Api

set_option maxRecDepth 100000 in
set_option maxHeartbeats 1000000 in
theorem lowest_zero (neg : Bool) {va vb : Value} {w : World} (ha : Nv w va 0) :
    Calls Tryz.prog 98 #[.bool neg, va, vb] w (ResF w ((false, 0, 1), 0)) := by
  have hB := box_new w false none 0 0 none 0 0
  have T : Add w (w.alloc (.cells #[.bool false, .slice none 0 0, .slice none 0 0] 37)) := (Below.refl _ _).alloc (Nat.le_refl _) _
  replace ha := ha.mono T
  go_enter Tryz.func98, Tryz.ntmps98
  go_wp2_with fail
  refine (isZeroN true ha (Lib.hid (by simp))).mono ?_
  rintro e w1 ⟨rfl, h1⟩
  replace hB := hB.mono h1
  replace T := Add.trans T h1
  clear h1 ha
  go_wp2_with fail
  refine (make_any 1 _ (by decide) (by decide)).mono ?_
  rintro e w2 ⟨v2, rfl, n2, h2⟩
  replace hB := hB.mono h2
  replace T := Add.trans T h2
  clear h2 
  obtain ⟨a, n, c, rfl⟩ := num_slice n2
  have hc0 := hB.c0
  have hc1 := hB.c1
  have hc2 := hB.c2
  have hc3 := hB.fr 0
  have hc4 := hB.fr 1
  have hc5 := hB.fr 2
  have hF := resF_put (w := w) (p := ((false, 0, 1), 0)) hB (⟨none, 0, 0, a, n, c, rfl, Num.nil _, n2⟩) T (Nat.le_refl _)
  clear hB T n2
  unfold put3 at hF
  have HF := Lib.hid hF
  clear hF
  go_wp2_with fail
  exact bodyPost_ret (v := .tuple #[.agg #[.bool false, .slice none 0 0, .slice a n c], .int .i64 0]) (by simp [results, Tryz.results98, go_sem, hc0, hc1, hc2]) rfl HF.out

set_option maxRecDepth 100000 in
set_option maxHeartbeats 1000000 in
theorem lowest_pos (neg : Bool) (X Y : Nat) (p : Tri × Nat) {va vb : Value} {N D : Nat} {w : World} (ha : Nv w va N) (hb : Nv w vb D) (hT : Tab w)
    (h : Hid (N ≠ 0 ∧ D ≠ 0 ∧ N < pw 512 ∧ D < pw 512 ∧ N / Nat.gcd N D = X ∧ D / Nat.gcd N D = Y)) (hp : Hid ((if pw 128 ≤ X ∨ pw 128 ≤ Y then (((false, 0, 0), 2) : Tri × Nat) else ((neg, X, Y), 0)) = p)) :
    Calls Tryz.prog 98 #[.bool neg, va, vb] w (ResF w p) := by
  have hB := box_new w false none 0 0 none 0 0
  have T : Add w (w.alloc (.cells #[.bool false, .slice none 0 0, .slice none 0 0] 37)) := (Below.refl _ _).alloc (Nat.le_refl _) _
  replace ha := ha.mono T
  replace hb := hb.mono T
  replace hT := hT.mono T
  have FZ : Hid (decide (N = 0) = false) := Lib.hid (decide_eq_false h.out.1)
  have lX : X < pw 512 := by rw [← h.out.2.2.2.2.1]; exact Nat.lt_of_le_of_lt (Nat.div_le_self _ _) h.out.2.2.1
  have lY : Y < pw 512 := by rw [← h.out.2.2.2.2.2]; exact Nat.lt_of_le_of_lt (Nat.div_le_self _ _) h.out.2.2.2.1
  obtain ⟨x, hx⟩ : ∃ x, nb X = x := ⟨_, rfl⟩
  obtain ⟨y, hy⟩ : ∃ y, nb Y = y := ⟨_, rfl⟩
  have FX := Lib.hid hx
  have FY := Lib.hid hy
  have hxp : pw 128 ≤ X ↔ 4096 < x := by have := nb_lt_pw (n := X) (k := 128); omega
  have hyp : pw 128 ≤ Y ↔ 4096 < y := by have := nb_lt_pw (n := Y) (k := 128); omega
  have LX := Lib.hid lX
  have LY := Lib.hid lY
  have HP := Lib.hid (show (if 4096 < x ∨ 4096 < y then (((false, 0, 0), 2) : Tri × Nat) else ((neg, X, Y), 0)) = p by rw [← hp.out]; simp only [hxp, hyp])
  clear hp lX lY hx hy hxp hyp
  go_enter Tryz.func98, Tryz.ntmps98
  go_wp2_with fail
  refine (isZeroN false ha FZ).mono ?_
  rintro e w1 ⟨rfl, h1⟩
  replace hB := hB.mono h1
  replace ha := ha.mono h1
  replace hb := hb.mono h1
  replace hT := hT.mono h1
  replace T := Add.trans T h1
  clear h1 FZ
  go_wp2_with fail
  refine (withoutN X Y ha hb hT h).mono ?_
  rintro e w2 ⟨vx, vy, rfl, nx, ny, h2⟩
  replace hB := hB.mono h2
  replace T := Add.trans T h2
  clear h2 ha hb hT h
  have ux := num_nu nx LX.out
  have uy := num_nu ny LY.out
  by_cases cx : 4096 < x
  · have dx : decide ((4096 : Int) < (x : Int)) = true := by simp; omega
    have hpe := HP.out
    rw [if_pos (.inl cx)] at hpe
    subst hpe
    clear cx HP
    go_wp2_with fail
    refine (bitsN x ux FX).mono ?_
    rintro e w3 ⟨rfl, h3⟩
    replace hB := hB.mono h3
    replace nx := nx.mono h3
    replace ny := ny.mono h3
    replace T := Add.trans T h3
    clear h3 ux uy FX FY
    have hc0 := hB.c0
    have hc1 := hB.c1
    have hc2 := hB.c2
    have hc3 := hB.fr 0
    have hc4 := hB.fr 1
    have hc5 := hB.fr 2
    have hF := resF_put (w := w) (p := ((false, 0, 0), 2)) hB (fracT_zero _) T (Nat.le_refl _)
    clear hB T nx ny
    unfold put3 at hF
    have HF := Lib.hid hF
    clear hF
    go_wp2_with fail
    exact bodyPost_ret (v := .tuple #[.agg #[.bool false, .slice none 0 0, .slice none 0 0], .int .i64 2]) (by simp [results, Tryz.results98, go_sem, hc0, hc1, hc2]) rfl HF.out
  · have dx : decide ((4096 : Int) < (x : Int)) = false := by simp; omega
    go_wp2_with fail
    refine (bitsN x ux FX).mono ?_
    rintro e w3 ⟨rfl, h3⟩
    replace hB := hB.mono h3
    replace nx := nx.mono h3
    replace ny := ny.mono h3
    replace uy := uy.mono h3
    replace T := Add.trans T h3
    clear h3 ux FX
    by_cases cy : 4096 < y
    · have dy : decide ((4096 : Int) < (y : Int)) = true := by simp; omega
      have hpe := HP.out
      rw [if_pos (.inr cy)] at hpe
      subst hpe
      clear cx cy HP
      go_wp2_with fail
      refine (bitsN y uy FY).mono ?_
      rintro e w4 ⟨rfl, h4⟩
      replace hB := hB.mono h4
      replace nx := nx.mono h4
      replace ny := ny.mono h4
      replace T := Add.trans T h4
      clear h4 uy FY
      have hc0 := hB.c0
      have hc1 := hB.c1
      have hc2 := hB.c2
      have hc3 := hB.fr 0
      have hc4 := hB.fr 1
      have hc5 := hB.fr 2
      have hF := resF_put (w := w) (p := ((false, 0, 0), 2)) hB (fracT_zero _) T (Nat.le_refl _)
      clear hB T nx ny
      unfold put3 at hF
      have HF := Lib.hid hF
      clear hF
      go_wp2_with fail
      exact bodyPost_ret (v := .tuple #[.agg #[.bool false, .slice none 0 0, .slice none 0 0], .int .i64 2]) (by simp [results, Tryz.results98, go_sem, hc0, hc1, hc2]) rfl HF.out
    · have dy : decide ((4096 : Int) < (y : Int)) = false := by simp; omega
      have hpe := HP.out
      rw [if_neg (by omega)] at hpe
      subst hpe
      clear cx cy HP
      obtain ⟨a1, n1, c1, rfl⟩ := num_slice nx
      obtain ⟨a2, n2, c2, rfl⟩ := num_slice ny
      go_wp2_with fail
      refine (bitsN y uy FY).mono ?_
      rintro e w4 ⟨rfl, h4⟩
      replace hB := hB.mono h4
      replace nx := nx.mono h4
      replace ny := ny.mono h4
      replace T := Add.trans T h4
      clear h4 uy FY
      have hc0 := hB.c0
      have hc1 := hB.c1
      have hc2 := hB.c2
      have hc3 := hB.fr 0
      have hc4 := hB.fr 1
      have hc5 := hB.fr 2
      have hF := resF_put (w := w) (p := ((neg, X, Y), 0)) hB (⟨a1, n1, c1, a2, n2, c2, rfl, nx, ny⟩) T (Nat.le_refl _)
      clear hB T nx ny
      unfold put3 at hF
      have HF := Lib.hid hF
      clear hF
      go_wp2_with fail
      exact bodyPost_ret (v := .tuple #[.agg #[.bool neg, .slice a1 n1 c1, .slice a2 n2 c2], .int .i64 0]) (by simp [results, Tryz.results98, go_sem, hc0, hc1, hc2]) rfl HF.out

theorem lowestN (p : Tri × Nat) {neg : Bool} {va vb : Value} {N D : Nat} {w : World} (ha : Nv w va N) (hb : Nv w vb D) (hT : Tab w)
    (h : Hid (D ≠ 0 ∧ N < pw 512 ∧ D < pw 512 ∧ fitQ (frac neg N D) = p)) : Calls Tryz.prog 98 #[.bool neg, va, vb] w (ResF w p) := by
  obtain ⟨h1, h2, h3, rfl⟩ := h.out
  by_cases h0 : N = 0
  · subst h0
    rw [fitQ_zero]
    exact lowest_zero neg ha
  · exact lowest_pos neg _ _ _ ha hb hT (Lib.hid ⟨h0, h1, h2, h3, rfl, rfl⟩) (Lib.hid (fitQ_frac h0 h1 rfl rfl).symm)
end Go.Proofs.YtbeoeackahmpbaaGreatDoor

namespace Go.Proofs.YtbeoeackahmpbaaGreatDoor
open Go.RowKit NatM Go.Proofs.YtbeoeackahmpbaaGreatDoor.Api

theorem okF_false {x : Tri} (h : x.2.2 = 0 ∨ pw 128 ≤ x.2.2 ∨ pw 128 ≤ x.2.1) : okF x = false := by
  unfold okF
  rw [decide_eq_false_iff_not]; omega
set_option maxRecDepth 100000 in
set_option maxHeartbeats 1000000 in
theorem validN (t : Bool) {v : Value} {x : Tri} {w : World} (hx : FracA w v x) (h : Hid (okF x = t)) : Calls Tryz.prog 74 #[v] w (BoolIs w t) := by
  obtain ⟨an, n, cn, ad, d, cd, rfl, uN, uD⟩ := hx
  obtain ⟨T, hX⟩ := start1 w x.1 an n cn ad d cd
  replace uN := uN.mono T
  replace uD := uD.mono T
  obtain ⟨y, hy⟩ : ∃ y, nb x.2.2 = y := ⟨_, rfl⟩
  obtain ⟨z, hz⟩ : ∃ z, nb x.2.1 = z := ⟨_, rfl⟩
  have FY := Lib.hid hy
  have FZ := Lib.hid hz
  have hyp : pw 128 ≤ x.2.2 ↔ 4096 < y := by have := nb_lt_pw (n := x.2.2) (k := 128); omega
  have hzp : pw 128 ≤ x.2.1 ↔ 4096 < z := by have := nb_lt_pw (n := x.2.1) (k := 128); omega
  have HY := Lib.hid hyp
  have HZ := Lib.hid hzp
  clear hy hz hyp hzp
  go_enter Tryz.func74, Tryz.ntmps74
  by_cases c0 : x.2.2 = 0
  · have ht : t = false := by rw [← h.out]; exact okF_false (.inl c0)
    have F0 : Hid (decide (x.2.2 = 0) = true) := Lib.hid (decide_eq_true c0)
    subst ht
    clear h c0 HY HZ FY FZ
    have hc0 := hX.c0
    have hc1 := hX.c1
    have hc2 := hX.c2
    go_wp2_with fail
    refine (isZeroN true uD F0).mono ?_
    rintro e w1 ⟨rfl, h1⟩
    replace T := Add.trans T h1
    clear hc0 hc1 hc2 h1 hX uN uD F0
    go_wp2_with fail
    go_ret
    exact ⟨rfl, T⟩
  · have F0 : Hid (decide (x.2.2 = 0) = false) := Lib.hid (decide_eq_false c0)
    have hc0 := hX.c0
    have hc1 := hX.c1
    have hc2 := hX.c2
    go_wp2_with fail
    refine (isZeroN false uD F0).mono ?_
    rintro e w1 ⟨rfl, h1⟩
    replace hX := hX.mono h1
    replace uN := uN.mono h1
    replace uD := uD.mono h1
    replace T := Add.trans T h1
    clear hc0 hc1 hc2 h1 F0
    by_cases cy : 4096 < y
    · have ht : t = false := by rw [← h.out]; exact okF_false (.inr (.inl (HY.out.2 cy)))
      have dy : decide ((y : Int) ≤ 4096) = false := by simp; omega
      subst ht
      clear h c0 HY HZ FZ cy
      have hc0 := hX.c0
      have hc1 := hX.c1
      have hc2 := hX.c2
      go_wp2_with fail
      refine (bitsN y uD.nu FY).mono ?_
      rintro e w2 ⟨rfl, h2⟩
      replace T := Add.trans T h2
      clear hc0 hc1 hc2 h2 hX uN uD FY
      go_wp2_with fail
      go_ret
      exact ⟨rfl, T⟩
    · have dy : decide ((y : Int) ≤ 4096) = true := by simp; omega
      have hc0 := hX.c0
      have hc1 := hX.c1
      have hc2 := hX.c2
      go_wp2_with fail
      refine (bitsN y uD.nu FY).mono ?_
      rintro e w2 ⟨rfl, h2⟩
      replace hX := hX.mono h2
      replace uN := uN.mono h2
      replace T := Add.trans T h2
      clear hc0 hc1 hc2 h2 uD FY
      by_cases cz : 4096 < z
      · have ht : t = false := by rw [← h.out]; exact okF_false (.inr (.inr (HZ.out.2 cz)))
        have dz : decide ((z : Int) ≤ 4096) = false := by simp; omega
        subst ht
        clear h c0 HY HZ cz cy
        have hc0 := hX.c0
        have hc1 := hX.c1
        have hc2 := hX.c2
        go_wp2_with fail
        refine (bitsN z uN.nu FZ).mono ?_
        rintro e w3 ⟨rfl, h3⟩
        replace T := Add.trans T h3
        clear hc0 hc1 hc2 h3 hX uN FZ
        go_wp2_with fail
        go_ret
        exact ⟨rfl, T⟩
      · have ht : t = true := by rw [← h.out, okF_iff]; have := HY.out; have := HZ.out; omega
        have dz : decide ((z : Int) ≤ 4096) = true := by simp; omega
        subst ht
        clear h c0 HY HZ cz cy
        have hc0 := hX.c0
        have hc1 := hX.c1
        have hc2 := hX.c2
        go_wp2_with fail
        refine (bitsN z uN.nu FZ).mono ?_
        rintro e w3 ⟨rfl, h3⟩
        replace T := Add.trans T h3
        clear hc0 hc1 hc2 h3 hX uN FZ
        go_wp2_with fail
        go_ret
        exact ⟨rfl, T⟩

/-- The sign of a valid fraction. -/
def sgn (x : Tri) : Int := if x.2.1 = 0 then 0 else if x.1 then -1 else 1
set_option maxRecDepth 100000 in
set_option maxHeartbeats 1000000 in
theorem sameDenN (t : Bool) {v v' : Value} {x y : Tri} {w : World} (hx : FracA w v x) (hy : FracA w v' y) (h : Hid (decide (x.2.2 = y.2.2) = t)) : Calls Tryz.prog 138 #[v, v'] w (BoolIs w t) := by
  obtain ⟨an, n, cn, ad, d, cd, rfl, uN, uD⟩ := hx
  obtain ⟨an', n', cn', ad', d', cd', rfl, uN', uD'⟩ := hy
  obtain ⟨T, hX, hY⟩ := start2 w x.1 an n cn ad d cd y.1 an' n' cn' ad' d' cd'
  replace uD := uD.mono T
  replace uD' := uD'.mono T
  obtain ⟨c, hc⟩ : ∃ c, cmpI x.2.2 y.2.2 = c := ⟨_, rfl⟩
  have FC := Lib.hid hc
  have ht : (c == 0) = t := by
    have := h.out
    rw [← hc]
    by_cases e : x.2.2 = y.2.2
    · rw [cmpI_eq e, ← this, decide_eq_true e]; rfl
    · rw [← this, decide_eq_false e]
      rcases Nat.lt_or_gt_of_ne e with e | e
      · rw [cmpI_lt e]; rfl
      · rw [cmpI_gt e]; rfl
  have hc0 := hX.c2
  have hc1 := hY.c2
  clear h hc hX hY uN uN'
  go_enter Tryz.func138, Tryz.ntmps138
  go_wp2_with fail
  refine (cmpN c uD.nu uD'.nu FC).mono ?_
  rintro e w1 ⟨rfl, h1⟩
  replace T := Add.trans T h1
  clear h1 uD uD' FC hc0 hc1
  go_wp2_with fail
  go_ret
  exact ⟨rfl, T⟩
end Go.Proofs.YtbeoeackahmpbaaGreatDoor

namespace Go.Proofs.YtbeoeackahmpbaaGreatDoor
open Go.RowKit NatM Go.Proofs.YtbeoeackahmpbaaGreatDoor.Api

/-- Two numbers, canonical or not. -/
def NvP2 (w : World) (X Y : Nat) (e : Ending) (w' : World) : Prop := ∃ vx vy, e = .returned (.tuple #[vx, vy]) ∧ Nv w' vx X ∧ Nv w' vy Y ∧ Add w w'
def NvP (w : World) (X : Nat) (e : Ending) (w' : World) : Prop := ∃ vx, e = .returned vx ∧ Nv w' vx X ∧ Add w w'
/-- The four cells that numerators and products load. -/
def Four (W w' : World) (g k : Nat) (an : Option Addr) (n cn : Nat) (ad : Option Addr) (d cd : Nat) (an' : Option Addr) (n' cn' : Nat) (ad' : Option Addr) (d' cd' : Nat) : Prop :=
  w'.cell? ⟨g, 1, none⟩ = some (.slice an n cn) ∧ w'.cell? ⟨g, 2, none⟩ = some (.slice ad d cd) ∧ w'.cell? ⟨k, 1, none⟩ = some (.slice an' n' cn') ∧ w'.cell? ⟨k, 2, none⟩ = some (.slice ad' d' cd') ∧ Add W w'

set_option maxRecDepth 100000 in
set_option maxHeartbeats 2000000 in
theorem numeratorsN (X Y : Nat) {v v' : Value} {x y : Tri} {w : World} (hx : FracA w v x) (hy : FracA w v' y)
    (h : Hid (x.2.1 < pw 128 ∧ x.2.2 < pw 128 ∧ y.2.1 < pw 128 ∧ y.2.2 < pw 128 ∧ (if x.2.2 = y.2.2 then x.2.1 = X ∧ y.2.1 = Y else x.2.1 * y.2.2 = X ∧ y.2.1 * x.2.2 = Y))) :
    Calls Tryz.prog 126 #[v, v'] w (NvP2 w X Y) := by
  have hx0 := hx
  have hy0 := hy
  obtain ⟨an, n, cn, ad, d, cd, rfl, uN, uD⟩ := hx
  obtain ⟨an', n', cn', ad', d', cd', rfl, uN', uD'⟩ := hy
  obtain ⟨T, hX, hY⟩ := start2 w x.1 an n cn ad d cd y.1 an' n' cn' ad' d' cd'
  replace uN := uN.mono T
  replace uD := uD.mono T
  replace uN' := uN'.mono T
  replace uD' := uD'.mono T
  replace hx0 := hx0.mono T
  replace hy0 := hy0.mono T
  obtain ⟨l1, l2, l3, l4, hc⟩ := h.out
  have m1 : x.2.1 * y.2.2 < pw 256 := lt_mul (i := 128) (j := 128) l1 l4
  have m2 : y.2.1 * x.2.2 < pw 256 := lt_mul (i := 128) (j := 128) l3 l2
  have LL : Hid (x.2.1 * y.2.2 < pw 1000 ∧ y.2.1 * x.2.2 < pw 1000) := Lib.hid ⟨lt_up m1 (by decide), lt_up m2 (by decide)⟩
  have FM1 : Hid (x.2.1 < pw 512 ∧ y.2.2 < pw 512 ∧ x.2.1 * y.2.2 < pw 512) := Lib.hid ⟨lt_up l1 (by decide), lt_up l4 (by decide), lt_up m1 (by decide)⟩
  have FM2 : Hid (y.2.1 < pw 512 ∧ x.2.2 < pw 512 ∧ y.2.1 * x.2.2 < pw 512) := Lib.hid ⟨lt_up l3 (by decide), lt_up l2 (by decide), lt_up m2 (by decide)⟩
  have HC := Lib.hid hc
  have hc0 := hX.c0
  have hc1 := hX.c1
  have hc2 := hX.c2
  have hd0 := hY.c0
  have hd1 := hY.c1
  have hd2 := hY.c2
  clear l1 l2 l3 l4 hc m1 m2 h
  by_cases c : x.2.2 = y.2.2
  · have FS : Hid (decide (x.2.2 = y.2.2) = true) := Lib.hid (decide_eq_true c)
    have hc := HC.out
    rw [if_pos c] at hc
    obtain ⟨hc3, hc4⟩ := hc
    rw [hc3] at uN
    rw [hc4] at uN'
    clear hc3 hc4 c HC FM1 FM2 LL uD uD'
    go_enter Tryz.func126, Tryz.ntmps126
    go_wp2_with fail
    refine (sameDenN true hx0 hy0 FS).mono ?_
    rintro e w1 ⟨rfl, h1⟩
    replace hX := hX.mono h1
    replace hY := hY.mono h1
    replace uN := uN.mono h1
    replace uN' := uN'.mono h1
    replace T := Add.trans T h1
    clear h1 hc0 hc1 hc2 hd0 hd1 hd2 hx0 hy0 FS
    have hc1 := hX.c1
    have hd1 := hY.c1
    clear hX hY
    go_wp2_with fail
    go_quiet (fail)
    have hF : NvP2 w X Y (.returned (.tuple #[.slice an n cn, .slice an' n' cn'])) (w1.drewN nq) := ⟨_, _, rfl, uN.mono (below_drewN (Below.refl _ _) _), uN'.mono (below_drewN (Below.refl _ _) _), below_drewN T _⟩
    have HF := Lib.hid hF
    clear hF uN uN' T
    go_wp2_with fail
    go_ret2
    exact HF.out
  · have FS : Hid (decide (x.2.2 = y.2.2) = false) := Lib.hid (decide_eq_false c)
    have hc := HC.out
    rw [if_neg c] at hc
    clear c HC
    have EX : Hid (x.2.1 * y.2.2 = X ∧ y.2.1 * x.2.2 = Y) := Lib.hid hc
    clear hc
    go_enter Tryz.func126, Tryz.ntmps126
    go_wp2_with fail
    refine (sameDenN false hx0 hy0 FS).mono ?_
    rintro e w1 ⟨rfl, h1⟩
    replace hX := hX.mono h1
    replace hY := hY.mono h1
    replace uN := uN.mono h1
    replace uN' := uN'.mono h1
    replace uD := uD.mono h1
    replace uD' := uD'.mono h1
    replace T := Add.trans T h1
    clear h1 hc0 hc1 hc2 hd0 hd1 hd2 hx0 hy0 FS
    obtain ⟨ex, ey⟩ := EX.out
    have C1 : Hid (∀ w', Add w1 w' → Calls Tryz.prog 106 #[.slice an n cn, .slice ad' d' cd'] w' (NumP w' X)) := Lib.hid fun w' a => by rw [← ex]; exact timesF (uN.mono a) (uD'.mono a) FM1
    have C2 : Hid (∀ w', Add w1 w' → Calls Tryz.prog 106 #[.slice an' n' cn', .slice ad d cd] w' (NumP w' Y)) := Lib.hid fun w' a => by rw [← ey]; exact timesF (uN'.mono a) (uD.mono a) FM2
    have LX : Hid (X < pw 1000 ∧ Y < pw 1000) := Lib.hid (by rw [← ex, ← ey]; exact LL.out)
    clear ex ey EX LL uN uN' uD uD' FM1 FM2
    have KK : Hid (∀ w', Add w1 w' → Four w1 w' w.heap.size (w.heap.size + 1) an n cn ad d cd an' n' cn' ad' d' cd') := Lib.hid fun w' a => ⟨(hX.mono a).c1, (hX.mono a).c2, (hY.mono a).c1, (hY.mono a).c2, a⟩
    have hc1 := hX.c1
    have hc2 := hX.c2
    have hd1 := hY.c1
    have hd2 := hY.c2
    clear hX hY
    go_wp2_with fail
    go_region_held3 (fun w' => w'.cell? ⟨w.heap.size, 1, none⟩ = some (.slice an n cn) ∧ w'.cell? ⟨w.heap.size, 2, none⟩ = some (.slice ad d cd) ∧ w'.cell? ⟨w.heap.size + 1, 1, none⟩ = some (.slice an' n' cn') ∧ w'.cell? ⟨w.heap.size + 1, 2, none⟩ = some (.slice ad' d' cd') ∧ Add w1 w')
      (first | exact KK.out _ (Below.drew (Below.refl _ _)) | (go_split_ands; exact KK.out _ (Add.trans (by assumption) hq)) | go_keep)
      (first | (go_at_call 106; go_split_ands; ((with_reducible refine (C1.out _ (by assumption)).mono ?_); rintro e w2 ⟨v1, rfl, n1, hq⟩))
             | (go_at_call 106; go_split_ands; ((with_reducible refine (C2.out _ (by assumption)).mono ?_); rintro e w3 ⟨v2, rfl, n2, hq⟩)))
    go_split_ands
    have a3 : Add w1 w3 := by assumption
    have hF : NvP2 w X Y (.returned (.tuple #[v1, v2])) w3 := ⟨_, _, rfl, num_nv (n1.mono hq) LX.out.1, num_nv n2 LX.out.2, Add.trans T a3⟩
    have HF := Lib.hid hF
    clear hF n1 n2 T a3 hq C1 C2 KK
    go_wp2_with fail
    go_ret2
    exact HF.out

set_option maxRecDepth 100000 in
set_option maxHeartbeats 2000000 in
theorem commonDenN (E : Nat) {v v' : Value} {x y : Tri} {w : World} (hx : FracA w v x) (hy : FracA w v' y)
    (h : Hid (x.2.2 < pw 128 ∧ y.2.2 < pw 128 ∧ (if x.2.2 = y.2.2 then x.2.2 = E else x.2.2 * y.2.2 = E))) :
    Calls Tryz.prog 127 #[v, v'] w (NvP w E) := by
  have hx0 := hx
  have hy0 := hy
  obtain ⟨an, n, cn, ad, d, cd, rfl, uN, uD⟩ := hx
  obtain ⟨an', n', cn', ad', d', cd', rfl, uN', uD'⟩ := hy
  obtain ⟨T, hX, hY⟩ := start2 w x.1 an n cn ad d cd y.1 an' n' cn' ad' d' cd'
  replace uD := uD.mono T
  replace uD' := uD'.mono T
  replace hx0 := hx0.mono T
  replace hy0 := hy0.mono T
  obtain ⟨l2, l4, hc⟩ := h.out
  have m1 : x.2.2 * y.2.2 < pw 256 := lt_mul (i := 128) (j := 128) l2 l4
  have FM1 : Hid (x.2.2 < pw 512 ∧ y.2.2 < pw 512 ∧ x.2.2 * y.2.2 < pw 512) := Lib.hid ⟨lt_up l2 (by decide), lt_up l4 (by decide), lt_up m1 (by decide)⟩
  have LL : Hid (x.2.2 * y.2.2 < pw 1000) := Lib.hid (lt_up m1 (by decide))
  have HC := Lib.hid hc
  have hc0 := hX.c0
  have hc1 := hX.c1
  have hc2 := hX.c2
  have hd0 := hY.c0
  have hd1 := hY.c1
  have hd2 := hY.c2
  clear l2 l4 hc m1 h uN uN'
  by_cases c : x.2.2 = y.2.2
  · have FS : Hid (decide (x.2.2 = y.2.2) = true) := Lib.hid (decide_eq_true c)
    have hc := HC.out
    rw [if_pos c] at hc
    rw [hc] at uD
    clear hc c HC FM1 LL uD'
    go_enter Tryz.func127, Tryz.ntmps127
    go_wp2_with fail
    refine (sameDenN true hx0 hy0 FS).mono ?_
    rintro e w1 ⟨rfl, h1⟩
    replace hX := hX.mono h1
    replace uD := uD.mono h1
    replace T := Add.trans T h1
    clear h1 hc0 hc1 hc2 hd0 hd1 hd2 hx0 hy0 FS hY
    have hc1 := hX.c2
    have hF : NvP w E (.returned (.slice ad d cd)) w1 := ⟨_, rfl, uD, T⟩
    have HF := Lib.hid hF
    clear hX hF uD T
    go_wp2_with fail
    go_ret
    exact HF.out
  · have FS : Hid (decide (x.2.2 = y.2.2) = false) := Lib.hid (decide_eq_false c)
    have hc := HC.out
    rw [if_neg c] at hc
    have EX : Hid (x.2.2 * y.2.2 = E) := Lib.hid hc
    clear c HC hc
    go_enter Tryz.func127, Tryz.ntmps127
    go_wp2_with fail
    refine (sameDenN false hx0 hy0 FS).mono ?_
    rintro e w1 ⟨rfl, h1⟩
    replace hX := hX.mono h1
    replace hY := hY.mono h1
    replace uD := uD.mono h1
    replace uD' := uD'.mono h1
    replace T := Add.trans T h1
    clear h1 hc0 hc1 hc2 hd0 hd1 hd2 hx0 hy0 FS
    have hc2 := hX.c2
    have hd2 := hY.c2
    clear hX hY
    go_wp2_with fail
    refine (timesF uD uD' FM1).mono ?_
    rintro e w2 ⟨v1, rfl, n1, h2⟩
    have hF : NvP w E (.returned v1) w2 := ⟨_, rfl, by rw [← EX.out]; exact num_nv n1 LL.out, Add.trans T h2⟩
    have HF := Lib.hid hF
    clear hF n1 T h2 hc2 hd2 uD uD' FM1
    go_wp2_with fail
    go_ret
    exact HF.out
end Go.Proofs.YtbeoeackahmpbaaGreatDoor
