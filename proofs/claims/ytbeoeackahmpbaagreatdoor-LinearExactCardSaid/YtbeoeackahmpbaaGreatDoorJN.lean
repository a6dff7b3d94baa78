/- The reference of layer 2: lowest, Make, Valid; the comparison of fractions. | The reference of layer 2: Make, Valid; the comparison of fractions. -/
import Derived.Test.YtbeoeackahmpbaaGreatDoorJM
import Derived.Test.YtbeoeackahmpbaaGreatDoorJK
import Derived.Test.YtbeoeackahmpbaaGreatDoorJS

namespace Go.Proofs.YtbeoeackahmpbaaGreatDoor
open Go.RowKit NatM Go.Proofs.YtbeoeackahmpbaaGreatDoor.Api

/-- A call that returns one fraction. -/
def RetF (w : World) (x : Tri) (e : Ending) (w' : World) : Prop := ∃ v, e = .returned v ∧ FracT w' v x ∧ Add w w'
theorem retF_put {w wk : World} {g : Nat} {b an n cn ad d cd} {x : Tri} {u0 u1 u2 : Value} (hB : Box wk g b an n cn ad d cd) (hv : FracT wk (.agg #[u0, u1, u2]) x) (hT : Add w wk) (hg : w.heap.size ≤ g) :
    RetF w x (.returned (.agg #[u0, u1, u2])) (put3 wk g u0 u1 u2) := ⟨_, rfl, hv.put hB u0 u1 u2, put3_below u0 u1 u2 hT hg⟩
/-- The row of a number is one limb, or longer. -/
theorem num_ofOne {w : World} {v : Value} {G : Nat} (h : Num w v G) (h0 : G ≠ 0) :
    (∃ b off c, v = .slice (some ⟨b, off, none⟩) 1 c ∧ w.cell? ⟨b, off, none⟩ = some (.int .u32 (G : Nat)) ∧ G < 4294967296) ∨ (∃ ao n c, v = .slice ao n c ∧ 1 < n ∧ 4294967296 ≤ G) := by
  obtain ⟨zs, ⟨ao, n, c, rfl, hl, hc, hm, hx, hr⟩, cz, hv⟩ := h
  rcases Nat.lt_trichotomy n 1 with h1 | h1 | h1
  · exfalso
    obtain rfl : zs = [] := List.length_eq_zero_iff.1 (by omega)
    exact h0 hv.symm
  · subst h1
    obtain ⟨b, off, rfl, g⟩ := hr (by decide)
    obtain ⟨z, rfl⟩ := List.length_eq_one_iff.1 hl
    have hz : z = G := by rw [← hv]; simp [val]
    subst hz
    exact .inl ⟨b, off, c, rfl, by simpa using g 0 (by decide), hx z (by simp)⟩
  · refine .inr ⟨ao, n, c, rfl, h1, ?_⟩
    have h2 : val [1, 0] < val zs ∨ 4294967296 ≤ val zs := by
      rcases Nat.lt_or_ge (val zs) 4294967296 with h | h
      · exfalso
        have := tlen_le_of_val (xs := zs) 1 (by rw [show pw 1 = 4294967296 from by decide]; exact h)
        unfold Canon at cz; omega
      · exact .inr h
    rcases h2 with h2 | h2
    · have := tlen_le_of_val (xs := zs) 1
      rcases Nat.lt_or_ge (val zs) 4294967296 with h | h
      · exfalso
        have := this (by rw [show pw 1 = 4294967296 from by decide]; exact h)
        unfold Canon at cz; omega
      · omega
    · omega

set_option maxRecDepth 100000 in
set_option maxHeartbeats 1000000 in
theorem refLowest_zero (neg : Bool) {va vb : Value} {D : Nat} {w : World} (ha : Nv w va 0) (hb : Nv w vb D) :
    Calls Tryz.prog 67 #[.bool neg, va, vb] w (RetF w (false, 0, 1)) := by
  have hB := box_new w false none 0 0 none 0 0
  have T : Add w (w.alloc (.cells #[.bool false, .slice none 0 0, .slice none 0 0] 37)) := add_new _ _
  replace ha := ha.mono T
  replace hb := hb.mono T
  go_enter Tryz.func67, Tryz.ntmps67
  go_wp2_with fail
  refine (refTrimX ha).mono ?_
  rintro e w1 ⟨v1, rfl, n1, h1⟩
  replace hB := hB.mono h1
  replace hb := hb.mono h1
  replace T := Add.trans T h1
  clear h1 ha
  go_wp2_with fail
  refine (refTrimX hb).mono ?_
  rintro e w2 ⟨v2, rfl, n2, h2⟩
  replace hB := hB.mono h2
  replace n1 := n1.mono h2
  replace T := Add.trans T h2
  clear h2 hb n2
  obtain ⟨ao, n, c, rfl, -, hn⟩ := num_shape (k := 1) n1 (by decide)
  obtain rfl : n = 0 := hn.2 rfl
  have n3 := num_lit w2 w2.heap.size rfl 1 1 rfl (by decide) (by decide)
  have T3 : Add w (w2.alloc (.cells #[.int .u32 1] 93)) := Add.trans T (add_new _ _)
  replace hB := hB.mono (add_new w2 (.cells #[.int .u32 1] 93))
  have hc0 := hB.c0
  have hc1 := hB.c1
  have hc2 := hB.c2
  have hc3 := hB.fr 0
  have hc4 := hB.fr 1
  have hc5 := hB.fr 2
  have hF := retF_put (w := w) (x := (false, 0, 1)) hB ⟨none, 0, 0, some ⟨w2.heap.size, 0, none⟩, 1, 1, rfl, Num.nil _, n3⟩ T3 (Nat.le_refl _)
  clear hB T T3 n1 n3 hn
  unfold put3 at hF
  have HF := Lib.hid hF
  clear hF
  go_wp2_with fail
  exact bodyPost_ret (v := .agg #[.bool false, .slice none 0 0, .slice (some ⟨w2.heap.size, 0, none⟩) 1 1]) (by simp [results, Tryz.results67, go_sem, hc0, hc1, hc2]) rfl HF.out
set_option maxRecDepth 100000 in
set_option maxHeartbeats 2000000 in
theorem refLowest_pos (neg : Bool) (X Y : Nat) {va vb : Value} {N D : Nat} {w : World} (ha : Nv w va N) (hb : Nv w vb D)
    (h : Hid (N ≠ 0 ∧ D ≠ 0 ∧ N < pw 512 ∧ D < pw 512 ∧ N / Nat.gcd N D = X ∧ D / Nat.gcd N D = Y)) :
    Calls Tryz.prog 67 #[.bool neg, va, vb] w (RetF w (neg, X, Y)) := by
  have hB := box_new w false none 0 0 none 0 0
  have T : Add w (w.alloc (.cells #[.bool false, .slice none 0 0, .slice none 0 0] 37)) := add_new _ _
  replace ha := ha.mono T
  replace hb := hb.mono T
  obtain ⟨hN, hD, lN, lD, hX, hY⟩ := h.out
  obtain ⟨G, hG⟩ : ∃ G, Nat.gcd N D = G := ⟨_, rfl⟩
  have hGp : 0 < G := by rw [← hG]; exact Nat.gcd_pos_of_pos_left _ (Nat.pos_of_ne_zero hN)
  have hGl : G < pw 512 := by rw [← hG]; exact Nat.lt_of_le_of_lt (Nat.gcd_le_left _ (Nat.pos_of_ne_zero hN)) lN
  rw [hG] at hX hY
  have FG : Hid (gcdS N D = (G, 0)) := Lib.hid (by unfold gcdS; rw [if_neg (by omega), hG])
  have FX : Hid (divS N G = (X, N % G, 0)) := Lib.hid (by unfold divS; rw [if_neg (by omega), if_neg (by omega), hX])
  have FY : Hid (divS D G = (Y, D % G, 0)) := Lib.hid (by unfold divS; rw [if_neg (by omega), if_neg (by omega), hY])
  have HX := Lib.hid hX
  have HY := Lib.hid hY
  have LN := Lib.hid lN
  have LD := Lib.hid lD
  have LG := Lib.hid hGl
  have HN := Lib.hid hN
  have HG0 : Hid (G ≠ 0) := Lib.hid (by omega)
  clear h hD lN lD hX hY hG hGp hGl hN
  go_enter Tryz.func67, Tryz.ntmps67
  go_wp2_with fail
  refine (refTrimX ha).mono ?_
  rintro e w1 ⟨v1, rfl, n1, h1⟩
  replace hB := hB.mono h1
  replace hb := hb.mono h1
  replace T := Add.trans T h1
  clear h1 ha
  go_wp2_with fail
  refine (refTrimX hb).mono ?_
  rintro e w2 ⟨v2, rfl, n2, h2⟩
  replace hB := hB.mono h2
  replace n1 := n1.mono h2
  replace T := Add.trans T h2
  clear h2 hb
  have u1 := num_nv n1 (lt_up LN.out (by decide))
  have u2 := num_nv n2 (lt_up LD.out (by decide))
  obtain ⟨a1, m1, c1, rfl, -, hm1⟩ := num_shape n1 LN.out
  obtain ⟨a2, m2, c2, rfl, -, -⟩ := num_shape n2 LD.out
  have hm0 : m1 ≠ 0 := fun e => HN.out (hm1.1 e)
  have d0 : ((m1 : Int) == 0) = false := by simp; omega
  clear hm1 hm0 HN
  go_wp2_with fail
  refine (refGcdX (G, 0) u1 u2 FG).mono ?_
  rintro e w3 ⟨vg, rfl, ng, h3⟩
  replace hB := hB.mono h3
  replace n1 := n1.mono h3
  replace n2 := n2.mono h3
  replace u1 := u1.mono h3
  replace u2 := u2.mono h3
  replace T := Add.trans T h3
  clear h3 FG d0
  have ug := num_nv ng (lt_up LG.out (by decide))
  rcases num_ofOne ng HG0.out with ⟨b, off, cg, rfl, hcell, hlt⟩ | ⟨ao, n, cg, rfl, hn, -⟩
  · by_cases g1 : G = 1
    · subst g1
      have ex : X = N := by rw [← HX.out, Nat.div_one]
      have ey : Y = D := by rw [← HY.out, Nat.div_one]
      subst ex ey
      have hcell' : w3.cell? ⟨b, off, none⟩ = some (.int .u32 1) := hcell
      clear hcell HX HY FX FY u1 u2 ug ng LN LD LG HG0 hlt
      have hc0 := hB.c0
      have hc1 := hB.c1
      have hc2 := hB.c2
      have hc3 := hB.fr 0
      have hc4 := hB.fr 1
      have hc5 := hB.fr 2
      have hF := retF_put (w := w) (x := (neg, X, Y)) hB (⟨a1, m1, c1, a2, m2, c2, rfl, n1, n2⟩) T (Nat.le_refl _)
      clear hB T n1 n2
      unfold put3 at hF
      have HF := Lib.hid hF
      clear hF
      go_wp2_with fail
      exact bodyPost_ret (v := .agg #[.bool neg, .slice a1 m1 c1, .slice a2 m2 c2]) (by simp [results, Tryz.results67, go_sem, hc0, hc1, hc2]) rfl HF.out
    · have dg : decide ((1 : Int) < (G : Int)) = true := by have := HG0.out; simp; omega
      clear g1 hlt
      go_wp2_with fail
      refine (refDivX (X, N % G, 0) u1 ug FX).mono ?_
      rintro e w4 ⟨vx, vr, rfl, nx, -, h4⟩
      replace hB := hB.mono h4
      replace u2 := u2.mono h4
      replace ug := ug.mono h4
      replace T := Add.trans T h4
      clear h4 FX u1 hcell n1 n2 ng
      go_wp2_with fail
      refine (refDivX (Y, D % G, 0) u2 ug FY).mono ?_
      rintro e w5 ⟨vy, vs, rfl, ny, -, h5⟩
      replace hB := hB.mono h5
      replace nx := nx.mono h5
      replace T := Add.trans T h5
      clear h5 FY u2 ug
      obtain ⟨a5, m5, c5, rfl⟩ := num_slice nx
      obtain ⟨a6, m6, c6, rfl⟩ := num_slice ny
      have hc0 := hB.c0
      have hc1 := hB.c1
      have hc2 := hB.c2
      have hc3 := hB.fr 0
      have hc4 := hB.fr 1
      have hc5 := hB.fr 2
      have hF := retF_put (w := w) (x := (neg, X, Y)) hB (⟨a5, m5, c5, a6, m6, c6, rfl, nx, ny⟩) T (Nat.le_refl _)
      clear hB T nx ny
      unfold put3 at hF
      have HF := Lib.hid hF
      clear hF
      go_wp2_with fail
      exact bodyPost_ret (v := .agg #[.bool neg, .slice a5 m5 c5, .slice a6 m6 c6]) (by simp [results, Tryz.results67, go_sem, hc0, hc1, hc2]) rfl HF.out
  · have dn : decide ((1 : Int) < (n : Int)) = true := by simp; omega
    go_wp2_with fail
    refine (refDivX (X, N % G, 0) u1 ug FX).mono ?_
    rintro e w4 ⟨vx, vr, rfl, nx, -, h4⟩
    replace hB := hB.mono h4
    replace u2 := u2.mono h4
    replace ug := ug.mono h4
    replace T := Add.trans T h4
    clear h4 FX u1 n1 n2 ng
    go_wp2_with fail
    refine (refDivX (Y, D % G, 0) u2 ug FY).mono ?_
    rintro e w5 ⟨vy, vs, rfl, ny, -, h5⟩
    replace hB := hB.mono h5
    replace nx := nx.mono h5
    replace T := Add.trans T h5
    clear h5 FY u2 ug
    obtain ⟨a5, m5, c5, rfl⟩ := num_slice nx
    obtain ⟨a6, m6, c6, rfl⟩ := num_slice ny
    have hc0 := hB.c0
    have hc1 := hB.c1
    have hc2 := hB.c2
    have hc3 := hB.fr 0
    have hc4 := hB.fr 1
    have hc5 := hB.fr 2
    have hF := retF_put (w := w) (x := (neg, X, Y)) hB (⟨a5, m5, c5, a6, m6, c6, rfl, nx, ny⟩) T (Nat.le_refl _)
    clear hB T nx ny
    unfold put3 at hF
    have HF := Lib.hid hF
    clear hF
    go_wp2_with fail
    exact bodyPost_ret (v := .agg #[.bool neg, .slice a5 m5 c5, .slice a6 m6 c6]) (by simp [results, Tryz.results67, go_sem, hc0, hc1, hc2]) rfl HF.out
theorem refLowestN (x : Tri) {neg : Bool} {va vb : Value} {N D : Nat} {w : World} (ha : Nv w va N) (hb : Nv w vb D) (h : Hid (D ≠ 0 ∧ N < pw 512 ∧ D < pw 512 ∧ can (frac neg N D) = x)) :
    Calls Tryz.prog 67 #[.bool neg, va, vb] w (RetF w x) := by
  obtain ⟨h1, h2, h3, rfl⟩ := h.out
  by_cases h0 : N = 0
  · subst h0
    rw [can_zero]
    exact refLowest_zero neg ha hb
  · rw [can_frac h0 h1]
    exact refLowest_pos neg _ _ ha hb (Lib.hid ⟨h0, h1, h2, h3, rfl, rfl⟩)
end Go.Proofs.YtbeoeackahmpbaaGreatDoor

namespace Go.Proofs.YtbeoeackahmpbaaGreatDoor
open Go.RowKit NatM Go.Proofs.YtbeoeackahmpbaaGreatDoor.Api

def U64R (w : World) (N : Nat) (e : Ending) (w' : World) : Prop := e = .returned (.int .u64 (N : Nat)) ∧ w = w'
set_option maxRecDepth 100000 in
set_option maxHeartbeats 1000000 in
theorem sizeN (N : Nat) {v : Int} {w : World} (h : Hid (-9223372036854775808 ≤ v ∧ v ≤ 9223372036854775807 ∧ v.natAbs = N)) : Calls Tryz.prog 88 #[.int .i64 v] w (U64R w N) := by
  by_cases c : v < 0
  · have dv : decide (v < 0) = true := decide_eq_true c
    have M := Lib.hid (mag_neg v ⟨h.out.1, c⟩)
    have EN := Lib.hid h.out.2.2
    clear c h
    go_enter Tryz.func88, Tryz.ntmps88
    go_wp2_with fail
    go_ret
    exact ⟨by rw [← EN.out, ← M.out]; rfl, rfl⟩
  · have dv : decide (v < 0) = false := decide_eq_false c
    have M := Lib.hid (mag_pos v ⟨h.out.2.1, by omega⟩)
    have EN := Lib.hid h.out.2.2
    clear c h
    go_enter Tryz.func88, Tryz.ntmps88
    go_wp2_with fail
    go_ret
    exact ⟨by rw [← EN.out, ← M.out]; rfl, rfl⟩
theorem fitQ_small {neg : Bool} {N D : Nat} (hN : N < pw 128) (hD : D < pw 128) (h0 : D ≠ 0) : fitQ (frac neg N D) = (can (frac neg N D), 0) := by
  by_cases h : N = 0
  · subst h; rw [fitQ_zero, can_zero]
  · rw [fitQ_frac h h0 rfl rfl, can_frac h h0, if_neg]
    have h1 := Nat.div_le_self N (Nat.gcd N D)
    have h2 := Nat.div_le_self D (Nat.gcd N D)
    omega
set_option maxRecDepth 100000 in
set_option maxHeartbeats 1000000 in
theorem refMakeF (p : Tri × Nat) {n d : Int} {w : World} (h : Hid ((-9223372036854775808 ≤ n ∧ n ≤ 9223372036854775807) ∧ -9223372036854775808 ≤ d ∧ d ≤ 9223372036854775807)) (hp : Hid (makeF n d = p)) :
    Calls Tryz.prog 63 #[.int .i64 n, .int .i64 d] w (ResF w p) := by
  have hB := box_new w false none 0 0 none 0 0
  have T : Add w (w.alloc (.cells #[.bool false, .slice none 0 0, .slice none 0 0] 37)) := add_new _ _
  obtain ⟨N, hN⟩ : ∃ N, n.natAbs = N := ⟨_, rfl⟩
  obtain ⟨D, hD⟩ : ∃ D, d.natAbs = D := ⟨_, rfl⟩
  have FN : Hid (-9223372036854775808 ≤ n ∧ n ≤ 9223372036854775807 ∧ n.natAbs = N) := Lib.hid ⟨h.out.1.1, h.out.1.2, hN⟩
  have FD : Hid (-9223372036854775808 ≤ d ∧ d ≤ 9223372036854775807 ∧ d.natAbs = D) := Lib.hid ⟨h.out.2.1, h.out.2.2, hD⟩
  have hpe := hp.out
  unfold makeF at hpe
  rw [hN, hD] at hpe
  obtain ⟨sn, hsn⟩ : ∃ s, decide (n < 0) = s := ⟨_, rfl⟩
  obtain ⟨sd, hsd⟩ : ∃ s, decide (d < 0) = s := ⟨_, rfl⟩
  rw [hsn, hsd] at hpe
  clear h hp
  by_cases c : d = 0
  · rw [if_pos c] at hpe
    subst hpe
    have dc : (d == 0) = true := by rw [c]; rfl
    have hF : ResF w ((false, 0, 0), 3) (.returned (.tuple #[.agg #[.bool false, .slice none 0 0, .slice none 0 0], .int .i64 3])) (w.alloc (.cells #[.bool false, .slice none 0 0, .slice none 0 0] 37)) := ⟨_, rfl, fracT_zero _, T⟩
    have HF := Lib.hid hF
    clear hF T hB hN hD FN FD c hsn hsd
    go_enter Tryz.func63, Tryz.ntmps63
    go_wp2_with fail
    exact bodyPost_ret (v := .tuple #[.agg #[.bool false, .slice none 0 0, .slice none 0 0], .int .i64 3]) (by simp [results, Tryz.results63, go_sem]) rfl HF.out
  · have hD0 : D ≠ 0 := by omega
    have b1 := small_int FN.out
    have b2 := small_int FD.out
    rw [if_neg c, fitQ_small b1 b2 hD0] at hpe
    have dc : (d == 0) = false := by rw [beq_eq_false_iff_ne]; exact c
    have e1 : p.2 = 0 := by rw [← hpe]
    have C : Hid (∀ w' v1 v2, Num w' v1 N → Num w' v2 D → Calls Tryz.prog 67 #[.bool (!(sn == sd)), v1, v2] w' (RetF w' p.1)) := Lib.hid fun w' v1 v2 n1 n2 => refLowestN p.1 (num_nv n1 (lt_up b1 (by decide))) (num_nv n2 (lt_up b2 (by decide))) (Lib.hid ⟨hD0, lt_up b1 (by decide), lt_up b2 (by decide), by rw [← hpe]⟩)
    have M1 : Hid (N < 18446744073709551616) := Lib.hid (by have := FN.out; omega)
    have M2 : Hid (D < 18446744073709551616) := Lib.hid (by have := FD.out; omega)
    have E1 := Lib.hid e1
    clear hN hD c hpe hD0 b1 b2 e1
    go_enter Tryz.func63, Tryz.ntmps63
    go_wp2_with fail
    refine (sizeN N FN).mono ?_
    rintro e w1 ⟨rfl, rfl⟩
    go_wp2_with fail
    refine (refMakeX N M1).mono ?_
    rintro e w2 ⟨v1, rfl, n1, h2⟩
    replace hB := hB.mono h2
    replace T := Add.trans T h2
    clear h2 M1 FN
    go_wp2_with fail
    refine (sizeN D FD).mono ?_
    rintro e w1 ⟨rfl, rfl⟩
    go_wp2_with fail
    refine (refMakeX D M2).mono ?_
    rintro e w3 ⟨v2, rfl, n2, h3⟩
    replace hB := hB.mono h3
    replace n1 := n1.mono h3
    replace T := Add.trans T h3
    clear h3 M2 FD
    go_wp2_with fail
    refine (C.out _ _ _ n1 n2).mono ?_
    rintro e w4 ⟨vr, rfl, nr, h4⟩
    replace hB := hB.mono h4
    replace T := Add.trans T h4
    clear h4 C n1 n2
    obtain ⟨an2, n2, cn2, ad2, d2, cd2, rfl, m1, m2⟩ := nr
    have s0 := hB.c0
    have s1 := hB.c1
    have s2 := hB.c2
    have s3 := hB.fr 0
    have s4 := hB.fr 1
    have s5 := hB.fr 2
    have hF := resF_put (w := w) (p := p) hB ⟨an2, n2, cn2, ad2, d2, cd2, rfl, m1, m2⟩ T (Nat.le_refl _)
    clear hB T m1 m2
    unfold put3 at hF
    rw [E1.out] at hF
    have HF := Lib.hid hF
    clear hF E1
    go_wp2_with fail
    exact bodyPost_ret (v := .tuple #[.agg #[.bool p.1.1, .slice an2 n2 cn2, .slice ad2 d2 cd2], .int .i64 0]) (by simp [results, Tryz.results63, go_sem, s0, s1, s2]) rfl HF.out

/-- The length of a canonical row tells how great the number is. -/
theorem num_size {w : World} {v : Value} {N : Nat} (h : Num w v N) : ∃ ao n c, v = .slice ao n c ∧ (n = 0 ↔ N = 0) ∧ (n ≤ 128 ↔ N < pw 128) := by
  obtain ⟨zs, ⟨ao, n, c, rfl, hl, -, -, hx, -⟩, cz, hv⟩ := h
  unfold Canon at cz
  refine ⟨ao, n, c, rfl, ?_, ?_, ?_⟩
  · rw [← hv, val_eq_zero]; omega
  · intro h1
    have h2 := val_lt hx
    have h3 := pw_le (show zs.length ≤ 128 by omega)
    omega
  · intro h1
    have := tlen_le_of_val (xs := zs) 128 (by omega)
    omega

set_option maxRecDepth 100000 in
set_option maxHeartbeats 1000000 in
theorem refValidN (t : Bool) {v : Value} {x : Tri} {w : World} (hx : FracA w v x) (h : Hid (okF x = t)) : Calls Tryz.prog 65 #[v] w (BoolIs w t) := by
  obtain ⟨an, n, cn, ad, d, cd, rfl, uN, uD⟩ := hx
  obtain ⟨T, hX⟩ := start1 w x.1 an n cn ad d cd
  replace uN := uN.mono T
  replace uD := uD.mono T
  go_enter Tryz.func65, Tryz.ntmps65
  have hc0 := hX.c0
  have hc1 := hX.c1
  have hc2 := hX.c2
  go_wp2_with fail
  refine (refTrimX uD).mono ?_
  rintro e w1 ⟨v1, rfl, n1, h1⟩
  replace hX := hX.mono h1
  replace uN := uN.mono h1
  replace uD := uD.mono h1
  replace T := Add.trans T h1
  clear hc0 hc1 hc2 h1 
  obtain ⟨a1, m1, c1, rfl, hz, hs⟩ := num_size n1
  have HZ := Lib.hid hz
  have HS := Lib.hid hs
  clear n1 hz hs
  by_cases c0 : m1 = 0
  · have ht : t = false := by rw [← h.out]; exact okF_false (.inl (HZ.out.1 c0))
    subst ht c0
    clear h HZ HS hX uN uD
    go_wp2_with fail
    go_ret
    exact ⟨rfl, T⟩
  · have d0 : decide ((0 : Int) < (m1 : Int)) = true := by simp; omega
    have hc0 := hX.c0
    have hc1 := hX.c1
    have hc2 := hX.c2
    go_wp2_with fail
    refine (refTrimX uD).mono ?_
    rintro e w2 ⟨v2, rfl, n2, h2⟩
    replace hX := hX.mono h2
    replace uN := uN.mono h2
    replace T := Add.trans T h2
    clear hc0 hc1 hc2 h2 uD
    obtain ⟨a2, m2, c2, rfl, -, hs2⟩ := num_size n2
    have HS2 := Lib.hid hs2
    clear n2 hs2
    by_cases cy : m2 ≤ 128
    · have dy : decide ((m2 : Int) ≤ 128) = true := by simp; omega
      have hc0 := hX.c0
      have hc1 := hX.c1
      have hc2 := hX.c2
      go_wp2_with fail
      refine (refTrimX uN).mono ?_
      rintro e w3 ⟨v3, rfl, n3, h3⟩
      replace T := Add.trans T h3
      clear hc0 hc1 hc2 h3 uN hX
      obtain ⟨a3, m3, c3, rfl, -, hs3⟩ := num_size n3
      have HS3 := Lib.hid hs3
      clear n3 hs3
      by_cases cz : m3 ≤ 128
      · have ht : t = true := by rw [← h.out, okF_iff]; exact ⟨fun e => c0 (HZ.out.2 e), HS3.out.1 cz, HS2.out.1 cy⟩
        have dz : decide ((m3 : Int) ≤ 128) = true := by simp; omega
        subst ht
        clear h c0 cy cz HZ HS HS2 HS3
        go_wp2_with fail
        go_ret
        exact ⟨rfl, T⟩
      · have ht : t = false := by rw [← h.out]; exact okF_false (.inr (.inr (by have := HS3.out; omega)))
        have dz : decide ((m3 : Int) ≤ 128) = false := by simp; omega
        subst ht
        clear h c0 cy cz HZ HS HS2 HS3
        go_wp2_with fail
        go_ret
        exact ⟨rfl, T⟩
    · have ht : t = false := by rw [← h.out]; exact okF_false (.inr (.inl (by have := HS2.out; omega)))
      have dy : decide ((m2 : Int) ≤ 128) = false := by simp; omega
      have hc0 := hX.c0
      have hc1 := hX.c1
      have hc2 := hX.c2
      subst ht
      clear h c0 cy HZ HS HS2 hX uN
      go_wp2_with fail
      go_ret
      exact ⟨rfl, T⟩

set_option maxRecDepth 100000 in
set_option maxHeartbeats 1000000 in
theorem sameF (t : Bool) {v v' : Value} {x y : Tri} {w : World} (hx : FracT w v x) (hy : FracT w v' y) (h : Hid (decide (x = y) = t)) : Calls Tryz.prog 25 #[v, v'] w (BoolIs w t) := by
  obtain ⟨an, n, cn, ad, d, cd, rfl, uN, uD⟩ := hx
  obtain ⟨an', n', cn', ad', d', cd', rfl, uN', uD'⟩ := hy
  obtain ⟨T, hX, hY⟩ := start2 w x.1 an n cn ad d cd y.1 an' n' cn' ad' d' cd'
  replace uN := uN.mono T
  replace uD := uD.mono T
  replace uN' := uN'.mono T
  replace uD' := uD'.mono T
  obtain ⟨b, N, D⟩ := x
  obtain ⟨b', M, E⟩ := y
  have ht := h.out
  clear h
  have hc0 := hX.c0
  have hc1 := hX.c1
  have hc2 := hX.c2
  have hd0 := hY.c0
  have hd1 := hY.c1
  have hd2 := hY.c2
  go_enter Tryz.func25, Tryz.ntmps25
  by_cases c0 : b = b'
  · have d0 : (b == b') = true := by rw [c0]; exact beq_self_eq_true _
    have C0 := Lib.hid c0
    clear c0
    by_cases c1 : N = M
    · have FN := Lib.hid (decide_eq_true c1)
      have C1 := Lib.hid c1
      clear c1
      go_wp2_with fail
      refine (sameN true uN uN' FN).mono ?_
      rintro e w1 ⟨rfl, h1⟩
      replace hX := hX.mono h1
      replace hY := hY.mono h1
      replace uD := uD.mono h1
      replace uD' := uD'.mono h1
      replace T := Add.trans T h1
      clear h1 hc0 hc1 hc2 hd0 hd1 hd2 uN uN' FN
      have hc0 := hX.c0
      have hc1 := hX.c1
      have hc2 := hX.c2
      have hd0 := hY.c0
      have hd1 := hY.c1
      have hd2 := hY.c2
      by_cases c2 : D = E
      · have FD := Lib.hid (decide_eq_true c2)
        have e : t = true := by rw [← ht, C0.out, C1.out, c2]; simp
        subst e
        clear ht C0 C1 c2 hX hY
        go_wp2_with fail
        refine (sameN true uD uD' FD).mono ?_
        rintro e w2 ⟨rfl, h2⟩
        replace T := Add.trans T h2
        clear h2 uD uD' FD
        go_wp2_with fail
        go_ret
        exact ⟨rfl, T⟩
      · have FD := Lib.hid (decide_eq_false c2)
        have e : t = false := by rw [← ht]; simp [c2]
        subst e
        clear ht C0 C1 c2 hX hY
        go_wp2_with fail
        refine (sameN false uD uD' FD).mono ?_
        rintro e w2 ⟨rfl, h2⟩
        replace T := Add.trans T h2
        clear h2 uD uD' FD
        go_wp2_with fail
        go_ret
        exact ⟨rfl, T⟩
    · have FN := Lib.hid (decide_eq_false c1)
      have e : t = false := by rw [← ht]; simp [c1]
      subst e
      clear ht C0 c1
      go_wp2_with fail
      refine (sameN false uN uN' FN).mono ?_
      rintro e w1 ⟨rfl, h1⟩
      replace T := Add.trans T h1
      clear h1 hc0 hc1 hc2 hd0 hd1 hd2 uN uN' FN uD uD' hX hY
      go_wp2_with fail
      go_ret
      exact ⟨rfl, T⟩
  · have d0 : (b == b') = false := by rw [beq_eq_false_iff_ne]; exact c0
    have e : t = false := by rw [← ht]; simp [c0]
    subst e
    clear ht c0 hX hY uN uN' uD uD'
    go_wp2_with fail
    go_ret
    exact ⟨rfl, T⟩
end Go.Proofs.YtbeoeackahmpbaaGreatDoor
