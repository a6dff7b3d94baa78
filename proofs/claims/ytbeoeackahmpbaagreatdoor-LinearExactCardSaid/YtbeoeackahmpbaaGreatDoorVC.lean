import Derived.Test.YtbeoeackahmpbaaGreatDoorJV3
namespace Go.Proofs.YtbeoeackahmpbaaGreatDoor
open Go.RowKit NatM Go.Proofs.YtbeoeackahmpbaaGreatDoor.Api
def subT (t y : Nat → Tri) (last : Tri) (j i : Nat) : Tri := (quoF (subF (mulF (y 0) (t i)).1 (mulF (t j) (y (i - j))).1).1 last).1
def SubP (w : World) (g M j : Nat) (t y : Nat → Tri) (last : Tri) (e : Ending) (w' : World) : Prop :=
 e = .returned (.tuple #[]) ∧ FBlk w' g M (fun i => if i < j then t i else subT t y last j i) ∧ Chg (fun b => b = g) w w'
set_option maxRecDepth 100000 in
set_option maxHeartbeats 4000000 in
theorem subtractN {w : World} {g M j len gt ot cr ct : Nat} {t y : Nat → Tri} {last : Tri} {vl : Value} (hr : FBlk w g M t) (hj : j + len = M) (hlen : 0 < len) (hlen2 : len ≤ 1000) (hy : RowAt true w gt ot len y) (hne : gt ≠ g) (hl : FracT w vl last)
 (st : ∀ i, i < M → Sm (t i)) (sy : ∀ i, i < len → Sm (y i)) (hsml : Sm last) (hT : Tab w) :
 Calls Tryz.prog 104 #[.slice (some ⟨g, j * 3, none⟩) len cr, .slice (some ⟨gt, ot, none⟩) len ct, vl] w (SubP w g M j t y last) := by
 have hl0 := hl
 obtain ⟨al, nl, cl, el, dl, fl, rfl, -, -⟩ := hl0
 obtain ⟨sl, hsl⟩ : ∃ s, s = last.1 := ⟨_, rfl⟩
 rw [← hsl] at hl ⊢
 obtain ⟨T1, hL⟩ := laid_var w sl al nl cl el dl fl
 have hr1 := hr.add T1
 obtain ⟨sg, ag, ng, cg, eg, dg, fg, r0, r1, r2, hg⟩ := hr1.get (i := j) (by omega)
 obtain ⟨T2, hF⟩ := laid_var (w.alloc (.cells #[.bool sl, .slice al nl cl, .slice el dl fl] 37)) sg ag ng cg eg dg fg
 have T12 := Add.trans T1 T2
 have hL2 := hL.mono T2
 obtain ⟨gl, hgl⟩ : ∃ gl, gl = w.heap.size := ⟨_, rfl⟩
 obtain ⟨gf, hgf⟩ : ∃ gf, gf = gl + 1 := ⟨_, rfl⟩
 rw [show (w.alloc (.cells #[.bool sl, .slice al nl cl, .slice el dl fl] 37)).heap.size = w.heap.size + 1 by simp] at hF
 rw [← hgl] at hL2
 rw [← hgl, ← hgf] at hF
 have hgn : gl ≠ g ∧ gf ≠ g := by
  have q1 := hr.lt
  exact ⟨by omega, by omega⟩
 have HSUB : Hid (∀ wr, Chg (fun b => b = g) (((w.alloc (.cells #[.bool sl, .slice al nl cl, .slice el dl fl] 37)).alloc (.cells #[.bool sg, .slice ag ng cg, .slice eg dg fg] 37))) wr → Box wr gl sl al nl cl el dl fl ∧ Box wr gf sg ag ng cg eg dg fg ∧ RowAt true wr gt ot len y ∧ FracT wr (.agg #[.bool sl, .slice al nl cl, .slice el dl fl]) last ∧ FracT wr (.agg #[.bool sg, .slice ag ng cg, .slice eg dg fg]) (t j) ∧ Tab wr ∧ Chg (fun b => b = g) w wr) := Lib.hid fun wr hc =>
  ⟨hL2.chg hc hgn.1, hF.chg hc hgn.2, (hy.add T12).chg hc hne, (hl.mono T12).chg hc, FracT.chg (FracT.mono hg T2) hc, (hT.mono T12).chg hc, (Chg.of_add _ T12).trans hc⟩
 have HST := Lib.hid st
 have HSY := Lib.hid sy
 have HSL := Lib.hid hsml
 have HGN := Lib.hid (And.intro hgn (And.intro hne hj))
 have hrr := (hr.add T12).congr (t' := fun i => if j ≤ i ∧ i < j + 0 then subT t y last j i else t i) fun i _ => by rw [if_neg (by omega)]
 have HGL := Lib.hid (And.intro hgl hgf)
 have n63 : len ≤ 9223372036854775807 := by omega
 clear hr hr1 hl T1 T2 T12 hL hL2 hF hgl hgf hy hT st sy hsml hgn hsl hg hne hj
 go_enter Tryz.func104, Tryz.ntmps104
 go_wp2_with fail
 clear r0 r1 r2
 rw [← HGL.out.1, ← HGL.out.2]
 go_loopw [14] (fun i wr => ∃ k : Nat, k ≤ len ∧ i = .int .i64 (k : Nat) ∧ FBlk wr g M (fun i => if j ≤ i ∧ i < j + k then subT t y last j i else t i) ∧ Chg (fun b => b = g) (((w.alloc (.cells #[.bool sl, .slice al nl cl, .slice el dl fl] 37)).alloc (.cells #[.bool sg, .slice ag ng cg, .slice eg dg fg] 37))) wr) (fun i _ => len - (intOf i).toNat)
 case atStart => exact ⟨0, Nat.zero_le _, rfl, hrr, Chg.refl _ _⟩
 case round =>
  clear hrr
  obtain ⟨k, hk, rfl, hR, hC⟩ := hrel
  by_cases h0 : k = len
  · have HF := Lib.hid (And.intro (hR.congr (t' := fun i => if i < j then t i else subT t y last j i) fun i hi => by
     have := HGN.out.2.2
     by_cases e : i < j
     · rw [if_pos e, if_neg (by omega)]
     · rw [if_neg e, if_pos (by omega)]) (HSUB.out wr hC).2.2.2.2.2.2)
    clear hR hC
    subst h0
    go_wp2_with fail
    go_end0
    exact ⟨rfl, HF.out.1, HF.out.2⟩
  · have hlt : k < len := by omega
    obtain ⟨bL, bF, bY, fL, fF, hT, hW⟩ := HSUB.out wr hC
    obtain ⟨⟨hgl, hgf⟩, hne, hj⟩ := HGN.out
    obtain ⟨s0, a0, n0, c0, e0, d0, f0, t0, t1, t2, hy0⟩ := bY 0 hlen
    rw [show ot + 0 * 3 = ot by omega] at t0 t1 t2
    obtain ⟨sk, ak, nk, ck, ek, dk, fk, tk0, tk1, tk2, hyk⟩ := bY k hlt
    obtain ⟨sx, ax, nx, cx, ex, dx, fx, x0, x1, x2, hxx⟩ := hR.get (i := j + k) (by omega)
    rw [if_neg (by omega)] at hxx
    obtain ⟨T3, hB⟩ := laid_var wr sx ax nx cx ex dx fx
    have hbx := hR.lt
    obtain ⟨gx, hgx⟩ : ∃ gx, gx = wr.heap.size := ⟨_, rfl⟩
    have HGX := Lib.hid hgx
    obtain ⟨W3, hW3⟩ : ∃ W3, W3 = wr.alloc (.cells #[.bool sx, .slice ax nx cx, .slice ex dx fx] 37) := ⟨_, rfl⟩
    have HW3 : Hid ((wr.alloc (.cells #[.bool sx, .slice ax nx cx, .slice ex dx fx] 37)) = W3) := Lib.hid hW3.symm
    rw [← hW3] at T3 hB
    rw [← hgx] at hB
    have eo : j * 3 + k * 3 = (j + k) * 3 := by omega
    have A0 := (Sm.arg hy0 (HSY.out 0 hlen)).mono T3
    have Ak := (Sm.arg hyk (HSY.out k hlt)).mono T3
    have Ax := (Sm.arg hxx (HST.out (j + k) (by omega))).mono T3
    have Af := (Sm.arg fF (HST.out j (by omega))).mono T3
    have Al := (Sm.arg fL HSL.out).mono T3
    obtain ⟨s1, N1, D1, hr1⟩ : ∃ s N D, (mulF (y 0) (t (j + k))).1 = (s, N, D) := ⟨_, _, _, rfl⟩
    obtain ⟨s2, N2, D2, hr2⟩ : ∃ s N D, (mulF (t j) (y k)).1 = (s, N, D) := ⟨_, _, _, rfl⟩
    obtain ⟨s3, N3, D3, hr3⟩ : ∃ s N D, (subF (s1, N1, D1) (s2, N2, D2)).1 = (s, N, D) := ⟨_, _, _, rfl⟩
    obtain ⟨s4, N4, D4, hr4⟩ : ∃ s N D, (quoF (s3, N3, D3) last).1 = (s, N, D) := ⟨_, _, _, rfl⟩
    have z1 : Sm (s1, N1, D1) := by rw [← hr1]; exact sm_mul _ _
    have z2 : Sm (s2, N2, D2) := by rw [← hr2]; exact sm_mul _ _
    have z3 : Sm (s3, N3, D3) := by rw [← hr3]; exact sm_sub _ _
    have hnew : (s4, N4, D4) = subT t y last j (j + k) := by unfold subT; rw [Nat.add_sub_cancel_left, hr1, hr2, hr3, hr4]
    have hTm := fun w' (g : Add W3 w') => (hT.mono T3).mono g
    have HC1 : Hid (∀ w', Add W3 w' → Calls Tryz.prog 81 #[.agg #[.bool s0, .slice a0 n0 c0, .slice e0 d0 f0], .agg #[.bool sx, .slice ax nx cx, .slice ex dx fx]] w' (RetF w' (s1, N1, D1))) := Lib.hid fun w' ha => by
     have := productN _ (A0.mono ha) (Ax.mono ha) (hTm _ ha) (Lib.hid rfl)
     rwa [hr1] at this
    have HC2 : Hid (∀ w', Add W3 w' → Calls Tryz.prog 81 #[.agg #[.bool sg, .slice ag ng cg, .slice eg dg fg], .agg #[.bool sk, .slice ak nk ck, .slice ek dk fk]] w' (RetF w' (s2, N2, D2))) := Lib.hid fun w' ha => by
     have := productN _ (Af.mono ha) (Ak.mono ha) (hTm _ ha) (Lib.hid rfl)
     rwa [hr2] at this
    have HC3 : Hid (∀ w' v1 v2, Add W3 w' → FracT w' v1 (s1, N1, D1) → FracT w' v2 (s2, N2, D2) → Calls Tryz.prog 114 #[v1, v2] w' (RetF w' (s3, N3, D3))) := Lib.hid fun w' v1 v2 ha g1 g2 => by
     have := differenceN _ (Sm.arg g1 z1) (Sm.arg g2 z2) (hTm _ ha) (Lib.hid rfl)
     rwa [hr3] at this
    have HC4 : Hid (∀ w' v3, Add W3 w' → FracT w' v3 (s3, N3, D3) → Calls Tryz.prog 57 #[v3, .agg #[.bool sl, .slice al nl cl, .slice el dl fl]] w' (RetF w' (s4, N4, D4))) := Lib.hid fun w' v3 ha g3 => by
     have := quotientN _ (Sm.arg g3 z3) (Al.mono ha) (hTm _ ha) (Lib.hid rfl)
     rwa [hr4] at this
    have hR3 := hR.add T3
    have bL3 := bL.mono T3
    have bF3 := bF.mono T3
    have HS : Hid (∀ w', Add W3 w' → w'.cell? ⟨gt, ot, none⟩ = some (.bool s0) ∧ w'.cell? ⟨gt, ot + 1, none⟩ = some (.slice a0 n0 c0) ∧ w'.cell? ⟨gt, ot + 2, none⟩ = some (.slice e0 d0 f0) ∧ w'.cell? ⟨gx, 0, none⟩ = some (.bool sx) ∧ w'.cell? ⟨gx, 1, none⟩ = some (.slice ax nx cx) ∧ w'.cell? ⟨gx, 2, none⟩ = some (.slice ex dx fx) ∧ w'.cell? ⟨gf, 0, none⟩ = some (.bool sg) ∧ w'.cell? ⟨gf, 1, none⟩ = some (.slice ag ng cg) ∧ w'.cell? ⟨gf, 2, none⟩ = some (.slice eg dg fg) ∧ w'.cell? ⟨gt, ot + k * 3, none⟩ = some (.bool sk) ∧ w'.cell? ⟨gt, ot + k * 3 + 1, none⟩ = some (.slice ak nk ck) ∧ w'.cell? ⟨gt, ot + k * 3 + 2, none⟩ = some (.slice ek dk fk) ∧ w'.cell? ⟨gl, 0, none⟩ = some (.bool sl) ∧ w'.cell? ⟨gl, 1, none⟩ = some (.slice al nl cl) ∧ w'.cell? ⟨gl, 2, none⟩ = some (.slice el dl fl)) := Lib.hid fun w' g => ⟨cell_addL t0 (Add.trans T3 g), cell_addL t1 (Add.trans T3 g), cell_addL t2 (Add.trans T3 g), (hB.mono g).c0, (hB.mono g).c1, (hB.mono g).c2, (bF3.mono g).c0, (bF3.mono g).c1, (bF3.mono g).c2, cell_addL tk0 (Add.trans T3 g), cell_addL tk1 (Add.trans T3 g), cell_addL tk2 (Add.trans T3 g), (bL3.mono g).c0, (bL3.mono g).c1, (bL3.mono g).c2⟩
    have hgxn : gx ≠ g := by omega
    have HS2 : Hid (∀ w' u0 u1 u2, Add W3 w' → (putF w' g (j + k) u0 u1 u2).cell? ⟨gt, ot, none⟩ = some (.bool s0) ∧ (putF w' g (j + k) u0 u1 u2).cell? ⟨gt, ot + 1, none⟩ = some (.slice a0 n0 c0) ∧ (putF w' g (j + k) u0 u1 u2).cell? ⟨gt, ot + 2, none⟩ = some (.slice e0 d0 f0) ∧ (putF w' g (j + k) u0 u1 u2).cell? ⟨gx, 0, none⟩ = some (.bool sx) ∧ (putF w' g (j + k) u0 u1 u2).cell? ⟨gx, 1, none⟩ = some (.slice ax nx cx) ∧ (putF w' g (j + k) u0 u1 u2).cell? ⟨gx, 2, none⟩ = some (.slice ex dx fx) ∧ (putF w' g (j + k) u0 u1 u2).cell? ⟨gf, 0, none⟩ = some (.bool sg) ∧ (putF w' g (j + k) u0 u1 u2).cell? ⟨gf, 1, none⟩ = some (.slice ag ng cg) ∧ (putF w' g (j + k) u0 u1 u2).cell? ⟨gf, 2, none⟩ = some (.slice eg dg fg) ∧ (putF w' g (j + k) u0 u1 u2).cell? ⟨gt, ot + k * 3, none⟩ = some (.bool sk) ∧ (putF w' g (j + k) u0 u1 u2).cell? ⟨gt, ot + k * 3 + 1, none⟩ = some (.slice ak nk ck) ∧ (putF w' g (j + k) u0 u1 u2).cell? ⟨gt, ot + k * 3 + 2, none⟩ = some (.slice ek dk fk) ∧ (putF w' g (j + k) u0 u1 u2).cell? ⟨gl, 0, none⟩ = some (.bool sl) ∧ (putF w' g (j + k) u0 u1 u2).cell? ⟨gl, 1, none⟩ = some (.slice al nl cl) ∧ (putF w' g (j + k) u0 u1 u2).cell? ⟨gl, 2, none⟩ = some (.slice el dl fl)) := Lib.hid fun w' u0 u1 u2 ha => by
     simp only [cell_putF _ _ _ hne, cell_putF _ _ _ hgl, cell_putF _ _ _ hgf, cell_putF _ _ _ hgxn]
     exact HS.out w' ha
    have HK : Hid (∀ w', Add W3 w' → ∃ s an m cn ad d cd, w'.cell? ⟨g, j * 3 + k * 3, none⟩ = some (.bool s) ∧ w'.cell? ⟨g, j * 3 + k * 3 + 1, none⟩ = some (.slice an m cn) ∧ w'.cell? ⟨g, j * 3 + k * 3 + 2, none⟩ = some (.slice ad d cd) ∧ w'.frozen? ⟨g, j * 3 + k * 3, none⟩ = false ∧ w'.frozen? ⟨g, j * 3 + k * 3 + 1, none⟩ = false ∧ w'.frozen? ⟨g, j * 3 + k * 3 + 2, none⟩ = false ∧ g < w'.heap.size) := Lib.hid fun w' ha => by
     have hr := hR3.add ha
     obtain ⟨s, an, m, cn, ad, d, cd, k0, k1, k2, -⟩ := hr.get (i := j + k) (by omega)
     rw [eo]
     exact ⟨s, an, m, cn, ad, d, cd, k0, k1, k2, hr.free _, hr.free _, hr.free _, hr.lt⟩
    have HN : Hid (∀ w' a4 n4 k4 e4 d4 l4, Add W3 w' → FracT w' (.agg #[.bool s4, .slice a4 n4 k4, .slice e4 d4 l4]) (s4, N4, D4) → FBlk (putF w' g (j + k) (.bool s4) (.slice a4 n4 k4) (.slice e4 d4 l4)) g M (fun i => if j ≤ i ∧ i < j + (k + 1) then subT t y last j i else t i) ∧ Chg (fun b => b = g) (((w.alloc (.cells #[.bool sl, .slice al nl cl, .slice el dl fl] 37)).alloc (.cells #[.bool sg, .slice ag ng cg, .slice eg dg fg] 37))) (putF w' g (j + k) (.bool s4) (.slice a4 n4 k4) (.slice e4 d4 l4))) := Lib.hid fun w' a4 n4 k4 e4 d4 l4 ha x1 => by
     have q1 := hR3.add ha
     refine ⟨(q1.put (i := j + k) (by omega) x1).congr fun i _ => ?_, (hC.trans ((Chg.of_add _ T3).trans (Chg.of_add _ ha))).trans (q1.chgF (S := fun b => b = g) rfl (j + k) s4 a4 n4 k4 e4 d4 l4)⟩
     by_cases e : i = j + k
     · rw [if_pos e, if_pos (by omega), e, hnew]
     · rw [if_neg e]
       by_cases e2 : j ≤ i ∧ i < j + k
       · rw [if_pos e2, if_pos (by omega)]
       · rw [if_neg e2, if_neg (by omega)]
    unfold putF at HN HS2
    rw [← eo] at HN HS2 x0 x1 x2
    obtain ⟨p0, p1, p2, p3, p4, p5, p6, p7, p8, p9, p10, p11, p12, p13, p14⟩ := HS.out W3 (Below.refl _ _)
    have EO := Lib.hid eo
    clear hy0 hyk hxx T3 hB hW3 hR hC hR3 bL bF bL3 bF3 bY fL fF hT hW hgl hgf hne hj A0 Ak Ax Af Al z1 z2 z3 hnew hTm hgxn hgx h0 hr1 hr2 hr3 hr4 t0 t1 t2 tk0 tk1 tk2 eo
    go_upto_region 5 with fail
    rw [HW3.out, ← HGX.out]
    clear HW3 HGX x0 x1 x2
    go_region_held3 (fun w' => w'.cell? ⟨gt, ot, none⟩ = some (.bool s0) ∧ w'.cell? ⟨gt, ot + 1, none⟩ = some (.slice a0 n0 c0) ∧ w'.cell? ⟨gt, ot + 2, none⟩ = some (.slice e0 d0 f0) ∧ w'.cell? ⟨gx, 0, none⟩ = some (.bool sx) ∧ w'.cell? ⟨gx, 1, none⟩ = some (.slice ax nx cx) ∧ w'.cell? ⟨gx, 2, none⟩ = some (.slice ex dx fx) ∧ w'.cell? ⟨gf, 0, none⟩ = some (.bool sg) ∧ w'.cell? ⟨gf, 1, none⟩ = some (.slice ag ng cg) ∧ w'.cell? ⟨gf, 2, none⟩ = some (.slice eg dg fg) ∧ w'.cell? ⟨gt, ot + k * 3, none⟩ = some (.bool sk) ∧ w'.cell? ⟨gt, ot + k * 3 + 1, none⟩ = some (.slice ak nk ck) ∧ w'.cell? ⟨gt, ot + k * 3 + 2, none⟩ = some (.slice ek dk fk) ∧ w'.cell? ⟨gl, 0, none⟩ = some (.bool sl) ∧ w'.cell? ⟨gl, 1, none⟩ = some (.slice al nl cl) ∧ w'.cell? ⟨gl, 2, none⟩ = some (.slice el dl fl))
     (first | exact HS.out _ (Below.drew (Below.refl _ _)) | exact HS.out _ (Below.refl _ _) | exact HS2.out _ _ _ _ aa4 | exact HS.out _ aa4 | exact HS.out _ aa3 | exact HS.out _ aa2 | exact HS.out _ aa1)
     (first | (go_at_call 81; ((with_reducible refine (HC1.out _ (Below.drew (Below.refl _ _) : Add W3 (World.drew W3))).mono ?_); rintro e z1 ⟨v1, rfl, hv1, h1⟩; have hw1 := hv1; obtain ⟨a1, n1, c1, e1, d1, f1, rfl, -, -⟩ := hw1; have aa1 := Add.trans (Below.drew (Below.refl _ _) : Add W3 (World.drew W3)) h1)) | (go_at_call 81; ((with_reducible refine (HC2.out _ aa1).mono ?_); rintro e z2 ⟨v2, rfl, hv2, h2⟩; have hw2 := hv2; obtain ⟨a2, n2, c2, e2, d2, f2, rfl, -, -⟩ := hw2; have aa2 := Add.trans aa1 h2)) | (go_at_call 114; ((with_reducible refine (HC3.out _ _ _ aa2 (hv1.mono h2) hv2).mono ?_); rintro e z3 ⟨v3, rfl, hv3, h3⟩; have hw3 := hv3; obtain ⟨a3, n3, c3, e3, d3, f3, rfl, -, -⟩ := hw3; have aa3 := Add.trans aa2 h3)) | (go_at_call 57; ((with_reducible refine (HC4.out _ _ aa3 hv3).mono ?_); rintro e z4 ⟨v4, rfl, hv4, h4⟩; have hw4 := hv4; obtain ⟨a4, n4, c4, e4, d4, f4, rfl, -, -⟩ := hw4; have aa4 := Add.trans aa3 h4; have hN := Lib.hid (HN.out _ _ _ _ _ _ _ aa4 hv4); obtain ⟨_, _, _, _, _, _, _, q0, q1, q2, q3, q4, q5, q6⟩ := HK.out _ aa4)))
    all_goals
     go_wp2_with fail
     go_roundw
     case rel => exact ⟨k + 1, by omega, by go_num, hN.out.1, hN.out.2⟩
     case measure => simp [intOf]; omega
end Go.Proofs.YtbeoeackahmpbaaGreatDoor
