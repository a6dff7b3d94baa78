/- Package interval: Meet.
(With the texts that are joined here: ) -/
import Derived.Test.YtmadogkngbbcbaaGreatDoorZJ
import Derived.Deep.Cut

namespace Go.Proofs.YtmadogkngbbcbaaGreatDoor
open Go.RowKit NatM Go.Proofs.YtmadogkngbbcbaaGreatDoor.Api

set_option maxRecDepth 100000 in
set_option maxHeartbeats 2000000 in
theorem meetIN_refuses {v v' : Value} {a b : Iv} {w : World} (ha : IvA w v a) (hb : IvA w v' b) (h : Hid (okI a = false ∨ okI b = false)) : Calls Tryz.prog 19 #[v, v'] w (ResB w (zI, false)) := by
  have ha0 := ha
  have hb0 := hb
  obtain ⟨an, n, cn, ad, d, cd, an', n', cn', ad', d', cd', rfl, u1, u2, u3, u4⟩ := ha
  obtain ⟨an2, n2, cn2, ad2, d2, cd2, an3, n3, cn3, ad3, d3, cd3, rfl, q1, q2, q3, q4⟩ := hb
  have al : FracA w (.agg #[.bool a.1.1, .slice an n cn, .slice ad d cd]) a.1 := ⟨_, _, _, _, _, _, rfl, u1, u2⟩
  have ah : FracA w (.agg #[.bool a.2.1, .slice an' n' cn', .slice ad' d' cd']) a.2 := ⟨_, _, _, _, _, _, rfl, u3, u4⟩
  have bl : FracA w (.agg #[.bool b.1.1, .slice an2 n2 cn2, .slice ad2 d2 cd2]) b.1 := ⟨_, _, _, _, _, _, rfl, q1, q2⟩
  have bh : FracA w (.agg #[.bool b.2.1, .slice an3 n3 cn3, .slice ad3 d3 cd3]) b.2 := ⟨_, _, _, _, _, _, rfl, q3, q4⟩
  obtain ⟨T, hA, hB, hR⟩ := startII w a an n cn ad d cd an' n' cn' ad' d' cd' b an2 n2 cn2 ad2 d2 cd2 an3 n3 cn3 ad3 d3 cd3
  clear u1 u2 u3 u4 q1 q2 q3 q4
  replace ha0 := ha0.mono T
  replace hb0 := hb0.mono T
  replace al := al.mono T
  replace ah := ah.mono T
  replace bl := bl.mono T
  replace bh := bh.mono T
  clear al ah bl bh
  have ca0 := hA.c0
  have ca1 := hA.c1
  have ca2 := hA.c2
  have ca3 := hA.c3
  have ca4 := hA.c4
  have ca5 := hA.c5
  go_enter Tryz.func19, Tryz.ntmps19
  by_cases c : okI a = false
  · have FA := Lib.hid c
    clear c h
    go_wp2_with fail
    refine (validIN false ha0 FA).mono ?_
    rintro e w1 ⟨rfl, h1⟩
    replace hR := hR.mono h1
    replace T := Add.trans T h1
    clear h1 ha0 hb0 FA hA hB ca0 ca1 ca2 ca3 ca4 ca5
    have hP := Box6.put hR false none 0 0 none 0 0 false none 0 0 none 0 0
    have hF := resB_put (w := w) (p := (zI, false)) hR (ivT_zero _) T (show w.heap.size ≤ w.heap.size + 2 by omega)
    obtain ⟨W7, hW7⟩ : ∃ W7, W7 = put6 (w1) (w.heap.size + 2) (.bool false) (.slice none 0 0) (.slice none 0 0) (.bool false) (.slice none 0 0) (.slice none 0 0) := ⟨_, rfl⟩
    rw [← hW7] at hP hF
    unfold put6 at hW7
    have HF := Lib.hid hF
    have HW := Lib.hid hW7
    have hbz := iv_zero
    have hr0 := hR.c0
    have hr1 := hR.c1
    have hr2 := hR.c2
    have hr3 := hR.c3
    have hr4 := hR.c4
    have hr5 := hR.c5
    have hr6 := hR.fr 0
    have hr7 := hR.fr 1
    have hr8 := hR.fr 2
    have hr9 := hR.fr 3
    have hr10 := hR.fr 4
    have hr11 := hR.fr 5
    clear hF hW7 hR T 
    go_wp2_with fail
    rw [← HW.out]
    exact bodyPost_ret (v := .tuple #[.agg #[.bool false, .slice none 0 0, .slice none 0 0, .bool false, .slice none 0 0, .slice none 0 0], .bool false]) (by simp [results, Tryz.results19, go_sem, hP.c0, hP.c1, hP.c2, hP.c3, hP.c4, hP.c5]) rfl HF.out
  · have c2 : okI b = false := h.out.resolve_left c
    have c1 : okI a = true := by simpa using c
    have FA := Lib.hid c1
    have FB := Lib.hid c2
    clear c c1 c2 h
    go_wp2_with fail
    refine (validIN true ha0 FA).mono ?_
    rintro e w1 ⟨rfl, h1⟩
    replace hR := hR.mono h1
    replace hB := hB.mono h1
    replace hb0 := hb0.mono h1
    replace T := Add.trans T h1
    clear h1 ha0 FA hA ca0 ca1 ca2 ca3 ca4 ca5
    have cb0 := hB.c0
    have cb1 := hB.c1
    have cb2 := hB.c2
    have cb3 := hB.c3
    have cb4 := hB.c4
    have cb5 := hB.c5
    go_wp2_with fail
    refine (validIN false hb0 FB).mono ?_
    rintro e w2 ⟨rfl, h2⟩
    replace hR := hR.mono h2
    replace T := Add.trans T h2
    clear h2 hb0 FB hB cb0 cb1 cb2 cb3 cb4 cb5
    have hP := Box6.put hR false none 0 0 none 0 0 false none 0 0 none 0 0
    have hF := resB_put (w := w) (p := (zI, false)) hR (ivT_zero _) T (show w.heap.size ≤ w.heap.size + 2 by omega)
    obtain ⟨W7, hW7⟩ : ∃ W7, W7 = put6 (w2) (w.heap.size + 2) (.bool false) (.slice none 0 0) (.slice none 0 0) (.bool false) (.slice none 0 0) (.slice none 0 0) := ⟨_, rfl⟩
    rw [← hW7] at hP hF
    unfold put6 at hW7
    have HF := Lib.hid hF
    have HW := Lib.hid hW7
    have hbz := iv_zero
    have hr0 := hR.c0
    have hr1 := hR.c1
    have hr2 := hR.c2
    have hr3 := hR.c3
    have hr4 := hR.c4
    have hr5 := hR.c5
    have hr6 := hR.fr 0
    have hr7 := hR.fr 1
    have hr8 := hR.fr 2
    have hr9 := hR.fr 3
    have hr10 := hR.fr 4
    have hr11 := hR.fr 5
    clear hF hW7 hR T 
    go_wp2_with fail
    rw [← HW.out]
    exact bodyPost_ret (v := .tuple #[.agg #[.bool false, .slice none 0 0, .slice none 0 0, .bool false, .slice none 0 0, .slice none 0 0], .bool false]) (by simp [results, Tryz.results19, go_sem, hP.c0, hP.c1, hP.c2, hP.c3, hP.c4, hP.c5]) rfl HF.out
/-- Laid2 variables that were laid and stored into. -/
def Laid2 (W : World) (g h : Nat) (s1 : Bool) (a1 : Option Addr) (n1 k1 : Nat) (e1 : Option Addr) (d1 l1 : Nat) (s2 : Bool) (a2 : Option Addr) (m2 k2 : Nat) (e2 : Option Addr) (d4 l2 : Nat) (wx : World) : Prop := Box wx g s1 a1 n1 k1 e1 d1 l1 ∧ Box wx h s2 a2 m2 k2 e2 d4 l2 ∧ Add W wx
section
variable {W z : World} {s1 : Bool} {a1 : Option Addr} {n1 k1 : Nat} {e1 : Option Addr} {d1 l1 : Nat} {s2 : Bool} {a2 : Option Addr} {m2 k2 : Nat} {e2 : Option Addr} {d4 l2 : Nat}
theorem two_a (t : Add W z) : Laid2 W z.heap.size (z.heap.size + 1) s1 a1 n1 k1 e1 d1 l1 s2 a2 m2 k2 e2 d4 l2 ((z.alloc (.cells #[.bool s1, .slice a1 n1 k1, .slice e1 d1 l1] 25)).alloc (.cells #[.bool s2, .slice a2 m2 k2, .slice e2 d4 l2] 25)) :=
  ⟨(box_new ..).mono (add_new _ _), Box.cells (by simp), Add.trans (Add.trans t (add_new _ _)) (add_new _ _)⟩
theorem two_b (t : Add W z) : Laid2 W (z.heap.size + 1) z.heap.size s1 a1 n1 k1 e1 d1 l1 s2 a2 m2 k2 e2 d4 l2 ((z.alloc (.cells #[.bool s2, .slice a2 m2 k2, .slice e2 d4 l2] 25)).alloc (.cells #[.bool s1, .slice a1 n1 k1, .slice e1 d1 l1] 25)) :=
  ⟨Box.cells (by simp), (box_new ..).mono (add_new _ _), Add.trans (Add.trans t (add_new _ _)) (add_new _ _)⟩
theorem two_e {g h : Nat} (t : Add W z) (B1 : Box z g false none 0 0 none 0 0) (B2 : Box z h false none 0 0 none 0 0) (hg : W.heap.size ≤ g) (hh : W.heap.size ≤ h) (hne : g ≠ h) : Laid2 W g h s1 a1 n1 k1 e1 d1 l1 s2 a2 m2 k2 e2 d4 l2 (put3 (put3 z g (.bool s1) (.slice a1 n1 k1) (.slice e1 d1 l1)) h (.bool s2) (.slice a2 m2 k2) (.slice e2 d4 l2)) :=
  ⟨Box.other2 (B1.put ..) hne _ _ _, (Box.other2 B2 hne.symm _ _ _).put .., put3_below _ _ _ (put3_below _ _ _ t hg) hh⟩
theorem two_c {g : Nat} (t : Add W z) (B1 : Box z g false none 0 0 none 0 0) (hg : W.heap.size ≤ g) : Laid2 W g z.heap.size s1 a1 n1 k1 e1 d1 l1 s2 a2 m2 k2 e2 d4 l2 (put3 (put3 (z.alloc (.cells #[.bool false, .slice none 0 0, .slice none 0 0] 25)) g (.bool s1) (.slice a1 n1 k1) (.slice e1 d1 l1)) z.heap.size (.bool s2) (.slice a2 m2 k2) (.slice e2 d4 l2)) :=
  two_e (Add.trans t (add_new _ _)) (B1.mono (add_new _ _)) (box_new ..) hg t.size (by have := B1.lt; omega)
theorem two_d {h : Nat} (t : Add W z) (B2 : Box z h false none 0 0 none 0 0) (hh : W.heap.size ≤ h) : Laid2 W z.heap.size h s1 a1 n1 k1 e1 d1 l1 s2 a2 m2 k2 e2 d4 l2 (put3 (z.alloc (.cells #[.bool s1, .slice a1 n1 k1, .slice e1 d1 l1] 25)) h (.bool s2) (.slice a2 m2 k2) (.slice e2 d4 l2)) :=
  ⟨Box.other2 (box_new ..) (by have := B2.lt; omega) _ _ _, (B2.mono (add_new _ _)).put .., put3_below _ _ _ (Add.trans t (add_new _ _)) hh⟩
end
theorem pick_lo {w : World} {s s' : Bool} {an n cn ad d cd an' n' cn' ad' d' cd'} {x y : Tri} (hx : FracA w (.agg #[.bool s, .slice an n cn, .slice ad d cd]) x) (hy : FracA w (.agg #[.bool s', .slice an' n' cn', .slice ad' d' cd']) y) (h : Hid (okF x = true ∧ okF y = true)) :
    ∃ s1 a1 n1 k1 e1 d1 l1 z, Hid (∀ w', Add w w' → Calls Tryz.prog 45 #[.agg #[.bool s, .slice an n cn, .slice ad d cd], .agg #[.bool s', .slice an' n' cn', .slice ad' d' cd']] w' (RetV w' (.agg #[.bool s1, .slice a1 n1 k1, .slice e1 d1 l1]))) ∧ FracA w (.agg #[.bool s1, .slice a1 n1 k1, .slice e1 d1 l1]) z ∧ okF z = true ∧ qv z = mx (qv x) (qv y) := by
  obtain ⟨u, hu, hc⟩ := greater_pick hx hy h
  rcases hc with ⟨rfl, hc⟩ | ⟨rfl, hc⟩
  · exact ⟨_, _, _, _, _, _, _, y, Lib.hid hu, hy, h.out.2, by rw [mx, if_pos hc]⟩
  · exact ⟨_, _, _, _, _, _, _, x, Lib.hid hu, hx, h.out.1, by rw [mx, if_neg hc]⟩
theorem pick_hi {w : World} {s s' : Bool} {an n cn ad d cd an' n' cn' ad' d' cd'} {x y : Tri} (hx : FracA w (.agg #[.bool s, .slice an n cn, .slice ad d cd]) x) (hy : FracA w (.agg #[.bool s', .slice an' n' cn', .slice ad' d' cd']) y) (h : Hid (okF x = true ∧ okF y = true)) :
    ∃ s1 a1 n1 k1 e1 d1 l1 z, Hid (∀ w', Add w w' → Calls Tryz.prog 44 #[.agg #[.bool s, .slice an n cn, .slice ad d cd], .agg #[.bool s', .slice an' n' cn', .slice ad' d' cd']] w' (RetV w' (.agg #[.bool s1, .slice a1 n1 k1, .slice e1 d1 l1]))) ∧ FracA w (.agg #[.bool s1, .slice a1 n1 k1, .slice e1 d1 l1]) z ∧ okF z = true ∧ qv z = mn (qv x) (qv y) := by
  obtain ⟨u, hu, hc⟩ := lesser_pick hx hy h
  rcases hc with ⟨rfl, hc⟩ | ⟨rfl, hc⟩
  · exact ⟨_, _, _, _, _, _, _, x, Lib.hid hu, hx, h.out.1, by rw [mn, if_pos hc]⟩
  · exact ⟨_, _, _, _, _, _, _, y, Lib.hid hu, hy, h.out.2, by rw [mn, if_neg hc]⟩
set_option maxRecDepth 100000 in
set_option maxHeartbeats 20000000 in
theorem meet_region {v v' : Value} {a b : Iv} {w : World} (ha : IvA w v a) (hb : IvA w v' b) (hT : Tab w) (h : Hid (okI a = true ∧ okI b = true)) (p : Iv × Bool) (hp : Hid (meetI a b = p)) : Calls Tryz.prog 19 #[v, v'] w (ResB w p) := by
  have ha0 := ha
  have hb0 := hb
  obtain ⟨an, n, cn, ad, d, cd, an', n', cn', ad', d', cd', rfl, u1, u2, u3, u4⟩ := ha
  obtain ⟨an2, n2, cn2, ad2, d2, cd2, an3, n3, cn3, ad3, d3, cd3, rfl, q1, q2, q3, q4⟩ := hb
  have al : FracA w (.agg #[.bool a.1.1, .slice an n cn, .slice ad d cd]) a.1 := ⟨_, _, _, _, _, _, rfl, u1, u2⟩
  have ah : FracA w (.agg #[.bool a.2.1, .slice an' n' cn', .slice ad' d' cd']) a.2 := ⟨_, _, _, _, _, _, rfl, u3, u4⟩
  have bl : FracA w (.agg #[.bool b.1.1, .slice an2 n2 cn2, .slice ad2 d2 cd2]) b.1 := ⟨_, _, _, _, _, _, rfl, q1, q2⟩
  have bh : FracA w (.agg #[.bool b.2.1, .slice an3 n3 cn3, .slice ad3 d3 cd3]) b.2 := ⟨_, _, _, _, _, _, rfl, q3, q4⟩
  obtain ⟨T, hA, hB, hR⟩ := startII w a an n cn ad d cd an' n' cn' ad' d' cd' b an2 n2 cn2 ad2 d2 cd2 an3 n3 cn3 ad3 d3 cd3
  clear u1 u2 u3 u4 q1 q2 q3 q4
  replace ha0 := ha0.mono T
  replace hb0 := hb0.mono T
  replace al := al.mono T
  replace ah := ah.mono T
  replace bl := bl.mono T
  replace bh := bh.mono T
  replace hT := hT.mono T
  have FA := Lib.hid h.out.1
  have FB := Lib.hid h.out.2
  have o1 := okI_iff.1 h.out.1
  have o2 := okI_iff.1 h.out.2
  have OL : Hid (okF a.1 = true ∧ okF b.1 = true) := Lib.hid ⟨o1.1, o2.1⟩
  have OH : Hid (okF a.2 = true ∧ okF b.2 = true) := Lib.hid ⟨o1.2.1, o2.2.1⟩
  clear h o1 o2
  have ca0 := hA.c0
  have ca1 := hA.c1
  have ca2 := hA.c2
  have ca3 := hA.c3
  have ca4 := hA.c4
  have ca5 := hA.c5
  go_enter Tryz.func19, Tryz.ntmps19
  go_wp2_with fail
  refine (validIN true ha0 FA).mono ?_
  rintro e w1 ⟨rfl, h1⟩
  replace hT := hT.mono h1
  replace hA := hA.mono h1
  replace hB := hB.mono h1
  replace hR := hR.mono h1
  replace al := al.mono h1
  replace ah := ah.mono h1
  replace bl := bl.mono h1
  replace bh := bh.mono h1
  replace hb0 := hb0.mono h1
  replace T := Add.trans T h1
  clear h1 ha0 ca0 ca1 ca2 ca3 ca4 ca5
  have cb0 := hB.c0
  have cb1 := hB.c1
  have cb2 := hB.c2
  have cb3 := hB.c3
  have cb4 := hB.c4
  have cb5 := hB.c5
  go_wp2_with fail
  refine (validIN true hb0 FB).mono ?_
  rintro e w2 ⟨rfl, h2⟩
  replace hT := hT.mono h2
  replace hA := hA.mono h2
  replace hB := hB.mono h2
  replace hR := hR.mono h2
  replace al := al.mono h2
  replace ah := ah.mono h2
  replace bl := bl.mono h2
  replace bh := bh.mono h2
  replace T := Add.trans T h2
  clear h2 hb0 cb0 cb1 cb2 cb3 cb4 cb5
  obtain ⟨s1, a1, n1, k1, e1, d1, l1, xl, C1, f1, o1, q1⟩ := pick_lo al bl OL
  obtain ⟨s2, a2, m2, k2, e2, d4, l2, xh, C2, f2, o2, q2⟩ := pick_hi ah bh OH
  have K0 : Hid (∀ w', Add w2 w' → w'.cell? ⟨w.heap.size, 0, none⟩ = some (.bool a.1.1) ∧ w'.cell? ⟨w.heap.size, 1, none⟩ = some (.slice an n cn) ∧ w'.cell? ⟨w.heap.size, 2, none⟩ = some (.slice ad d cd) ∧ w'.cell? ⟨w.heap.size, 3, none⟩ = some (.bool a.2.1) ∧ w'.cell? ⟨w.heap.size, 4, none⟩ = some (.slice an' n' cn') ∧ w'.cell? ⟨w.heap.size, 5, none⟩ = some (.slice ad' d' cd') ∧ w'.cell? ⟨w.heap.size + 1, 0, none⟩ = some (.bool b.1.1) ∧ w'.cell? ⟨w.heap.size + 1, 1, none⟩ = some (.slice an2 n2 cn2) ∧ w'.cell? ⟨w.heap.size + 1, 2, none⟩ = some (.slice ad2 d2 cd2) ∧ w'.cell? ⟨w.heap.size + 1, 3, none⟩ = some (.bool b.2.1) ∧ w'.cell? ⟨w.heap.size + 1, 4, none⟩ = some (.slice an3 n3 cn3) ∧ w'.cell? ⟨w.heap.size + 1, 5, none⟩ = some (.slice ad3 d3 cd3)) := Lib.hid fun w' k => ⟨(hA.mono k).c0, (hA.mono k).c1, (hA.mono k).c2, (hA.mono k).c3, (hA.mono k).c4, (hA.mono k).c5, (hB.mono k).c0, (hB.mono k).c1, (hB.mono k).c2, (hB.mono k).c3, (hB.mono k).c4, (hB.mono k).c5⟩
  clear al ah bl bh OL OH
  have ca0 := hA.c0
  have ca1 := hA.c1
  have ca2 := hA.c2
  have ca3 := hA.c3
  have ca4 := hA.c4
  have ca5 := hA.c5
  have cb0 := hB.c0
  have cb1 := hB.c1
  have cb2 := hB.c2
  have cb3 := hB.c3
  have cb4 := hB.c4
  have cb5 := hB.c5
  have hlt := hR.lt
  go_upto_region 3 with fail
  go_cut [6, 7] from 8 (fun p q wx => ∃ g h, p = .pointer (some ⟨g, 0, none⟩) ∧ q = .pointer (some ⟨h, 0, none⟩) ∧ Laid2 w2 g h s1 a1 n1 k1 e1 d1 l1 s2 a2 m2 k2 e2 d4 l2 wx)
  case first =>
    go_region_held3 (fun w' => w'.cell? ⟨w.heap.size, 0, none⟩ = some (.bool a.1.1) ∧ w'.cell? ⟨w.heap.size, 1, none⟩ = some (.slice an n cn) ∧ w'.cell? ⟨w.heap.size, 2, none⟩ = some (.slice ad d cd) ∧ w'.cell? ⟨w.heap.size, 3, none⟩ = some (.bool a.2.1) ∧ w'.cell? ⟨w.heap.size, 4, none⟩ = some (.slice an' n' cn') ∧ w'.cell? ⟨w.heap.size, 5, none⟩ = some (.slice ad' d' cd') ∧ w'.cell? ⟨w.heap.size + 1, 0, none⟩ = some (.bool b.1.1) ∧ w'.cell? ⟨w.heap.size + 1, 1, none⟩ = some (.slice an2 n2 cn2) ∧ w'.cell? ⟨w.heap.size + 1, 2, none⟩ = some (.slice ad2 d2 cd2) ∧ w'.cell? ⟨w.heap.size + 1, 3, none⟩ = some (.bool b.2.1) ∧ w'.cell? ⟨w.heap.size + 1, 4, none⟩ = some (.slice an3 n3 cn3) ∧ w'.cell? ⟨w.heap.size + 1, 5, none⟩ = some (.slice ad3 d3 cd3))
      (first | (refine K0.out _ ?_; (repeat (with_reducible refine Below.setCell ?_ (by dsimp only; omega) _)); (repeat (with_reducible refine Below.drew ?_)); (repeat (with_reducible refine Below.alloc ?_ (by first | omega | (simp; done) | (simp; omega)) _)); first | with_reducible assumption | with_reducible exact Below.refl _ _) | go_keep)
      (first | (go_at_call 45; ((with_reducible refine (C1.out _ (Below.drew (Below.refl _ _))).mono ?_); rintro e z1 ⟨rfl, hq1⟩; have t2 := Add.trans (Below.drew (Below.refl _ _) : Add w2 (World.drew w2)) hq1; have sz2 := t2.size))
             | (go_at_call 45; ((with_reducible refine (C1.out _ (Below.drew (add_new _ _))).mono ?_); rintro e z1 ⟨rfl, hq1⟩; have t2 := Add.trans (Below.drew (add_new w2 (.cells #[.bool false, .slice none 0 0, .slice none 0 0] 25)) : Add w2 (World.drew (w2.alloc (.cells #[.bool false, .slice none 0 0, .slice none 0 0] 25)))) hq1; have sz2 := t2.size; have bx1 := ((box_new w2 false none 0 0 none 0 0).mono (Below.drew (Below.refl _ _))).mono hq1; have ltx := bx1.lt))
             | (go_at_call 45; ((with_reducible refine (C1.out _ (Below.drew (Add.trans (add_new _ _) (add_new _ _)))).mono ?_); rintro e z1 ⟨rfl, hq1⟩; have t2 := Add.trans (Below.drew (Add.trans (add_new w2 (.cells #[.bool false, .slice none 0 0, .slice none 0 0] 25)) (add_new _ (.cells #[.bool false, .slice none 0 0, .slice none 0 0] 25))) : Add w2 (World.drew ((w2.alloc (.cells #[.bool false, .slice none 0 0, .slice none 0 0] 25)).alloc (.cells #[.bool false, .slice none 0 0, .slice none 0 0] 25)))) hq1; have sz2 := t2.size; have bx1 := (((box_new w2 false none 0 0 none 0 0).mono (add_new _ (.cells #[.bool false, .slice none 0 0, .slice none 0 0] 25))).mono (Below.drew (Below.refl _ _))).mono hq1; have ltx := bx1.lt; have by1 := ((Box.cells (w := w2.alloc (.cells #[.bool false, .slice none 0 0, .slice none 0 0] 25)) (g := w2.heap.size + 1) (b := false) (an := none) (n := 0) (cn := 0) (ad := none) (d := 0) (cd := 0) (by simp)).mono (Below.drew (Below.refl _ _))).mono hq1; have lty := by1.lt))
             | (go_at_call 44; ((with_reducible refine (C2.out _ (t2)).mono ?_); rintro e z2 ⟨rfl, hq2⟩; have t3 := Add.trans t2 hq2; have sz3 := t3.size; have bx2 := bx1; have bx2 := bx2.mono hq2; have by2 := by1.mono hq2; have hne1 : w2.heap.size ≠ w2.heap.size + 1 := (by omega); have hne2 : w2.heap.size + 1 ≠ w2.heap.size := (by omega); have fb1_ := bx2; have fb1_0 := fb1_.c0; have fb1_1 := fb1_.c1; have fb1_2 := fb1_.c2; have fb1_3 := fb1_.fr 0; have fb1_4 := fb1_.fr 1; have fb1_5 := fb1_.fr 2; clear fb1_; have fb2_ := by2; have fb2_0 := fb2_.c0; have fb2_1 := fb2_.c1; have fb2_2 := fb2_.c2; have fb2_3 := fb2_.fr 0; have fb2_4 := fb2_.fr 1; have fb2_5 := fb2_.fr 2; clear fb2_))
             | (go_at_call 44; ((with_reducible refine (C2.out _ (t2)).mono ?_); rintro e z2 ⟨rfl, hq2⟩; have t3 := Add.trans t2 hq2; have sz3 := t3.size; have bx2 := bx1; have bx2 := bx2.mono hq2; have hne0 := bx2.lt; have hne1 : z2.heap.size ≠ w2.heap.size := (by omega); have hne2 : w2.heap.size ≠ z2.heap.size := (by omega); clear hne0; have fb3_ := (bx2.mono (add_new z2 (.cells #[.bool false, .slice none 0 0, .slice none 0 0] 25))); have fb3_0 := fb3_.c0; have fb3_1 := fb3_.c1; have fb3_2 := fb3_.c2; have fb3_3 := fb3_.fr 0; have fb3_4 := fb3_.fr 1; have fb3_5 := fb3_.fr 2; clear fb3_; have fb4_ := (bx2.mono (add_new z2 (.cells #[.bool s1, .slice a1 n1 k1, .slice e1 d1 l1] 25))); have fb4_0 := fb4_.c0; have fb4_1 := fb4_.c1; have fb4_2 := fb4_.c2; have fb4_3 := fb4_.fr 0; have fb4_4 := fb4_.fr 1; have fb4_5 := fb4_.fr 2; clear fb4_))
             | (go_at_call 44; ((with_reducible refine (C2.out _ (t2)).mono ?_); rintro e z2 ⟨rfl, hq2⟩; have t3 := Add.trans t2 hq2; have sz3 := t3.size))
             | (go_at_call 44; ((with_reducible refine (C2.out _ (Add.trans t2 (add_new _ _))).mono ?_); rintro e z2 ⟨rfl, hq2⟩; have t3 := Add.trans (Add.trans t2 (add_new z1 (.cells #[.bool false, .slice none 0 0, .slice none 0 0] 25))) hq2; have sz3 := t3.size; have bx2 := bx1.mono (add_new _ (.cells #[.bool false, .slice none 0 0, .slice none 0 0] 25)); have bx2 := bx2.mono hq2; have by2 := (box_new z1 false none 0 0 none 0 0).mono hq2; have hne1 : w2.heap.size ≠ z1.heap.size := (by omega); have hne2 : z1.heap.size ≠ w2.heap.size := (by omega); have fb5_ := bx2; have fb5_0 := fb5_.c0; have fb5_1 := fb5_.c1; have fb5_2 := fb5_.c2; have fb5_3 := fb5_.fr 0; have fb5_4 := fb5_.fr 1; have fb5_5 := fb5_.fr 2; clear fb5_; have fb6_ := by2; have fb6_0 := fb6_.c0; have fb6_1 := fb6_.c1; have fb6_2 := fb6_.c2; have fb6_3 := fb6_.fr 0; have fb6_4 := fb6_.fr 1; have fb6_5 := fb6_.fr 2; clear fb6_))
             | (go_at_call 44; ((with_reducible refine (C2.out _ (Add.trans (Add.trans t2 (add_new _ _)) (add_new _ _))).mono ?_); rintro e z2 ⟨rfl, hq2⟩; have t3 := Add.trans (Add.trans (Add.trans t2 (add_new z1 (.cells #[.bool false, .slice none 0 0, .slice none 0 0] 25))) (add_new _ (.cells #[.bool false, .slice none 0 0, .slice none 0 0] 25))) hq2; have sz3 := t3.size; have bx2 := ((box_new z1 false none 0 0 none 0 0).mono (add_new _ (.cells #[.bool false, .slice none 0 0, .slice none 0 0] 25))).mono hq2; have by2 := (Box.cells (w := z1.alloc (.cells #[.bool false, .slice none 0 0, .slice none 0 0] 25)) (g := z1.heap.size + 1) (b := false) (an := none) (n := 0) (cn := 0) (ad := none) (d := 0) (cd := 0) (by simp)).mono hq2; have hne1 : z1.heap.size ≠ z1.heap.size + 1 := (by omega); have hne2 : z1.heap.size + 1 ≠ z1.heap.size := (by omega); have fb7_ := bx2; have fb7_0 := fb7_.c0; have fb7_1 := fb7_.c1; have fb7_2 := fb7_.c2; have fb7_3 := fb7_.fr 0; have fb7_4 := fb7_.fr 1; have fb7_5 := fb7_.fr 2; clear fb7_; have fb8_ := by2; have fb8_0 := fb8_.c0; have fb8_1 := fb8_.c1; have fb8_2 := fb8_.c2; have fb8_3 := fb8_.fr 0; have fb8_4 := fb8_.fr 1; have fb8_5 := fb8_.fr 2; clear fb8_))
             | (go_at_call 44; ((with_reducible refine (C2.out _ (Add.trans t2 (add_new _ _))).mono ?_); rintro e z2 ⟨rfl, hq2⟩; have t3 := Add.trans (Add.trans t2 (add_new z1 (.cells #[.bool false, .slice none 0 0, .slice none 0 0] 25))) hq2; have sz3 := t3.size; have bx2 := (box_new z1 false none 0 0 none 0 0).mono hq2; have hne0 := bx2.lt; have hne1 : z2.heap.size ≠ z1.heap.size := (by omega); have hne2 : z1.heap.size ≠ z2.heap.size := (by omega); clear hne0; have fb9_ := (bx2.mono (add_new z2 (.cells #[.bool false, .slice none 0 0, .slice none 0 0] 25))); have fb9_0 := fb9_.c0; have fb9_1 := fb9_.c1; have fb9_2 := fb9_.c2; have fb9_3 := fb9_.fr 0; have fb9_4 := fb9_.fr 1; have fb9_5 := fb9_.fr 2; clear fb9_; have fb10_ := (bx2.mono (add_new z2 (.cells #[.bool s1, .slice a1 n1 k1, .slice e1 d1 l1] 25))); have fb10_0 := fb10_.c0; have fb10_1 := fb10_.c1; have fb10_2 := fb10_.c2; have fb10_3 := fb10_.fr 0; have fb10_4 := fb10_.fr 1; have fb10_5 := fb10_.fr 2; clear fb10_)))
    · go_wp2_with fail
      go_meet
      exact ⟨_, _, rfl, rfl, two_a t3⟩
    · go_wp2_with fail
      go_meet
      exact ⟨_, _, rfl, rfl, two_b t3⟩
    · go_wp2_with fail
      go_meet
      exact ⟨_, _, rfl, rfl, two_c t3 bx2 (by omega)⟩
    · go_wp2_with fail
      go_meet
      exact ⟨_, _, rfl, rfl, two_e t3 bx2 by2 (by omega) (by omega) (by omega)⟩
    · go_wp2_with fail
      go_meet
      exact ⟨_, _, rfl, rfl, two_d t3 bx2 (by omega)⟩
    · go_wp2_with fail
      go_meet
      exact ⟨_, _, rfl, rfl, two_e t3 by2 bx2 (by omega) (by omega) (by omega)⟩
    · go_wp2_with fail
      go_meet
      exact ⟨_, _, rfl, rfl, two_c t3 bx2 (by omega)⟩
    · go_wp2_with fail
      go_meet
      exact ⟨_, _, rfl, rfl, two_e t3 bx2 by2 (by omega) (by omega) (by omega)⟩
    · go_wp2_with fail
      go_meet
      exact ⟨_, _, rfl, rfl, two_e t3 bx2 by2 (by omega) (by omega) (by omega)⟩
    · go_wp2_with fail
      go_meet
      exact ⟨_, _, rfl, rfl, two_d t3 bx2 (by omega)⟩
    · go_wp2_with fail
      go_meet
      exact ⟨_, _, rfl, rfl, two_e t3 by2 bx2 (by omega) (by omega) (by omega)⟩
    · go_wp2_with fail
      go_meet
      exact ⟨_, _, rfl, rfl, two_e t3 by2 bx2 (by omega) (by omega) (by omega)⟩
  case rest =>
    obtain ⟨g, h, rfl, rfl, hX, hY, tc⟩ := hcut
    clear K0 C1 C2 hA hB ca0 ca1 ca2 ca3 ca4 ca5 cb0 cb1 cb2 cb3 cb4 cb5
    replace hR := hR.mono tc
    replace hT := hT.mono tc
    replace f1 := f1.mono tc
    replace f2 := f2.mono tc
    replace T := Add.trans T tc
    have OK := Lib.hid (And.intro o1 o2)
    clear tc hlt
    by_cases c : mx (qv a.1) (qv b.1) ≤ mn (qv a.2) (qv b.2)
    · have HT : Hid (decide (qv xl ≤ qv xh) = true) := Lib.hid (by rw [q1, q2]; exact decide_eq_true c)
      obtain ⟨⟨⟨s5, N5, D5⟩, ⟨s6, N6, D6⟩⟩, hq⟩ : ∃ q, (can (qv xl), can (qv xh)) = q := ⟨_, rfl⟩
      have hpe : p = (((s5, N5, D5), (s6, N6, D6)), true) := by rw [← hq, ← hp.out, q1, q2]; unfold meetI; rw [if_pos ⟨FA.out, FB.out, c⟩]
      subst hpe
      have CB := Lib.hid (fun w' k => hq ▸ betweenN (w := w') (f1.mono (w' := w') k) (f2.mono k) (hT.mono k) OK)
      clear c q1 q2 o1 o2 hp hq FA FB
      have cv0 := hX.c0
      have cv1 := hX.c1
      have cv2 := hX.c2
      have cu0 := hY.c0
      have cu1 := hY.c1
      have cu2 := hY.c2
      go_wp2_with fail
      refine (atMostN true f1 f2 OK HT).mono ?_
      rintro e w5 ⟨rfl, h5⟩
      replace hR := hR.mono h5
      replace hX := hX.mono h5
      replace hY := hY.mono h5
      replace T := Add.trans T h5
      have k5 := h5
      clear h5 f1 f2 hT HT OK cv0 cv1 cv2 cu0 cu1 cu2
      have cv0 := hX.c0
      have cv1 := hX.c1
      have cv2 := hX.c2
      have cu0 := hY.c0
      have cu1 := hY.c1
      have cu2 := hY.c2
      go_wp2_with fail
      refine (CB.out _ k5).mono ?_
      rintro e w6 ⟨v6, rfl, ⟨a7, n7, k7, e7, d7, l7, a8, n8, k8, e8, d8, l8, rfl, x7, y7, x8, y8⟩, h6⟩
      replace hR := hR.mono h6
      replace T := Add.trans T h6
      clear h6 CB k5 hX hY cv0 cv1 cv2 cu0 cu1 cu2
      have hP := Box6.put hR s5 a7 n7 k7 e7 d7 l7 s6 a8 n8 k8 e8 d8 l8
      have hF := resB_put (w := w) (p := (((s5, N5, D5), (s6, N6, D6)), true)) hR (⟨a7, n7, k7, e7, d7, l7, a8, n8, k8, e8, d8, l8, rfl, x7, y7, x8, y8⟩) T (show w.heap.size ≤ w.heap.size + 2 by omega)
      obtain ⟨W7, hW7⟩ : ∃ W7, W7 = put6 (w6) (w.heap.size + 2) (.bool s5) (.slice a7 n7 k7) (.slice e7 d7 l7) (.bool s6) (.slice a8 n8 k8) (.slice e8 d8 l8) := ⟨_, rfl⟩
      rw [← hW7] at hP hF
      unfold put6 at hW7
      have HF := Lib.hid hF
      have HW := Lib.hid hW7
      have hr0 := hR.c0
      have hr1 := hR.c1
      have hr2 := hR.c2
      have hr3 := hR.c3
      have hr4 := hR.c4
      have hr5 := hR.c5
      have hr6 := hR.fr 0
      have hr7 := hR.fr 1
      have hr8 := hR.fr 2
      have hr9 := hR.fr 3
      have hr10 := hR.fr 4
      have hr11 := hR.fr 5
      clear hF hW7 hR T x7 y7 x8 y8
      go_wp2_with fail
      rw [← HW.out]
      exact bodyPost_ret (v := .tuple #[.agg #[.bool s5, .slice a7 n7 k7, .slice e7 d7 l7, .bool s6, .slice a8 n8 k8, .slice e8 d8 l8], .bool true]) (by simp [results, Tryz.results19, go_sem, hP.c0, hP.c1, hP.c2, hP.c3, hP.c4, hP.c5]) rfl HF.out
    · have HT : Hid (decide (qv xl ≤ qv xh) = false) := Lib.hid (by rw [q1, q2]; exact decide_eq_false c)
      have hpe : p = (zI, false) := by rw [← hp.out]; unfold meetI; rw [if_neg (fun g => c g.2.2)]
      subst hpe
      clear c q1 q2 o1 o2 hp FA FB
      have cv0 := hX.c0
      have cv1 := hX.c1
      have cv2 := hX.c2
      have cu0 := hY.c0
      have cu1 := hY.c1
      have cu2 := hY.c2
      go_wp2_with fail
      refine (atMostN false f1 f2 OK HT).mono ?_
      rintro e w5 ⟨rfl, h5⟩
      replace hR := hR.mono h5
      replace T := Add.trans T h5
      clear h5 f1 f2 hT HT OK hX hY cv0 cv1 cv2 cu0 cu1 cu2
      have hP := Box6.put hR false none 0 0 none 0 0 false none 0 0 none 0 0
      have hF := resB_put (w := w) (p := (zI, false)) hR (ivT_zero _) T (show w.heap.size ≤ w.heap.size + 2 by omega)
      obtain ⟨W7, hW7⟩ : ∃ W7, W7 = put6 (w5) (w.heap.size + 2) (.bool false) (.slice none 0 0) (.slice none 0 0) (.bool false) (.slice none 0 0) (.slice none 0 0) := ⟨_, rfl⟩
      rw [← hW7] at hP hF
      unfold put6 at hW7
      have HF := Lib.hid hF
      have HW := Lib.hid hW7
      have hbz := iv_zero
      have hr0 := hR.c0
      have hr1 := hR.c1
      have hr2 := hR.c2
      have hr3 := hR.c3
      have hr4 := hR.c4
      have hr5 := hR.c5
      have hr6 := hR.fr 0
      have hr7 := hR.fr 1
      have hr8 := hR.fr 2
      have hr9 := hR.fr 3
      have hr10 := hR.fr 4
      have hr11 := hR.fr 5
      clear hF hW7 hR T 
      go_wp2_with fail
      rw [← HW.out]
      exact bodyPost_ret (v := .tuple #[.agg #[.bool false, .slice none 0 0, .slice none 0 0, .bool false, .slice none 0 0, .slice none 0 0], .bool false]) (by simp [results, Tryz.results19, go_sem, hP.c0, hP.c1, hP.c2, hP.c3, hP.c4, hP.c5]) rfl HF.out
end Go.Proofs.YtmadogkngbbcbaaGreatDoor
