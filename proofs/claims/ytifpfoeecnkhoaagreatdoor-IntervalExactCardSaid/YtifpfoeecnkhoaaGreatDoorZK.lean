/- Meet and Hull of two intervals: plain mathematics.
(With the texts that are joined here: Package interval: Meet. | The reference of layer 3: Add, Sub, Contains, Inside, lowest, Point; package interval: Point, Scale. | The reference of layer 3: Inside, lowest, Point; package interval: Point, Scale. | The reference of layer 3: Meet. | Point of package interval and of the reference; Scale of package interval. | Scale of package interval. | Lists of intervals; the least interval that contains all of a list.) -/
import Derived.Test.YtifpfoeecnkhoaaGreatDoorZJ
import Derived.Deep.Cut
import Derived.Test.YtifpfoeecnkhoaaGreatDoorZF

namespace Go.Proofs.YtifpfoeecnkhoaaGreatDoor
open Go.RowKit NatM Go.Proofs.YtifpfoeecnkhoaaGreatDoor.Api

set_option maxRecDepth 100000 in
set_option maxHeartbeats 2000000 in
theorem meetIN_refuses {v v' : Value} {a b : Iv} {w : World} (ha : IvA w v a) (hb : IvA w v' b) (h : Hid (okI a = false ∨ okI b = false)) : Calls Tryz.prog 17 #[v, v'] w (ResB w (zI, false)) := by
  have ha0 := ha
  have hb0 := hb
  obtain ⟨an, n, cn, ad, d, cd, an', n', cn', ad', d', cd', rfl, u1, u2, u3, u4⟩ := ha
  obtain ⟨an2, n2, cn2, ad2, d2, cd2, an3, n3, cn3, ad3, d3, cd3, rfl, q1, q2, q3, q4⟩ := hb
  have al : FracA w (.agg #[.bool a.1.1, .slice an n cn, .slice ad d cd]) a.1 := ⟨_, _, _, _, _, _, rfl, u1, u2⟩
  have ah : FracA w (.agg #[.bool a.2.1, .slice an' n' cn', .slice ad' d' cd']) a.2 := ⟨_, _, _, _, _, _, rfl, u3, u4⟩
  have bl : FracA w (.agg #[.bool b.1.1, .slice an2 n2 cn2, .slice ad2 d2 cd2]) b.1 := ⟨_, _, _, _, _, _, rfl, q1, q2⟩
  have bh : FracA w (.agg #[.bool b.2.1, .slice an3 n3 cn3, .slice ad3 d3 cd3]) b.2 := ⟨_, _, _, _, _, _, rfl, q3, q4⟩
  obtain ⟨T, hA, hB, hR⟩ := startII w a an n cn ad d cd an' n' cn' ad' d' cd' b an2 n2 cn2 ad2 d2 cd2 an3 n3 cn3 ad3 d3 cd3
  clear u1 u2 u3 u4 q1 q2 q3 q4
  replace ha0 := ha0.mono T
  replace hb0 := hb0.mono T
  replace al := al.mono T
  replace ah := ah.mono T
  replace bl := bl.mono T
  replace bh := bh.mono T
  clear al ah bl bh
  have ca0 := hA.c0
  have ca1 := hA.c1
  have ca2 := hA.c2
  have ca3 := hA.c3
  have ca4 := hA.c4
  have ca5 := hA.c5
  go_enter Tryz.func17, Tryz.ntmps17
  by_cases c : okI a = false
  · have FA := Lib.hid c
    clear c h
    go_wp2_with fail
    refine (validIN false ha0 FA).mono ?_
    rintro e w1 ⟨rfl, h1⟩
    replace hR := hR.mono h1
    replace T := Add.trans T h1
    clear h1 ha0 hb0 FA hA hB ca0 ca1 ca2 ca3 ca4 ca5
    have hP := Box6.put hR false none 0 0 none 0 0 false none 0 0 none 0 0
    have hF := resB_put (w := w) (p := (zI, false)) hR (ivT_zero _) T (show w.heap.size ≤ w.heap.size + 2 by omega)
    obtain ⟨W7, hW7⟩ : ∃ W7, W7 = put6 (w1) (w.heap.size + 2) (.bool false) (.slice none 0 0) (.slice none 0 0) (.bool false) (.slice none 0 0) (.slice none 0 0) := ⟨_, rfl⟩
    rw [← hW7] at hP hF
    unfold put6 at hW7
    have HF := Lib.hid hF
    have HW := Lib.hid hW7
    have hbz := iv_zero
    have hr0 := hR.c0
    have hr1 := hR.c1
    have hr2 := hR.c2
    have hr3 := hR.c3
    have hr4 := hR.c4
    have hr5 := hR.c5
    have hr6 := hR.fr 0
    have hr7 := hR.fr 1
    have hr8 := hR.fr 2
    have hr9 := hR.fr 3
    have hr10 := hR.fr 4
    have hr11 := hR.fr 5
    clear hF hW7 hR T 
    go_wp2_with fail
    rw [← HW.out]
    exact bodyPost_ret (v := .tuple #[.agg #[.bool false, .slice none 0 0, .slice none 0 0, .bool false, .slice none 0 0, .slice none 0 0], .bool false]) (by simp [results, Tryz.results17, go_sem, hP.c0, hP.c1, hP.c2, hP.c3, hP.c4, hP.c5]) rfl HF.out
  · have c2 : okI b = false := h.out.resolve_left c
    have c1 : okI a = true := by simpa using c
    have FA := Lib.hid c1
    have FB := Lib.hid c2
    clear c c1 c2 h
    go_wp2_with fail
    refine (validIN true ha0 FA).mono ?_
    rintro e w1 ⟨rfl, h1⟩
    replace hR := hR.mono h1
    replace hB := hB.mono h1
    replace hb0 := hb0.mono h1
    replace T := Add.trans T h1
    clear h1 ha0 FA hA ca0 ca1 ca2 ca3 ca4 ca5
    have cb0 := hB.c0
    have cb1 := hB.c1
    have cb2 := hB.c2
    have cb3 := hB.c3
    have cb4 := hB.c4
    have cb5 := hB.c5
    go_wp2_with fail
    refine (validIN false hb0 FB).mono ?_
    rintro e w2 ⟨rfl, h2⟩
    replace hR := hR.mono h2
    replace T := Add.trans T h2
    clear h2 hb0 FB hB cb0 cb1 cb2 cb3 cb4 cb5
    have hP := Box6.put hR false none 0 0 none 0 0 false none 0 0 none 0 0
    have hF := resB_put (w := w) (p := (zI, false)) hR (ivT_zero _) T (show w.heap.size ≤ w.heap.size + 2 by omega)
    obtain ⟨W7, hW7⟩ : ∃ W7, W7 = put6 (w2) (w.heap.size + 2) (.bool false) (.slice none 0 0) (.slice none 0 0) (.bool false) (.slice none 0 0) (.slice none 0 0) := ⟨_, rfl⟩
    rw [← hW7] at hP hF
    unfold put6 at hW7
    have HF := Lib.hid hF
    have HW := Lib.hid hW7
    have hbz := iv_zero
    have hr0 := hR.c0
    have hr1 := hR.c1
    have hr2 := hR.c2
    have hr3 := hR.c3
    have hr4 := hR.c4
    have hr5 := hR.c5
    have hr6 := hR.fr 0
    have hr7 := hR.fr 1
    have hr8 := hR.fr 2
    have hr9 := hR.fr 3
    have hr10 := hR.fr 4
    have hr11 := hR.fr 5
    clear hF hW7 hR T 
    go_wp2_with fail
    rw [← HW.out]
    exact bodyPost_ret (v := .tuple #[.agg #[.bool false, .slice none 0 0, .slice none 0 0, .bool false, .slice none 0 0, .slice none 0 0], .bool false]) (by simp [results, Tryz.results17, go_sem, hP.c0, hP.c1, hP.c2, hP.c3, hP.c4, hP.c5]) rfl HF.out
/-- Laid2 variables that were laid and stored into. -/
def Laid2 (W : World) (g h : Nat) (s1 : Bool) (a1 : Option Addr) (n1 k1 : Nat) (e1 : Option Addr) (d1 l1 : Nat) (s2 : Bool) (a2 : Option Addr) (m2 k2 : Nat) (e2 : Option Addr) (d4 l2 : Nat) (wx : World) : Prop := Box wx g s1 a1 n1 k1 e1 d1 l1 ∧ Box wx h s2 a2 m2 k2 e2 d4 l2 ∧ Add W wx
section
variable {W z : World} {s1 : Bool} {a1 : Option Addr} {n1 k1 : Nat} {e1 : Option Addr} {d1 l1 : Nat} {s2 : Bool} {a2 : Option Addr} {m2 k2 : Nat} {e2 : Option Addr} {d4 l2 : Nat}
theorem two_a (t : Add W z) : Laid2 W z.heap.size (z.heap.size + 1) s1 a1 n1 k1 e1 d1 l1 s2 a2 m2 k2 e2 d4 l2 ((z.alloc (.cells #[.bool s1, .slice a1 n1 k1, .slice e1 d1 l1] 25)).alloc (.cells #[.bool s2, .slice a2 m2 k2, .slice e2 d4 l2] 25)) :=
  ⟨(box_new ..).mono (add_new _ _), Box.cells (by simp), Add.trans (Add.trans t (add_new _ _)) (add_new _ _)⟩
theorem two_b (t : Add W z) : Laid2 W (z.heap.size + 1) z.heap.size s1 a1 n1 k1 e1 d1 l1 s2 a2 m2 k2 e2 d4 l2 ((z.alloc (.cells #[.bool s2, .slice a2 m2 k2, .slice e2 d4 l2] 25)).alloc (.cells #[.bool s1, .slice a1 n1 k1, .slice e1 d1 l1] 25)) :=
  ⟨Box.cells (by simp), (box_new ..).mono (add_new _ _), Add.trans (Add.trans t (add_new _ _)) (add_new _ _)⟩
theorem two_e {g h : Nat} (t : Add W z) (B1 : Box z g false none 0 0 none 0 0) (B2 : Box z h false none 0 0 none 0 0) (hg : W.heap.size ≤ g) (hh : W.heap.size ≤ h) (hne : g ≠ h) : Laid2 W g h s1 a1 n1 k1 e1 d1 l1 s2 a2 m2 k2 e2 d4 l2 (put3 (put3 z g (.bool s1) (.slice a1 n1 k1) (.slice e1 d1 l1)) h (.bool s2) (.slice a2 m2 k2) (.slice e2 d4 l2)) :=
  ⟨Box.other2 (B1.put ..) hne _ _ _, (Box.other2 B2 hne.symm _ _ _).put .., put3_below _ _ _ (put3_below _ _ _ t hg) hh⟩
theorem two_c {g : Nat} (t : Add W z) (B1 : Box z g false none 0 0 none 0 0) (hg : W.heap.size ≤ g) : Laid2 W g z.heap.size s1 a1 n1 k1 e1 d1 l1 s2 a2 m2 k2 e2 d4 l2 (put3 (put3 (z.alloc (.cells #[.bool false, .slice none 0 0, .slice none 0 0] 25)) g (.bool s1) (.slice a1 n1 k1) (.slice e1 d1 l1)) z.heap.size (.bool s2) (.slice a2 m2 k2) (.slice e2 d4 l2)) :=
  two_e (Add.trans t (add_new _ _)) (B1.mono (add_new _ _)) (box_new ..) hg t.size (by have := B1.lt; omega)
theorem two_d {h : Nat} (t : Add W z) (B2 : Box z h false none 0 0 none 0 0) (hh : W.heap.size ≤ h) : Laid2 W z.heap.size h s1 a1 n1 k1 e1 d1 l1 s2 a2 m2 k2 e2 d4 l2 (put3 (z.alloc (.cells #[.bool s1, .slice a1 n1 k1, .slice e1 d1 l1] 25)) h (.bool s2) (.slice a2 m2 k2) (.slice e2 d4 l2)) :=
  ⟨Box.other2 (box_new ..) (by have := B2.lt; omega) _ _ _, (B2.mono (add_new _ _)).put .., put3_below _ _ _ (Add.trans t (add_new _ _)) hh⟩
end
theorem pick_lo {w : World} {s s' : Bool} {an n cn ad d cd an' n' cn' ad' d' cd'} {x y : Tri} (hx : FracA w (.agg #[.bool s, .slice an n cn, .slice ad d cd]) x) (hy : FracA w (.agg #[.bool s', .slice an' n' cn', .slice ad' d' cd']) y) (h : Hid (okF x = true ∧ okF y = true)) :
    ∃ s1 a1 n1 k1 e1 d1 l1 z, Hid (∀ w', Add w w' → Calls Tryz.prog 40 #[.agg #[.bool s, .slice an n cn, .slice ad d cd], .agg #[.bool s', .slice an' n' cn', .slice ad' d' cd']] w' (RetV w' (.agg #[.bool s1, .slice a1 n1 k1, .slice e1 d1 l1]))) ∧ FracA w (.agg #[.bool s1, .slice a1 n1 k1, .slice e1 d1 l1]) z ∧ okF z = true ∧ qv z = mx (qv x) (qv y) := by
  obtain ⟨u, hu, hc⟩ := greater_pick hx hy h
  rcases hc with ⟨rfl, hc⟩ | ⟨rfl, hc⟩
  · exact ⟨_, _, _, _, _, _, _, y, Lib.hid hu, hy, h.out.2, by rw [mx, if_pos hc]⟩
  · exact ⟨_, _, _, _, _, _, _, x, Lib.hid hu, hx, h.out.1, by rw [mx, if_neg hc]⟩
theorem pick_hi {w : World} {s s' : Bool} {an n cn ad d cd an' n' cn' ad' d' cd'} {x y : Tri} (hx : FracA w (.agg #[.bool s, .slice an n cn, .slice ad d cd]) x) (hy : FracA w (.agg #[.bool s', .slice an' n' cn', .slice ad' d' cd']) y) (h : Hid (okF x = true ∧ okF y = true)) :
    ∃ s1 a1 n1 k1 e1 d1 l1 z, Hid (∀ w', Add w w' → Calls Tryz.prog 39 #[.agg #[.bool s, .slice an n cn, .slice ad d cd], .agg #[.bool s', .slice an' n' cn', .slice ad' d' cd']] w' (RetV w' (.agg #[.bool s1, .slice a1 n1 k1, .slice e1 d1 l1]))) ∧ FracA w (.agg #[.bool s1, .slice a1 n1 k1, .slice e1 d1 l1]) z ∧ okF z = true ∧ qv z = mn (qv x) (qv y) := by
  obtain ⟨u, hu, hc⟩ := lesser_pick hx hy h
  rcases hc with ⟨rfl, hc⟩ | ⟨rfl, hc⟩
  · exact ⟨_, _, _, _, _, _, _, x, Lib.hid hu, hx, h.out.1, by rw [mn, if_pos hc]⟩
  · exact ⟨_, _, _, _, _, _, _, y, Lib.hid hu, hy, h.out.2, by rw [mn, if_neg hc]⟩
set_option maxRecDepth 100000 in
set_option maxHeartbeats 20000000 in
theorem meet_region {v v' : Value} {a b : Iv} {w : World} (ha : IvA w v a) (hb : IvA w v' b) (hT : Tab w) (h : Hid (okI a = true ∧ okI b = true)) (p : Iv × Bool) (hp : Hid (meetI a b = p)) : Calls Tryz.prog 17 #[v, v'] w (ResB w p) := by
  have ha0 := ha
  have hb0 := hb
  obtain ⟨an, n, cn, ad, d, cd, an', n', cn', ad', d', cd', rfl, u1, u2, u3, u4⟩ := ha
  obtain ⟨an2, n2, cn2, ad2, d2, cd2, an3, n3, cn3, ad3, d3, cd3, rfl, q1, q2, q3, q4⟩ := hb
  have al : FracA w (.agg #[.bool a.1.1, .slice an n cn, .slice ad d cd]) a.1 := ⟨_, _, _, _, _, _, rfl, u1, u2⟩
  have ah : FracA w (.agg #[.bool a.2.1, .slice an' n' cn', .slice ad' d' cd']) a.2 := ⟨_, _, _, _, _, _, rfl, u3, u4⟩
  have bl : FracA w (.agg #[.bool b.1.1, .slice an2 n2 cn2, .slice ad2 d2 cd2]) b.1 := ⟨_, _, _, _, _, _, rfl, q1, q2⟩
  have bh : FracA w (.agg #[.bool b.2.1, .slice an3 n3 cn3, .slice ad3 d3 cd3]) b.2 := ⟨_, _, _, _, _, _, rfl, q3, q4⟩
  obtain ⟨T, hA, hB, hR⟩ := startII w a an n cn ad d cd an' n' cn' ad' d' cd' b an2 n2 cn2 ad2 d2 cd2 an3 n3 cn3 ad3 d3 cd3
  clear u1 u2 u3 u4 q1 q2 q3 q4
  replace ha0 := ha0.mono T
  replace hb0 := hb0.mono T
  replace al := al.mono T
  replace ah := ah.mono T
  replace bl := bl.mono T
  replace bh := bh.mono T
  replace hT := hT.mono T
  have FA := Lib.hid h.out.1
  have FB := Lib.hid h.out.2
  have o1 := okI_iff.1 h.out.1
  have o2 := okI_iff.1 h.out.2
  have OL : Hid (okF a.1 = true ∧ okF b.1 = true) := Lib.hid ⟨o1.1, o2.1⟩
  have OH : Hid (okF a.2 = true ∧ okF b.2 = true) := Lib.hid ⟨o1.2.1, o2.2.1⟩
  clear h o1 o2
  have ca0 := hA.c0
  have ca1 := hA.c1
  have ca2 := hA.c2
  have ca3 := hA.c3
  have ca4 := hA.c4
  have ca5 := hA.c5
  go_enter Tryz.func17, Tryz.ntmps17
  go_wp2_with fail
  refine (validIN true ha0 FA).mono ?_
  rintro e w1 ⟨rfl, h1⟩
  replace hT := hT.mono h1
  replace hA := hA.mono h1
  replace hB := hB.mono h1
  replace hR := hR.mono h1
  replace al := al.mono h1
  replace ah := ah.mono h1
  replace bl := bl.mono h1
  replace bh := bh.mono h1
  replace hb0 := hb0.mono h1
  replace T := Add.trans T h1
  clear h1 ha0 ca0 ca1 ca2 ca3 ca4 ca5
  have cb0 := hB.c0
  have cb1 := hB.c1
  have cb2 := hB.c2
  have cb3 := hB.c3
  have cb4 := hB.c4
  have cb5 := hB.c5
  go_wp2_with fail
  refine (validIN true hb0 FB).mono ?_
  rintro e w2 ⟨rfl, h2⟩
  replace hT := hT.mono h2
  replace hA := hA.mono h2
  replace hB := hB.mono h2
  replace hR := hR.mono h2
  replace al := al.mono h2
  replace ah := ah.mono h2
  replace bl := bl.mono h2
  replace bh := bh.mono h2
  replace T := Add.trans T h2
  clear h2 hb0 cb0 cb1 cb2 cb3 cb4 cb5
  obtain ⟨s1, a1, n1, k1, e1, d1, l1, xl, C1, f1, o1, q1⟩ := pick_lo al bl OL
  obtain ⟨s2, a2, m2, k2, e2, d4, l2, xh, C2, f2, o2, q2⟩ := pick_hi ah bh OH
  have K0 : Hid (∀ w', Add w2 w' → w'.cell? ⟨w.heap.size, 0, none⟩ = some (.bool a.1.1) ∧ w'.cell? ⟨w.heap.size, 1, none⟩ = some (.slice an n cn) ∧ w'.cell? ⟨w.heap.size, 2, none⟩ = some (.slice ad d cd) ∧ w'.cell? ⟨w.heap.size, 3, none⟩ = some (.bool a.2.1) ∧ w'.cell? ⟨w.heap.size, 4, none⟩ = some (.slice an' n' cn') ∧ w'.cell? ⟨w.heap.size, 5, none⟩ = some (.slice ad' d' cd') ∧ w'.cell? ⟨w.heap.size + 1, 0, none⟩ = some (.bool b.1.1) ∧ w'.cell? ⟨w.heap.size + 1, 1, none⟩ = some (.slice an2 n2 cn2) ∧ w'.cell? ⟨w.heap.size + 1, 2, none⟩ = some (.slice ad2 d2 cd2) ∧ w'.cell? ⟨w.heap.size + 1, 3, none⟩ = some (.bool b.2.1) ∧ w'.cell? ⟨w.heap.size + 1, 4, none⟩ = some (.slice an3 n3 cn3) ∧ w'.cell? ⟨w.heap.size + 1, 5, none⟩ = some (.slice ad3 d3 cd3)) := Lib.hid fun w' k => ⟨(hA.mono k).c0, (hA.mono k).c1, (hA.mono k).c2, (hA.mono k).c3, (hA.mono k).c4, (hA.mono k).c5, (hB.mono k).c0, (hB.mono k).c1, (hB.mono k).c2, (hB.mono k).c3, (hB.mono k).c4, (hB.mono k).c5⟩
  clear al ah bl bh OL OH
  have ca0 := hA.c0
  have ca1 := hA.c1
  have ca2 := hA.c2
  have ca3 := hA.c3
  have ca4 := hA.c4
  have ca5 := hA.c5
  have cb0 := hB.c0
  have cb1 := hB.c1
  have cb2 := hB.c2
  have cb3 := hB.c3
  have cb4 := hB.c4
  have cb5 := hB.c5
  have hlt := hR.lt
  go_upto_region 3 with fail
  go_cut [6, 7] from 8 (fun p q wx => ∃ g h, p = .pointer (some ⟨g, 0, none⟩) ∧ q = .pointer (some ⟨h, 0, none⟩) ∧ Laid2 w2 g h s1 a1 n1 k1 e1 d1 l1 s2 a2 m2 k2 e2 d4 l2 wx)
  case first =>
    go_region_held3 (fun w' => w'.cell? ⟨w.heap.size, 0, none⟩ = some (.bool a.1.1) ∧ w'.cell? ⟨w.heap.size, 1, none⟩ = some (.slice an n cn) ∧ w'.cell? ⟨w.heap.size, 2, none⟩ = some (.slice ad d cd) ∧ w'.cell? ⟨w.heap.size, 3, none⟩ = some (.bool a.2.1) ∧ w'.cell? ⟨w.heap.size, 4, none⟩ = some (.slice an' n' cn') ∧ w'.cell? ⟨w.heap.size, 5, none⟩ = some (.slice ad' d' cd') ∧ w'.cell? ⟨w.heap.size + 1, 0, none⟩ = some (.bool b.1.1) ∧ w'.cell? ⟨w.heap.size + 1, 1, none⟩ = some (.slice an2 n2 cn2) ∧ w'.cell? ⟨w.heap.size + 1, 2, none⟩ = some (.slice ad2 d2 cd2) ∧ w'.cell? ⟨w.heap.size + 1, 3, none⟩ = some (.bool b.2.1) ∧ w'.cell? ⟨w.heap.size + 1, 4, none⟩ = some (.slice an3 n3 cn3) ∧ w'.cell? ⟨w.heap.size + 1, 5, none⟩ = some (.slice ad3 d3 cd3))
      (first | (refine K0.out _ ?_; (repeat (with_reducible refine Below.setCell ?_ (by dsimp only; omega) _)); (repeat (with_reducible refine Below.drew ?_)); (repeat (with_reducible refine Below.alloc ?_ (by first | omega | (simp; done) | (simp; omega)) _)); first | with_reducible assumption | with_reducible exact Below.refl _ _) | go_keep)
      (first | (go_at_call 40; ((with_reducible refine (C1.out _ (Below.drew (Below.refl _ _))).mono ?_); rintro e z1 ⟨rfl, hq1⟩; have t2 := Add.trans (Below.drew (Below.refl _ _) : Add w2 (World.drew w2)) hq1; have sz2 := t2.size))
             | (go_at_call 40; ((with_reducible refine (C1.out _ (Below.drew (add_new _ _))).mono ?_); rintro e z1 ⟨rfl, hq1⟩; have t2 := Add.trans (Below.drew (add_new w2 (.cells #[.bool false, .slice none 0 0, .slice none 0 0] 25)) : Add w2 (World.drew (w2.alloc (.cells #[.bool false, .slice none 0 0, .slice none 0 0] 25)))) hq1; have sz2 := t2.size; have bx1 := ((box_new w2 false none 0 0 none 0 0).mono (Below.drew (Below.refl _ _))).mono hq1; have ltx := bx1.lt))
             | (go_at_call 40; ((with_reducible refine (C1.out _ (Below.drew (Add.trans (add_new _ _) (add_new _ _)))).mono ?_); rintro e z1 ⟨rfl, hq1⟩; have t2 := Add.trans (Below.drew (Add.trans (add_new w2 (.cells #[.bool false, .slice none 0 0, .slice none 0 0] 25)) (add_new _ (.cells #[.bool false, .slice none 0 0, .slice none 0 0] 25))) : Add w2 (World.drew ((w2.alloc (.cells #[.bool false, .slice none 0 0, .slice none 0 0] 25)).alloc (.cells #[.bool false, .slice none 0 0, .slice none 0 0] 25)))) hq1; have sz2 := t2.size; have bx1 := (((box_new w2 false none 0 0 none 0 0).mono (add_new _ (.cells #[.bool false, .slice none 0 0, .slice none 0 0] 25))).mono (Below.drew (Below.refl _ _))).mono hq1; have ltx := bx1.lt; have by1 := ((Box.cells (w := w2.alloc (.cells #[.bool false, .slice none 0 0, .slice none 0 0] 25)) (g := w2.heap.size + 1) (b := false) (an := none) (n := 0) (cn := 0) (ad := none) (d := 0) (cd := 0) (by simp)).mono (Below.drew (Below.refl _ _))).mono hq1; have lty := by1.lt))
             | (go_at_call 39; ((with_reducible refine (C2.out _ (t2)).mono ?_); rintro e z2 ⟨rfl, hq2⟩; have t3 := Add.trans t2 hq2; have sz3 := t3.size; have bx2 := bx1; have bx2 := bx2.mono hq2; have by2 := by1.mono hq2; have hne1 : w2.heap.size ≠ w2.heap.size + 1 := (by omega); have hne2 : w2.heap.size + 1 ≠ w2.heap.size := (by omega); have fb1_ := bx2; have fb1_0 := fb1_.c0; have fb1_1 := fb1_.c1; have fb1_2 := fb1_.c2; have fb1_3 := fb1_.fr 0; have fb1_4 := fb1_.fr 1; have fb1_5 := fb1_.fr 2; clear fb1_; have fb2_ := by2; have fb2_0 := fb2_.c0; have fb2_1 := fb2_.c1; have fb2_2 := fb2_.c2; have fb2_3 := fb2_.fr 0; have fb2_4 := fb2_.fr 1; have fb2_5 := fb2_.fr 2; clear fb2_))
             | (go_at_call 39; ((with_reducible refine (C2.out _ (t2)).mono ?_); rintro e z2 ⟨rfl, hq2⟩; have t3 := Add.trans t2 hq2; have sz3 := t3.size; have bx2 := bx1; have bx2 := bx2.mono hq2; have hne0 := bx2.lt; have hne1 : z2.heap.size ≠ w2.heap.size := (by omega); have hne2 : w2.heap.size ≠ z2.heap.size := (by omega); clear hne0; have fb3_ := (bx2.mono (add_new z2 (.cells #[.bool false, .slice none 0 0, .slice none 0 0] 25))); have fb3_0 := fb3_.c0; have fb3_1 := fb3_.c1; have fb3_2 := fb3_.c2; have fb3_3 := fb3_.fr 0; have fb3_4 := fb3_.fr 1; have fb3_5 := fb3_.fr 2; clear fb3_; have fb4_ := (bx2.mono (add_new z2 (.cells #[.bool s1, .slice a1 n1 k1, .slice e1 d1 l1] 25))); have fb4_0 := fb4_.c0; have fb4_1 := fb4_.c1; have fb4_2 := fb4_.c2; have fb4_3 := fb4_.fr 0; have fb4_4 := fb4_.fr 1; have fb4_5 := fb4_.fr 2; clear fb4_))
             | (go_at_call 39; ((with_reducible refine (C2.out _ (t2)).mono ?_); rintro e z2 ⟨rfl, hq2⟩; have t3 := Add.trans t2 hq2; have sz3 := t3.size))
             | (go_at_call 39; ((with_reducible refine (C2.out _ (Add.trans t2 (add_new _ _))).mono ?_); rintro e z2 ⟨rfl, hq2⟩; have t3 := Add.trans (Add.trans t2 (add_new z1 (.cells #[.bool false, .slice none 0 0, .slice none 0 0] 25))) hq2; have sz3 := t3.size; have bx2 := bx1.mono (add_new _ (.cells #[.bool false, .slice none 0 0, .slice none 0 0] 25)); have bx2 := bx2.mono hq2; have by2 := (box_new z1 false none 0 0 none 0 0).mono hq2; have hne1 : w2.heap.size ≠ z1.heap.size := (by omega); have hne2 : z1.heap.size ≠ w2.heap.size := (by omega); have fb5_ := bx2; have fb5_0 := fb5_.c0; have fb5_1 := fb5_.c1; have fb5_2 := fb5_.c2; have fb5_3 := fb5_.fr 0; have fb5_4 := fb5_.fr 1; have fb5_5 := fb5_.fr 2; clear fb5_; have fb6_ := by2; have fb6_0 := fb6_.c0; have fb6_1 := fb6_.c1; have fb6_2 := fb6_.c2; have fb6_3 := fb6_.fr 0; have fb6_4 := fb6_.fr 1; have fb6_5 := fb6_.fr 2; clear fb6_))
             | (go_at_call 39; ((with_reducible refine (C2.out _ (Add.trans (Add.trans t2 (add_new _ _)) (add_new _ _))).mono ?_); rintro e z2 ⟨rfl, hq2⟩; have t3 := Add.trans (Add.trans (Add.trans t2 (add_new z1 (.cells #[.bool false, .slice none 0 0, .slice none 0 0] 25))) (add_new _ (.cells #[.bool false, .slice none 0 0, .slice none 0 0] 25))) hq2; have sz3 := t3.size; have bx2 := ((box_new z1 false none 0 0 none 0 0).mono (add_new _ (.cells #[.bool false, .slice none 0 0, .slice none 0 0] 25))).mono hq2; have by2 := (Box.cells (w := z1.alloc (.cells #[.bool false, .slice none 0 0, .slice none 0 0] 25)) (g := z1.heap.size + 1) (b := false) (an := none) (n := 0) (cn := 0) (ad := none) (d := 0) (cd := 0) (by simp)).mono hq2; have hne1 : z1.heap.size ≠ z1.heap.size + 1 := (by omega); have hne2 : z1.heap.size + 1 ≠ z1.heap.size := (by omega); have fb7_ := bx2; have fb7_0 := fb7_.c0; have fb7_1 := fb7_.c1; have fb7_2 := fb7_.c2; have fb7_3 := fb7_.fr 0; have fb7_4 := fb7_.fr 1; have fb7_5 := fb7_.fr 2; clear fb7_; have fb8_ := by2; have fb8_0 := fb8_.c0; have fb8_1 := fb8_.c1; have fb8_2 := fb8_.c2; have fb8_3 := fb8_.fr 0; have fb8_4 := fb8_.fr 1; have fb8_5 := fb8_.fr 2; clear fb8_))
             | (go_at_call 39; ((with_reducible refine (C2.out _ (Add.trans t2 (add_new _ _))).mono ?_); rintro e z2 ⟨rfl, hq2⟩; have t3 := Add.trans (Add.trans t2 (add_new z1 (.cells #[.bool false, .slice none 0 0, .slice none 0 0] 25))) hq2; have sz3 := t3.size; have bx2 := (box_new z1 false none 0 0 none 0 0).mono hq2; have hne0 := bx2.lt; have hne1 : z2.heap.size ≠ z1.heap.size := (by omega); have hne2 : z1.heap.size ≠ z2.heap.size := (by omega); clear hne0; have fb9_ := (bx2.mono (add_new z2 (.cells #[.bool false, .slice none 0 0, .slice none 0 0] 25))); have fb9_0 := fb9_.c0; have fb9_1 := fb9_.c1; have fb9_2 := fb9_.c2; have fb9_3 := fb9_.fr 0; have fb9_4 := fb9_.fr 1; have fb9_5 := fb9_.fr 2; clear fb9_; have fb10_ := (bx2.mono (add_new z2 (.cells #[.bool s1, .slice a1 n1 k1, .slice e1 d1 l1] 25))); have fb10_0 := fb10_.c0; have fb10_1 := fb10_.c1; have fb10_2 := fb10_.c2; have fb10_3 := fb10_.fr 0; have fb10_4 := fb10_.fr 1; have fb10_5 := fb10_.fr 2; clear fb10_)))
    · go_wp2_with fail
      go_meet
      exact ⟨_, _, rfl, rfl, two_a t3⟩
    · go_wp2_with fail
      go_meet
      exact ⟨_, _, rfl, rfl, two_b t3⟩
    · go_wp2_with fail
      go_meet
      exact ⟨_, _, rfl, rfl, two_c t3 bx2 (by omega)⟩
    · go_wp2_with fail
      go_meet
      exact ⟨_, _, rfl, rfl, two_e t3 bx2 by2 (by omega) (by omega) (by omega)⟩
    · go_wp2_with fail
      go_meet
      exact ⟨_, _, rfl, rfl, two_d t3 bx2 (by omega)⟩
    · go_wp2_with fail
      go_meet
      exact ⟨_, _, rfl, rfl, two_e t3 by2 bx2 (by omega) (by omega) (by omega)⟩
    · go_wp2_with fail
      go_meet
      exact ⟨_, _, rfl, rfl, two_c t3 bx2 (by omega)⟩
    · go_wp2_with fail
      go_meet
      exact ⟨_, _, rfl, rfl, two_e t3 bx2 by2 (by omega) (by omega) (by omega)⟩
    · go_wp2_with fail
      go_meet
      exact ⟨_, _, rfl, rfl, two_e t3 bx2 by2 (by omega) (by omega) (by omega)⟩
    · go_wp2_with fail
      go_meet
      exact ⟨_, _, rfl, rfl, two_d t3 bx2 (by omega)⟩
    · go_wp2_with fail
      go_meet
      exact ⟨_, _, rfl, rfl, two_e t3 by2 bx2 (by omega) (by omega) (by omega)⟩
    · go_wp2_with fail
      go_meet
      exact ⟨_, _, rfl, rfl, two_e t3 by2 bx2 (by omega) (by omega) (by omega)⟩
  case rest =>
    obtain ⟨g, h, rfl, rfl, hX, hY, tc⟩ := hcut
    clear K0 C1 C2 hA hB ca0 ca1 ca2 ca3 ca4 ca5 cb0 cb1 cb2 cb3 cb4 cb5
    replace hR := hR.mono tc
    replace hT := hT.mono tc
    replace f1 := f1.mono tc
    replace f2 := f2.mono tc
    replace T := Add.trans T tc
    have OK := Lib.hid (And.intro o1 o2)
    clear tc hlt
    by_cases c : mx (qv a.1) (qv b.1) ≤ mn (qv a.2) (qv b.2)
    · have HT : Hid (decide (qv xl ≤ qv xh) = true) := Lib.hid (by rw [q1, q2]; exact decide_eq_true c)
      obtain ⟨⟨⟨s5, N5, D5⟩, ⟨s6, N6, D6⟩⟩, hq⟩ : ∃ q, (can (qv xl), can (qv xh)) = q := ⟨_, rfl⟩
      have hpe : p = (((s5, N5, D5), (s6, N6, D6)), true) := by rw [← hq, ← hp.out, q1, q2]; unfold meetI; rw [if_pos ⟨FA.out, FB.out, c⟩]
      subst hpe
      have CB := Lib.hid (fun w' k => hq ▸ betweenN (w := w') (f1.mono (w' := w') k) (f2.mono k) (hT.mono k) OK)
      clear c q1 q2 o1 o2 hp hq FA FB
      have cv0 := hX.c0
      have cv1 := hX.c1
      have cv2 := hX.c2
      have cu0 := hY.c0
      have cu1 := hY.c1
      have cu2 := hY.c2
      go_wp2_with fail
      refine (atMostN true f1 f2 OK HT).mono ?_
      rintro e w5 ⟨rfl, h5⟩
      replace hR := hR.mono h5
      replace hX := hX.mono h5
      replace hY := hY.mono h5
      replace T := Add.trans T h5
      have k5 := h5
      clear h5 f1 f2 hT HT OK cv0 cv1 cv2 cu0 cu1 cu2
      have cv0 := hX.c0
      have cv1 := hX.c1
      have cv2 := hX.c2
      have cu0 := hY.c0
      have cu1 := hY.c1
      have cu2 := hY.c2
      go_wp2_with fail
      refine (CB.out _ k5).mono ?_
      rintro e w6 ⟨v6, rfl, ⟨a7, n7, k7, e7, d7, l7, a8, n8, k8, e8, d8, l8, rfl, x7, y7, x8, y8⟩, h6⟩
      replace hR := hR.mono h6
      replace T := Add.trans T h6
      clear h6 CB k5 hX hY cv0 cv1 cv2 cu0 cu1 cu2
      have hP := Box6.put hR s5 a7 n7 k7 e7 d7 l7 s6 a8 n8 k8 e8 d8 l8
      have hF := resB_put (w := w) (p := (((s5, N5, D5), (s6, N6, D6)), true)) hR (⟨a7, n7, k7, e7, d7, l7, a8, n8, k8, e8, d8, l8, rfl, x7, y7, x8, y8⟩) T (show w.heap.size ≤ w.heap.size + 2 by omega)
      obtain ⟨W7, hW7⟩ : ∃ W7, W7 = put6 (w6) (w.heap.size + 2) (.bool s5) (.slice a7 n7 k7) (.slice e7 d7 l7) (.bool s6) (.slice a8 n8 k8) (.slice e8 d8 l8) := ⟨_, rfl⟩
      rw [← hW7] at hP hF
      unfold put6 at hW7
      have HF := Lib.hid hF
      have HW := Lib.hid hW7
      have hr0 := hR.c0
      have hr1 := hR.c1
      have hr2 := hR.c2
      have hr3 := hR.c3
      have hr4 := hR.c4
      have hr5 := hR.c5
      have hr6 := hR.fr 0
      have hr7 := hR.fr 1
      have hr8 := hR.fr 2
      have hr9 := hR.fr 3
      have hr10 := hR.fr 4
      have hr11 := hR.fr 5
      clear hF hW7 hR T x7 y7 x8 y8
      go_wp2_with fail
      rw [← HW.out]
      exact bodyPost_ret (v := .tuple #[.agg #[.bool s5, .slice a7 n7 k7, .slice e7 d7 l7, .bool s6, .slice a8 n8 k8, .slice e8 d8 l8], .bool true]) (by simp [results, Tryz.results17, go_sem, hP.c0, hP.c1, hP.c2, hP.c3, hP.c4, hP.c5]) rfl HF.out
    · have HT : Hid (decide (qv xl ≤ qv xh) = false) := Lib.hid (by rw [q1, q2]; exact decide_eq_false c)
      have hpe : p = (zI, false) := by rw [← hp.out]; unfold meetI; rw [if_neg (fun g => c g.2.2)]
      subst hpe
      clear c q1 q2 o1 o2 hp FA FB
      have cv0 := hX.c0
      have cv1 := hX.c1
      have cv2 := hX.c2
      have cu0 := hY.c0
      have cu1 := hY.c1
      have cu2 := hY.c2
      go_wp2_with fail
      refine (atMostN false f1 f2 OK HT).mono ?_
      rintro e w5 ⟨rfl, h5⟩
      replace hR := hR.mono h5
      replace T := Add.trans T h5
      clear h5 f1 f2 hT HT OK hX hY cv0 cv1 cv2 cu0 cu1 cu2
      have hP := Box6.put hR false none 0 0 none 0 0 false none 0 0 none 0 0
      have hF := resB_put (w := w) (p := (zI, false)) hR (ivT_zero _) T (show w.heap.size ≤ w.heap.size + 2 by omega)
      obtain ⟨W7, hW7⟩ : ∃ W7, W7 = put6 (w5) (w.heap.size + 2) (.bool false) (.slice none 0 0) (.slice none 0 0) (.bool false) (.slice none 0 0) (.slice none 0 0) := ⟨_, rfl⟩
      rw [← hW7] at hP hF
      unfold put6 at hW7
      have HF := Lib.hid hF
      have HW := Lib.hid hW7
      have hbz := iv_zero
      have hr0 := hR.c0
      have hr1 := hR.c1
      have hr2 := hR.c2
      have hr3 := hR.c3
      have hr4 := hR.c4
      have hr5 := hR.c5
      have hr6 := hR.fr 0
      have hr7 := hR.fr 1
      have hr8 := hR.fr 2
      have hr9 := hR.fr 3
      have hr10 := hR.fr 4
      have hr11 := hR.fr 5
      clear hF hW7 hR T 
      go_wp2_with fail
      rw [← HW.out]
      exact bodyPost_ret (v := .tuple #[.agg #[.bool false, .slice none 0 0, .slice none 0 0, .bool false, .slice none 0 0, .slice none 0 0], .bool false]) (by simp [results, Tryz.results17, go_sem, hP.c0, hP.c1, hP.c2, hP.c3, hP.c4, hP.c5]) rfl HF.out
end Go.Proofs.YtifpfoeecnkhoaaGreatDoor

namespace Go.Proofs.YtifpfoeecnkhoaaGreatDoor
open Go.RowKit NatM Go.Proofs.YtifpfoeecnkhoaaGreatDoor.Api

set_option maxRecDepth 100000 in
set_option maxHeartbeats 2000000 in
theorem refAddIN_refuses {v v' : Value} {a b : Iv} {w : World} (ha : IvA w v a) (hb : IvA w v' b) (h : Hid (okI a = false ∨ okI b = false)) : Calls Tryz.prog 9 #[v, v'] w (ResI w (zI, 1)) := by
  have ha0 := ha
  have hb0 := hb
  obtain ⟨an, n, cn, ad, d, cd, an', n', cn', ad', d', cd', rfl, u1, u2, u3, u4⟩ := ha
  obtain ⟨an2, n2, cn2, ad2, d2, cd2, an3, n3, cn3, ad3, d3, cd3, rfl, q1, q2, q3, q4⟩ := hb
  have al : FracA w (.agg #[.bool a.1.1, .slice an n cn, .slice ad d cd]) a.1 := ⟨_, _, _, _, _, _, rfl, u1, u2⟩
  have ah : FracA w (.agg #[.bool a.2.1, .slice an' n' cn', .slice ad' d' cd']) a.2 := ⟨_, _, _, _, _, _, rfl, u3, u4⟩
  have bl : FracA w (.agg #[.bool b.1.1, .slice an2 n2 cn2, .slice ad2 d2 cd2]) b.1 := ⟨_, _, _, _, _, _, rfl, q1, q2⟩
  have bh : FracA w (.agg #[.bool b.2.1, .slice an3 n3 cn3, .slice ad3 d3 cd3]) b.2 := ⟨_, _, _, _, _, _, rfl, q3, q4⟩
  obtain ⟨T, hA, hB, hR⟩ := startII w a an n cn ad d cd an' n' cn' ad' d' cd' b an2 n2 cn2 ad2 d2 cd2 an3 n3 cn3 ad3 d3 cd3
  clear u1 u2 u3 u4 q1 q2 q3 q4
  replace ha0 := ha0.mono T
  replace hb0 := hb0.mono T
  replace al := al.mono T
  replace ah := ah.mono T
  replace bl := bl.mono T
  replace bh := bh.mono T
  clear al ah bl bh
  have ca0 := hA.c0
  have ca1 := hA.c1
  have ca2 := hA.c2
  have ca3 := hA.c3
  have ca4 := hA.c4
  have ca5 := hA.c5
  go_enter Tryz.func9, Tryz.ntmps9
  by_cases c : okI a = false
  · have FA := Lib.hid c
    clear c h
    go_wp2_with fail
    refine (refValidIN false ha0 FA).mono ?_
    rintro e w1 ⟨rfl, h1⟩
    replace hR := hR.mono h1
    replace T := Add.trans T h1
    clear h1 ha0 hb0 FA hA hB ca0 ca1 ca2 ca3 ca4 ca5
    have hP := Box6.put hR false none 0 0 none 0 0 false none 0 0 none 0 0
    have hF := resI_put (w := w) (p := (zI, 1)) hR (ivT_zero _) T (show w.heap.size ≤ w.heap.size + 2 by omega)
    obtain ⟨W7, hW7⟩ : ∃ W7, W7 = put6 (w1) (w.heap.size + 2) (.bool false) (.slice none 0 0) (.slice none 0 0) (.bool false) (.slice none 0 0) (.slice none 0 0) := ⟨_, rfl⟩
    rw [← hW7] at hP hF
    unfold put6 at hW7
    have HF := Lib.hid hF
    have HW := Lib.hid hW7
    have hbz := iv_zero
    have hr0 := hR.c0
    have hr1 := hR.c1
    have hr2 := hR.c2
    have hr3 := hR.c3
    have hr4 := hR.c4
    have hr5 := hR.c5
    have hr6 := hR.fr 0
    have hr7 := hR.fr 1
    have hr8 := hR.fr 2
    have hr9 := hR.fr 3
    have hr10 := hR.fr 4
    have hr11 := hR.fr 5
    clear hF hW7 hR T 
    go_wp2_with fail
    rw [← HW.out]
    exact bodyPost_ret (v := .tuple #[.agg #[.bool false, .slice none 0 0, .slice none 0 0, .bool false, .slice none 0 0, .slice none 0 0], .int .i64 1]) (by simp [results, Tryz.results9, go_sem, hP.c0, hP.c1, hP.c2, hP.c3, hP.c4, hP.c5]) rfl HF.out
  · have c2 : okI b = false := h.out.resolve_left c
    have c1 : okI a = true := by simpa using c
    have FA := Lib.hid c1
    have FB := Lib.hid c2
    clear c c1 c2 h
    go_wp2_with fail
    refine (refValidIN true ha0 FA).mono ?_
    rintro e w1 ⟨rfl, h1⟩
    replace hR := hR.mono h1
    replace hB := hB.mono h1
    replace hb0 := hb0.mono h1
    replace T := Add.trans T h1
    clear h1 ha0 FA hA ca0 ca1 ca2 ca3 ca4 ca5
    have cb0 := hB.c0
    have cb1 := hB.c1
    have cb2 := hB.c2
    have cb3 := hB.c3
    have cb4 := hB.c4
    have cb5 := hB.c5
    go_wp2_with fail
    refine (refValidIN false hb0 FB).mono ?_
    rintro e w2 ⟨rfl, h2⟩
    replace hR := hR.mono h2
    replace T := Add.trans T h2
    clear h2 hb0 FB hB cb0 cb1 cb2 cb3 cb4 cb5
    have hP := Box6.put hR false none 0 0 none 0 0 false none 0 0 none 0 0
    have hF := resI_put (w := w) (p := (zI, 1)) hR (ivT_zero _) T (show w.heap.size ≤ w.heap.size + 2 by omega)
    obtain ⟨W7, hW7⟩ : ∃ W7, W7 = put6 (w2) (w.heap.size + 2) (.bool false) (.slice none 0 0) (.slice none 0 0) (.bool false) (.slice none 0 0) (.slice none 0 0) := ⟨_, rfl⟩
    rw [← hW7] at hP hF
    unfold put6 at hW7
    have HF := Lib.hid hF
    have HW := Lib.hid hW7
    have hbz := iv_zero
    have hr0 := hR.c0
    have hr1 := hR.c1
    have hr2 := hR.c2
    have hr3 := hR.c3
    have hr4 := hR.c4
    have hr5 := hR.c5
    have hr6 := hR.fr 0
    have hr7 := hR.fr 1
    have hr8 := hR.fr 2
    have hr9 := hR.fr 3
    have hr10 := hR.fr 4
    have hr11 := hR.fr 5
    clear hF hW7 hR T 
    go_wp2_with fail
    rw [← HW.out]
    exact bodyPost_ret (v := .tuple #[.agg #[.bool false, .slice none 0 0, .slice none 0 0, .bool false, .slice none 0 0, .slice none 0 0], .int .i64 1]) (by simp [results, Tryz.results9, go_sem, hP.c0, hP.c1, hP.c2, hP.c3, hP.c4, hP.c5]) rfl HF.out
set_option maxRecDepth 100000 in
set_option maxHeartbeats 2000000 in
theorem refAddIN_works (s1 : Bool) (N1 D1 : Nat) (s2 : Bool) (N2 D2 : Nat) {v v' : Value} {a b : Iv} {w : World} (ha : IvA w v a) (hb : IvA w v' b) (h : Hid (okI a = true ∧ okI b = true)) (g1 : Hid (addF a.1 b.1 = ((s1, N1, D1), 0))) (g2 : Hid (addF a.2 b.2 = ((s2, N2, D2), 0))) : Calls Tryz.prog 9 #[v, v'] w (ResI w (((s1, N1, D1), (s2, N2, D2)), 0)) := by
  have ha0 := ha
  have hb0 := hb
  obtain ⟨an, n, cn, ad, d, cd, an', n', cn', ad', d', cd', rfl, u1, u2, u3, u4⟩ := ha
  obtain ⟨an2, n2, cn2, ad2, d2, cd2, an3, n3, cn3, ad3, d3, cd3, rfl, q1, q2, q3, q4⟩ := hb
  have al : FracA w (.agg #[.bool a.1.1, .slice an n cn, .slice ad d cd]) a.1 := ⟨_, _, _, _, _, _, rfl, u1, u2⟩
  have ah : FracA w (.agg #[.bool a.2.1, .slice an' n' cn', .slice ad' d' cd']) a.2 := ⟨_, _, _, _, _, _, rfl, u3, u4⟩
  have bl : FracA w (.agg #[.bool b.1.1, .slice an2 n2 cn2, .slice ad2 d2 cd2]) b.1 := ⟨_, _, _, _, _, _, rfl, q1, q2⟩
  have bh : FracA w (.agg #[.bool b.2.1, .slice an3 n3 cn3, .slice ad3 d3 cd3]) b.2 := ⟨_, _, _, _, _, _, rfl, q3, q4⟩
  obtain ⟨T, hA, hB, hR⟩ := startII w a an n cn ad d cd an' n' cn' ad' d' cd' b an2 n2 cn2 ad2 d2 cd2 an3 n3 cn3 ad3 d3 cd3
  clear u1 u2 u3 u4 q1 q2 q3 q4
  replace ha0 := ha0.mono T
  replace hb0 := hb0.mono T
  replace al := al.mono T
  replace ah := ah.mono T
  replace bl := bl.mono T
  replace bh := bh.mono T
  have FA := Lib.hid h.out.1
  have FB := Lib.hid h.out.2
  clear h
  have ca0 := hA.c0
  have ca1 := hA.c1
  have ca2 := hA.c2
  have ca3 := hA.c3
  have ca4 := hA.c4
  have ca5 := hA.c5
  go_enter Tryz.func9, Tryz.ntmps9
  go_wp2_with fail
  refine (refValidIN true ha0 FA).mono ?_
  rintro e w1 ⟨rfl, h1⟩
  replace hA := hA.mono h1
  replace hB := hB.mono h1
  replace hR := hR.mono h1
  replace al := al.mono h1
  replace ah := ah.mono h1
  replace bl := bl.mono h1
  replace bh := bh.mono h1
  replace hb0 := hb0.mono h1
  replace T := Add.trans T h1
  clear h1 ha0 FA ca0 ca1 ca2 ca3 ca4 ca5
  have cb0 := hB.c0
  have cb1 := hB.c1
  have cb2 := hB.c2
  have cb3 := hB.c3
  have cb4 := hB.c4
  have cb5 := hB.c5
  go_wp2_with fail
  refine (refValidIN true hb0 FB).mono ?_
  rintro e w2 ⟨rfl, h2⟩
  replace hA := hA.mono h2
  replace hB := hB.mono h2
  replace hR := hR.mono h2
  replace al := al.mono h2
  replace ah := ah.mono h2
  replace bl := bl.mono h2
  replace bh := bh.mono h2
  replace T := Add.trans T h2
  clear h2 hb0 FB cb0 cb1 cb2 cb3 cb4 cb5
  have ca0 := hA.c0
  have ca1 := hA.c1
  have ca2 := hA.c2
  have ca3 := hA.c3
  have ca4 := hA.c4
  have ca5 := hA.c5
  have cb0 := hB.c0
  have cb1 := hB.c1
  have cb2 := hB.c2
  have cb3 := hB.c3
  have cb4 := hB.c4
  have cb5 := hB.c5
  go_wp2_with fail
  refine ((refAddN2 _ al bl g1).mono fun _ _ g => g.ok).mono ?_
  rintro e w3 ⟨a1, n1, k1, e1, d1, l1, rfl, x1, y1, h3⟩
  replace hA := hA.mono h3
  replace hB := hB.mono h3
  replace hR := hR.mono h3
  replace ah := ah.mono h3
  replace bh := bh.mono h3
  replace T := Add.trans T h3
  clear h3 al bl g1 ca0 ca1 ca2 ca3 ca4 ca5 cb0 cb1 cb2 cb3 cb4 cb5
  obtain ⟨tt, hV⟩ := laid_var w3 s1 a1 n1 k1 e1 d1 l1
  replace hA := hA.mono tt
  replace hB := hB.mono tt
  replace hR := hR.mono tt
  replace ah := ah.mono tt
  replace bh := bh.mono tt
  replace x1 := x1.mono tt
  replace y1 := y1.mono tt
  replace T := Add.trans T tt
  clear tt
  have ca0 := hA.c0
  have ca1 := hA.c1
  have ca2 := hA.c2
  have ca3 := hA.c3
  have ca4 := hA.c4
  have ca5 := hA.c5
  have cb0 := hB.c0
  have cb1 := hB.c1
  have cb2 := hB.c2
  have cb3 := hB.c3
  have cb4 := hB.c4
  have cb5 := hB.c5
  go_wp2_with fail
  refine ((refAddN2 _ ah bh g2).mono fun _ _ g => g.ok).mono ?_
  rintro e w4 ⟨a2, m2, k2, e2, d4, l2, rfl, x2, y2, h4⟩
  replace hR := hR.mono h4
  replace hV := hV.mono h4
  replace x1 := x1.mono h4
  replace y1 := y1.mono h4
  replace T := Add.trans T h4
  clear h4 ah bh g2 hA hB ca0 ca1 ca2 ca3 ca4 ca5 cb0 cb1 cb2 cb3 cb4 cb5
  obtain ⟨tt, hU⟩ := laid_var w4 s2 a2 m2 k2 e2 d4 l2
  replace hR := hR.mono tt
  replace hV := hV.mono tt
  replace x1 := x1.mono tt
  replace y1 := y1.mono tt
  replace x2 := x2.mono tt
  replace y2 := y2.mono tt
  replace T := Add.trans T tt
  clear tt
  have cv0 := hV.c0
  have cv1 := hV.c1
  have cv2 := hV.c2
  have cu0 := hU.c0
  have cu1 := hU.c1
  have cu2 := hU.c2
  have CC := Lib.hid (pairN_ok (x := (s1, N1, D1)) (y := (s2, N2, D2)) ⟨a1, n1, k1, e1, d1, l1, rfl, x1, y1⟩ ⟨a2, m2, k2, e2, d4, l2, rfl, x2, y2⟩)
  clear x1 y1 x2 y2
  go_wp2_with fail
  refine (CC.out.mono fun _ _ g => g.ok).mono ?_
  rintro e w5 ⟨a5, n5, k5, e5, d5, l5, a6, n6, k6, e6, d6, l6, rfl, x5, y5, x6, y6, h5⟩
  replace hR := hR.mono h5
  replace T := Add.trans T h5
  clear h5 CC hV hU cv0 cv1 cv2 cu0 cu1 cu2
  have hP := Box6.put hR s1 a5 n5 k5 e5 d5 l5 s2 a6 n6 k6 e6 d6 l6
  have hF := resI_put (w := w) (p := (((s1, N1, D1), (s2, N2, D2)), 0)) hR (⟨a5, n5, k5, e5, d5, l5, a6, n6, k6, e6, d6, l6, rfl, x5, y5, x6, y6⟩) T (show w.heap.size ≤ w.heap.size + 2 by omega)
  obtain ⟨W7, hW7⟩ : ∃ W7, W7 = put6 (w5) (w.heap.size + 2) (.bool s1) (.slice a5 n5 k5) (.slice e5 d5 l5) (.bool s2) (.slice a6 n6 k6) (.slice e6 d6 l6) := ⟨_, rfl⟩
  rw [← hW7] at hP hF
  unfold put6 at hW7
  have HF := Lib.hid hF
  have HW := Lib.hid hW7
  have hr0 := hR.c0
  have hr1 := hR.c1
  have hr2 := hR.c2
  have hr3 := hR.c3
  have hr4 := hR.c4
  have hr5 := hR.c5
  have hr6 := hR.fr 0
  have hr7 := hR.fr 1
  have hr8 := hR.fr 2
  have hr9 := hR.fr 3
  have hr10 := hR.fr 4
  have hr11 := hR.fr 5
  clear hF hW7 hR T x5 y5 x6 y6
  go_wp2_with fail
  rw [← HW.out]
  exact bodyPost_ret (v := .tuple #[.agg #[.bool s1, .slice a5 n5 k5, .slice e5 d5 l5, .bool s2, .slice a6 n6 k6, .slice e6 d6 l6], .int .i64 0]) (by simp [results, Tryz.results9, go_sem, hP.c0, hP.c1, hP.c2, hP.c3, hP.c4, hP.c5]) rfl HF.out
set_option maxRecDepth 100000 in
set_option maxHeartbeats 2000000 in
theorem refSubIN_refuses {v v' : Value} {a b : Iv} {w : World} (ha : IvA w v a) (hb : IvA w v' b) (h : Hid (okI a = false ∨ okI b = false)) : Calls Tryz.prog 12 #[v, v'] w (ResI w (zI, 1)) := by
  have ha0 := ha
  have hb0 := hb
  obtain ⟨an, n, cn, ad, d, cd, an', n', cn', ad', d', cd', rfl, u1, u2, u3, u4⟩ := ha
  obtain ⟨an2, n2, cn2, ad2, d2, cd2, an3, n3, cn3, ad3, d3, cd3, rfl, q1, q2, q3, q4⟩ := hb
  have al : FracA w (.agg #[.bool a.1.1, .slice an n cn, .slice ad d cd]) a.1 := ⟨_, _, _, _, _, _, rfl, u1, u2⟩
  have ah : FracA w (.agg #[.bool a.2.1, .slice an' n' cn', .slice ad' d' cd']) a.2 := ⟨_, _, _, _, _, _, rfl, u3, u4⟩
  have bl : FracA w (.agg #[.bool b.1.1, .slice an2 n2 cn2, .slice ad2 d2 cd2]) b.1 := ⟨_, _, _, _, _, _, rfl, q1, q2⟩
  have bh : FracA w (.agg #[.bool b.2.1, .slice an3 n3 cn3, .slice ad3 d3 cd3]) b.2 := ⟨_, _, _, _, _, _, rfl, q3, q4⟩
  obtain ⟨T, hA, hB, hR⟩ := startII w a an n cn ad d cd an' n' cn' ad' d' cd' b an2 n2 cn2 ad2 d2 cd2 an3 n3 cn3 ad3 d3 cd3
  clear u1 u2 u3 u4 q1 q2 q3 q4
  replace ha0 := ha0.mono T
  replace hb0 := hb0.mono T
  replace al := al.mono T
  replace ah := ah.mono T
  replace bl := bl.mono T
  replace bh := bh.mono T
  clear al ah bl bh
  have ca0 := hA.c0
  have ca1 := hA.c1
  have ca2 := hA.c2
  have ca3 := hA.c3
  have ca4 := hA.c4
  have ca5 := hA.c5
  go_enter Tryz.func12, Tryz.ntmps12
  by_cases c : okI a = false
  · have FA := Lib.hid c
    clear c h
    go_wp2_with fail
    refine (refValidIN false ha0 FA).mono ?_
    rintro e w1 ⟨rfl, h1⟩
    replace hR := hR.mono h1
    replace T := Add.trans T h1
    clear h1 ha0 hb0 FA hA hB ca0 ca1 ca2 ca3 ca4 ca5
    have hP := Box6.put hR false none 0 0 none 0 0 false none 0 0 none 0 0
    have hF := resI_put (w := w) (p := (zI, 1)) hR (ivT_zero _) T (show w.heap.size ≤ w.heap.size + 2 by omega)
    obtain ⟨W7, hW7⟩ : ∃ W7, W7 = put6 (w1) (w.heap.size + 2) (.bool false) (.slice none 0 0) (.slice none 0 0) (.bool false) (.slice none 0 0) (.slice none 0 0) := ⟨_, rfl⟩
    rw [← hW7] at hP hF
    unfold put6 at hW7
    have HF := Lib.hid hF
    have HW := Lib.hid hW7
    have hbz := iv_zero
    have hr0 := hR.c0
    have hr1 := hR.c1
    have hr2 := hR.c2
    have hr3 := hR.c3
    have hr4 := hR.c4
    have hr5 := hR.c5
    have hr6 := hR.fr 0
    have hr7 := hR.fr 1
    have hr8 := hR.fr 2
    have hr9 := hR.fr 3
    have hr10 := hR.fr 4
    have hr11 := hR.fr 5
    clear hF hW7 hR T 
    go_wp2_with fail
    rw [← HW.out]
    exact bodyPost_ret (v := .tuple #[.agg #[.bool false, .slice none 0 0, .slice none 0 0, .bool false, .slice none 0 0, .slice none 0 0], .int .i64 1]) (by simp [results, Tryz.results12, go_sem, hP.c0, hP.c1, hP.c2, hP.c3, hP.c4, hP.c5]) rfl HF.out
  · have c2 : okI b = false := h.out.resolve_left c
    have c1 : okI a = true := by simpa using c
    have FA := Lib.hid c1
    have FB := Lib.hid c2
    clear c c1 c2 h
    go_wp2_with fail
    refine (refValidIN true ha0 FA).mono ?_
    rintro e w1 ⟨rfl, h1⟩
    replace hR := hR.mono h1
    replace hB := hB.mono h1
    replace hb0 := hb0.mono h1
    replace T := Add.trans T h1
    clear h1 ha0 FA hA ca0 ca1 ca2 ca3 ca4 ca5
    have cb0 := hB.c0
    have cb1 := hB.c1
    have cb2 := hB.c2
    have cb3 := hB.c3
    have cb4 := hB.c4
    have cb5 := hB.c5
    go_wp2_with fail
    refine (refValidIN false hb0 FB).mono ?_
    rintro e w2 ⟨rfl, h2⟩
    replace hR := hR.mono h2
    replace T := Add.trans T h2
    clear h2 hb0 FB hB cb0 cb1 cb2 cb3 cb4 cb5
    have hP := Box6.put hR false none 0 0 none 0 0 false none 0 0 none 0 0
    have hF := resI_put (w := w) (p := (zI, 1)) hR (ivT_zero _) T (show w.heap.size ≤ w.heap.size + 2 by omega)
    obtain ⟨W7, hW7⟩ : ∃ W7, W7 = put6 (w2) (w.heap.size + 2) (.bool false) (.slice none 0 0) (.slice none 0 0) (.bool false) (.slice none 0 0) (.slice none 0 0) := ⟨_, rfl⟩
    rw [← hW7] at hP hF
    unfold put6 at hW7
    have HF := Lib.hid hF
    have HW := Lib.hid hW7
    have hbz := iv_zero
    have hr0 := hR.c0
    have hr1 := hR.c1
    have hr2 := hR.c2
    have hr3 := hR.c3
    have hr4 := hR.c4
    have hr5 := hR.c5
    have hr6 := hR.fr 0
    have hr7 := hR.fr 1
    have hr8 := hR.fr 2
    have hr9 := hR.fr 3
    have hr10 := hR.fr 4
    have hr11 := hR.fr 5
    clear hF hW7 hR T 
    go_wp2_with fail
    rw [← HW.out]
    exact bodyPost_ret (v := .tuple #[.agg #[.bool false, .slice none 0 0, .slice none 0 0, .bool false, .slice none 0 0, .slice none 0 0], .int .i64 1]) (by simp [results, Tryz.results12, go_sem, hP.c0, hP.c1, hP.c2, hP.c3, hP.c4, hP.c5]) rfl HF.out
set_option maxRecDepth 100000 in
set_option maxHeartbeats 2000000 in
theorem refSubIN_works (s1 : Bool) (N1 D1 : Nat) (s2 : Bool) (N2 D2 : Nat) {v v' : Value} {a b : Iv} {w : World} (ha : IvA w v a) (hb : IvA w v' b) (h : Hid (okI a = true ∧ okI b = true)) (g1 : Hid (subF a.1 b.2 = ((s1, N1, D1), 0))) (g2 : Hid (subF a.2 b.1 = ((s2, N2, D2), 0))) : Calls Tryz.prog 12 #[v, v'] w (ResI w (((s1, N1, D1), (s2, N2, D2)), 0)) := by
  have ha0 := ha
  have hb0 := hb
  obtain ⟨an, n, cn, ad, d, cd, an', n', cn', ad', d', cd', rfl, u1, u2, u3, u4⟩ := ha
  obtain ⟨an2, n2, cn2, ad2, d2, cd2, an3, n3, cn3, ad3, d3, cd3, rfl, q1, q2, q3, q4⟩ := hb
  have al : FracA w (.agg #[.bool a.1.1, .slice an n cn, .slice ad d cd]) a.1 := ⟨_, _, _, _, _, _, rfl, u1, u2⟩
  have ah : FracA w (.agg #[.bool a.2.1, .slice an' n' cn', .slice ad' d' cd']) a.2 := ⟨_, _, _, _, _, _, rfl, u3, u4⟩
  have bl : FracA w (.agg #[.bool b.1.1, .slice an2 n2 cn2, .slice ad2 d2 cd2]) b.1 := ⟨_, _, _, _, _, _, rfl, q1, q2⟩
  have bh : FracA w (.agg #[.bool b.2.1, .slice an3 n3 cn3, .slice ad3 d3 cd3]) b.2 := ⟨_, _, _, _, _, _, rfl, q3, q4⟩
  obtain ⟨T, hA, hB, hR⟩ := startII w a an n cn ad d cd an' n' cn' ad' d' cd' b an2 n2 cn2 ad2 d2 cd2 an3 n3 cn3 ad3 d3 cd3
  clear u1 u2 u3 u4 q1 q2 q3 q4
  replace ha0 := ha0.mono T
  replace hb0 := hb0.mono T
  replace al := al.mono T
  replace ah := ah.mono T
  replace bl := bl.mono T
  replace bh := bh.mono T
  have FA := Lib.hid h.out.1
  have FB := Lib.hid h.out.2
  clear h
  have ca0 := hA.c0
  have ca1 := hA.c1
  have ca2 := hA.c2
  have ca3 := hA.c3
  have ca4 := hA.c4
  have ca5 := hA.c5
  go_enter Tryz.func12, Tryz.ntmps12
  go_wp2_with fail
  refine (refValidIN true ha0 FA).mono ?_
  rintro e w1 ⟨rfl, h1⟩
  replace hA := hA.mono h1
  replace hB := hB.mono h1
  replace hR := hR.mono h1
  replace al := al.mono h1
  replace ah := ah.mono h1
  replace bl := bl.mono h1
  replace bh := bh.mono h1
  replace hb0 := hb0.mono h1
  replace T := Add.trans T h1
  clear h1 ha0 FA ca0 ca1 ca2 ca3 ca4 ca5
  have cb0 := hB.c0
  have cb1 := hB.c1
  have cb2 := hB.c2
  have cb3 := hB.c3
  have cb4 := hB.c4
  have cb5 := hB.c5
  go_wp2_with fail
  refine (refValidIN true hb0 FB).mono ?_
  rintro e w2 ⟨rfl, h2⟩
  replace hA := hA.mono h2
  replace hB := hB.mono h2
  replace hR := hR.mono h2
  replace al := al.mono h2
  replace ah := ah.mono h2
  replace bl := bl.mono h2
  replace bh := bh.mono h2
  replace T := Add.trans T h2
  clear h2 hb0 FB cb0 cb1 cb2 cb3 cb4 cb5
  have ca0 := hA.c0
  have ca1 := hA.c1
  have ca2 := hA.c2
  have ca3 := hA.c3
  have ca4 := hA.c4
  have ca5 := hA.c5
  have cb0 := hB.c0
  have cb1 := hB.c1
  have cb2 := hB.c2
  have cb3 := hB.c3
  have cb4 := hB.c4
  have cb5 := hB.c5
  go_wp2_with fail
  refine ((refSubN2 _ al bh g1).mono fun _ _ g => g.ok).mono ?_
  rintro e w3 ⟨a1, n1, k1, e1, d1, l1, rfl, x1, y1, h3⟩
  replace hA := hA.mono h3
  replace hB := hB.mono h3
  replace hR := hR.mono h3
  replace ah := ah.mono h3
  replace bl := bl.mono h3
  replace T := Add.trans T h3
  clear h3 al bh g1 ca0 ca1 ca2 ca3 ca4 ca5 cb0 cb1 cb2 cb3 cb4 cb5
  obtain ⟨tt, hV⟩ := laid_var w3 s1 a1 n1 k1 e1 d1 l1
  replace hA := hA.mono tt
  replace hB := hB.mono tt
  replace hR := hR.mono tt
  replace ah := ah.mono tt
  replace bl := bl.mono tt
  replace x1 := x1.mono tt
  replace y1 := y1.mono tt
  replace T := Add.trans T tt
  clear tt
  have ca0 := hA.c0
  have ca1 := hA.c1
  have ca2 := hA.c2
  have ca3 := hA.c3
  have ca4 := hA.c4
  have ca5 := hA.c5
  have cb0 := hB.c0
  have cb1 := hB.c1
  have cb2 := hB.c2
  have cb3 := hB.c3
  have cb4 := hB.c4
  have cb5 := hB.c5
  go_wp2_with fail
  refine ((refSubN2 _ ah bl g2).mono fun _ _ g => g.ok).mono ?_
  rintro e w4 ⟨a2, m2, k2, e2, d4, l2, rfl, x2, y2, h4⟩
  replace hR := hR.mono h4
  replace hV := hV.mono h4
  replace x1 := x1.mono h4
  replace y1 := y1.mono h4
  replace T := Add.trans T h4
  clear h4 ah bl g2 hA hB ca0 ca1 ca2 ca3 ca4 ca5 cb0 cb1 cb2 cb3 cb4 cb5
  obtain ⟨tt, hU⟩ := laid_var w4 s2 a2 m2 k2 e2 d4 l2
  replace hR := hR.mono tt
  replace hV := hV.mono tt
  replace x1 := x1.mono tt
  replace y1 := y1.mono tt
  replace x2 := x2.mono tt
  replace y2 := y2.mono tt
  replace T := Add.trans T tt
  clear tt
  have cv0 := hV.c0
  have cv1 := hV.c1
  have cv2 := hV.c2
  have cu0 := hU.c0
  have cu1 := hU.c1
  have cu2 := hU.c2
  have CC := Lib.hid (pairN_ok (x := (s1, N1, D1)) (y := (s2, N2, D2)) ⟨a1, n1, k1, e1, d1, l1, rfl, x1, y1⟩ ⟨a2, m2, k2, e2, d4, l2, rfl, x2, y2⟩)
  clear x1 y1 x2 y2
  go_wp2_with fail
  refine (CC.out.mono fun _ _ g => g.ok).mono ?_
  rintro e w5 ⟨a5, n5, k5, e5, d5, l5, a6, n6, k6, e6, d6, l6, rfl, x5, y5, x6, y6, h5⟩
  replace hR := hR.mono h5
  replace T := Add.trans T h5
  clear h5 CC hV hU cv0 cv1 cv2 cu0 cu1 cu2
  have hP := Box6.put hR s1 a5 n5 k5 e5 d5 l5 s2 a6 n6 k6 e6 d6 l6
  have hF := resI_put (w := w) (p := (((s1, N1, D1), (s2, N2, D2)), 0)) hR (⟨a5, n5, k5, e5, d5, l5, a6, n6, k6, e6, d6, l6, rfl, x5, y5, x6, y6⟩) T (show w.heap.size ≤ w.heap.size + 2 by omega)
  obtain ⟨W7, hW7⟩ : ∃ W7, W7 = put6 (w5) (w.heap.size + 2) (.bool s1) (.slice a5 n5 k5) (.slice e5 d5 l5) (.bool s2) (.slice a6 n6 k6) (.slice e6 d6 l6) := ⟨_, rfl⟩
  rw [← hW7] at hP hF
  unfold put6 at hW7
  have HF := Lib.hid hF
  have HW := Lib.hid hW7
  have hr0 := hR.c0
  have hr1 := hR.c1
  have hr2 := hR.c2
  have hr3 := hR.c3
  have hr4 := hR.c4
  have hr5 := hR.c5
  have hr6 := hR.fr 0
  have hr7 := hR.fr 1
  have hr8 := hR.fr 2
  have hr9 := hR.fr 3
  have hr10 := hR.fr 4
  have hr11 := hR.fr 5
  clear hF hW7 hR T x5 y5 x6 y6
  go_wp2_with fail
  rw [← HW.out]
  exact bodyPost_ret (v := .tuple #[.agg #[.bool s1, .slice a5 n5 k5, .slice e5 d5 l5, .bool s2, .slice a6 n6 k6, .slice e6 d6 l6], .int .i64 0]) (by simp [results, Tryz.results12, go_sem, hP.c0, hP.c1, hP.c2, hP.c3, hP.c4, hP.c5]) rfl HF.out
set_option maxRecDepth 100000 in
set_option maxHeartbeats 2000000 in
theorem refContainsN (t : Bool) {v v' : Value} {a : Iv} {x : Tri} {w : World} (ha : IvA w v a) (hx : FracA w v' x) (ht : Hid (inI a x = t)) : Calls Tryz.prog 27 #[v, v'] w (BoolIs w t) := by
  have ha0 := ha
  have hx0 := hx
  obtain ⟨an, n, cn, ad, d, cd, an', n', cn', ad', d', cd', rfl, u1, u2, u3, u4⟩ := ha
  have al : FracA w (.agg #[.bool a.1.1, .slice an n cn, .slice ad d cd]) a.1 := ⟨_, _, _, _, _, _, rfl, u1, u2⟩
  have ah : FracA w (.agg #[.bool a.2.1, .slice an' n' cn', .slice ad' d' cd']) a.2 := ⟨_, _, _, _, _, _, rfl, u3, u4⟩
  obtain ⟨an4, n4, cn4, ad4, d4, cd4, rfl, u5, u6⟩ := hx
  obtain ⟨T, hA, hX⟩ := startI1 w a.1.1 an n cn ad d cd a.2.1 an' n' cn' ad' d' cd' x.1 an4 n4 cn4 ad4 d4 cd4
  clear u1 u2 u3 u4 u5 u6
  replace ha0 := ha0.mono T
  replace hx0 := hx0.mono T
  replace al := al.mono T
  replace ah := ah.mono T
  have ca0 := hA.c0
  have ca1 := hA.c1
  have ca2 := hA.c2
  have ca3 := hA.c3
  have ca4 := hA.c4
  have ca5 := hA.c5
  go_enter Tryz.func27, Tryz.ntmps27
  by_cases c : okI a = true
  · have FA := Lib.hid c
    have oi := okI_iff.1 c
    go_wp2_with fail
    refine (refValidIN true ha0 FA).mono ?_
    rintro e w1 ⟨rfl, h1⟩
    replace hA := hA.mono h1
    replace hX := hX.mono h1
    replace al := al.mono h1
    replace ah := ah.mono h1
    replace hx0 := hx0.mono h1
    replace T := Add.trans T h1
    clear h1 ha0 ca0 ca1 ca2 ca3 ca4 ca5
    have cx0 := hX.c0
    have cx1 := hX.c1
    have cx2 := hX.c2
    by_cases c2 : okF x = true
    · have FX := Lib.hid c2
      have H1 : Hid (okF a.1 = true ∧ okF x = true) := Lib.hid ⟨oi.1, c2⟩
      have H2 : Hid (okF x = true ∧ okF a.2 = true) := Lib.hid ⟨c2, oi.2.1⟩
      obtain ⟨i, hi⟩ : ∃ i, cmpQ (qv a.1) (qv x) = i := ⟨_, rfl⟩
      obtain ⟨j, hj⟩ : ∃ i, cmpQ (qv x) (qv a.2) = i := ⟨_, rfl⟩
      have HI := Lib.hid hi
      have HJ := Lib.hid hj
      have et : decide (qv a.1 ≤ qv x ∧ qv x ≤ qv a.2) = t := by rw [← ht.out]; unfold inI; rw [c, c2]; rfl
      clear c c2 oi ht
      go_wp2_with fail
      refine (refValidN true hx0 FX).mono ?_
      rintro e w2 ⟨rfl, h2⟩
      replace hA := hA.mono h2
      replace hX := hX.mono h2
      replace al := al.mono h2
      replace ah := ah.mono h2
      replace hx0 := hx0.mono h2
      replace T := Add.trans T h2
      clear h2 FX cx0 cx1 cx2
      have ca0 := hA.c0
      have ca1 := hA.c1
      have ca2 := hA.c2
      have cx0 := hX.c0
      have cx1 := hX.c1
      have cx2 := hX.c2
      by_cases c3 : i ≤ 0
      · have di : decide (i ≤ 0) = true := decide_eq_true c3
        have dj : decide (j ≤ 0) = t := by
          rw [← et, decide_eq_decide, ← hj, cmpQ_le]
          exact ⟨fun g => ⟨cmpQ_le.1 (hi ▸ c3), g⟩, fun g => g.2⟩
        clear c3 et hi hj
        go_wp2_with fail
        refine (orderN i al hx0 H1 HI).mono ?_
        rintro e w3 ⟨rfl, h3⟩
        replace hA := hA.mono h3
        replace hX := hX.mono h3
        replace ah := ah.mono h3
        replace hx0 := hx0.mono h3
        replace T := Add.trans T h3
        clear h3 al H1 HI cx0 cx1 cx2 ca0 ca1 ca2
        have ca3 := hA.c3
        have ca4 := hA.c4
        have ca5 := hA.c5
        have cx0 := hX.c0
        have cx1 := hX.c1
        have cx2 := hX.c2
        go_wp2_with fail
        refine (orderN j hx0 ah H2 HJ).mono ?_
        rintro e w4 ⟨rfl, h4⟩
        replace T := Add.trans T h4
        clear h4 ah hx0 hA hX H2 HJ cx0 cx1 cx2 ca3 ca4 ca5
        go_wp2_with fail
        go_ret
        exact ⟨rfl, T⟩
      · have di : decide (i ≤ 0) = false := decide_eq_false c3
        have e : t = false := by
          rw [← et, decide_eq_false_iff_not]
          exact fun g => c3 (hi ▸ cmpQ_le.2 g.1)
        subst e
        clear c3 et hi hj
        go_wp2_with fail
        refine (orderN i al hx0 H1 HI).mono ?_
        rintro e w3 ⟨rfl, h3⟩
        replace T := Add.trans T h3
        clear h3 al ah hx0 hA hX H1 HI H2 HJ cx0 cx1 cx2 ca0 ca1 ca2
        go_wp2_with fail
        go_ret
        exact ⟨rfl, T⟩
    · have FX : Hid (okF x = false) := Lib.hid (by simpa using c2)
      have e : t = false := by rw [← ht.out]; unfold inI; rw [FX.out]; simp
      subst e
      clear c c2 oi ht
      go_wp2_with fail
      refine (refValidN false hx0 FX).mono ?_
      rintro e w2 ⟨rfl, h2⟩
      replace T := Add.trans T h2
      clear h2 FX hA hX al ah hx0 cx0 cx1 cx2
      go_wp2_with fail
      go_ret
      exact ⟨rfl, T⟩
  · have FA : Hid (okI a = false) := Lib.hid (by simpa using c)
    have e : t = false := by rw [← ht.out]; unfold inI; rw [FA.out]; simp
    subst e
    clear c ht
    go_wp2_with fail
    refine (refValidIN false ha0 FA).mono ?_
    rintro e w1 ⟨rfl, h1⟩
    replace T := Add.trans T h1
    clear h1 FA hA hX al ah ha0 hx0 ca0 ca1 ca2 ca3 ca4 ca5
    go_wp2_with fail
    go_ret
    exact ⟨rfl, T⟩
end Go.Proofs.YtifpfoeecnkhoaaGreatDoor

namespace Go.Proofs.YtifpfoeecnkhoaaGreatDoor
open Go.RowKit NatM Go.Proofs.YtifpfoeecnkhoaaGreatDoor.Api

set_option maxRecDepth 100000 in
set_option maxHeartbeats 2000000 in
theorem refInsideN (t : Bool) {v v' : Value} {a b : Iv} {w : World} (ha : IvA w v a) (hb : IvA w v' b) (ht : Hid (subsI a b = t)) : Calls Tryz.prog 29 #[v, v'] w (BoolIs w t) := by
  have ha0 := ha
  have hb0 := hb
  obtain ⟨an, n, cn, ad, d, cd, an', n', cn', ad', d', cd', rfl, u1, u2, u3, u4⟩ := ha
  obtain ⟨an2, n2, cn2, ad2, d2, cd2, an3, n3, cn3, ad3, d3, cd3, rfl, q1, q2, q3, q4⟩ := hb
  have al : FracA w (.agg #[.bool a.1.1, .slice an n cn, .slice ad d cd]) a.1 := ⟨_, _, _, _, _, _, rfl, u1, u2⟩
  have ah : FracA w (.agg #[.bool a.2.1, .slice an' n' cn', .slice ad' d' cd']) a.2 := ⟨_, _, _, _, _, _, rfl, u3, u4⟩
  have bl : FracA w (.agg #[.bool b.1.1, .slice an2 n2 cn2, .slice ad2 d2 cd2]) b.1 := ⟨_, _, _, _, _, _, rfl, q1, q2⟩
  have bh : FracA w (.agg #[.bool b.2.1, .slice an3 n3 cn3, .slice ad3 d3 cd3]) b.2 := ⟨_, _, _, _, _, _, rfl, q3, q4⟩
  obtain ⟨T, hA, hB⟩ := startAB w a an n cn ad d cd an' n' cn' ad' d' cd' b an2 n2 cn2 ad2 d2 cd2 an3 n3 cn3 ad3 d3 cd3
  clear u1 u2 u3 u4 q1 q2 q3 q4
  replace ha0 := ha0.mono T
  replace hb0 := hb0.mono T
  replace al := al.mono T
  replace ah := ah.mono T
  replace bl := bl.mono T
  replace bh := bh.mono T
  clear bl bh
  have ca0 := hA.c0
  have ca1 := hA.c1
  have ca2 := hA.c2
  have ca3 := hA.c3
  have ca4 := hA.c4
  have ca5 := hA.c5
  go_enter Tryz.func29, Tryz.ntmps29
  obtain ⟨t1, ht1⟩ : ∃ t, inI b a.1 = t := ⟨_, rfl⟩
  obtain ⟨t2, ht2⟩ : ∃ t, inI b a.2 = t := ⟨_, rfl⟩
  have H1 := Lib.hid ht1
  have H2 := Lib.hid ht2
  have key : okI a = true → (subsI a b = (t1 && t2)) := fun o => by
    have oi := okI_iff.1 o
    rw [← ht1, ← ht2]
    unfold subsI inI
    rw [o, oi.1, oi.2.1]
    cases okI b
    · rfl
    · simp only [Bool.true_and, ← Bool.decide_and]
      rw [decide_eq_decide]
      exact ⟨fun g => ⟨⟨g.1, Rat.le_trans oi.2.2 g.2⟩, Rat.le_trans g.1 oi.2.2, g.2⟩, fun g => ⟨g.1.1, g.2.2⟩⟩
  by_cases c : okI a = true
  · have FA := Lib.hid c
    have et : (t1 && t2) = t := by rw [← ht.out, key c]
    clear c key ht1 ht2 ht
    go_wp2_with fail
    refine (refValidIN true ha0 FA).mono ?_
    rintro e w1 ⟨rfl, h1⟩
    replace hA := hA.mono h1
    replace hB := hB.mono h1
    replace al := al.mono h1
    replace ah := ah.mono h1
    replace hb0 := hb0.mono h1
    replace T := Add.trans T h1
    clear h1 ha0 ca0 ca1 ca2 ca3 ca4 ca5
    have ca0 := hA.c0
    have ca1 := hA.c1
    have ca2 := hA.c2
    have cb0 := hB.c0
    have cb1 := hB.c1
    have cb2 := hB.c2
    have cb3 := hB.c3
    have cb4 := hB.c4
    have cb5 := hB.c5
    cases t1 with
    | false =>
      have e : t = false := by rw [← et]; rfl
      subst e
      clear et
      go_wp2_with fail
      refine (refContainsN false hb0 al H1).mono ?_
      rintro e w2 ⟨rfl, h2⟩
      replace T := Add.trans T h2
      clear h2 hA hB al ah hb0 H1 H2 ca0 ca1 ca2 cb0 cb1 cb2 cb3 cb4 cb5
      go_wp2_with fail
      go_ret
      exact ⟨rfl, T⟩
    | true =>
      have e : t2 = t := by rw [← et]; rfl
      subst e
      clear et
      go_wp2_with fail
      refine (refContainsN true hb0 al H1).mono ?_
      rintro e w2 ⟨rfl, h2⟩
      replace hA := hA.mono h2
      replace hB := hB.mono h2
      replace ah := ah.mono h2
      replace hb0 := hb0.mono h2
      replace T := Add.trans T h2
      clear h2 al H1 ca0 ca1 ca2 cb0 cb1 cb2 cb3 cb4 cb5
      have ca3 := hA.c3
      have ca4 := hA.c4
      have ca5 := hA.c5
      have cb0 := hB.c0
      have cb1 := hB.c1
      have cb2 := hB.c2
      have cb3 := hB.c3
      have cb4 := hB.c4
      have cb5 := hB.c5
      go_wp2_with fail
      refine (refContainsN t2 hb0 ah H2).mono ?_
      rintro e w3 ⟨rfl, h3⟩
      replace T := Add.trans T h3
      clear h3 hA hB ah hb0 H2 ca3 ca4 ca5 cb0 cb1 cb2 cb3 cb4 cb5
      go_wp2_with fail
      go_ret
      exact ⟨rfl, T⟩
  · have FA : Hid (okI a = false) := Lib.hid (by simpa using c)
    have e : t = false := by rw [← ht.out]; unfold subsI; rw [FA.out]; simp
    subst e
    clear c ht key ht1 ht2
    go_wp2_with fail
    refine (refValidIN false ha0 FA).mono ?_
    rintro e w1 ⟨rfl, h1⟩
    replace T := Add.trans T h1
    clear h1 FA hA hB al ah ha0 hb0 H1 H2 ca0 ca1 ca2 ca3 ca4 ca5
    go_wp2_with fail
    go_ret
    exact ⟨rfl, T⟩
set_option maxRecDepth 100000 in
set_option maxHeartbeats 2000000 in
theorem refLowestIN (s1 : Bool) (N1 D1 : Nat) (s2 : Bool) (N2 D2 : Nat) {v : Value} {a : Iv} {w : World} (ha : IvA w v a) (g1 : Hid (redF a.1 = ((s1, N1, D1), 0))) (g2 : Hid (redF a.2 = ((s2, N2, D2), 0))) : Calls Tryz.prog 47 #[v] w (RetI w ((s1, N1, D1), (s2, N2, D2))) := by
  have ha0 := ha
  obtain ⟨an, n, cn, ad, d, cd, an', n', cn', ad', d', cd', rfl, u1, u2, u3, u4⟩ := ha
  have al : FracA w (.agg #[.bool a.1.1, .slice an n cn, .slice ad d cd]) a.1 := ⟨_, _, _, _, _, _, rfl, u1, u2⟩
  have ah : FracA w (.agg #[.bool a.2.1, .slice an' n' cn', .slice ad' d' cd']) a.2 := ⟨_, _, _, _, _, _, rfl, u3, u4⟩
  obtain ⟨T, hA, hR⟩ := startI w a an n cn ad d cd an' n' cn' ad' d' cd'
  clear u1 u2 u3 u4
  replace ha0 := ha0.mono T
  replace al := al.mono T
  replace ah := ah.mono T
  clear ha0
  have ca0 := hA.c0
  have ca1 := hA.c1
  have ca2 := hA.c2
  go_enter Tryz.func47, Tryz.ntmps47
  go_wp2_with fail
  refine ((refReduceN _ al g1).mono fun _ _ g => g.ok).mono ?_
  rintro e w1 ⟨a1, n1, k1, e1, d1, l1, rfl, x1, y1, h1⟩
  replace hA := hA.mono h1
  replace hR := hR.mono h1
  replace ah := ah.mono h1
  replace T := Add.trans T h1
  clear h1 al g1 ca0 ca1 ca2
  obtain ⟨tt, hV⟩ := laid_var w1 s1 a1 n1 k1 e1 d1 l1
  replace hA := hA.mono tt
  replace hR := hR.mono tt
  replace ah := ah.mono tt
  replace x1 := x1.mono tt
  replace y1 := y1.mono tt
  replace T := Add.trans T tt
  clear tt
  have ca3 := hA.c3
  have ca4 := hA.c4
  have ca5 := hA.c5
  go_wp2_with fail
  refine ((refReduceN _ ah g2).mono fun _ _ g => g.ok).mono ?_
  rintro e w2 ⟨a2, m2, k2, e2, d4, l2, rfl, x2, y2, h2⟩
  replace hR := hR.mono h2
  replace hV := hV.mono h2
  replace x1 := x1.mono h2
  replace y1 := y1.mono h2
  replace T := Add.trans T h2
  clear h2 ah g2 hA ca3 ca4 ca5
  obtain ⟨tt, hU⟩ := laid_var w2 s2 a2 m2 k2 e2 d4 l2
  replace hR := hR.mono tt
  replace hV := hV.mono tt
  replace x1 := x1.mono tt
  replace y1 := y1.mono tt
  replace x2 := x2.mono tt
  replace y2 := y2.mono tt
  replace T := Add.trans T tt
  clear tt
  have cv0 := hV.c0
  have cv1 := hV.c1
  have cv2 := hV.c2
  have cu0 := hU.c0
  have cu1 := hU.c1
  have cu2 := hU.c2
  have hP := Box6.put hR s1 a1 n1 k1 e1 d1 l1 s2 a2 m2 k2 e2 d4 l2
  have hF := retI_put (w := w) (x := ((s1, N1, D1), (s2, N2, D2))) hR (⟨a1, n1, k1, e1, d1, l1, a2, m2, k2, e2, d4, l2, rfl, x1, y1, x2, y2⟩) T (show w.heap.size ≤ w.heap.size + 1 by omega)
  obtain ⟨W7, hW7⟩ : ∃ W7, W7 = put6 (w2.alloc (.cells #[.bool s2, .slice a2 m2 k2, .slice e2 d4 l2] 25)) (w.heap.size + 1) (.bool s1) (.slice a1 n1 k1) (.slice e1 d1 l1) (.bool s2) (.slice a2 m2 k2) (.slice e2 d4 l2) := ⟨_, rfl⟩
  rw [← hW7] at hP hF
  unfold put6 at hW7
  have HF := Lib.hid hF
  have HW := Lib.hid hW7
  have hbu := iv_build s1 a1 n1 k1 e1 d1 l1 s2 a2 m2 k2 e2 d4 l2
  have hr0 := hR.c0
  have hr1 := hR.c1
  have hr2 := hR.c2
  have hr3 := hR.c3
  have hr4 := hR.c4
  have hr5 := hR.c5
  have hr6 := hR.fr 0
  have hr7 := hR.fr 1
  have hr8 := hR.fr 2
  have hr9 := hR.fr 3
  have hr10 := hR.fr 4
  have hr11 := hR.fr 5
  clear hF hW7 hR T x1 y1 x2 y2 hV hU
  go_wp2_with fail
  rw [← HW.out]
  exact bodyPost_ret (v := .agg #[.bool s1, .slice a1 n1 k1, .slice e1 d1 l1, .bool s2, .slice a2 m2 k2, .slice e2 d4 l2]) (by simp [results, Tryz.results47, go_sem, hP.c0, hP.c1, hP.c2, hP.c3, hP.c4, hP.c5]) rfl HF.out
end Go.Proofs.YtifpfoeecnkhoaaGreatDoor

namespace Go.Proofs.YtifpfoeecnkhoaaGreatDoor
open Go.RowKit NatM Go.Proofs.YtifpfoeecnkhoaaGreatDoor.Api

theorem Box6.put0 {w : World} {g : Nat} {b : Bool} {an : Option Addr} {n cn : Nat} {ad : Option Addr} {d cd : Nat} {b' : Bool} {an' : Option Addr} {n' cn' : Nat} {ad' : Option Addr} {d' cd' : Nat} (h : Box6 w g b an n cn ad d cd b' an' n' cn' ad' d' cd') (s : Bool) (p : Option Addr) (m k : Nat) (p2 : Option Addr) (m2 k2 : Nat) : Box6 (((w.setCell ⟨g, 0, none⟩ (.bool s)).setCell ⟨g, 1, none⟩ (.slice p m k)).setCell ⟨g, 2, none⟩ (.slice p2 m2 k2)) g s p m k p2 m2 k2 b' an' n' cn' ad' d' cd' := by
  unfold Box6
  have h1 := heap_setCell_same w g 0 _ 27 (.bool s) h
  have h2 := heap_setCell_same _ g 1 _ 27 (.slice p m k) h1
  exact heap_setCell_same _ g 2 _ 27 (.slice p2 m2 k2) h2
theorem Box6.put1 {w : World} {g : Nat} {b : Bool} {an : Option Addr} {n cn : Nat} {ad : Option Addr} {d cd : Nat} {b' : Bool} {an' : Option Addr} {n' cn' : Nat} {ad' : Option Addr} {d' cd' : Nat} (h : Box6 w g b an n cn ad d cd b' an' n' cn' ad' d' cd') (s : Bool) (p : Option Addr) (m k : Nat) (p2 : Option Addr) (m2 k2 : Nat) : Box6 (((w.setCell ⟨g, 3, none⟩ (.bool s)).setCell ⟨g, 4, none⟩ (.slice p m k)).setCell ⟨g, 5, none⟩ (.slice p2 m2 k2)) g b an n cn ad d cd s p m k p2 m2 k2 := by
  unfold Box6
  have h1 := heap_setCell_same w g 3 _ 27 (.bool s) h
  have h2 := heap_setCell_same _ g 4 _ 27 (.slice p m k) h1
  exact heap_setCell_same _ g 5 _ 27 (.slice p2 m2 k2) h2
theorem Box6.moved {w : World} {g k : Nat} {b : Bool} {an : Option Addr} {n cn : Nat} {ad : Option Addr} {d cd : Nat} {b' : Bool} {an' : Option Addr} {n' cn' : Nat} {ad' : Option Addr} {d' cd' : Nat} (h : Box6 w k b an n cn ad d cd b' an' n' cn' ad' d' cd') (x y z : Nat) (u0 u1 u2 : Value) (hk : k ≠ g) : Box6 (((w.setCell ⟨g, x, none⟩ u0).setCell ⟨g, y, none⟩ u1).setCell ⟨g, z, none⟩ u2) k b an n cn ad d cd b' an' n' cn' ad' d' cd' := (set3_other x y z u0 u1 u2 hk).trans h
set_option maxRecDepth 100000 in
set_option maxHeartbeats 2000000 in
theorem refMeetIN_refuses {v v' : Value} {a b : Iv} {w : World} (ha : IvA w v a) (hb : IvA w v' b) (h : Hid (okI a = false ∨ okI b = false)) : Calls Tryz.prog 18 #[v, v'] w (ResB w (zI, false)) := by
  have ha0 := ha
  have hb0 := hb
  obtain ⟨an, n, cn, ad, d, cd, an', n', cn', ad', d', cd', rfl, u1, u2, u3, u4⟩ := ha
  obtain ⟨an2, n2, cn2, ad2, d2, cd2, an3, n3, cn3, ad3, d3, cd3, rfl, q1, q2, q3, q4⟩ := hb
  have al : FracA w (.agg #[.bool a.1.1, .slice an n cn, .slice ad d cd]) a.1 := ⟨_, _, _, _, _, _, rfl, u1, u2⟩
  have ah : FracA w (.agg #[.bool a.2.1, .slice an' n' cn', .slice ad' d' cd']) a.2 := ⟨_, _, _, _, _, _, rfl, u3, u4⟩
  have bl : FracA w (.agg #[.bool b.1.1, .slice an2 n2 cn2, .slice ad2 d2 cd2]) b.1 := ⟨_, _, _, _, _, _, rfl, q1, q2⟩
  have bh : FracA w (.agg #[.bool b.2.1, .slice an3 n3 cn3, .slice ad3 d3 cd3]) b.2 := ⟨_, _, _, _, _, _, rfl, q3, q4⟩
  obtain ⟨T, hA, hB, hR⟩ := startII w a an n cn ad d cd an' n' cn' ad' d' cd' b an2 n2 cn2 ad2 d2 cd2 an3 n3 cn3 ad3 d3 cd3
  clear u1 u2 u3 u4 q1 q2 q3 q4
  replace ha0 := ha0.mono T
  replace hb0 := hb0.mono T
  replace al := al.mono T
  replace ah := ah.mono T
  replace bl := bl.mono T
  replace bh := bh.mono T
  clear al ah bl bh
  have ca0 := hA.c0
  have ca1 := hA.c1
  have ca2 := hA.c2
  have ca3 := hA.c3
  have ca4 := hA.c4
  have ca5 := hA.c5
  go_enter Tryz.func18, Tryz.ntmps18
  by_cases c : okI a = false
  · have FA := Lib.hid c
    clear c h
    go_wp2_with fail
    refine (refValidIN false ha0 FA).mono ?_
    rintro e w1 ⟨rfl, h1⟩
    replace hR := hR.mono h1
    replace T := Add.trans T h1
    clear h1 ha0 hb0 FA hA hB ca0 ca1 ca2 ca3 ca4 ca5
    have hP := Box6.put hR false none 0 0 none 0 0 false none 0 0 none 0 0
    have hF := resB_put (w := w) (p := (zI, false)) hR (ivT_zero _) T (show w.heap.size ≤ w.heap.size + 2 by omega)
    obtain ⟨W7, hW7⟩ : ∃ W7, W7 = put6 (w1) (w.heap.size + 2) (.bool false) (.slice none 0 0) (.slice none 0 0) (.bool false) (.slice none 0 0) (.slice none 0 0) := ⟨_, rfl⟩
    rw [← hW7] at hP hF
    unfold put6 at hW7
    have HF := Lib.hid hF
    have HW := Lib.hid hW7
    have hbz := iv_zero
    have hr0 := hR.c0
    have hr1 := hR.c1
    have hr2 := hR.c2
    have hr3 := hR.c3
    have hr4 := hR.c4
    have hr5 := hR.c5
    have hr6 := hR.fr 0
    have hr7 := hR.fr 1
    have hr8 := hR.fr 2
    have hr9 := hR.fr 3
    have hr10 := hR.fr 4
    have hr11 := hR.fr 5
    clear hF hW7 hR T 
    go_wp2_with fail
    rw [← HW.out]
    exact bodyPost_ret (v := .tuple #[.agg #[.bool false, .slice none 0 0, .slice none 0 0, .bool false, .slice none 0 0, .slice none 0 0], .bool false]) (by simp [results, Tryz.results18, go_sem, hP.c0, hP.c1, hP.c2, hP.c3, hP.c4, hP.c5]) rfl HF.out
  · have c2 : okI b = false := h.out.resolve_left c
    have c1 : okI a = true := by simpa using c
    have FA := Lib.hid c1
    have FB := Lib.hid c2
    clear c c1 c2 h
    go_wp2_with fail
    refine (refValidIN true ha0 FA).mono ?_
    rintro e w1 ⟨rfl, h1⟩
    replace hR := hR.mono h1
    replace hB := hB.mono h1
    replace hb0 := hb0.mono h1
    replace T := Add.trans T h1
    clear h1 ha0 FA hA ca0 ca1 ca2 ca3 ca4 ca5
    have cb0 := hB.c0
    have cb1 := hB.c1
    have cb2 := hB.c2
    have cb3 := hB.c3
    have cb4 := hB.c4
    have cb5 := hB.c5
    go_wp2_with fail
    refine (refValidIN false hb0 FB).mono ?_
    rintro e w2 ⟨rfl, h2⟩
    replace hR := hR.mono h2
    replace T := Add.trans T h2
    clear h2 hb0 FB hB cb0 cb1 cb2 cb3 cb4 cb5
    have hP := Box6.put hR false none 0 0 none 0 0 false none 0 0 none 0 0
    have hF := resB_put (w := w) (p := (zI, false)) hR (ivT_zero _) T (show w.heap.size ≤ w.heap.size + 2 by omega)
    obtain ⟨W7, hW7⟩ : ∃ W7, W7 = put6 (w2) (w.heap.size + 2) (.bool false) (.slice none 0 0) (.slice none 0 0) (.bool false) (.slice none 0 0) (.slice none 0 0) := ⟨_, rfl⟩
    rw [← hW7] at hP hF
    unfold put6 at hW7
    have HF := Lib.hid hF
    have HW := Lib.hid hW7
    have hbz := iv_zero
    have hr0 := hR.c0
    have hr1 := hR.c1
    have hr2 := hR.c2
    have hr3 := hR.c3
    have hr4 := hR.c4
    have hr5 := hR.c5
    have hr6 := hR.fr 0
    have hr7 := hR.fr 1
    have hr8 := hR.fr 2
    have hr9 := hR.fr 3
    have hr10 := hR.fr 4
    have hr11 := hR.fr 5
    clear hF hW7 hR T 
    go_wp2_with fail
    rw [← HW.out]
    exact bodyPost_ret (v := .tuple #[.agg #[.bool false, .slice none 0 0, .slice none 0 0, .bool false, .slice none 0 0, .slice none 0 0], .bool false]) (by simp [results, Tryz.results18, go_sem, hP.c0, hP.c1, hP.c2, hP.c3, hP.c4, hP.c5]) rfl HF.out
theorem iv_of_ends {w : World} {s s' : Bool} {an n cn ad d cd an' n' cn' ad' d' cd'} {x y : Tri} (hx : FracA w (.agg #[.bool s, .slice an n cn, .slice ad d cd]) x) (hy : FracA w (.agg #[.bool s', .slice an' n' cn', .slice ad' d' cd']) y) : IvA w (.agg #[.bool s, .slice an n cn, .slice ad d cd, .bool s', .slice an' n' cn', .slice ad' d' cd']) (x, y) := by
  obtain ⟨a1, a2, a3, a4, a5, a6, e, h1, h2⟩ := hx
  obtain ⟨b1, b2, b3, b4, b5, b6, f, h3, h4⟩ := hy
  simp only [Value.agg.injEq, Array.mk.injEq, List.cons.injEq, Value.bool.injEq, Value.slice.injEq, and_true] at e f
  obtain ⟨rfl, ⟨rfl, rfl, rfl⟩, rfl, rfl, rfl⟩ := e
  obtain ⟨rfl, ⟨rfl, rfl, rfl⟩, rfl, rfl, rfl⟩ := f
  exact ⟨_, _, _, _, _, _, _, _, _, _, _, _, rfl, h1, h2, h3, h4⟩
set_option maxRecDepth 100000 in
set_option maxHeartbeats 8000000 in
theorem refMeetIN_works (p : Iv × Bool) {v v' : Value} {a b : Iv} {w : World} (ha : IvA w v a) (hb : IvA w v' b) (h : Hid (okI a = true ∧ okI b = true)) (hp : Hid (meetI a b = p)) : Calls Tryz.prog 18 #[v, v'] w (ResB w p) := by
  have ha0 := ha
  have hb0 := hb
  obtain ⟨an, n, cn, ad, d, cd, an', n', cn', ad', d', cd', rfl, u1, u2, u3, u4⟩ := ha
  obtain ⟨an2, n2, cn2, ad2, d2, cd2, an3, n3, cn3, ad3, d3, cd3, rfl, q1, q2, q3, q4⟩ := hb
  have al : FracA w (.agg #[.bool a.1.1, .slice an n cn, .slice ad d cd]) a.1 := ⟨_, _, _, _, _, _, rfl, u1, u2⟩
  have ah : FracA w (.agg #[.bool a.2.1, .slice an' n' cn', .slice ad' d' cd']) a.2 := ⟨_, _, _, _, _, _, rfl, u3, u4⟩
  have bl : FracA w (.agg #[.bool b.1.1, .slice an2 n2 cn2, .slice ad2 d2 cd2]) b.1 := ⟨_, _, _, _, _, _, rfl, q1, q2⟩
  have bh : FracA w (.agg #[.bool b.2.1, .slice an3 n3 cn3, .slice ad3 d3 cd3]) b.2 := ⟨_, _, _, _, _, _, rfl, q3, q4⟩
  have al0 := al
  have ah0 := ah
  have bl0 := bl
  have bh0 := bh
  obtain ⟨T, hA, hB, hR⟩ := startII w a an n cn ad d cd an' n' cn' ad' d' cd' b an2 n2 cn2 ad2 d2 cd2 an3 n3 cn3 ad3 d3 cd3
  clear u1 u2 u3 u4 q1 q2 q3 q4
  replace ha0 := ha0.mono T
  replace hb0 := hb0.mono T
  replace al := al.mono T
  replace ah := ah.mono T
  replace bl := bl.mono T
  replace bh := bh.mono T
  have FA := Lib.hid h.out.1
  have FB := Lib.hid h.out.2
  have o1 := okI_iff.1 h.out.1
  have o2 := okI_iff.1 h.out.2
  have OL : Hid (okF a.1 = true ∧ okF b.1 = true) := Lib.hid ⟨o1.1, o2.1⟩
  have OH : Hid (okF b.2 = true ∧ okF a.2 = true) := Lib.hid ⟨o2.2.1, o1.2.1⟩
  have O4 := Lib.hid (And.intro (And.intro o1.1 o1.2.1) (And.intro o2.1 o2.2.1))
  obtain ⟨t1, ht1⟩ : ∃ t, decide (qv a.1 < qv b.1) = t := ⟨_, rfl⟩
  obtain ⟨t2, ht2⟩ : ∃ t, decide (qv b.2 < qv a.2) = t := ⟨_, rfl⟩
  have H1 := Lib.hid ht1
  have H2 := Lib.hid ht2
  clear h o1 o2 ht1 ht2
  have ca0 := hA.c0
  have ca1 := hA.c1
  have ca2 := hA.c2
  have ca3 := hA.c3
  have ca4 := hA.c4
  have ca5 := hA.c5
  go_enter Tryz.func18, Tryz.ntmps18
  go_wp2_with fail
  refine (refValidIN true ha0 FA).mono ?_
  rintro e w1 ⟨rfl, h1⟩
  replace hA := hA.mono h1
  replace hB := hB.mono h1
  replace hR := hR.mono h1
  replace al := al.mono h1
  replace ah := ah.mono h1
  replace bl := bl.mono h1
  replace bh := bh.mono h1
  replace hb0 := hb0.mono h1
  replace T := Add.trans T h1
  clear h1 ha0 ca0 ca1 ca2 ca3 ca4 ca5
  have cb0 := hB.c0
  have cb1 := hB.c1
  have cb2 := hB.c2
  have cb3 := hB.c3
  have cb4 := hB.c4
  have cb5 := hB.c5
  go_wp2_with fail
  refine (refValidIN true hb0 FB).mono ?_
  rintro e w2 ⟨rfl, h2⟩
  replace hA := hA.mono h2
  replace hB := hB.mono h2
  replace hR := hR.mono h2
  replace al := al.mono h2
  replace ah := ah.mono h2
  replace bl := bl.mono h2
  replace bh := bh.mono h2
  replace T := Add.trans T h2
  clear h2 hb0 cb0 cb1 cb2 cb3 cb4 cb5
  have ca0 := hA.c0
  have ca1 := hA.c1
  have ca2 := hA.c2
  have ca3 := hA.c3
  have ca4 := hA.c4
  have ca5 := hA.c5
  obtain ⟨tt, hO⟩ := laid6 w2 a.1.1 an n cn ad d cd a.2.1 an' n' cn' ad' d' cd'
  have hlt := hR.lt
  replace hA := hA.mono tt
  replace hB := hB.mono tt
  replace hR := hR.mono tt
  replace al := al.mono tt
  replace ah := ah.mono tt
  replace bl := bl.mono tt
  replace bh := bh.mono tt
  replace T := Add.trans T tt
  clear tt
  have da0 := hA.c0
  have db0 := hB.c0
  have da1 := hA.c1
  have db1 := hB.c1
  have da2 := hA.c2
  have db2 := hB.c2
  cases t1 with
  | false =>
    go_wp2_with fail
    refine (lessN false al bl OL H1).mono ?_
    rintro e w5 ⟨rfl, h5⟩
    replace hA := hA.mono h5
    replace hB := hB.mono h5
    replace hR := hR.mono h5
    replace al := al.mono h5
    replace ah := ah.mono h5
    replace bl := bl.mono h5
    replace bh := bh.mono h5
    replace hO := hO.mono h5
    replace T := Add.trans T h5
    clear h5 OL ca0 ca1 ca2 ca3 ca4 ca5 da0 db0 da1 db1 da2 db2
    have fa3 := hA.c3
    have fa4 := hA.c4
    have fa5 := hA.c5
    have fb3 := hB.c3
    have fb4 := hB.c4
    have fb5 := hB.c5
    cases t2 with
    | false =>
      go_wp2_with fail
      refine (lessN false bh ah OH H2).mono ?_
      rintro e w6 ⟨rfl, h6⟩
      replace hA := hA.mono h6
      replace hB := hB.mono h6
      replace hR := hR.mono h6
      replace al := al.mono h6
      replace ah := ah.mono h6
      replace bl := bl.mono h6
      replace bh := bh.mono h6
      replace hO := hO.mono h6
      replace T := Add.trans T h6
      clear h6 OH fa3 fa4 fa5 fb3 fb4 fb5
      have ql : mx (qv a.1) (qv b.1) = qv a.1 := by have := of_decide_eq_false H1.out; unfold mx; grind
      have qh : mn (qv a.2) (qv b.2) = qv a.2 := by have := of_decide_eq_false H2.out; unfold mn; grind
      have OO : Hid (okF a.2 = true ∧ okF a.1 = true) := Lib.hid ⟨O4.out.1.2, O4.out.1.1⟩
      clear hA hB
      by_cases c : qv a.2 < qv a.1
      · have HT := Lib.hid (decide_eq_true c)
        have hpe : p = (zI, false) := by rw [← hp.out]; unfold meetI; rw [if_neg (fun g => by have := g.2.2; rw [ql, qh] at this; exact absurd c (Rat.not_lt.2 this))]
        subst hpe
        clear c ql qh hp
        have co0 := hO.c0
        have co1 := hO.c1
        have co2 := hO.c2
        have co3 := hO.c3
        have co4 := hO.c4
        have co5 := hO.c5
        go_wp2_with fail
        refine (lessN true ah al OO HT).mono ?_
        rintro e w8 ⟨rfl, h8⟩
        replace hR := hR.mono h8
        replace T := Add.trans T h8
        clear h8 hO al ah bl bh OO HT co0 co1 co2 co3 co4 co5
        have hP := Box6.put hR false none 0 0 none 0 0 false none 0 0 none 0 0
        have hF := resB_put (w := w) (p := (zI, false)) hR (ivT_zero _) T (show w.heap.size ≤ w.heap.size + 2 by omega)
        obtain ⟨W7, hW7⟩ : ∃ W7, W7 = put6 (w8) (w.heap.size + 2) (.bool false) (.slice none 0 0) (.slice none 0 0) (.bool false) (.slice none 0 0) (.slice none 0 0) := ⟨_, rfl⟩
        rw [← hW7] at hP hF
        unfold put6 at hW7
        have HF := Lib.hid hF
        have HW := Lib.hid hW7
        have hbz := iv_zero
        have hr0 := hR.c0
        have hr1 := hR.c1
        have hr2 := hR.c2
        have hr3 := hR.c3
        have hr4 := hR.c4
        have hr5 := hR.c5
        have hr6 := hR.fr 0
        have hr7 := hR.fr 1
        have hr8 := hR.fr 2
        have hr9 := hR.fr 3
        have hr10 := hR.fr 4
        have hr11 := hR.fr 5
        clear hF hW7 hR T 
        go_wp2_with fail
        rw [← HW.out]
        exact bodyPost_ret (v := .tuple #[.agg #[.bool false, .slice none 0 0, .slice none 0 0, .bool false, .slice none 0 0, .slice none 0 0], .bool false]) (by simp [results, Tryz.results18, go_sem, hP.c0, hP.c1, hP.c2, hP.c3, hP.c4, hP.c5]) rfl HF.out
      · have HT := Lib.hid (decide_eq_false c)
        obtain ⟨⟨⟨s5, N5, D5⟩, ⟨s6, N6, D6⟩⟩, hq⟩ : ∃ q, (can (qv a.1), can (qv a.2)) = q := ⟨_, rfl⟩
        have hpe : p = (((s5, N5, D5), (s6, N6, D6)), true) := by
          rw [← hq, ← hp.out]; unfold meetI
          rw [if_pos ⟨FA.out, FB.out, by rw [ql, qh]; exact Rat.not_lt.1 c⟩, ql, qh]
        subst hpe
        have R1 : Hid (redF a.1 = ((s5, N5, D5), 0)) := Lib.hid (by rw [redF_ok O4.out.1.1]; exact congrArg (fun z : Iv => (z.1, 0)) hq)
        have R2 : Hid (redF a.2 = ((s6, N6, D6), 0)) := Lib.hid (by rw [redF_ok O4.out.1.2]; exact congrArg (fun z : Iv => (z.2, 0)) hq)
        clear c ql qh hp hq
        have co0 := hO.c0
        have co1 := hO.c1
        have co2 := hO.c2
        have co3 := hO.c3
        have co4 := hO.c4
        have co5 := hO.c5
        go_wp2_with fail
        refine (lessN false ah al OO HT).mono ?_
        rintro e w8 ⟨rfl, h8⟩
        replace hR := hR.mono h8
        replace hO := hO.mono h8
        replace al := al.mono h8
        replace ah := ah.mono h8
        replace T := Add.trans T h8
        clear h8 OO HT co0 co1 co2 co3 co4 co5
        have qo : IvA w8 (.agg #[.bool a.1.1, .slice an n cn, .slice ad d cd, .bool a.2.1, .slice an' n' cn', .slice ad' d' cd']) (a.1, a.2) := iv_of_ends al ah
        have co0 := hO.c0
        have co1 := hO.c1
        have co2 := hO.c2
        have co3 := hO.c3
        have co4 := hO.c4
        have co5 := hO.c5
        go_wp2_with fail
        refine (refLowestIN s5 N5 D5 s6 N6 D6 qo R1 R2).mono ?_
        rintro e w9 ⟨v9, rfl, ⟨a7, n7, k7, e7, d7, l7, a8, n8, k8, e8, d8, l8, rfl, x7, y7, x8, y8⟩, h9⟩
        replace hR := hR.mono h9
        replace T := Add.trans T h9
        clear h9 qo hO al ah R1 R2 co0 co1 co2 co3 co4 co5
        have hP := Box6.put hR s5 a7 n7 k7 e7 d7 l7 s6 a8 n8 k8 e8 d8 l8
        have hF := resB_put (w := w) (p := (((s5, N5, D5), (s6, N6, D6)), true)) hR (⟨a7, n7, k7, e7, d7, l7, a8, n8, k8, e8, d8, l8, rfl, x7, y7, x8, y8⟩) T (show w.heap.size ≤ w.heap.size + 2 by omega)
        obtain ⟨W7, hW7⟩ : ∃ W7, W7 = put6 (w9) (w.heap.size + 2) (.bool s5) (.slice a7 n7 k7) (.slice e7 d7 l7) (.bool s6) (.slice a8 n8 k8) (.slice e8 d8 l8) := ⟨_, rfl⟩
        rw [← hW7] at hP hF
        unfold put6 at hW7
        have HF := Lib.hid hF
        have HW := Lib.hid hW7
        have hr0 := hR.c0
        have hr1 := hR.c1
        have hr2 := hR.c2
        have hr3 := hR.c3
        have hr4 := hR.c4
        have hr5 := hR.c5
        have hr6 := hR.fr 0
        have hr7 := hR.fr 1
        have hr8 := hR.fr 2
        have hr9 := hR.fr 3
        have hr10 := hR.fr 4
        have hr11 := hR.fr 5
        clear hF hW7 hR T x7 y7 x8 y8
        go_wp2_with fail
        rw [← HW.out]
        exact bodyPost_ret (v := .tuple #[.agg #[.bool s5, .slice a7 n7 k7, .slice e7 d7 l7, .bool s6, .slice a8 n8 k8, .slice e8 d8 l8], .bool true]) (by simp [results, Tryz.results18, go_sem, hP.c0, hP.c1, hP.c2, hP.c3, hP.c4, hP.c5]) rfl HF.out
    | true =>
      go_wp2_with fail
      refine (lessN true bh ah OH H2).mono ?_
      rintro e w6 ⟨rfl, h6⟩
      replace hA := hA.mono h6
      replace hB := hB.mono h6
      replace hR := hR.mono h6
      replace al := al.mono h6
      replace ah := ah.mono h6
      replace bl := bl.mono h6
      replace bh := bh.mono h6
      replace hO := hO.mono h6
      replace T := Add.trans T h6
      clear h6 OH fa3 fa4 fa5 fb3 fb4 fb5
      have co3 := hO.c3
      have cf3 := hO.fr 3
      have co4 := hO.c4
      have cf4 := hO.fr 4
      have co5 := hO.c5
      have cf5 := hO.fr 5
      have eb3 := hB.c3
      have eb4 := hB.c4
      have eb5 := hB.c5
      have hA1 := hA.moved 3 4 5 (.bool b.2.1) (.slice an3 n3 cn3) (.slice ad3 d3 cd3) (show w.heap.size ≠ w2.heap.size by omega)
      have hB1 := hB.moved 3 4 5 (.bool b.2.1) (.slice an3 n3 cn3) (.slice ad3 d3 cd3) (show w.heap.size + 1 ≠ w2.heap.size by omega)
      have hR1 := hR.moved 3 4 5 (.bool b.2.1) (.slice an3 n3 cn3) (.slice ad3 d3 cd3) (show w.heap.size + 2 ≠ w2.heap.size by omega)
      have hO1 := hO.put1 b.2.1 an3 n3 cn3 ad3 d3 cd3
      have TT := set3_below 3 4 5 (.bool b.2.1) (.slice an3 n3 cn3) (.slice ad3 d3 cd3) T (show w.heap.size ≤ w2.heap.size by omega)
      have UP := TT
      replace al := al0.mono TT
      replace ah := ah0.mono TT
      replace bl := bl0.mono TT
      replace bh := bh0.mono TT
      clear hA hB hR hO T UP
      have hA := hA1
      have hB := hB1
      have hR := hR1
      have hO := hO1
      have T := TT
      clear hA1 hB1 hR1 hO1 TT
      have ql : mx (qv a.1) (qv b.1) = qv a.1 := by have := of_decide_eq_false H1.out; unfold mx; grind
      have qh : mn (qv a.2) (qv b.2) = qv b.2 := by have := of_decide_eq_true H2.out; unfold mn; grind
      have OO : Hid (okF b.2 = true ∧ okF a.1 = true) := Lib.hid ⟨O4.out.2.2, O4.out.1.1⟩
      clear hA hB
      by_cases c : qv b.2 < qv a.1
      · have HT := Lib.hid (decide_eq_true c)
        have hpe : p = (zI, false) := by rw [← hp.out]; unfold meetI; rw [if_neg (fun g => by have := g.2.2; rw [ql, qh] at this; exact absurd c (Rat.not_lt.2 this))]
        subst hpe
        clear c ql qh hp
        have co0 := hO.c0
        have co1 := hO.c1
        have co2 := hO.c2
        have co3 := hO.c3
        have co4 := hO.c4
        have co5 := hO.c5
        go_wp2_with fail
        refine (lessN true bh al OO HT).mono ?_
        rintro e w8 ⟨rfl, h8⟩
        replace hR := hR.mono h8
        replace T := Add.trans T h8
        clear h8 hO al ah bl bh OO HT co0 co1 co2 co3 co4 co5
        have hP := Box6.put hR false none 0 0 none 0 0 false none 0 0 none 0 0
        have hF := resB_put (w := w) (p := (zI, false)) hR (ivT_zero _) T (show w.heap.size ≤ w.heap.size + 2 by omega)
        obtain ⟨W7, hW7⟩ : ∃ W7, W7 = put6 (w8) (w.heap.size + 2) (.bool false) (.slice none 0 0) (.slice none 0 0) (.bool false) (.slice none 0 0) (.slice none 0 0) := ⟨_, rfl⟩
        rw [← hW7] at hP hF
        unfold put6 at hW7
        have HF := Lib.hid hF
        have HW := Lib.hid hW7
        have hbz := iv_zero
        have hr0 := hR.c0
        have hr1 := hR.c1
        have hr2 := hR.c2
        have hr3 := hR.c3
        have hr4 := hR.c4
        have hr5 := hR.c5
        have hr6 := hR.fr 0
        have hr7 := hR.fr 1
        have hr8 := hR.fr 2
        have hr9 := hR.fr 3
        have hr10 := hR.fr 4
        have hr11 := hR.fr 5
        clear hF hW7 hR T 
        go_wp2_with fail
        rw [← HW.out]
        exact bodyPost_ret (v := .tuple #[.agg #[.bool false, .slice none 0 0, .slice none 0 0, .bool false, .slice none 0 0, .slice none 0 0], .bool false]) (by simp [results, Tryz.results18, go_sem, hP.c0, hP.c1, hP.c2, hP.c3, hP.c4, hP.c5]) rfl HF.out
      · have HT := Lib.hid (decide_eq_false c)
        obtain ⟨⟨⟨s5, N5, D5⟩, ⟨s6, N6, D6⟩⟩, hq⟩ : ∃ q, (can (qv a.1), can (qv b.2)) = q := ⟨_, rfl⟩
        have hpe : p = (((s5, N5, D5), (s6, N6, D6)), true) := by
          rw [← hq, ← hp.out]; unfold meetI
          rw [if_pos ⟨FA.out, FB.out, by rw [ql, qh]; exact Rat.not_lt.1 c⟩, ql, qh]
        subst hpe
        have R1 : Hid (redF a.1 = ((s5, N5, D5), 0)) := Lib.hid (by rw [redF_ok O4.out.1.1]; exact congrArg (fun z : Iv => (z.1, 0)) hq)
        have R2 : Hid (redF b.2 = ((s6, N6, D6), 0)) := Lib.hid (by rw [redF_ok O4.out.2.2]; exact congrArg (fun z : Iv => (z.2, 0)) hq)
        clear c ql qh hp hq
        have co0 := hO.c0
        have co1 := hO.c1
        have co2 := hO.c2
        have co3 := hO.c3
        have co4 := hO.c4
        have co5 := hO.c5
        go_wp2_with fail
        refine (lessN false bh al OO HT).mono ?_
        rintro e w8 ⟨rfl, h8⟩
        replace hR := hR.mono h8
        replace hO := hO.mono h8
        replace al := al.mono h8
        replace bh := bh.mono h8
        replace T := Add.trans T h8
        clear h8 OO HT co0 co1 co2 co3 co4 co5
        have qo : IvA w8 (.agg #[.bool a.1.1, .slice an n cn, .slice ad d cd, .bool b.2.1, .slice an3 n3 cn3, .slice ad3 d3 cd3]) (a.1, b.2) := iv_of_ends al bh
        have co0 := hO.c0
        have co1 := hO.c1
        have co2 := hO.c2
        have co3 := hO.c3
        have co4 := hO.c4
        have co5 := hO.c5
        go_wp2_with fail
        refine (refLowestIN s5 N5 D5 s6 N6 D6 qo R1 R2).mono ?_
        rintro e w9 ⟨v9, rfl, ⟨a7, n7, k7, e7, d7, l7, a8, n8, k8, e8, d8, l8, rfl, x7, y7, x8, y8⟩, h9⟩
        replace hR := hR.mono h9
        replace T := Add.trans T h9
        clear h9 qo hO al bh R1 R2 co0 co1 co2 co3 co4 co5
        have hP := Box6.put hR s5 a7 n7 k7 e7 d7 l7 s6 a8 n8 k8 e8 d8 l8
        have hF := resB_put (w := w) (p := (((s5, N5, D5), (s6, N6, D6)), true)) hR (⟨a7, n7, k7, e7, d7, l7, a8, n8, k8, e8, d8, l8, rfl, x7, y7, x8, y8⟩) T (show w.heap.size ≤ w.heap.size + 2 by omega)
        obtain ⟨W7, hW7⟩ : ∃ W7, W7 = put6 (w9) (w.heap.size + 2) (.bool s5) (.slice a7 n7 k7) (.slice e7 d7 l7) (.bool s6) (.slice a8 n8 k8) (.slice e8 d8 l8) := ⟨_, rfl⟩
        rw [← hW7] at hP hF
        unfold put6 at hW7
        have HF := Lib.hid hF
        have HW := Lib.hid hW7
        have hr0 := hR.c0
        have hr1 := hR.c1
        have hr2 := hR.c2
        have hr3 := hR.c3
        have hr4 := hR.c4
        have hr5 := hR.c5
        have hr6 := hR.fr 0
        have hr7 := hR.fr 1
        have hr8 := hR.fr 2
        have hr9 := hR.fr 3
        have hr10 := hR.fr 4
        have hr11 := hR.fr 5
        clear hF hW7 hR T x7 y7 x8 y8
        go_wp2_with fail
        rw [← HW.out]
        exact bodyPost_ret (v := .tuple #[.agg #[.bool s5, .slice a7 n7 k7, .slice e7 d7 l7, .bool s6, .slice a8 n8 k8, .slice e8 d8 l8], .bool true]) (by simp [results, Tryz.results18, go_sem, hP.c0, hP.c1, hP.c2, hP.c3, hP.c4, hP.c5]) rfl HF.out
  | true =>
    go_wp2_with fail
    refine (lessN true al bl OL H1).mono ?_
    rintro e w5 ⟨rfl, h5⟩
    replace hA := hA.mono h5
    replace hB := hB.mono h5
    replace hR := hR.mono h5
    replace al := al.mono h5
    replace ah := ah.mono h5
    replace bl := bl.mono h5
    replace bh := bh.mono h5
    replace hO := hO.mono h5
    replace T := Add.trans T h5
    clear h5 OL ca0 ca1 ca2 ca3 ca4 ca5 da0 db0 da1 db1 da2 db2
    have co0 := hO.c0
    have cf0 := hO.fr 0
    have co1 := hO.c1
    have cf1 := hO.fr 1
    have co2 := hO.c2
    have cf2 := hO.fr 2
    have eb0 := hB.c0
    have eb1 := hB.c1
    have eb2 := hB.c2
    have hA1 := hA.moved 0 1 2 (.bool b.1.1) (.slice an2 n2 cn2) (.slice ad2 d2 cd2) (show w.heap.size ≠ w2.heap.size by omega)
    have hB1 := hB.moved 0 1 2 (.bool b.1.1) (.slice an2 n2 cn2) (.slice ad2 d2 cd2) (show w.heap.size + 1 ≠ w2.heap.size by omega)
    have hR1 := hR.moved 0 1 2 (.bool b.1.1) (.slice an2 n2 cn2) (.slice ad2 d2 cd2) (show w.heap.size + 2 ≠ w2.heap.size by omega)
    have hO1 := hO.put0 b.1.1 an2 n2 cn2 ad2 d2 cd2
    have TT := set3_below 0 1 2 (.bool b.1.1) (.slice an2 n2 cn2) (.slice ad2 d2 cd2) T (show w.heap.size ≤ w2.heap.size by omega)
    have UP := TT
    replace al := al0.mono TT
    replace ah := ah0.mono TT
    replace bl := bl0.mono TT
    replace bh := bh0.mono TT
    clear hA hB hR hO T UP
    have hA := hA1
    have hB := hB1
    have hR := hR1
    have hO := hO1
    have T := TT
    clear hA1 hB1 hR1 hO1 TT
    have fa3 := hA.c3
    have fa4 := hA.c4
    have fa5 := hA.c5
    have fb3 := hB.c3
    have fb4 := hB.c4
    have fb5 := hB.c5
    cases t2 with
    | false =>
      go_wp2_with fail
      refine (lessN false bh ah OH H2).mono ?_
      rintro e w6 ⟨rfl, h6⟩
      replace hA := hA.mono h6
      replace hB := hB.mono h6
      replace hR := hR.mono h6
      replace al := al.mono h6
      replace ah := ah.mono h6
      replace bl := bl.mono h6
      replace bh := bh.mono h6
      replace hO := hO.mono h6
      replace T := Add.trans T h6
      clear h6 OH fa3 fa4 fa5 fb3 fb4 fb5
      have ql : mx (qv a.1) (qv b.1) = qv b.1 := by have := of_decide_eq_true H1.out; unfold mx; grind
      have qh : mn (qv a.2) (qv b.2) = qv a.2 := by have := of_decide_eq_false H2.out; unfold mn; grind
      have OO : Hid (okF a.2 = true ∧ okF b.1 = true) := Lib.hid ⟨O4.out.1.2, O4.out.2.1⟩
      clear hA hB
      by_cases c : qv a.2 < qv b.1
      · have HT := Lib.hid (decide_eq_true c)
        have hpe : p = (zI, false) := by rw [← hp.out]; unfold meetI; rw [if_neg (fun g => by have := g.2.2; rw [ql, qh] at this; exact absurd c (Rat.not_lt.2 this))]
        subst hpe
        clear c ql qh hp
        have co0 := hO.c0
        have co1 := hO.c1
        have co2 := hO.c2
        have co3 := hO.c3
        have co4 := hO.c4
        have co5 := hO.c5
        go_wp2_with fail
        refine (lessN true ah bl OO HT).mono ?_
        rintro e w8 ⟨rfl, h8⟩
        replace hR := hR.mono h8
        replace T := Add.trans T h8
        clear h8 hO al ah bl bh OO HT co0 co1 co2 co3 co4 co5
        have hP := Box6.put hR false none 0 0 none 0 0 false none 0 0 none 0 0
        have hF := resB_put (w := w) (p := (zI, false)) hR (ivT_zero _) T (show w.heap.size ≤ w.heap.size + 2 by omega)
        obtain ⟨W7, hW7⟩ : ∃ W7, W7 = put6 (w8) (w.heap.size + 2) (.bool false) (.slice none 0 0) (.slice none 0 0) (.bool false) (.slice none 0 0) (.slice none 0 0) := ⟨_, rfl⟩
        rw [← hW7] at hP hF
        unfold put6 at hW7
        have HF := Lib.hid hF
        have HW := Lib.hid hW7
        have hbz := iv_zero
        have hr0 := hR.c0
        have hr1 := hR.c1
        have hr2 := hR.c2
        have hr3 := hR.c3
        have hr4 := hR.c4
        have hr5 := hR.c5
        have hr6 := hR.fr 0
        have hr7 := hR.fr 1
        have hr8 := hR.fr 2
        have hr9 := hR.fr 3
        have hr10 := hR.fr 4
        have hr11 := hR.fr 5
        clear hF hW7 hR T 
        go_wp2_with fail
        rw [← HW.out]
        exact bodyPost_ret (v := .tuple #[.agg #[.bool false, .slice none 0 0, .slice none 0 0, .bool false, .slice none 0 0, .slice none 0 0], .bool false]) (by simp [results, Tryz.results18, go_sem, hP.c0, hP.c1, hP.c2, hP.c3, hP.c4, hP.c5]) rfl HF.out
      · have HT := Lib.hid (decide_eq_false c)
        obtain ⟨⟨⟨s5, N5, D5⟩, ⟨s6, N6, D6⟩⟩, hq⟩ : ∃ q, (can (qv b.1), can (qv a.2)) = q := ⟨_, rfl⟩
        have hpe : p = (((s5, N5, D5), (s6, N6, D6)), true) := by
          rw [← hq, ← hp.out]; unfold meetI
          rw [if_pos ⟨FA.out, FB.out, by rw [ql, qh]; exact Rat.not_lt.1 c⟩, ql, qh]
        subst hpe
        have R1 : Hid (redF b.1 = ((s5, N5, D5), 0)) := Lib.hid (by rw [redF_ok O4.out.2.1]; exact congrArg (fun z : Iv => (z.1, 0)) hq)
        have R2 : Hid (redF a.2 = ((s6, N6, D6), 0)) := Lib.hid (by rw [redF_ok O4.out.1.2]; exact congrArg (fun z : Iv => (z.2, 0)) hq)
        clear c ql qh hp hq
        have co0 := hO.c0
        have co1 := hO.c1
        have co2 := hO.c2
        have co3 := hO.c3
        have co4 := hO.c4
        have co5 := hO.c5
        go_wp2_with fail
        refine (lessN false ah bl OO HT).mono ?_
        rintro e w8 ⟨rfl, h8⟩
        replace hR := hR.mono h8
        replace hO := hO.mono h8
        replace bl := bl.mono h8
        replace ah := ah.mono h8
        replace T := Add.trans T h8
        clear h8 OO HT co0 co1 co2 co3 co4 co5
        have qo : IvA w8 (.agg #[.bool b.1.1, .slice an2 n2 cn2, .slice ad2 d2 cd2, .bool a.2.1, .slice an' n' cn', .slice ad' d' cd']) (b.1, a.2) := iv_of_ends bl ah
        have co0 := hO.c0
        have co1 := hO.c1
        have co2 := hO.c2
        have co3 := hO.c3
        have co4 := hO.c4
        have co5 := hO.c5
        go_wp2_with fail
        refine (refLowestIN s5 N5 D5 s6 N6 D6 qo R1 R2).mono ?_
        rintro e w9 ⟨v9, rfl, ⟨a7, n7, k7, e7, d7, l7, a8, n8, k8, e8, d8, l8, rfl, x7, y7, x8, y8⟩, h9⟩
        replace hR := hR.mono h9
        replace T := Add.trans T h9
        clear h9 qo hO bl ah R1 R2 co0 co1 co2 co3 co4 co5
        have hP := Box6.put hR s5 a7 n7 k7 e7 d7 l7 s6 a8 n8 k8 e8 d8 l8
        have hF := resB_put (w := w) (p := (((s5, N5, D5), (s6, N6, D6)), true)) hR (⟨a7, n7, k7, e7, d7, l7, a8, n8, k8, e8, d8, l8, rfl, x7, y7, x8, y8⟩) T (show w.heap.size ≤ w.heap.size + 2 by omega)
        obtain ⟨W7, hW7⟩ : ∃ W7, W7 = put6 (w9) (w.heap.size + 2) (.bool s5) (.slice a7 n7 k7) (.slice e7 d7 l7) (.bool s6) (.slice a8 n8 k8) (.slice e8 d8 l8) := ⟨_, rfl⟩
        rw [← hW7] at hP hF
        unfold put6 at hW7
        have HF := Lib.hid hF
        have HW := Lib.hid hW7
        have hr0 := hR.c0
        have hr1 := hR.c1
        have hr2 := hR.c2
        have hr3 := hR.c3
        have hr4 := hR.c4
        have hr5 := hR.c5
        have hr6 := hR.fr 0
        have hr7 := hR.fr 1
        have hr8 := hR.fr 2
        have hr9 := hR.fr 3
        have hr10 := hR.fr 4
        have hr11 := hR.fr 5
        clear hF hW7 hR T x7 y7 x8 y8
        go_wp2_with fail
        rw [← HW.out]
        exact bodyPost_ret (v := .tuple #[.agg #[.bool s5, .slice a7 n7 k7, .slice e7 d7 l7, .bool s6, .slice a8 n8 k8, .slice e8 d8 l8], .bool true]) (by simp [results, Tryz.results18, go_sem, hP.c0, hP.c1, hP.c2, hP.c3, hP.c4, hP.c5]) rfl HF.out
    | true =>
      go_wp2_with fail
      refine (lessN true bh ah OH H2).mono ?_
      rintro e w6 ⟨rfl, h6⟩
      replace hA := hA.mono h6
      replace hB := hB.mono h6
      replace hR := hR.mono h6
      replace al := al.mono h6
      replace ah := ah.mono h6
      replace bl := bl.mono h6
      replace bh := bh.mono h6
      replace hO := hO.mono h6
      replace T := Add.trans T h6
      clear h6 OH fa3 fa4 fa5 fb3 fb4 fb5
      have co3 := hO.c3
      have cf3 := hO.fr 3
      have co4 := hO.c4
      have cf4 := hO.fr 4
      have co5 := hO.c5
      have cf5 := hO.fr 5
      have eb3 := hB.c3
      have eb4 := hB.c4
      have eb5 := hB.c5
      have hA1 := hA.moved 3 4 5 (.bool b.2.1) (.slice an3 n3 cn3) (.slice ad3 d3 cd3) (show w.heap.size ≠ w2.heap.size by omega)
      have hB1 := hB.moved 3 4 5 (.bool b.2.1) (.slice an3 n3 cn3) (.slice ad3 d3 cd3) (show w.heap.size + 1 ≠ w2.heap.size by omega)
      have hR1 := hR.moved 3 4 5 (.bool b.2.1) (.slice an3 n3 cn3) (.slice ad3 d3 cd3) (show w.heap.size + 2 ≠ w2.heap.size by omega)
      have hO1 := hO.put1 b.2.1 an3 n3 cn3 ad3 d3 cd3
      have TT := set3_below 3 4 5 (.bool b.2.1) (.slice an3 n3 cn3) (.slice ad3 d3 cd3) T (show w.heap.size ≤ w2.heap.size by omega)
      have UP := TT
      replace al := al0.mono TT
      replace ah := ah0.mono TT
      replace bl := bl0.mono TT
      replace bh := bh0.mono TT
      clear hA hB hR hO T UP
      have hA := hA1
      have hB := hB1
      have hR := hR1
      have hO := hO1
      have T := TT
      clear hA1 hB1 hR1 hO1 TT
      have ql : mx (qv a.1) (qv b.1) = qv b.1 := by have := of_decide_eq_true H1.out; unfold mx; grind
      have qh : mn (qv a.2) (qv b.2) = qv b.2 := by have := of_decide_eq_true H2.out; unfold mn; grind
      have OO : Hid (okF b.2 = true ∧ okF b.1 = true) := Lib.hid ⟨O4.out.2.2, O4.out.2.1⟩
      clear hA hB
      by_cases c : qv b.2 < qv b.1
      · have HT := Lib.hid (decide_eq_true c)
        have hpe : p = (zI, false) := by rw [← hp.out]; unfold meetI; rw [if_neg (fun g => by have := g.2.2; rw [ql, qh] at this; exact absurd c (Rat.not_lt.2 this))]
        subst hpe
        clear c ql qh hp
        have co0 := hO.c0
        have co1 := hO.c1
        have co2 := hO.c2
        have co3 := hO.c3
        have co4 := hO.c4
        have co5 := hO.c5
        go_wp2_with fail
        refine (lessN true bh bl OO HT).mono ?_
        rintro e w8 ⟨rfl, h8⟩
        replace hR := hR.mono h8
        replace T := Add.trans T h8
        clear h8 hO al ah bl bh OO HT co0 co1 co2 co3 co4 co5
        have hP := Box6.put hR false none 0 0 none 0 0 false none 0 0 none 0 0
        have hF := resB_put (w := w) (p := (zI, false)) hR (ivT_zero _) T (show w.heap.size ≤ w.heap.size + 2 by omega)
        obtain ⟨W7, hW7⟩ : ∃ W7, W7 = put6 (w8) (w.heap.size + 2) (.bool false) (.slice none 0 0) (.slice none 0 0) (.bool false) (.slice none 0 0) (.slice none 0 0) := ⟨_, rfl⟩
        rw [← hW7] at hP hF
        unfold put6 at hW7
        have HF := Lib.hid hF
        have HW := Lib.hid hW7
        have hbz := iv_zero
        have hr0 := hR.c0
        have hr1 := hR.c1
        have hr2 := hR.c2
        have hr3 := hR.c3
        have hr4 := hR.c4
        have hr5 := hR.c5
        have hr6 := hR.fr 0
        have hr7 := hR.fr 1
        have hr8 := hR.fr 2
        have hr9 := hR.fr 3
        have hr10 := hR.fr 4
        have hr11 := hR.fr 5
        clear hF hW7 hR T 
        go_wp2_with fail
        rw [← HW.out]
        exact bodyPost_ret (v := .tuple #[.agg #[.bool false, .slice none 0 0, .slice none 0 0, .bool false, .slice none 0 0, .slice none 0 0], .bool false]) (by simp [results, Tryz.results18, go_sem, hP.c0, hP.c1, hP.c2, hP.c3, hP.c4, hP.c5]) rfl HF.out
      · have HT := Lib.hid (decide_eq_false c)
        obtain ⟨⟨⟨s5, N5, D5⟩, ⟨s6, N6, D6⟩⟩, hq⟩ : ∃ q, (can (qv b.1), can (qv b.2)) = q := ⟨_, rfl⟩
        have hpe : p = (((s5, N5, D5), (s6, N6, D6)), true) := by
          rw [← hq, ← hp.out]; unfold meetI
          rw [if_pos ⟨FA.out, FB.out, by rw [ql, qh]; exact Rat.not_lt.1 c⟩, ql, qh]
        subst hpe
        have R1 : Hid (redF b.1 = ((s5, N5, D5), 0)) := Lib.hid (by rw [redF_ok O4.out.2.1]; exact congrArg (fun z : Iv => (z.1, 0)) hq)
        have R2 : Hid (redF b.2 = ((s6, N6, D6), 0)) := Lib.hid (by rw [redF_ok O4.out.2.2]; exact congrArg (fun z : Iv => (z.2, 0)) hq)
        clear c ql qh hp hq
        have co0 := hO.c0
        have co1 := hO.c1
        have co2 := hO.c2
        have co3 := hO.c3
        have co4 := hO.c4
        have co5 := hO.c5
        go_wp2_with fail
        refine (lessN false bh bl OO HT).mono ?_
        rintro e w8 ⟨rfl, h8⟩
        replace hR := hR.mono h8
        replace hO := hO.mono h8
        replace bl := bl.mono h8
        replace bh := bh.mono h8
        replace T := Add.trans T h8
        clear h8 OO HT co0 co1 co2 co3 co4 co5
        have qo : IvA w8 (.agg #[.bool b.1.1, .slice an2 n2 cn2, .slice ad2 d2 cd2, .bool b.2.1, .slice an3 n3 cn3, .slice ad3 d3 cd3]) (b.1, b.2) := iv_of_ends bl bh
        have co0 := hO.c0
        have co1 := hO.c1
        have co2 := hO.c2
        have co3 := hO.c3
        have co4 := hO.c4
        have co5 := hO.c5
        go_wp2_with fail
        refine (refLowestIN s5 N5 D5 s6 N6 D6 qo R1 R2).mono ?_
        rintro e w9 ⟨v9, rfl, ⟨a7, n7, k7, e7, d7, l7, a8, n8, k8, e8, d8, l8, rfl, x7, y7, x8, y8⟩, h9⟩
        replace hR := hR.mono h9
        replace T := Add.trans T h9
        clear h9 qo hO bl bh R1 R2 co0 co1 co2 co3 co4 co5
        have hP := Box6.put hR s5 a7 n7 k7 e7 d7 l7 s6 a8 n8 k8 e8 d8 l8
        have hF := resB_put (w := w) (p := (((s5, N5, D5), (s6, N6, D6)), true)) hR (⟨a7, n7, k7, e7, d7, l7, a8, n8, k8, e8, d8, l8, rfl, x7, y7, x8, y8⟩) T (show w.heap.size ≤ w.heap.size + 2 by omega)
        obtain ⟨W7, hW7⟩ : ∃ W7, W7 = put6 (w9) (w.heap.size + 2) (.bool s5) (.slice a7 n7 k7) (.slice e7 d7 l7) (.bool s6) (.slice a8 n8 k8) (.slice e8 d8 l8) := ⟨_, rfl⟩
        rw [← hW7] at hP hF
        unfold put6 at hW7
        have HF := Lib.hid hF
        have HW := Lib.hid hW7
        have hr0 := hR.c0
        have hr1 := hR.c1
        have hr2 := hR.c2
        have hr3 := hR.c3
        have hr4 := hR.c4
        have hr5 := hR.c5
        have hr6 := hR.fr 0
        have hr7 := hR.fr 1
        have hr8 := hR.fr 2
        have hr9 := hR.fr 3
        have hr10 := hR.fr 4
        have hr11 := hR.fr 5
        clear hF hW7 hR T x7 y7 x8 y8
        go_wp2_with fail
        rw [← HW.out]
        exact bodyPost_ret (v := .tuple #[.agg #[.bool s5, .slice a7 n7 k7, .slice e7 d7 l7, .bool s6, .slice a8 n8 k8, .slice e8 d8 l8], .bool true]) (by simp [results, Tryz.results18, go_sem, hP.c0, hP.c1, hP.c2, hP.c3, hP.c4, hP.c5]) rfl HF.out
end Go.Proofs.YtifpfoeecnkhoaaGreatDoor

namespace Go.Proofs.YtifpfoeecnkhoaaGreatDoor
open Go.RowKit NatM Go.Proofs.YtifpfoeecnkhoaaGreatDoor.Api

theorem startP (w : World) (x : Tri) (an : Option Addr) (n cn : Nat) (ad : Option Addr) (d cd : Nat) : Add w ((w.alloc (.cells #[.bool x.1, .slice an n cn, .slice ad d cd] 25)).alloc (.cells #[.bool false, .slice none 0 0, .slice none 0 0, .bool false, .slice none 0 0, .slice none 0 0] 27)) ∧ Box ((w.alloc (.cells #[.bool x.1, .slice an n cn, .slice ad d cd] 25)).alloc (.cells #[.bool false, .slice none 0 0, .slice none 0 0, .bool false, .slice none 0 0, .slice none 0 0] 27)) w.heap.size x.1 an n cn ad d cd ∧ Box6 ((w.alloc (.cells #[.bool x.1, .slice an n cn, .slice ad d cd] 25)).alloc (.cells #[.bool false, .slice none 0 0, .slice none 0 0, .bool false, .slice none 0 0, .slice none 0 0] 27)) (w.heap.size + 1) false none 0 0 none 0 0 false none 0 0 none 0 0 :=
  ⟨Add.trans (add_new _ _) (add_new _ _), (box_new ..).mono (add_new _ _), Box6.cells (by simp)⟩
set_option maxRecDepth 100000 in
set_option maxHeartbeats 2000000 in
theorem pointN_refuses {v : Value} {x : Tri} {w : World} (hx : FracA w v x) (h : Hid (okF x = false)) : Calls Tryz.prog 21 #[v] w (ResI w (zI, 1)) := by
  have hx0 := hx
  obtain ⟨an, n, cn, ad, d, cd, rfl, uN, uD⟩ := hx
  obtain ⟨T, hX, hR⟩ := startP w x an n cn ad d cd
  clear uN uD
  replace hx0 := hx0.mono T
  have cx0 := hX.c0
  have cx1 := hX.c1
  have cx2 := hX.c2
  go_enter Tryz.func21, Tryz.ntmps21
  go_wp2_with fail
  refine (validN false hx0 h).mono ?_
  rintro e w1 ⟨rfl, h1⟩
  replace hR := hR.mono h1
  replace T := Add.trans T h1
  clear h1 hX hx0 h cx0 cx1 cx2
  have hP := Box6.put hR false none 0 0 none 0 0 false none 0 0 none 0 0
  have hF := resI_put (w := w) (p := (zI, 1)) hR (ivT_zero _) T (show w.heap.size ≤ w.heap.size + 1 by omega)
  obtain ⟨W7, hW7⟩ : ∃ W7, W7 = put6 (w1) (w.heap.size + 1) (.bool false) (.slice none 0 0) (.slice none 0 0) (.bool false) (.slice none 0 0) (.slice none 0 0) := ⟨_, rfl⟩
  rw [← hW7] at hP hF
  unfold put6 at hW7
  have HF := Lib.hid hF
  have HW := Lib.hid hW7
  have hbz := iv_zero
  have hr0 := hR.c0
  have hr1 := hR.c1
  have hr2 := hR.c2
  have hr3 := hR.c3
  have hr4 := hR.c4
  have hr5 := hR.c5
  have hr6 := hR.fr 0
  have hr7 := hR.fr 1
  have hr8 := hR.fr 2
  have hr9 := hR.fr 3
  have hr10 := hR.fr 4
  have hr11 := hR.fr 5
  clear hF hW7 hR T 
  go_wp2_with fail
  rw [← HW.out]
  exact bodyPost_ret (v := .tuple #[.agg #[.bool false, .slice none 0 0, .slice none 0 0, .bool false, .slice none 0 0, .slice none 0 0], .int .i64 1]) (by simp [results, Tryz.results21, go_sem, hP.c0, hP.c1, hP.c2, hP.c3, hP.c4, hP.c5]) rfl HF.out
set_option maxRecDepth 100000 in
set_option maxHeartbeats 2000000 in
theorem pointN_works (s1 : Bool) (N1 D1 : Nat) {v : Value} {x : Tri} {w : World} (hx : FracA w v x) (hT : Tab w) (h : Hid (okF x = true)) (hp : Hid (can (qv x) = (s1, N1, D1))) : Calls Tryz.prog 21 #[v] w (ResI w (((s1, N1, D1), (s1, N1, D1)), 0)) := by
  have hx0 := hx
  obtain ⟨an, n, cn, ad, d, cd, rfl, uN, uD⟩ := hx
  obtain ⟨T, hX, hR⟩ := startP w x an n cn ad d cd
  clear uN uD
  replace hx0 := hx0.mono T
  replace hT := hT.mono T
  have CB : Hid (∀ w' u, FracA w' u x → Tab w' → Calls Tryz.prog 45 #[u, u] w' (RetI w' ((s1, N1, D1), (s1, N1, D1)))) := Lib.hid fun w' u g t => by have q := betweenN g g t (Lib.hid ⟨h.out, h.out⟩); rw [hp.out] at q; exact q
  have cx0 := hX.c0
  have cx1 := hX.c1
  have cx2 := hX.c2
  go_enter Tryz.func21, Tryz.ntmps21
  go_wp2_with fail
  refine (validN true hx0 h).mono ?_
  rintro e w1 ⟨rfl, h1⟩
  replace hR := hR.mono h1
  replace hX := hX.mono h1
  replace hx0 := hx0.mono h1
  replace hT := hT.mono h1
  replace T := Add.trans T h1
  clear h1 cx0 cx1 cx2
  have cx0 := hX.c0
  have cx1 := hX.c1
  have cx2 := hX.c2
  go_wp2_with fail
  refine (CB.out _ _ hx0 hT).mono ?_
  rintro e w2 ⟨v2, rfl, ⟨a1, n1, k1, e1, d1, l1, a2, n2, k2, e2, d2, l2, rfl, x1, y1, x2, y2⟩, h2⟩
  replace hR := hR.mono h2
  replace T := Add.trans T h2
  clear h2 CB hX hx0 hT cx0 cx1 cx2
  have hP := Box6.put hR s1 a1 n1 k1 e1 d1 l1 s1 a2 n2 k2 e2 d2 l2
  have hF := resI_put (w := w) (p := (((s1, N1, D1), (s1, N1, D1)), 0)) hR (⟨a1, n1, k1, e1, d1, l1, a2, n2, k2, e2, d2, l2, rfl, x1, y1, x2, y2⟩) T (show w.heap.size ≤ w.heap.size + 1 by omega)
  obtain ⟨W7, hW7⟩ : ∃ W7, W7 = put6 (w2) (w.heap.size + 1) (.bool s1) (.slice a1 n1 k1) (.slice e1 d1 l1) (.bool s1) (.slice a2 n2 k2) (.slice e2 d2 l2) := ⟨_, rfl⟩
  rw [← hW7] at hP hF
  unfold put6 at hW7
  have HF := Lib.hid hF
  have HW := Lib.hid hW7
  have hr0 := hR.c0
  have hr1 := hR.c1
  have hr2 := hR.c2
  have hr3 := hR.c3
  have hr4 := hR.c4
  have hr5 := hR.c5
  have hr6 := hR.fr 0
  have hr7 := hR.fr 1
  have hr8 := hR.fr 2
  have hr9 := hR.fr 3
  have hr10 := hR.fr 4
  have hr11 := hR.fr 5
  clear hF hW7 hR T x1 y1 x2 y2
  go_wp2_with fail
  rw [← HW.out]
  exact bodyPost_ret (v := .tuple #[.agg #[.bool s1, .slice a1 n1 k1, .slice e1 d1 l1, .bool s1, .slice a2 n2 k2, .slice e2 d2 l2], .int .i64 0]) (by simp [results, Tryz.results21, go_sem, hP.c0, hP.c1, hP.c2, hP.c3, hP.c4, hP.c5]) rfl HF.out
set_option maxRecDepth 100000 in
set_option maxHeartbeats 2000000 in
theorem refPointN_refuses {v : Value} {x : Tri} {w : World} (hx : FracA w v x) (h : Hid (redF x = ((false, 0, 0), 1))) : Calls Tryz.prog 22 #[v] w (ResI w (zI, 1)) := by
  have hx0 := hx
  obtain ⟨an, n, cn, ad, d, cd, rfl, uN, uD⟩ := hx
  obtain ⟨T, hX, hR⟩ := startP w x an n cn ad d cd
  clear uN uD
  replace hx0 := hx0.mono T
  have cx0 := hX.c0
  have cx1 := hX.c1
  have cx2 := hX.c2
  go_enter Tryz.func22, Tryz.ntmps22
  go_wp2_with fail
  refine ((refReduceN _ hx0 h).mono fun _ _ g => g.no).mono ?_
  rintro e w1 ⟨z1, z2, z3, z4, rfl, -, -, h1⟩
  replace hR := hR.mono h1
  replace T := Add.trans T h1
  clear h1 hX hx0 h cx0 cx1 cx2
  obtain ⟨tt, hV⟩ := laid_var w1 false z1 0 z2 z3 0 z4
  replace hR := hR.mono tt
  replace T := Add.trans T tt
  clear tt
  clear hV
  have hP := Box6.put hR false none 0 0 none 0 0 false none 0 0 none 0 0
  have hF := resI_put (w := w) (p := (zI, 1)) hR (ivT_zero _) T (show w.heap.size ≤ w.heap.size + 1 by omega)
  obtain ⟨W7, hW7⟩ : ∃ W7, W7 = put6 (w1.alloc (.cells #[.bool false, .slice z1 0 z2, .slice z3 0 z4] 25)) (w.heap.size + 1) (.bool false) (.slice none 0 0) (.slice none 0 0) (.bool false) (.slice none 0 0) (.slice none 0 0) := ⟨_, rfl⟩
  rw [← hW7] at hP hF
  unfold put6 at hW7
  have HF := Lib.hid hF
  have HW := Lib.hid hW7
  have hbz := iv_zero
  have hr0 := hR.c0
  have hr1 := hR.c1
  have hr2 := hR.c2
  have hr3 := hR.c3
  have hr4 := hR.c4
  have hr5 := hR.c5
  have hr6 := hR.fr 0
  have hr7 := hR.fr 1
  have hr8 := hR.fr 2
  have hr9 := hR.fr 3
  have hr10 := hR.fr 4
  have hr11 := hR.fr 5
  clear hF hW7 hR T 
  go_wp2_with fail
  rw [← HW.out]
  exact bodyPost_ret (v := .tuple #[.agg #[.bool false, .slice none 0 0, .slice none 0 0, .bool false, .slice none 0 0, .slice none 0 0], .int .i64 1]) (by simp [results, Tryz.results22, go_sem, hP.c0, hP.c1, hP.c2, hP.c3, hP.c4, hP.c5]) rfl HF.out
set_option maxRecDepth 100000 in
set_option maxHeartbeats 2000000 in
theorem refPointN_works (s1 : Bool) (N1 D1 : Nat) {v : Value} {x : Tri} {w : World} (hx : FracA w v x) (h : Hid (redF x = ((s1, N1, D1), 0))) : Calls Tryz.prog 22 #[v] w (ResI w (((s1, N1, D1), (s1, N1, D1)), 0)) := by
  have hx0 := hx
  obtain ⟨an, n, cn, ad, d, cd, rfl, uN, uD⟩ := hx
  obtain ⟨T, hX, hR⟩ := startP w x an n cn ad d cd
  clear uN uD
  replace hx0 := hx0.mono T
  have cx0 := hX.c0
  have cx1 := hX.c1
  have cx2 := hX.c2
  go_enter Tryz.func22, Tryz.ntmps22
  go_wp2_with fail
  refine ((refReduceN _ hx0 h).mono fun _ _ g => g.ok).mono ?_
  rintro e w1 ⟨a1, n1, k1, e1, d1, l1, rfl, x1, y1, h1⟩
  replace hR := hR.mono h1
  replace T := Add.trans T h1
  clear h1 hX hx0 h cx0 cx1 cx2
  obtain ⟨tt, hV⟩ := laid_var w1 s1 a1 n1 k1 e1 d1 l1
  replace hR := hR.mono tt
  replace x1 := x1.mono tt
  replace y1 := y1.mono tt
  replace T := Add.trans T tt
  clear tt
  have cv0 := hV.c0
  have cv1 := hV.c1
  have cv2 := hV.c2
  have hP := Box6.put hR s1 a1 n1 k1 e1 d1 l1 s1 a1 n1 k1 e1 d1 l1
  have hF := resI_put (w := w) (p := (((s1, N1, D1), (s1, N1, D1)), 0)) hR (⟨a1, n1, k1, e1, d1, l1, a1, n1, k1, e1, d1, l1, rfl, x1, y1, x1, y1⟩) T (show w.heap.size ≤ w.heap.size + 1 by omega)
  obtain ⟨W7, hW7⟩ : ∃ W7, W7 = put6 (w1.alloc (.cells #[.bool s1, .slice a1 n1 k1, .slice e1 d1 l1] 25)) (w.heap.size + 1) (.bool s1) (.slice a1 n1 k1) (.slice e1 d1 l1) (.bool s1) (.slice a1 n1 k1) (.slice e1 d1 l1) := ⟨_, rfl⟩
  rw [← hW7] at hP hF
  unfold put6 at hW7
  have HF := Lib.hid hF
  have HW := Lib.hid hW7
  have hbu := iv_build s1 a1 n1 k1 e1 d1 l1 s1 a1 n1 k1 e1 d1 l1
  have hr0 := hR.c0
  have hr1 := hR.c1
  have hr2 := hR.c2
  have hr3 := hR.c3
  have hr4 := hR.c4
  have hr5 := hR.c5
  have hr6 := hR.fr 0
  have hr7 := hR.fr 1
  have hr8 := hR.fr 2
  have hr9 := hR.fr 3
  have hr10 := hR.fr 4
  have hr11 := hR.fr 5
  clear hF hW7 hR T x1 y1 hV
  go_wp2_with fail
  rw [← HW.out]
  exact bodyPost_ret (v := .tuple #[.agg #[.bool s1, .slice a1 n1 k1, .slice e1 d1 l1, .bool s1, .slice a1 n1 k1, .slice e1 d1 l1], .int .i64 0]) (by simp [results, Tryz.results22, go_sem, hP.c0, hP.c1, hP.c2, hP.c3, hP.c4, hP.c5]) rfl HF.out
end Go.Proofs.YtifpfoeecnkhoaaGreatDoor

namespace Go.Proofs.YtifpfoeecnkhoaaGreatDoor
open Go.RowKit NatM Go.Proofs.YtifpfoeecnkhoaaGreatDoor.Api

theorem startSc (w : World) (x : Tri) (an4 : Option Addr) (n4 : Nat) (cn4 : Nat) (ad4 : Option Addr) (d4 : Nat) (cd4 : Nat) (a : Iv) (an : Option Addr) (n cn : Nat) (ad : Option Addr) (d cd : Nat) (an' : Option Addr) (n' cn' : Nat) (ad' : Option Addr) (d' cd' : Nat) : Add w (((w.alloc (.cells #[.bool x.1, .slice an4 n4 cn4, .slice ad4 d4 cd4] 25)).alloc (.cells #[.bool a.1.1, .slice an n cn, .slice ad d cd, .bool a.2.1, .slice an' n' cn', .slice ad' d' cd'] 27)).alloc (.cells #[.bool false, .slice none 0 0, .slice none 0 0, .bool false, .slice none 0 0, .slice none 0 0] 27)) ∧ Box (((w.alloc (.cells #[.bool x.1, .slice an4 n4 cn4, .slice ad4 d4 cd4] 25)).alloc (.cells #[.bool a.1.1, .slice an n cn, .slice ad d cd, .bool a.2.1, .slice an' n' cn', .slice ad' d' cd'] 27)).alloc (.cells #[.bool false, .slice none 0 0, .slice none 0 0, .bool false, .slice none 0 0, .slice none 0 0] 27)) w.heap.size x.1 an4 n4 cn4 ad4 d4 cd4 ∧ Box6 (((w.alloc (.cells #[.bool x.1, .slice an4 n4 cn4, .slice ad4 d4 cd4] 25)).alloc (.cells #[.bool a.1.1, .slice an n cn, .slice ad d cd, .bool a.2.1, .slice an' n' cn', .slice ad' d' cd'] 27)).alloc (.cells #[.bool false, .slice none 0 0, .slice none 0 0, .bool false, .slice none 0 0, .slice none 0 0] 27)) (w.heap.size + 1) a.1.1 an n cn ad d cd a.2.1 an' n' cn' ad' d' cd' ∧ Box6 (((w.alloc (.cells #[.bool x.1, .slice an4 n4 cn4, .slice ad4 d4 cd4] 25)).alloc (.cells #[.bool a.1.1, .slice an n cn, .slice ad d cd, .bool a.2.1, .slice an' n' cn', .slice ad' d' cd'] 27)).alloc (.cells #[.bool false, .slice none 0 0, .slice none 0 0, .bool false, .slice none 0 0, .slice none 0 0] 27)) (w.heap.size + 2) false none 0 0 none 0 0 false none 0 0 none 0 0 :=
  ⟨Add.trans (Add.trans (add_new _ _) (add_new _ _)) (add_new _ _), ((box_new ..).mono (add_new _ _)).mono (add_new _ _), (Box6.cells (by simp)).mono (add_new _ _), Box6.cells (by simp)⟩
set_option maxRecDepth 100000 in
set_option maxHeartbeats 2000000 in
theorem scaleN_refuses {v v' : Value} {x : Tri} {a : Iv} {w : World} (hx : FracA w v x) (ha : IvA w v' a) (h : Hid (okF x = false ∨ okI a = false)) : Calls Tryz.prog 15 #[v, v'] w (ResI w (zI, 1)) := by
  have hx0 := hx
  have ha0 := ha
  obtain ⟨an, n, cn, ad, d, cd, an', n', cn', ad', d', cd', rfl, u1, u2, u3, u4⟩ := ha
  obtain ⟨an4, n4, cn4, ad4, d4, cd4, rfl, u5, u6⟩ := hx
  obtain ⟨T, hX, hA, hR⟩ := startSc w x an4 n4 cn4 ad4 d4 cd4 a an n cn ad d cd an' n' cn' ad' d' cd'
  clear u1 u2 u3 u4 u5 u6
  replace hx0 := hx0.mono T
  replace ha0 := ha0.mono T
  have cx0 := hX.c0
  have cx1 := hX.c1
  have cx2 := hX.c2
  go_enter Tryz.func15, Tryz.ntmps15
  by_cases c : okF x = false
  · have FX := Lib.hid c
    clear c h
    go_wp2_with fail
    refine (validN false hx0 FX).mono ?_
    rintro e w1 ⟨rfl, h1⟩
    replace hR := hR.mono h1
    replace T := Add.trans T h1
    clear h1 hX hA hx0 ha0 FX cx0 cx1 cx2
    have hP := Box6.put hR false none 0 0 none 0 0 false none 0 0 none 0 0
    have hF := resI_put (w := w) (p := (zI, 1)) hR (ivT_zero _) T (show w.heap.size ≤ w.heap.size + 2 by omega)
    obtain ⟨W7, hW7⟩ : ∃ W7, W7 = put6 (w1) (w.heap.size + 2) (.bool false) (.slice none 0 0) (.slice none 0 0) (.bool false) (.slice none 0 0) (.slice none 0 0) := ⟨_, rfl⟩
    rw [← hW7] at hP hF
    unfold put6 at hW7
    have HF := Lib.hid hF
    have HW := Lib.hid hW7
    have hbz := iv_zero
    have hr0 := hR.c0
    have hr1 := hR.c1
    have hr2 := hR.c2
    have hr3 := hR.c3
    have hr4 := hR.c4
    have hr5 := hR.c5
    have hr6 := hR.fr 0
    have hr7 := hR.fr 1
    have hr8 := hR.fr 2
    have hr9 := hR.fr 3
    have hr10 := hR.fr 4
    have hr11 := hR.fr 5
    clear hF hW7 hR T 
    go_wp2_with fail
    rw [← HW.out]
    exact bodyPost_ret (v := .tuple #[.agg #[.bool false, .slice none 0 0, .slice none 0 0, .bool false, .slice none 0 0, .slice none 0 0], .int .i64 1]) (by simp [results, Tryz.results15, go_sem, hP.c0, hP.c1, hP.c2, hP.c3, hP.c4, hP.c5]) rfl HF.out
  · have FA := Lib.hid (h.out.resolve_left c)
    have FX : Hid (okF x = true) := Lib.hid (by simpa using c)
    clear c h
    go_wp2_with fail
    refine (validN true hx0 FX).mono ?_
    rintro e w1 ⟨rfl, h1⟩
    replace hR := hR.mono h1
    replace hA := hA.mono h1
    replace ha0 := ha0.mono h1
    replace T := Add.trans T h1
    clear h1 hX hx0 FX cx0 cx1 cx2
    have ca0 := hA.c0
    have ca1 := hA.c1
    have ca2 := hA.c2
    have ca3 := hA.c3
    have ca4 := hA.c4
    have ca5 := hA.c5
    go_wp2_with fail
    refine (validIN false ha0 FA).mono ?_
    rintro e w2 ⟨rfl, h2⟩
    replace hR := hR.mono h2
    replace T := Add.trans T h2
    clear h2 hA ha0 FA ca0 ca1 ca2 ca3 ca4 ca5
    have hP := Box6.put hR false none 0 0 none 0 0 false none 0 0 none 0 0
    have hF := resI_put (w := w) (p := (zI, 1)) hR (ivT_zero _) T (show w.heap.size ≤ w.heap.size + 2 by omega)
    obtain ⟨W7, hW7⟩ : ∃ W7, W7 = put6 (w2) (w.heap.size + 2) (.bool false) (.slice none 0 0) (.slice none 0 0) (.bool false) (.slice none 0 0) (.slice none 0 0) := ⟨_, rfl⟩
    rw [← hW7] at hP hF
    unfold put6 at hW7
    have HF := Lib.hid hF
    have HW := Lib.hid hW7
    have hbz := iv_zero
    have hr0 := hR.c0
    have hr1 := hR.c1
    have hr2 := hR.c2
    have hr3 := hR.c3
    have hr4 := hR.c4
    have hr5 := hR.c5
    have hr6 := hR.fr 0
    have hr7 := hR.fr 1
    have hr8 := hR.fr 2
    have hr9 := hR.fr 3
    have hr10 := hR.fr 4
    have hr11 := hR.fr 5
    clear hF hW7 hR T 
    go_wp2_with fail
    rw [← HW.out]
    exact bodyPost_ret (v := .tuple #[.agg #[.bool false, .slice none 0 0, .slice none 0 0, .bool false, .slice none 0 0, .slice none 0 0], .int .i64 1]) (by simp [results, Tryz.results15, go_sem, hP.c0, hP.c1, hP.c2, hP.c3, hP.c4, hP.c5]) rfl HF.out
set_option maxRecDepth 100000 in
set_option maxHeartbeats 2000000 in
theorem scaleN_works (s1 : Bool) (N1 D1 : Nat) (s2 : Bool) (N2 D2 : Nat) {v v' : Value} {x : Tri} {a : Iv} {w : World} (hx : FracA w v x) (ha : IvA w v' a) (hT : Tab w) (h : Hid (okF x = true ∧ okI a = true)) (g1 : Hid (mulF x a.1 = (can (qv x * qv a.1), 0))) (g2 : Hid (mulF x a.2 = (can (qv x * qv a.2), 0))) (hp : Hid ((can (lo2 (qv x) (qv a.1) (qv a.2)), can (hi2 (qv x) (qv a.1) (qv a.2))) = ((s1, N1, D1), (s2, N2, D2)))) : Calls Tryz.prog 15 #[v, v'] w (ResI w (((s1, N1, D1), (s2, N2, D2)), 0)) := by
  have hx0 := hx
  have ha0 := ha
  obtain ⟨an, n, cn, ad, d, cd, an', n', cn', ad', d', cd', rfl, u1, u2, u3, u4⟩ := ha
  obtain ⟨an4, n4, cn4, ad4, d4, cd4, rfl, u5, u6⟩ := hx
  obtain ⟨T, hX, hA, hR⟩ := startSc w x an4 n4 cn4 ad4 d4 cd4 a an n cn ad d cd an' n' cn' ad' d' cd'
  clear u1 u2 u3 u4 u5 u6
  replace hx0 := hx0.mono T
  replace ha0 := ha0.mono T
  replace hT := hT.mono T
  have FX := Lib.hid h.out.1
  have FA := Lib.hid h.out.2
  have cx0 := hX.c0
  have cx1 := hX.c1
  have cx2 := hX.c2
  go_enter Tryz.func15, Tryz.ntmps15
  go_wp2_with fail
  refine (validN true hx0 FX).mono ?_
  rintro e w1 ⟨rfl, h1⟩
  replace hT := hT.mono h1
  replace hR := hR.mono h1
  replace hA := hA.mono h1
  replace hX := hX.mono h1
  replace hx0 := hx0.mono h1
  replace ha0 := ha0.mono h1
  replace T := Add.trans T h1
  clear h1 FX cx0 cx1 cx2
  have ca0 := hA.c0
  have ca1 := hA.c1
  have ca2 := hA.c2
  have ca3 := hA.c3
  have ca4 := hA.c4
  have ca5 := hA.c5
  go_wp2_with fail
  refine (validIN true ha0 FA).mono ?_
  rintro e w2 ⟨rfl, h2⟩
  replace hT := hT.mono h2
  replace hR := hR.mono h2
  replace hA := hA.mono h2
  replace hX := hX.mono h2
  replace hx0 := hx0.mono h2
  replace ha0 := ha0.mono h2
  replace T := Add.trans T h2
  clear h2 FA ca0 ca1 ca2 ca3 ca4 ca5
  have cx0 := hX.c0
  have cx1 := hX.c1
  have cx2 := hX.c2
  have ca0 := hA.c0
  have ca1 := hA.c1
  have ca2 := hA.c2
  have ca3 := hA.c3
  have ca4 := hA.c4
  have ca5 := hA.c5
  go_wp2_with fail
  refine ((scaledC s1 N1 D1 s2 N2 D2 hx0 ha0 hT h g1 g2 hp).mono fun _ _ g => g.ok).mono ?_
  rintro e w3 ⟨a1, n1, k1, e1, d1, l1, a2, m2, k2, e2, d4, l2, rfl, x1, y1, x2, y2, h3⟩
  replace hR := hR.mono h3
  replace T := Add.trans T h3
  clear h3 hx0 ha0 hT h g1 g2 hp hX hA cx0 cx1 cx2 ca0 ca1 ca2 ca3 ca4 ca5
  have hP := Box6.put hR s1 a1 n1 k1 e1 d1 l1 s2 a2 m2 k2 e2 d4 l2
  have hF := resI_put (w := w) (p := (((s1, N1, D1), (s2, N2, D2)), 0)) hR (⟨a1, n1, k1, e1, d1, l1, a2, m2, k2, e2, d4, l2, rfl, x1, y1, x2, y2⟩) T (show w.heap.size ≤ w.heap.size + 2 by omega)
  obtain ⟨W7, hW7⟩ : ∃ W7, W7 = put6 (w3) (w.heap.size + 2) (.bool s1) (.slice a1 n1 k1) (.slice e1 d1 l1) (.bool s2) (.slice a2 m2 k2) (.slice e2 d4 l2) := ⟨_, rfl⟩
  rw [← hW7] at hP hF
  unfold put6 at hW7
  have HF := Lib.hid hF
  have HW := Lib.hid hW7
  have hr0 := hR.c0
  have hr1 := hR.c1
  have hr2 := hR.c2
  have hr3 := hR.c3
  have hr4 := hR.c4
  have hr5 := hR.c5
  have hr6 := hR.fr 0
  have hr7 := hR.fr 1
  have hr8 := hR.fr 2
  have hr9 := hR.fr 3
  have hr10 := hR.fr 4
  have hr11 := hR.fr 5
  clear hF hW7 hR T x1 y1 x2 y2
  go_wp2_with fail
  rw [← HW.out]
  exact bodyPost_ret (v := .tuple #[.agg #[.bool s1, .slice a1 n1 k1, .slice e1 d1 l1, .bool s2, .slice a2 m2 k2, .slice e2 d4 l2], .int .i64 0]) (by simp [results, Tryz.results15, go_sem, hP.c0, hP.c1, hP.c2, hP.c3, hP.c4, hP.c5]) rfl HF.out
end Go.Proofs.YtifpfoeecnkhoaaGreatDoor

namespace Go.Proofs.YtifpfoeecnkhoaaGreatDoor
open Go.RowKit NatM Go.Proofs.YtifpfoeecnkhoaaGreatDoor.Api

/-- A list of intervals. -/
def IvsA (w : World) (v : Value) (L : List Iv) : Prop := ∃ (a : Option Addr) (n c : Nat), v = .slice a n c ∧ L.length = n ∧ n ≤ 100000 ∧
  ∀ i, i < n → ∃ b off s an m cn ad d cd s' an' m' cn' ad' d' cd', a = some ⟨b, off, none⟩ ∧ w.cell? ⟨b, off + i * 6, none⟩ = some (.bool s) ∧ w.cell? ⟨b, off + i * 6 + 1, none⟩ = some (.slice an m cn) ∧ w.cell? ⟨b, off + i * 6 + 2, none⟩ = some (.slice ad d cd) ∧ w.cell? ⟨b, off + i * 6 + 3, none⟩ = some (.bool s') ∧ w.cell? ⟨b, off + i * 6 + 4, none⟩ = some (.slice an' m' cn') ∧ w.cell? ⟨b, off + i * 6 + 5, none⟩ = some (.slice ad' d' cd') ∧
    IvA w (.agg #[.bool s, .slice an m cn, .slice ad d cd, .bool s', .slice an' m' cn', .slice ad' d' cd']) (L.getD i zI)
theorem IvsA.mono {w w' : World} {v : Value} {L : List Iv} (h : IvsA w v L) (hb : Add w w') : IvsA w' v L := by
  obtain ⟨a, n, c, rfl, hl, h1, h⟩ := h
  refine ⟨a, n, c, rfl, hl, h1, fun i hi => ?_⟩
  obtain ⟨b, off, s, an, m, cn, ad, d, cd, s', an', m', cn', ad', d', cd', e, q0, q1, q2, q3, q4, q5, q⟩ := h i hi
  have k := fun (p : Addr) (v : Value) (g : w.cell? p = some v) => (hb.cell (p := p) (World.block_lt_of_cell? w _ g)).trans g
  exact ⟨b, off, s, an, m, cn, ad, d, cd, s', an', m', cn', ad', d', cd', e, k _ _ q0, k _ _ q1, k _ _ q2, k _ _ q3, k _ _ q4, k _ _ q5, q.mono hb⟩
/-- Lower and upper ends, met one by one. -/
def lowL (q : Rat) : List Iv → Rat
  | [] => q
  | x :: t => lowL (mn q (qv x.1)) t
def highL (q : Rat) : List Iv → Rat
  | [] => q
  | x :: t => highL (mx q (qv x.2)) t
def hullF (q r : Rat) (L : List Iv) : Iv × Nat := if L.all okI = true then ((can (lowL q L), can (highL r L)), 0) else (zI, 1)
def hullI : List Iv → Iv × Nat
  | [] => (zI, 1)
  | x :: t => hullF (qv x.1) (qv x.2) (x :: t)
theorem hullF_nil (q r : Rat) : hullF q r [] = ((can q, can r), 0) := rfl
theorem hullF_step {q r : Rat} {y : Iv} {t : List Iv} (h : okI y = true) : hullF q r (y :: t) = hullF (mn q (qv y.1)) (mx r (qv y.2)) t := by
  unfold hullF; rw [List.all_cons, h, Bool.true_and]; rfl
theorem hullF_bad {q r : Rat} {y : Iv} {t : List Iv} (h : okI y = false) : hullF q r (y :: t) = (zI, 1) := by
  unfold hullF; rw [List.all_cons, h, Bool.false_and]; rfl
theorem mn_self (q : Rat) : mn q q = q := by unfold mn; simp
theorem mx_self (q : Rat) : mx q q = q := by unfold mx; simp
theorem hullI_cons {y : Iv} {t : List Iv} (h : okI y = true) : hullI (y :: t) = hullF (qv y.1) (qv y.2) t := by
  show hullF (qv y.1) (qv y.2) (y :: t) = _
  rw [hullF_step h, mn_self, mx_self]
theorem hullF_all_bad {q r : Rat} {L : List Iv} {y : Iv} (hy : y ∈ L) (h : okI y = false) : hullF q r L = (zI, 1) := by
  unfold hullF
  rw [if_neg]
  intro e
  rw [List.all_eq_true.1 e y hy] at h
  cases h
/-- What the lower end is: one of the ends, and none is lower. -/
theorem lowL_spec (L : List Iv) : ∀ q, (lowL q L = q ∨ ∃ x ∈ L, lowL q L = qv x.1) ∧ lowL q L ≤ q ∧ ∀ x ∈ L, lowL q L ≤ qv x.1 := by
  induction L with
  | nil => intro q; exact ⟨.inl rfl, Rat.le_refl, fun x hx => by cases hx⟩
  | cons y t ih =>
    intro q
    obtain ⟨h1, h2, h3⟩ := ih (mn q (qv y.1))
    have m := mn_le q (qv y.1)
    refine ⟨?_, Rat.le_trans h2 m.1, ?_⟩
    · rcases h1 with h1 | ⟨x, hx, h1⟩
      · rcases mn_or q (qv y.1) with e | e
        · exact .inl (h1.trans e)
        · exact .inr ⟨y, List.mem_cons_self, h1.trans e⟩
      · exact .inr ⟨x, List.mem_cons_of_mem _ hx, h1⟩
    · intro x hx
      rcases List.mem_cons.1 hx with rfl | hx
      · exact Rat.le_trans h2 m.2
      · exact h3 x hx
theorem highL_spec (L : List Iv) : ∀ q, (highL q L = q ∨ ∃ x ∈ L, highL q L = qv x.2) ∧ q ≤ highL q L ∧ ∀ x ∈ L, qv x.2 ≤ highL q L := by
  induction L with
  | nil => intro q; exact ⟨.inl rfl, Rat.le_refl, fun x hx => by cases hx⟩
  | cons y t ih =>
    intro q
    obtain ⟨h1, h2, h3⟩ := ih (mx q (qv y.2))
    have m := le_mx q (qv y.2)
    refine ⟨?_, Rat.le_trans m.1 h2, ?_⟩
    · rcases h1 with h1 | ⟨x, hx, h1⟩
      · rcases mx_or q (qv y.2) with e | e
        · exact .inl (h1.trans e)
        · exact .inr ⟨y, List.mem_cons_self, h1.trans e⟩
      · exact .inr ⟨x, List.mem_cons_of_mem _ hx, h1⟩
    · intro x hx
      rcases List.mem_cons.1 hx with rfl | hx
      · exact Rat.le_trans m.2 h2
      · exact h3 x hx
/-- The order of the list does not matter. -/
theorem hullI_perm {L M : List Iv} (h : ∀ x, x ∈ L ↔ x ∈ M) : hullI L = hullI M := by
  cases L with
  | nil =>
    cases M with
    | nil => rfl
    | cons y t => exact absurd ((h y).2 List.mem_cons_self) (by simp)
  | cons x s =>
    cases M with
    | nil => exact absurd ((h x).1 List.mem_cons_self) (by simp)
    | cons y t =>
      show hullF _ _ (x :: s) = hullF _ _ (y :: t)
      have e : (x :: s).all okI = (y :: t).all okI := by
        rw [Bool.eq_iff_iff, List.all_eq_true, List.all_eq_true]
        exact ⟨fun g z hz => g z ((h z).2 hz), fun g z hz => g z ((h z).1 hz)⟩
      unfold hullF
      rw [e]
      have l1 := lowL_spec (x :: s) (qv x.1)
      have l2 := lowL_spec (y :: t) (qv y.1)
      have u1 := highL_spec (x :: s) (qv x.2)
      have u2 := highL_spec (y :: t) (qv y.2)
      have a1 : ∃ z ∈ x :: s, lowL (qv x.1) (x :: s) = qv z.1 := l1.1.elim (fun e => ⟨x, List.mem_cons_self, e⟩) id
      have a2 : ∃ z ∈ y :: t, lowL (qv y.1) (y :: t) = qv z.1 := l2.1.elim (fun e => ⟨y, List.mem_cons_self, e⟩) id
      have b1 : ∃ z ∈ x :: s, highL (qv x.2) (x :: s) = qv z.2 := u1.1.elim (fun e => ⟨x, List.mem_cons_self, e⟩) id
      have b2 : ∃ z ∈ y :: t, highL (qv y.2) (y :: t) = qv z.2 := u2.1.elim (fun e => ⟨y, List.mem_cons_self, e⟩) id
      obtain ⟨z1, m1, e1⟩ := a1
      obtain ⟨z2, m2, e2⟩ := a2
      obtain ⟨z3, m3, e3⟩ := b1
      obtain ⟨z4, m4, e4⟩ := b2
      have k1 : lowL (qv x.1) (x :: s) = lowL (qv y.1) (y :: t) :=
        Rat.le_antisymm (by rw [e2]; exact l1.2.2 z2 ((h z2).2 m2)) (by rw [e1]; exact l2.2.2 z1 ((h z1).1 m1))
      have k2 : highL (qv x.2) (x :: s) = highL (qv y.2) (y :: t) :=
        Rat.le_antisymm (by rw [e3]; exact u2.2.2 z3 ((h z3).1 m3)) (by rw [e4]; exact u1.2.2 z4 ((h z4).2 m4))
      rw [k1, k2]
/-- Two intervals laid side by side. -/
theorem ivs_two {w : World} {g : Nat} {a b : Iv} {an n cn ad d cd an' n' cn' ad' d' cd' an2 n2 cn2 ad2 d2 cd2 an3 n3 cn3 ad3 d3 cd3} (ha : IvA w (.agg #[.bool a.1.1, .slice an n cn, .slice ad d cd, .bool a.2.1, .slice an' n' cn', .slice ad' d' cd']) a) (hb : IvA w (.agg #[.bool b.1.1, .slice an2 n2 cn2, .slice ad2 d2 cd2, .bool b.2.1, .slice an3 n3 cn3, .slice ad3 d3 cd3]) b) (hg : w.heap.size = g) :
    IvsA (w.alloc (.cells #[.bool a.1.1, .slice an n cn, .slice ad d cd, .bool a.2.1, .slice an' n' cn', .slice ad' d' cd', .bool b.1.1, .slice an2 n2 cn2, .slice ad2 d2 cd2, .bool b.2.1, .slice an3 n3 cn3, .slice ad3 d3 cd3] 27)) (.slice (some ⟨g, 0, none⟩) 2 2) [a, b] := by
  subst hg
  refine ⟨_, 2, 2, rfl, rfl, by decide, fun i hi => ?_⟩
  have e : i = 0 ∨ i = 1 := by omega
  rcases e with rfl | rfl
  · refine ⟨w.heap.size, 0, a.1.1, an, n, cn, ad, d, cd, a.2.1, an', n', cn', ad', d', cd', rfl, ?_, ?_, ?_, ?_, ?_, ?_, ha.mono (add_new _ _)⟩ <;> rw [World.cell?_alloc_new] <;> rfl
  · refine ⟨w.heap.size, 0, b.1.1, an2, n2, cn2, ad2, d2, cd2, b.2.1, an3, n3, cn3, ad3, d3, cd3, rfl, ?_, ?_, ?_, ?_, ?_, ?_, hb.mono (add_new _ _)⟩ <;> rw [World.cell?_alloc_new] <;> rfl
end Go.Proofs.YtifpfoeecnkhoaaGreatDoor

namespace Go.Proofs.YtifpfoeecnkhoaaGreatDoor
open Go.RowKit NatM Go.Proofs.YtifpfoeecnkhoaaGreatDoor.Api

theorem meetI_comm (a b : Iv) : meetI b a = meetI a b := by
  have e1 : mx (qv b.1) (qv a.1) = mx (qv a.1) (qv b.1) := by unfold mx; grind
  have e2 : mn (qv b.2) (qv a.2) = mn (qv a.2) (qv b.2) := by unfold mn; grind
  unfold meetI
  rw [e1, e2]
  by_cases c : okI a = true ∧ okI b = true ∧ mx (qv a.1) (qv b.1) ≤ mn (qv a.2) (qv b.2)
  · rw [if_pos c, if_pos ⟨c.2.1, c.1, c.2.2⟩]
  · rw [if_neg c, if_neg (fun g => c ⟨g.2.1, g.1, g.2.2⟩)]
theorem mn_sz {k : Nat} {x y : Tri} (hx : Sz k x) (hy : Sz k y) (h : k ≤ 128) : Sz k (can (mn (qv x) (qv y))) := by
  rcases mn_or (qv x) (qv y) with e | e <;> rw [e]
  · exact (red_sz hx h).2
  · exact (red_sz hy h).2
theorem mx_sz {k : Nat} {x y : Tri} (hx : Sz k x) (hy : Sz k y) (h : k ≤ 128) : Sz k (can (mx (qv x) (qv y))) := by
  rcases mx_or (qv x) (qv y) with e | e <;> rw [e]
  · exact (red_sz hx h).2
  · exact (red_sz hy h).2
theorem okI_can {i j : Nat} {p q : Rat} (hp : Sz i (can p)) (hq : Sz j (can q)) (hi : i ≤ 128) (hj : j ≤ 128) (h : p ≤ q) : okI (can p, can q) = true :=
  okI_iff.2 ⟨hp.ok hi, hq.ok hj, by rw [qv_can, qv_can]; exact h⟩
theorem subsI_of {a b : Iv} (ha : okI a = true) (hb : okI b = true) (h1 : qv b.1 ≤ qv a.1) (h2 : qv a.2 ≤ qv b.2) : subsI a b = true := by
  unfold subsI; rw [ha, hb, decide_eq_true ⟨h1, h2⟩]; rfl
/-- Two intervals that are valid. -/
theorem lat_math {a b : Iv} (x : Tri) (sa : SzI 12 a) (sb : SzI 12 b) (oa : okI a = true) (ob : okI b = true) : ∃ (H M : Iv) (o : Bool),
    hullI [a, b] = (H, 0) ∧ SzI 12 H ∧ subsI a H = true ∧ subsI b H = true ∧ meetI a b = (M, o) ∧ meetI b a = (M, o) ∧
    (o = true → SzI 12 M ∧ subsI M a = true ∧ subsI M b = true) ∧ (o = false → M = zI) ∧ (inI a x && inI b x) = (o && inI M x) := by
  have la := (okI_iff.1 oa).2.2
  have lb := (okI_iff.1 ob).2.2
  have n1 := mn_le (qv a.1) (qv b.1)
  have x1 := le_mx (qv a.2) (qv b.2)
  have n2 := mn_le (qv a.2) (qv b.2)
  have x2 := le_mx (qv a.1) (qv b.1)
  have hs1 := mn_sz sa.1 sb.1 (by decide)
  have hs2 := mx_sz sa.2 sb.2 (by decide)
  have ms1 := mx_sz sa.1 sb.1 (by decide)
  have ms2 := mn_sz sa.2 sb.2 (by decide)
  have hH : hullI [a, b] = ((can (mn (qv a.1) (qv b.1)), can (mx (qv a.2) (qv b.2))), 0) := by
    rw [hullI_cons oa, hullF_step ob, hullF_nil]
  have oH := okI_can hs1 hs2 (by decide) (by decide) (Rat.le_trans n1.1 (Rat.le_trans la x1.1))
  have sH1 : subsI a (can (mn (qv a.1) (qv b.1)), can (mx (qv a.2) (qv b.2))) = true := subsI_of oa oH (by rw [qv_can]; exact n1.1) (by rw [qv_can]; exact x1.1)
  have sH2 : subsI b (can (mn (qv a.1) (qv b.1)), can (mx (qv a.2) (qv b.2))) = true := subsI_of ob oH (by rw [qv_can]; exact n1.2) (by rw [qv_can]; exact x1.2)
  by_cases c : mx (qv a.1) (qv b.1) ≤ mn (qv a.2) (qv b.2)
  · have hM : meetI a b = ((can (mx (qv a.1) (qv b.1)), can (mn (qv a.2) (qv b.2))), true) := by unfold meetI; rw [if_pos ⟨oa, ob, c⟩]
    have oM := okI_can ms1 ms2 (by decide) (by decide) c
    refine ⟨_, _, true, hH, ⟨hs1, hs2⟩, sH1, sH2, hM, (meetI_comm a b).trans hM, fun _ => ⟨⟨ms1, ms2⟩, subsI_of oM oa ?_ ?_, subsI_of oM ob ?_ ?_⟩, (fun e => nomatch e), ?_⟩
    · rw [qv_can]; exact x2.1
    · rw [qv_can]; exact n2.1
    · rw [qv_can]; exact x2.2
    · rw [qv_can]; exact n2.2
    · unfold inI
      rw [oa, ob, oM, qv_can, qv_can]
      simp only [Bool.true_and]
      cases hx : okF x
      · rfl
      · simp only [Bool.true_and]
        rw [← Bool.decide_and, decide_eq_decide]
        constructor
        · rintro ⟨⟨h1, h2⟩, h3, h4⟩; exact ⟨mx_le h1 h3, le_mn h2 h4⟩
        · rintro ⟨h1, h2⟩; exact ⟨⟨Rat.le_trans x2.1 h1, Rat.le_trans h2 n2.1⟩, Rat.le_trans x2.2 h1, Rat.le_trans h2 n2.2⟩
  · have hM : meetI a b = (zI, false) := by unfold meetI; rw [if_neg (fun g => c g.2.2)]
    refine ⟨_, _, false, hH, ⟨hs1, hs2⟩, sH1, sH2, hM, (meetI_comm a b).trans hM, (fun e => nomatch e), fun _ => rfl, ?_⟩
    · unfold inI
      rw [oa, ob]
      simp only [Bool.true_and, Bool.false_and]
      rw [Bool.eq_false_iff]
      intro g
      simp only [Bool.and_eq_true, decide_eq_true_eq] at g
      obtain ⟨⟨-, h1, h2⟩, -, h3, h4⟩ := g
      exact c (Rat.le_trans (mx_le h1 h3) (le_mn h2 h4))
theorem lat_bad {a b : Iv} (x : Tri) (h : okI a = false ∨ okI b = false) : hullI [a, b] = (zI, 1) ∧ meetI a b = (zI, false) ∧ (inI a x && inI b x) = false := by
  refine ⟨?_, ?_, ?_⟩
  · show hullF _ _ [a, b] = _
    rcases h with h | h
    · exact hullF_bad h
    · exact hullF_all_bad (y := b) (by simp) h
  · unfold meetI
    rw [if_neg]
    rintro ⟨g1, g2, -⟩
    rcases h with h | h
    · rw [h] at g1; cases g1
    · rw [h] at g2; cases g2
  · unfold inI
    rcases h with h | h <;> rw [h] <;> simp
end Go.Proofs.YtifpfoeecnkhoaaGreatDoor
