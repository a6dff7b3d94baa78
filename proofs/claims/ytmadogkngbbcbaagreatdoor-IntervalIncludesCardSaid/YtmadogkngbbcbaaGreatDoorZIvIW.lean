/- The law IntervalIncludes: its walk, for all arguments.
(With the texts that are joined here: ) -/
import Derived.Test.YtmadogkngbbcbaaGreatDoorZJ
import Derived.Test.YtmadogkngbbcbaaGreatDoorZK

namespace Go.Proofs.YtmadogkngbbcbaaGreatDoor.IvInclL
open Go.Proofs.YtmadogkngbbcbaaGreatDoor Go.RowKit NatM Go.Proofs.YtmadogkngbbcbaaGreatDoor.Api

theorem startXY (w : World) (b : Bool) (an : Option Addr) (n cn : Nat) (ad : Option Addr) (d cd : Nat) (b' : Bool) (an' : Option Addr) (n' cn' : Nat) (ad' : Option Addr) (d' cd' : Nat) (b2 : Bool) (an2 : Option Addr) (n2 cn2 : Nat) (ad2 : Option Addr) (d2 cd2 : Nat) (b3 : Bool) (an3 : Option Addr) (n3 cn3 : Nat) (ad3 : Option Addr) (d3 cd3 : Nat) :
    Add w ((w.alloc (.cells #[.bool b, .slice an n cn, .slice ad d cd, .bool b', .slice an' n' cn', .slice ad' d' cd'] 27)).alloc (.cells #[.bool b2, .slice an2 n2 cn2, .slice ad2 d2 cd2, .bool b3, .slice an3 n3 cn3, .slice ad3 d3 cd3] 27)) ∧ Box6 ((w.alloc (.cells #[.bool b, .slice an n cn, .slice ad d cd, .bool b', .slice an' n' cn', .slice ad' d' cd'] 27)).alloc (.cells #[.bool b2, .slice an2 n2 cn2, .slice ad2 d2 cd2, .bool b3, .slice an3 n3 cn3, .slice ad3 d3 cd3] 27)) w.heap.size b an n cn ad d cd b' an' n' cn' ad' d' cd' ∧ Box6 ((w.alloc (.cells #[.bool b, .slice an n cn, .slice ad d cd, .bool b', .slice an' n' cn', .slice ad' d' cd'] 27)).alloc (.cells #[.bool b2, .slice an2 n2 cn2, .slice ad2 d2 cd2, .bool b3, .slice an3 n3 cn3, .slice ad3 d3 cd3] 27)) (w.heap.size + 1) b2 an2 n2 cn2 ad2 d2 cd2 b3 an3 n3 cn3 ad3 d3 cd3 :=
  ⟨Add.trans (add_new _ _) (add_new _ _), (box6_new ..).mono (add_new _ _), Box6.cells (by simp)⟩

/-- The four products in the order in which the law looks at them. -/
def prodQ (a b : Iv) (k : Nat) : Rat := (if k % 2 = 1 then qv a.2 else qv a.1) * (if k / 2 = 1 then qv b.2 else qv b.1)
/-- Is q one of the first k products. -/
def among (a b : Iv) (q : Rat) : Nat → Bool
  | 0 => false
  | k + 1 => among a b q k || decide (prodQ a b k = q)
theorem among_lo (a b : Iv) : among a b (lo4 a b) 4 = true := by
  have h := lo4_or a b
  simp only [among, prodQ, Bool.false_or, Bool.or_eq_true, decide_eq_true_eq]
  simp
  rcases h with h | h | h | h <;> simp [h.symm]
theorem among_hi (a b : Iv) : among a b (hi4 a b) 4 = true := by
  have h := hi4_or a b
  simp only [among, prodQ, Bool.false_or, Bool.or_eq_true, decide_eq_true_eq]
  simp
  rcases h with h | h | h | h <;> simp [h.symm]
theorem IvA_lo {w : World} {b b' : Bool} {an n cn ad d cd an' n' cn' ad' d' cd'} {a : Iv} (h : IvA w (.agg #[.bool b, .slice an n cn, .slice ad d cd, .bool b', .slice an' n' cn', .slice ad' d' cd']) a) : FracA w (.agg #[.bool b, .slice an n cn, .slice ad d cd]) a.1 := by
  obtain ⟨a1, a2, a3, a4, a5, a6, a7, a8, a9, b1, b2, b3, e, h1, h2, h3, h4⟩ := h
  simp only [Value.agg.injEq, Array.mk.injEq, List.cons.injEq, Value.bool.injEq, Value.slice.injEq, and_true] at e
  obtain ⟨rfl, ⟨rfl, rfl, rfl⟩, ⟨rfl, rfl, rfl⟩, -⟩ := e
  exact ⟨_, _, _, _, _, _, rfl, h1, h2⟩
theorem IvA_hi {w : World} {b b' : Bool} {an n cn ad d cd an' n' cn' ad' d' cd'} {a : Iv} (h : IvA w (.agg #[.bool b, .slice an n cn, .slice ad d cd, .bool b', .slice an' n' cn', .slice ad' d' cd']) a) : FracA w (.agg #[.bool b', .slice an' n' cn', .slice ad' d' cd']) a.2 := by
  obtain ⟨a1, a2, a3, a4, a5, a6, a7, a8, a9, b1, b2, b3, e, h1, h2, h3, h4⟩ := h
  simp only [Value.agg.injEq, Array.mk.injEq, List.cons.injEq, Value.bool.injEq, Value.slice.injEq, and_true] at e
  obtain ⟨-, -, -, rfl, ⟨rfl, rfl, rfl⟩, ⟨rfl, rfl, rfl⟩⟩ := e
  exact ⟨_, _, _, _, _, _, rfl, h3, h4⟩
theorem two_drew (W : World) (s1 : Bool) (a1 : Option Addr) (n1 k1 : Nat) (e1 : Option Addr) (d1 l1 : Nat) (s2 : Bool) (a2 : Option Addr) (m2 k2 : Nat) (e2 : Option Addr) (d4 l2 : Nat) :
    Add W (((W.alloc (.cells #[.bool s1, .slice a1 n1 k1, .slice e1 d1 l1] 25)).alloc (.cells #[.bool s2, .slice a2 m2 k2, .slice e2 d4 l2] 25)).drew) ∧ Box (((W.alloc (.cells #[.bool s1, .slice a1 n1 k1, .slice e1 d1 l1] 25)).alloc (.cells #[.bool s2, .slice a2 m2 k2, .slice e2 d4 l2] 25)).drew) W.heap.size s1 a1 n1 k1 e1 d1 l1 ∧ Box (((W.alloc (.cells #[.bool s1, .slice a1 n1 k1, .slice e1 d1 l1] 25)).alloc (.cells #[.bool s2, .slice a2 m2 k2, .slice e2 d4 l2] 25)).drew) (W.heap.size + 1) s2 a2 m2 k2 e2 d4 l2 :=
  ⟨Add.trans (Add.trans (add_new _ _) (add_new _ _)) (add_drew _), ((box_new ..).mono (add_new _ _)).mono (add_drew _), (Box.cells (by simp)).mono (add_drew _)⟩
theorem in_can {i j k : Nat} {p q r : Rat} (hp : Sz i (can p)) (hq : Sz j (can q)) (hr : Sz k (can r)) (hi : i ≤ 128) (hj : j ≤ 128) (hk : k ≤ 128) (h1 : p ≤ r) (h2 : r ≤ q) : inI (can p, can q) (can r) = true := by
  unfold inI
  have o : okI (can p, can q) = true := okI_iff.2 ⟨hp.ok hi, hq.ok hj, by rw [qv_can, qv_can]; exact Rat.le_trans h1 h2⟩
  rw [o, hr.ok hk]
  simp only [qv_can, Bool.true_and]
  exact decide_eq_true ⟨h1, h2⟩
theorem incl_math {a b : Iv} {m n : Nat} (sa : SzI 12 a) (sb : SzI 12 b) (oa : okI a = true) (ob : okI b = true) (hm : m ≤ 255) (hn : n ≤ 255) : ∃ (X Y U V Z : Tri) (S D P : Iv),
    (can (wiQ a m) = X ∧ can (wiQ b n) = Y ∧ Sz 39 X ∧ Sz 39 Y) ∧
    (addF a.1 b.1 = (S.1, 0) ∧ addF a.2 b.2 = (S.2, 0) ∧ subF a.1 b.2 = (D.1, 0) ∧ subF a.2 b.1 = (D.2, 0) ∧ (can (lo4 a b), can (hi4 a b)) = P) ∧
    (SzI 128 S ∧ SzI 128 D ∧ SzI 128 P) ∧ (addF X Y = (U, 0) ∧ subF X Y = (V, 0) ∧ mulF X Y = (Z, 0) ∧ Sz 128 U ∧ Sz 128 V ∧ Sz 128 Z) ∧
    inI S U = true ∧ inI D V = true ∧ inI P Z = true := by
  have la := (okI_iff.1 oa).2.2
  have lb := (okI_iff.1 ob).2.2
  obtain ⟨-, -, -, -, -, -, -, x1⟩ := within_sz sa hm
  obtain ⟨-, -, -, -, -, -, -, y1⟩ := within_sz sb hn
  obtain ⟨i1, i2⟩ := wi_in hm la
  obtain ⟨j1, j2⟩ := wi_in hn lb
  obtain ⟨s1, s2⟩ := add_sz sa.1 sb.1 (by decide)
  obtain ⟨s3, s4⟩ := add_sz sa.2 sb.2 (by decide)
  obtain ⟨d1, d2⟩ := sub_sz sa.1 sb.2 (by decide)
  obtain ⟨d3, d4⟩ := sub_sz sa.2 sb.1 (by decide)
  have p1 := mulI_sz sa sb (by decide)
  obtain ⟨e1, e2⟩ := add_sz x1 y1 (by decide)
  obtain ⟨e3, e4⟩ := sub_sz x1 y1 (by decide)
  obtain ⟨e5, e6⟩ := mul_sz x1 y1 (by decide)
  rw [qv_can, qv_can] at e1 e2 e3 e4 e5 e6
  obtain ⟨m1, m2⟩ := mul_in i1 i2 j1 j2
  generalize wiQ a m = p at *
  generalize wiQ b n = q at *
  refine ⟨_, _, _, _, _, (can (qv a.1 + qv b.1), can (qv a.2 + qv b.2)), (can (qv a.1 - qv b.2), can (qv a.2 - qv b.1)), _, ⟨rfl, rfl, x1, y1⟩, ⟨s1, s3, d1, d3, rfl⟩, ⟨⟨s2.up (by decide), s4.up (by decide)⟩, ⟨d2.up (by decide), d4.up (by decide)⟩, p1.up (by decide)⟩, ⟨e1, e3, e5, e2.up (by decide), e4.up (by decide), e6.up (by decide)⟩, ?_, ?_, ?_⟩
  · exact in_can s2 s4 e2 (by decide) (by decide) (by decide) (by grind) (by grind)
  · exact in_can d2 d4 e4 (by decide) (by decide) (by decide) (by grind) (by grind)
  · exact in_can p1.1 p1.2 e6 (by decide) (by decide) (by decide) m1 m2
set_option maxRecDepth 100000 in
set_option maxHeartbeats 20000000 in
theorem long_case {v v' : Value} {x y : IvL} {mm nn : Nat} (w : World) (hx : IvI w v x) (hy : IvI w v' y) (hT : Tab w) (hl : (longE x || longE y) = true) : Calls Tryz.prog 4 #[v, v', .int .u8 (mm : Nat), .int .u8 (nn : Nat)] w (LawP w) := by
  obtain ⟨an, n, cn, ad, d, cd, an', n', cn', ad', d', cd', rfl, i1, i2, i3, i4⟩ := hx
  obtain ⟨an2, n2, cn2, ad2, d2, cd2, an3, n3, cn3, ad3, d3, cd3, rfl, j1, j2, j3, j4⟩ := hy
  obtain ⟨T, hA, hB⟩ := startXY w x.1.1 an n cn ad d cd x.2.1 an' n' cn' ad' d' cd' y.1.1 an2 n2 cn2 ad2 d2 cd2 y.2.1 an3 n3 cn3 ad3 d3 cd3
  obtain ⟨W0, hW0⟩ : ∃ W0, W0 = ((w.alloc (.cells #[.bool x.1.1, .slice an n cn, .slice ad d cd, .bool x.2.1, .slice an' n' cn', .slice ad' d' cd'] 27)).alloc (.cells #[.bool y.1.1, .slice an2 n2 cn2, .slice ad2 d2 cd2, .bool y.2.1, .slice an3 n3 cn3, .slice ad3 d3 cd3] 27)) := ⟨_, rfl⟩
  rw [← hW0] at T hA hB
  have CL := Lib.hid (longI2 true (w := W0) (b := x.1.1) (b' := x.2.1) (b2 := y.1.1) (b3 := y.2.1) (w.heap.size + 1 + 1) (i1.mono T) (i2.mono T) (i3.mono T) (i4.mono T) (j1.mono T) (j2.mono T) (j3.mono T) (j4.mono T) (by rw [hW0]; simp) (Lib.hid hl))
  have TL : Add W0 (W0.alloc (.cells #[.bool x.1.1, .slice an n cn, .slice ad d cd, .bool x.2.1, .slice an' n' cn', .slice ad' d' cd', .bool y.1.1, .slice an2 n2 cn2, .slice ad2 d2 cd2, .bool y.2.1, .slice an3 n3 cn3, .slice ad3 d3 cd3] 27)) := add_new _ _
  have hA0 := hA
  replace hA := hA.mono TL
  have hB0 := hB
  replace hB := hB.mono TL
  replace hT := (hT.mono T).mono TL
  replace T := Add.trans T TL
  have ca0 := hA0.c0
  have ca1 := hA0.c1
  have ca2 := hA0.c2
  have ca3 := hA0.c3
  have ca4 := hA0.c4
  have ca5 := hA0.c5
  have cb0 := hB0.c0
  have cb1 := hB0.c1
  have cb2 := hB0.c2
  have cb3 := hB0.c3
  have cb4 := hB0.c4
  have cb5 := hB0.c5
  rw [hW0] at ca0 ca1 ca2 ca3 ca4 ca5 cb0 cb1 cb2 cb3 cb4 cb5
  go_enter Tryz.func4, Tryz.ntmps4
  go_wp2_with fail
  rw [← hW0]
  refine CL.out.mono ?_
  rintro e w9 ⟨rfl, rfl⟩
  clear CL TL hW0 hl ca0 ca1 ca2 ca3 ca4 ca5 hA0 cb0 cb1 cb2 cb3 cb4 cb5 hB0 hA hB i1 i2 i3 i4 j1 j2 j3 j4 
  go_wp2_with fail
  refine (awake3_any _ hT).mono ?_
  rintro e wz9 ⟨rfl, hz9⟩
  replace T := Add.trans T hz9
  clear hz9 hT
  go_wp2_with fail
  go_ret
  exact ⟨rfl, T⟩
set_option maxRecDepth 100000 in
set_option maxHeartbeats 20000000 in
theorem badA {v v' : Value} {x y : IvL} {mm nn : Nat} (w : World) (hx : IvI w v x) (hy : IvI w v' y) (hT : Tab w) (hl : (longE x || longE y) = false) (ho : okI (ivOf x) = false) : Calls Tryz.prog 4 #[v, v', .int .u8 (mm : Nat), .int .u8 (nn : Nat)] w (LawP w) := by
  have hl0 := hl
  obtain ⟨an, n, cn, ad, d, cd, an', n', cn', ad', d', cd', rfl, i1, i2, i3, i4⟩ := hx
  obtain ⟨an2, n2, cn2, ad2, d2, cd2, an3, n3, cn3, ad3, d3, cd3, rfl, j1, j2, j3, j4⟩ := hy
  obtain ⟨T, hA, hB⟩ := startXY w x.1.1 an n cn ad d cd x.2.1 an' n' cn' ad' d' cd' y.1.1 an2 n2 cn2 ad2 d2 cd2 y.2.1 an3 n3 cn3 ad3 d3 cd3
  obtain ⟨W0, hW0⟩ : ∃ W0, W0 = ((w.alloc (.cells #[.bool x.1.1, .slice an n cn, .slice ad d cd, .bool x.2.1, .slice an' n' cn', .slice ad' d' cd'] 27)).alloc (.cells #[.bool y.1.1, .slice an2 n2 cn2, .slice ad2 d2 cd2, .bool y.2.1, .slice an3 n3 cn3, .slice ad3 d3 cd3] 27)) := ⟨_, rfl⟩
  rw [← hW0] at T hA hB
  have CL := Lib.hid (longI2 false (w := W0) (b := x.1.1) (b' := x.2.1) (b2 := y.1.1) (b3 := y.2.1) (w.heap.size + 1 + 1) (i1.mono T) (i2.mono T) (i3.mono T) (i4.mono T) (j1.mono T) (j2.mono T) (j3.mono T) (j4.mono T) (by rw [hW0]; simp) (Lib.hid hl))
  have TL : Add W0 (W0.alloc (.cells #[.bool x.1.1, .slice an n cn, .slice ad d cd, .bool x.2.1, .slice an' n' cn', .slice ad' d' cd', .bool y.1.1, .slice an2 n2 cn2, .slice ad2 d2 cd2, .bool y.2.1, .slice an3 n3 cn3, .slice ad3 d3 cd3] 27)) := add_new _ _
  have hA0 := hA
  replace hA := hA.mono TL
  have hB0 := hB
  replace hB := hB.mono TL
  replace hT := (hT.mono T).mono TL
  replace T := Add.trans T TL
  have ca0 := hA0.c0
  have ca1 := hA0.c1
  have ca2 := hA0.c2
  have ca3 := hA0.c3
  have ca4 := hA0.c4
  have ca5 := hA0.c5
  have cb0 := hB0.c0
  have cb1 := hB0.c1
  have cb2 := hB0.c2
  have cb3 := hB0.c3
  have cb4 := hB0.c4
  have cb5 := hB0.c5
  rw [hW0] at ca0 ca1 ca2 ca3 ca4 ca5 cb0 cb1 cb2 cb3 cb4 cb5
  simp only [Bool.or_eq_false_iff] at hl0
  have qa := (IvI.arg (w := w) ⟨an, n, cn, ad, d, cd, an', n', cn', ad', d', cd', rfl, i1, i2, i3, i4⟩ hl0.1).mono T
  have qb := (IvI.arg (w := w) ⟨an2, n2, cn2, ad2, d2, cd2, an3, n3, cn3, ad3, d3, cd3, rfl, j1, j2, j3, j4⟩ hl0.2).mono T
  have la := IvI.lim (w := w) ⟨an, n, cn, ad, d, cd, an', n', cn', ad', d', cd', rfl, i1, i2, i3, i4⟩ hl0.1
  have lb := IvI.lim (w := w) ⟨an2, n2, cn2, ad2, d2, cd2, an3, n3, cn3, ad3, d3, cd3, rfl, j1, j2, j3, j4⟩ hl0.2
  obtain ⟨a, ea⟩ : ∃ a : Iv, ivOf x = a := ⟨_, rfl⟩
  obtain ⟨b, eb⟩ : ∃ a : Iv, ivOf y = a := ⟨_, rfl⟩
  rw [ea] at qa la ho
  rw [eb] at qb lb 
  have HO := Lib.hid ho
  clear ho ea eb la lb hl0 i1 i2 i3 i4 j1 j2 j3 j4
  go_enter Tryz.func4, Tryz.ntmps4
  go_wp2_with fail
  rw [← hW0]
  refine CL.out.mono ?_
  rintro e w9 ⟨rfl, rfl⟩
  clear CL TL hW0 hl ca0 ca1 ca2 ca3 ca4 ca5 hA0 cb0 cb1 cb2 cb3 cb4 cb5 hB0 
  have ca0 := hA.c0
  have ca1 := hA.c1
  have ca2 := hA.c2
  have ca3 := hA.c3
  have ca4 := hA.c4
  have ca5 := hA.c5
  go_wp2_with fail
  refine (refValidIN false qa HO).mono ?_
  rintro e w1 ⟨rfl, h1⟩
  replace hT := hT.mono h1
  replace T := Add.trans T h1
  clear h1 hA hB qa qb HO ca0 ca1 ca2 ca3 ca4 ca5
  go_wp2_with fail
  refine (awake3_any _ hT).mono ?_
  rintro e wz9 ⟨rfl, hz9⟩
  replace T := Add.trans T hz9
  clear hz9 hT
  go_wp2_with fail
  go_ret
  exact ⟨rfl, T⟩
set_option maxRecDepth 100000 in
set_option maxHeartbeats 20000000 in
theorem badB {v v' : Value} {x y : IvL} {mm nn : Nat} (w : World) (hx : IvI w v x) (hy : IvI w v' y) (hT : Tab w) (hl : (longE x || longE y) = false) (ho : okI (ivOf x) = true) (ho2 : okI (ivOf y) = false) : Calls Tryz.prog 4 #[v, v', .int .u8 (mm : Nat), .int .u8 (nn : Nat)] w (LawP w) := by
  have hl0 := hl
  obtain ⟨an, n, cn, ad, d, cd, an', n', cn', ad', d', cd', rfl, i1, i2, i3, i4⟩ := hx
  obtain ⟨an2, n2, cn2, ad2, d2, cd2, an3, n3, cn3, ad3, d3, cd3, rfl, j1, j2, j3, j4⟩ := hy
  obtain ⟨T, hA, hB⟩ := startXY w x.1.1 an n cn ad d cd x.2.1 an' n' cn' ad' d' cd' y.1.1 an2 n2 cn2 ad2 d2 cd2 y.2.1 an3 n3 cn3 ad3 d3 cd3
  obtain ⟨W0, hW0⟩ : ∃ W0, W0 = ((w.alloc (.cells #[.bool x.1.1, .slice an n cn, .slice ad d cd, .bool x.2.1, .slice an' n' cn', .slice ad' d' cd'] 27)).alloc (.cells #[.bool y.1.1, .slice an2 n2 cn2, .slice ad2 d2 cd2, .bool y.2.1, .slice an3 n3 cn3, .slice ad3 d3 cd3] 27)) := ⟨_, rfl⟩
  rw [← hW0] at T hA hB
  have CL := Lib.hid (longI2 false (w := W0) (b := x.1.1) (b' := x.2.1) (b2 := y.1.1) (b3 := y.2.1) (w.heap.size + 1 + 1) (i1.mono T) (i2.mono T) (i3.mono T) (i4.mono T) (j1.mono T) (j2.mono T) (j3.mono T) (j4.mono T) (by rw [hW0]; simp) (Lib.hid hl))
  have TL : Add W0 (W0.alloc (.cells #[.bool x.1.1, .slice an n cn, .slice ad d cd, .bool x.2.1, .slice an' n' cn', .slice ad' d' cd', .bool y.1.1, .slice an2 n2 cn2, .slice ad2 d2 cd2, .bool y.2.1, .slice an3 n3 cn3, .slice ad3 d3 cd3] 27)) := add_new _ _
  have hA0 := hA
  replace hA := hA.mono TL
  have hB0 := hB
  replace hB := hB.mono TL
  replace hT := (hT.mono T).mono TL
  replace T := Add.trans T TL
  have ca0 := hA0.c0
  have ca1 := hA0.c1
  have ca2 := hA0.c2
  have ca3 := hA0.c3
  have ca4 := hA0.c4
  have ca5 := hA0.c5
  have cb0 := hB0.c0
  have cb1 := hB0.c1
  have cb2 := hB0.c2
  have cb3 := hB0.c3
  have cb4 := hB0.c4
  have cb5 := hB0.c5
  rw [hW0] at ca0 ca1 ca2 ca3 ca4 ca5 cb0 cb1 cb2 cb3 cb4 cb5
  simp only [Bool.or_eq_false_iff] at hl0
  have qa := (IvI.arg (w := w) ⟨an, n, cn, ad, d, cd, an', n', cn', ad', d', cd', rfl, i1, i2, i3, i4⟩ hl0.1).mono T
  have qb := (IvI.arg (w := w) ⟨an2, n2, cn2, ad2, d2, cd2, an3, n3, cn3, ad3, d3, cd3, rfl, j1, j2, j3, j4⟩ hl0.2).mono T
  have la := IvI.lim (w := w) ⟨an, n, cn, ad, d, cd, an', n', cn', ad', d', cd', rfl, i1, i2, i3, i4⟩ hl0.1
  have lb := IvI.lim (w := w) ⟨an2, n2, cn2, ad2, d2, cd2, an3, n3, cn3, ad3, d3, cd3, rfl, j1, j2, j3, j4⟩ hl0.2
  obtain ⟨a, ea⟩ : ∃ a : Iv, ivOf x = a := ⟨_, rfl⟩
  obtain ⟨b, eb⟩ : ∃ a : Iv, ivOf y = a := ⟨_, rfl⟩
  rw [ea] at qa la ho
  rw [eb] at qb lb ho2
  have HO := Lib.hid ho
  have HO2 := Lib.hid ho2
  clear ho ho2 ea eb la lb hl0 i1 i2 i3 i4 j1 j2 j3 j4
  go_enter Tryz.func4, Tryz.ntmps4
  go_wp2_with fail
  rw [← hW0]
  refine CL.out.mono ?_
  rintro e w9 ⟨rfl, rfl⟩
  clear CL TL hW0 hl ca0 ca1 ca2 ca3 ca4 ca5 hA0 cb0 cb1 cb2 cb3 cb4 cb5 hB0 
  have ca0 := hA.c0
  have ca1 := hA.c1
  have ca2 := hA.c2
  have ca3 := hA.c3
  have ca4 := hA.c4
  have ca5 := hA.c5
  go_wp2_with fail
  refine (refValidIN true qa HO).mono ?_
  rintro e w1 ⟨rfl, h1⟩
  replace hT := hT.mono h1
  replace hB := hB.mono h1
  replace qb := qb.mono h1
  replace T := Add.trans T h1
  clear h1 hA qa HO ca0 ca1 ca2 ca3 ca4 ca5
  have cb0 := hB.c0
  have cb1 := hB.c1
  have cb2 := hB.c2
  have cb3 := hB.c3
  have cb4 := hB.c4
  have cb5 := hB.c5
  go_wp2_with fail
  refine (refValidIN false qb HO2).mono ?_
  rintro e w2 ⟨rfl, h2⟩
  replace hT := hT.mono h2
  replace T := Add.trans T h2
  clear h2 hB qb HO2 cb0 cb1 cb2 cb3 cb4 cb5
  go_wp2_with fail
  refine (awake3_any _ hT).mono ?_
  rintro e wz9 ⟨rfl, hz9⟩
  replace T := Add.trans T hz9
  clear hz9 hT
  go_wp2_with fail
  go_ret
  exact ⟨rfl, T⟩
set_option maxRecDepth 100000 in
set_option maxHeartbeats 20000000 in
theorem ok_case {v v' : Value} {x y : IvL} {mm nn : Nat} (w : World) (hx : IvI w v x) (hy : IvI w v' y) (hT : Tab w) (hm : mm ≤ 255) (hn : nn ≤ 255) (hl : (longE x || longE y) = false) (ho : okI (ivOf x) = true) (ho2 : okI (ivOf y) = true) : Calls Tryz.prog 4 #[v, v', .int .u8 (mm : Nat), .int .u8 (nn : Nat)] w (LawP w) := by
  have hl0 := hl
  obtain ⟨an, n, cn, ad, d, cd, an', n', cn', ad', d', cd', rfl, i1, i2, i3, i4⟩ := hx
  obtain ⟨an2, n2, cn2, ad2, d2, cd2, an3, n3, cn3, ad3, d3, cd3, rfl, j1, j2, j3, j4⟩ := hy
  obtain ⟨T, hA, hB⟩ := startXY w x.1.1 an n cn ad d cd x.2.1 an' n' cn' ad' d' cd' y.1.1 an2 n2 cn2 ad2 d2 cd2 y.2.1 an3 n3 cn3 ad3 d3 cd3
  obtain ⟨W0, hW0⟩ : ∃ W0, W0 = ((w.alloc (.cells #[.bool x.1.1, .slice an n cn, .slice ad d cd, .bool x.2.1, .slice an' n' cn', .slice ad' d' cd'] 27)).alloc (.cells #[.bool y.1.1, .slice an2 n2 cn2, .slice ad2 d2 cd2, .bool y.2.1, .slice an3 n3 cn3, .slice ad3 d3 cd3] 27)) := ⟨_, rfl⟩
  rw [← hW0] at T hA hB
  have CL := Lib.hid (longI2 false (w := W0) (b := x.1.1) (b' := x.2.1) (b2 := y.1.1) (b3 := y.2.1) (w.heap.size + 1 + 1) (i1.mono T) (i2.mono T) (i3.mono T) (i4.mono T) (j1.mono T) (j2.mono T) (j3.mono T) (j4.mono T) (by rw [hW0]; simp) (Lib.hid hl))
  have TL : Add W0 (W0.alloc (.cells #[.bool x.1.1, .slice an n cn, .slice ad d cd, .bool x.2.1, .slice an' n' cn', .slice ad' d' cd', .bool y.1.1, .slice an2 n2 cn2, .slice ad2 d2 cd2, .bool y.2.1, .slice an3 n3 cn3, .slice ad3 d3 cd3] 27)) := add_new _ _
  have hA0 := hA
  replace hA := hA.mono TL
  have hB0 := hB
  replace hB := hB.mono TL
  replace hT := (hT.mono T).mono TL
  replace T := Add.trans T TL
  have ca0 := hA0.c0
  have ca1 := hA0.c1
  have ca2 := hA0.c2
  have ca3 := hA0.c3
  have ca4 := hA0.c4
  have ca5 := hA0.c5
  have cb0 := hB0.c0
  have cb1 := hB0.c1
  have cb2 := hB0.c2
  have cb3 := hB0.c3
  have cb4 := hB0.c4
  have cb5 := hB0.c5
  rw [hW0] at ca0 ca1 ca2 ca3 ca4 ca5 cb0 cb1 cb2 cb3 cb4 cb5
  simp only [Bool.or_eq_false_iff] at hl0
  have qa := (IvI.arg (w := w) ⟨an, n, cn, ad, d, cd, an', n', cn', ad', d', cd', rfl, i1, i2, i3, i4⟩ hl0.1).mono T
  have qb := (IvI.arg (w := w) ⟨an2, n2, cn2, ad2, d2, cd2, an3, n3, cn3, ad3, d3, cd3, rfl, j1, j2, j3, j4⟩ hl0.2).mono T
  have la := IvI.lim (w := w) ⟨an, n, cn, ad, d, cd, an', n', cn', ad', d', cd', rfl, i1, i2, i3, i4⟩ hl0.1
  have lb := IvI.lim (w := w) ⟨an2, n2, cn2, ad2, d2, cd2, an3, n3, cn3, ad3, d3, cd3, rfl, j1, j2, j3, j4⟩ hl0.2
  obtain ⟨a, ea⟩ : ∃ a : Iv, ivOf x = a := ⟨_, rfl⟩
  obtain ⟨b, eb⟩ : ∃ a : Iv, ivOf y = a := ⟨_, rfl⟩
  rw [ea] at qa la ho
  rw [eb] at qb lb ho2
  have HO := Lib.hid ho
  have HO2 := Lib.hid ho2
  have sa := la.sz ho
  have sb := lb.sz ho2
  obtain ⟨⟨s1, N1, D1⟩, ⟨s2, N2, D2⟩, ⟨s3, N3, D3⟩, ⟨s4, N4, D4⟩, ⟨s5, N5, D5⟩, ⟨⟨s6, N6, D6⟩, ⟨s7, N7, D7⟩⟩, ⟨⟨s8, N8, D8⟩, ⟨s9, N9, D9⟩⟩, ⟨⟨p1, P1, Q1⟩, ⟨p2, P2, Q2⟩⟩, ⟨g1, g2, g3, g4⟩, ⟨g5, g6, g7, g8, g9⟩, ⟨g10, g11, g12⟩, ⟨g13, g14, g15, g16, g17, g18⟩, g19, g20, g21⟩ := incl_math sa sb ho ho2 hm hn
  have G1 := Lib.hid g1
  have G2 := Lib.hid g2
  have G3 := Lib.hid g3
  have G4 := Lib.hid g4
  have G5 := Lib.hid g5
  have G6 := Lib.hid g6
  have G7 := Lib.hid g7
  have G8 := Lib.hid g8
  have G9 := Lib.hid g9
  have G10 := Lib.hid g10
  have G11 := Lib.hid g11
  have G12 := Lib.hid g12
  have G13 := Lib.hid g13
  have G14 := Lib.hid g14
  have G15 := Lib.hid g15
  have G16 := Lib.hid g16
  have G17 := Lib.hid g17
  have G18 := Lib.hid g18
  have G19 := Lib.hid g19
  have G20 := Lib.hid g20
  have G21 := Lib.hid g21
  have FSA : Hid (SzI 12 a ∧ mm ≤ 255) := Lib.hid ⟨sa, hm⟩
  have FSB : Hid (SzI 12 b ∧ nn ≤ 255) := Lib.hid ⟨sb, hn⟩
  have OO := Lib.hid (And.intro ho ho2)
  have SS : Hid (SzI 12 a ∧ SzI 12 b ∧ 12 + 12 ≤ 128) := Lib.hid ⟨sa, sb, by decide⟩
  clear g1 g2 g3 g4 g5 g6 g7 g8 g9 g10 g11 g12 g13 g14 g15 g16 g17 g18 g19 g20 g21
  clear sa sb ho ho2 ea eb la lb hl0 i1 i2 i3 i4 j1 j2 j3 j4
  go_enter Tryz.func4, Tryz.ntmps4
  go_wp2_with fail
  rw [← hW0]
  refine CL.out.mono ?_
  rintro e w9 ⟨rfl, rfl⟩
  clear CL TL hW0 hl ca0 ca1 ca2 ca3 ca4 ca5 hA0 cb0 cb1 cb2 cb3 cb4 cb5 hB0 
  have ca0 := hA.c0
  have ca1 := hA.c1
  have ca2 := hA.c2
  have ca3 := hA.c3
  have ca4 := hA.c4
  have ca5 := hA.c5
  go_wp2_with fail
  refine (refValidIN true qa HO).mono ?_
  rintro e w1 ⟨rfl, h1⟩
  replace hT := hT.mono h1
  replace hA := hA.mono h1
  replace hB := hB.mono h1
  replace qa := qa.mono h1
  replace qb := qb.mono h1
  replace T := Add.trans T h1
  clear h1 ca0 ca1 ca2 ca3 ca4 ca5
  have cb0 := hB.c0
  have cb1 := hB.c1
  have cb2 := hB.c2
  have cb3 := hB.c3
  have cb4 := hB.c4
  have cb5 := hB.c5
  go_wp2_with fail
  refine (refValidIN true qb HO2).mono ?_
  rintro e w2 ⟨rfl, h2⟩
  replace hT := hT.mono h2
  replace hA := hA.mono h2
  replace hB := hB.mono h2
  replace qa := qa.mono h2
  replace qb := qb.mono h2
  replace T := Add.trans T h2
  clear h2 cb0 cb1 cb2 cb3 cb4 cb5
  have ca0 := hA.c0
  have ca1 := hA.c1
  have ca2 := hA.c2
  have ca3 := hA.c3
  have ca4 := hA.c4
  have ca5 := hA.c5
  have cb0 := hB.c0
  have cb1 := hB.c1
  have cb2 := hB.c2
  have cb3 := hB.c3
  have cb4 := hB.c4
  have cb5 := hB.c5
  have K0 : Hid (∀ w', Add w2 w' → w'.cell? ⟨w.heap.size, 0, none⟩ = some (.bool x.1.1) ∧ w'.cell? ⟨w.heap.size, 1, none⟩ = some (.slice an n cn) ∧ w'.cell? ⟨w.heap.size, 2, none⟩ = some (.slice ad d cd) ∧ w'.cell? ⟨w.heap.size, 3, none⟩ = some (.bool x.2.1) ∧ w'.cell? ⟨w.heap.size, 4, none⟩ = some (.slice an' n' cn') ∧ w'.cell? ⟨w.heap.size, 5, none⟩ = some (.slice ad' d' cd') ∧ w'.cell? ⟨w.heap.size + 1, 0, none⟩ = some (.bool y.1.1) ∧ w'.cell? ⟨w.heap.size + 1, 1, none⟩ = some (.slice an2 n2 cn2) ∧ w'.cell? ⟨w.heap.size + 1, 2, none⟩ = some (.slice ad2 d2 cd2) ∧ w'.cell? ⟨w.heap.size + 1, 3, none⟩ = some (.bool y.2.1) ∧ w'.cell? ⟨w.heap.size + 1, 4, none⟩ = some (.slice an3 n3 cn3) ∧ w'.cell? ⟨w.heap.size + 1, 5, none⟩ = some (.slice ad3 d3 cd3)) := Lib.hid fun w' k => ⟨(hA.mono k).c0, (hA.mono k).c1, (hA.mono k).c2, (hA.mono k).c3, (hA.mono k).c4, (hA.mono k).c5, (hB.mono k).c0, (hB.mono k).c1, (hB.mono k).c2, (hB.mono k).c3, (hB.mono k).c4, (hB.mono k).c5⟩
  have C1 : Hid (∀ w', Add w2 w' → Calls Tryz.prog 32 #[.agg #[.bool x.1.1, .slice an n cn, .slice ad d cd, .bool x.2.1, .slice an' n' cn', .slice ad' d' cd'], .int .u8 (mm : Nat)] w' (RetF w' (s1, N1, D1))) := Lib.hid fun w' k => withinN mm _ (qa.mono k) HO FSA G1
  have C2 : Hid (∀ w', Add w2 w' → Calls Tryz.prog 32 #[.agg #[.bool y.1.1, .slice an2 n2 cn2, .slice ad2 d2 cd2, .bool y.2.1, .slice an3 n3 cn3, .slice ad3 d3 cd3], .int .u8 (nn : Nat)] w' (RetF w' (s2, N2, D2))) := Lib.hid fun w' k => withinN nn _ (qb.mono k) HO2 FSB G2
  go_upto_region 3 with fail
  go_cut [9, 10] from 25 (fun p q wx => ∃ g h a1 n1 k1 e1 d1 l1 a2 m2 k2 e2 d4 l2, p = .pointer (some ⟨g, 0, none⟩) ∧ q = .pointer (some ⟨h, 0, none⟩) ∧ Laid2 w2 g h s1 a1 n1 k1 e1 d1 l1 s2 a2 m2 k2 e2 d4 l2 wx ∧ Num wx (.slice a1 n1 k1) N1 ∧ Num wx (.slice e1 d1 l1) D1 ∧ Num wx (.slice a2 m2 k2) N2 ∧ Num wx (.slice e2 d4 l2) D2)
  case first =>
    go_region_held3 (fun w' => w'.cell? ⟨w.heap.size, 0, none⟩ = some (.bool x.1.1) ∧ w'.cell? ⟨w.heap.size, 1, none⟩ = some (.slice an n cn) ∧ w'.cell? ⟨w.heap.size, 2, none⟩ = some (.slice ad d cd) ∧ w'.cell? ⟨w.heap.size, 3, none⟩ = some (.bool x.2.1) ∧ w'.cell? ⟨w.heap.size, 4, none⟩ = some (.slice an' n' cn') ∧ w'.cell? ⟨w.heap.size, 5, none⟩ = some (.slice ad' d' cd') ∧ w'.cell? ⟨w.heap.size + 1, 0, none⟩ = some (.bool y.1.1) ∧ w'.cell? ⟨w.heap.size + 1, 1, none⟩ = some (.slice an2 n2 cn2) ∧ w'.cell? ⟨w.heap.size + 1, 2, none⟩ = some (.slice ad2 d2 cd2) ∧ w'.cell? ⟨w.heap.size + 1, 3, none⟩ = some (.bool y.2.1) ∧ w'.cell? ⟨w.heap.size + 1, 4, none⟩ = some (.slice an3 n3 cn3) ∧ w'.cell? ⟨w.heap.size + 1, 5, none⟩ = some (.slice ad3 d3 cd3))
      (first | (refine K0.out _ ?_; (repeat (with_reducible refine Below.setCell ?_ (by dsimp only; omega) _)); (repeat (with_reducible refine Below.drew ?_)); (repeat (with_reducible refine Below.alloc ?_ (by first | omega | (simp; done) | (simp; omega)) _)); first | with_reducible assumption | with_reducible exact Below.refl _ _) | go_keep)
      (first | (go_at_call 32; ((with_reducible refine (C1.out _ (Below.drew (Below.refl _ _))).mono ?_); rintro e z1 ⟨v1, rfl, ⟨a1, n1, k1, e1, d1, l1, rfl, x1, y1⟩, hq1⟩; have t2 := Add.trans (Below.drew (Below.refl _ _) : Add w2 (World.drew w2)) hq1; have sz2 := t2.size))
             | (go_at_call 32; ((with_reducible refine (C1.out _ (Below.drew (add_new _ _))).mono ?_); rintro e z1 ⟨v1, rfl, ⟨a1, n1, k1, e1, d1, l1, rfl, x1, y1⟩, hq1⟩; have t2 := Add.trans (Below.drew (add_new w2 (.cells #[.bool false, .slice none 0 0, .slice none 0 0] 25)) : Add w2 (World.drew (w2.alloc (.cells #[.bool false, .slice none 0 0, .slice none 0 0] 25)))) hq1; have sz2 := t2.size; have bx1 := ((box_new w2 false none 0 0 none 0 0).mono (Below.drew (Below.refl _ _))).mono hq1; have ltx := bx1.lt))
             | (go_at_call 32; ((with_reducible refine (C1.out _ (Below.drew (Add.trans (add_new _ _) (add_new _ _)))).mono ?_); rintro e z1 ⟨v1, rfl, ⟨a1, n1, k1, e1, d1, l1, rfl, x1, y1⟩, hq1⟩; have t2 := Add.trans (Below.drew (Add.trans (add_new w2 (.cells #[.bool false, .slice none 0 0, .slice none 0 0] 25)) (add_new _ (.cells #[.bool false, .slice none 0 0, .slice none 0 0] 25))) : Add w2 (World.drew ((w2.alloc (.cells #[.bool false, .slice none 0 0, .slice none 0 0] 25)).alloc (.cells #[.bool false, .slice none 0 0, .slice none 0 0] 25)))) hq1; have sz2 := t2.size; have bx1 := (((box_new w2 false none 0 0 none 0 0).mono (add_new _ (.cells #[.bool false, .slice none 0 0, .slice none 0 0] 25))).mono (Below.drew (Below.refl _ _))).mono hq1; have ltx := bx1.lt; have by1 := ((Box.cells (w := w2.alloc (.cells #[.bool false, .slice none 0 0, .slice none 0 0] 25)) (g := w2.heap.size + 1) (b := false) (an := none) (n := 0) (cn := 0) (ad := none) (d := 0) (cd := 0) (by simp)).mono (Below.drew (Below.refl _ _))).mono hq1; have lty := by1.lt))
             | (go_at_call 32; ((with_reducible refine (C2.out _ (t2)).mono ?_); rintro e z2 ⟨v2, rfl, ⟨a2, m2, k2, e2, d4, l2, rfl, x2, y2⟩, hq2⟩; have t3 := Add.trans t2 hq2; have sz3 := t3.size; have x3 := x1.mono hq2; have y3 := y1.mono hq2; have bx2 := bx1; have bx2 := bx2.mono hq2; have by2 := by1.mono hq2; have hne1 : w2.heap.size ≠ w2.heap.size + 1 := (by omega); have hne2 : w2.heap.size + 1 ≠ w2.heap.size := (by omega); have fb1_ := bx2; have fb1_0 := fb1_.c0; have fb1_1 := fb1_.c1; have fb1_2 := fb1_.c2; have fb1_3 := fb1_.fr 0; have fb1_4 := fb1_.fr 1; have fb1_5 := fb1_.fr 2; clear fb1_; have fb2_ := by2; have fb2_0 := fb2_.c0; have fb2_1 := fb2_.c1; have fb2_2 := fb2_.c2; have fb2_3 := fb2_.fr 0; have fb2_4 := fb2_.fr 1; have fb2_5 := fb2_.fr 2; clear fb2_))
             | (go_at_call 32; ((with_reducible refine (C2.out _ (t2)).mono ?_); rintro e z2 ⟨v2, rfl, ⟨a2, m2, k2, e2, d4, l2, rfl, x2, y2⟩, hq2⟩; have t3 := Add.trans t2 hq2; have sz3 := t3.size; have x3 := x1.mono hq2; have y3 := y1.mono hq2; have bx2 := bx1; have bx2 := bx2.mono hq2; have hne0 := bx2.lt; have hne1 : z2.heap.size ≠ w2.heap.size := (by omega); have hne2 : w2.heap.size ≠ z2.heap.size := (by omega); clear hne0; have fb3_ := (bx2.mono (add_new z2 (.cells #[.bool false, .slice none 0 0, .slice none 0 0] 25))); have fb3_0 := fb3_.c0; have fb3_1 := fb3_.c1; have fb3_2 := fb3_.c2; have fb3_3 := fb3_.fr 0; have fb3_4 := fb3_.fr 1; have fb3_5 := fb3_.fr 2; clear fb3_; have fb4_ := (bx2.mono (add_new z2 (.cells #[.bool s1, .slice a1 n1 k1, .slice e1 d1 l1] 25))); have fb4_0 := fb4_.c0; have fb4_1 := fb4_.c1; have fb4_2 := fb4_.c2; have fb4_3 := fb4_.fr 0; have fb4_4 := fb4_.fr 1; have fb4_5 := fb4_.fr 2; clear fb4_))
             | (go_at_call 32; ((with_reducible refine (C2.out _ (t2)).mono ?_); rintro e z2 ⟨v2, rfl, ⟨a2, m2, k2, e2, d4, l2, rfl, x2, y2⟩, hq2⟩; have t3 := Add.trans t2 hq2; have sz3 := t3.size; have x3 := x1.mono hq2; have y3 := y1.mono hq2))
             | (go_at_call 32; ((with_reducible refine (C2.out _ (Add.trans t2 (add_new _ _))).mono ?_); rintro e z2 ⟨v2, rfl, ⟨a2, m2, k2, e2, d4, l2, rfl, x2, y2⟩, hq2⟩; have t3 := Add.trans (Add.trans t2 (add_new z1 (.cells #[.bool false, .slice none 0 0, .slice none 0 0] 25))) hq2; have sz3 := t3.size; have x3 := x1.mono (Add.trans (add_new _ _) hq2); have y3 := y1.mono (Add.trans (add_new _ _) hq2); have bx2 := bx1.mono (add_new _ (.cells #[.bool false, .slice none 0 0, .slice none 0 0] 25)); have bx2 := bx2.mono hq2; have by2 := (box_new z1 false none 0 0 none 0 0).mono hq2; have hne1 : w2.heap.size ≠ z1.heap.size := (by omega); have hne2 : z1.heap.size ≠ w2.heap.size := (by omega); have fb5_ := bx2; have fb5_0 := fb5_.c0; have fb5_1 := fb5_.c1; have fb5_2 := fb5_.c2; have fb5_3 := fb5_.fr 0; have fb5_4 := fb5_.fr 1; have fb5_5 := fb5_.fr 2; clear fb5_; have fb6_ := by2; have fb6_0 := fb6_.c0; have fb6_1 := fb6_.c1; have fb6_2 := fb6_.c2; have fb6_3 := fb6_.fr 0; have fb6_4 := fb6_.fr 1; have fb6_5 := fb6_.fr 2; clear fb6_))
             | (go_at_call 32; ((with_reducible refine (C2.out _ (Add.trans (Add.trans t2 (add_new _ _)) (add_new _ _))).mono ?_); rintro e z2 ⟨v2, rfl, ⟨a2, m2, k2, e2, d4, l2, rfl, x2, y2⟩, hq2⟩; have t3 := Add.trans (Add.trans (Add.trans t2 (add_new z1 (.cells #[.bool false, .slice none 0 0, .slice none 0 0] 25))) (add_new _ (.cells #[.bool false, .slice none 0 0, .slice none 0 0] 25))) hq2; have sz3 := t3.size; have x3 := x1.mono (Add.trans (Add.trans (add_new _ _) (add_new _ _)) hq2); have y3 := y1.mono (Add.trans (Add.trans (add_new _ _) (add_new _ _)) hq2); have bx2 := ((box_new z1 false none 0 0 none 0 0).mono (add_new _ (.cells #[.bool false, .slice none 0 0, .slice none 0 0] 25))).mono hq2; have by2 := (Box.cells (w := z1.alloc (.cells #[.bool false, .slice none 0 0, .slice none 0 0] 25)) (g := z1.heap.size + 1) (b := false) (an := none) (n := 0) (cn := 0) (ad := none) (d := 0) (cd := 0) (by simp)).mono hq2; have hne1 : z1.heap.size ≠ z1.heap.size + 1 := (by omega); have hne2 : z1.heap.size + 1 ≠ z1.heap.size := (by omega); have fb7_ := bx2; have fb7_0 := fb7_.c0; have fb7_1 := fb7_.c1; have fb7_2 := fb7_.c2; have fb7_3 := fb7_.fr 0; have fb7_4 := fb7_.fr 1; have fb7_5 := fb7_.fr 2; clear fb7_; have fb8_ := by2; have fb8_0 := fb8_.c0; have fb8_1 := fb8_.c1; have fb8_2 := fb8_.c2; have fb8_3 := fb8_.fr 0; have fb8_4 := fb8_.fr 1; have fb8_5 := fb8_.fr 2; clear fb8_))
             | (go_at_call 32; ((with_reducible refine (C2.out _ (Add.trans t2 (add_new _ _))).mono ?_); rintro e z2 ⟨v2, rfl, ⟨a2, m2, k2, e2, d4, l2, rfl, x2, y2⟩, hq2⟩; have t3 := Add.trans (Add.trans t2 (add_new z1 (.cells #[.bool false, .slice none 0 0, .slice none 0 0] 25))) hq2; have sz3 := t3.size; have x3 := x1.mono (Add.trans (add_new _ _) hq2); have y3 := y1.mono (Add.trans (add_new _ _) hq2); have bx2 := (box_new z1 false none 0 0 none 0 0).mono hq2; have hne0 := bx2.lt; have hne1 : z2.heap.size ≠ z1.heap.size := (by omega); have hne2 : z1.heap.size ≠ z2.heap.size := (by omega); clear hne0; have fb9_ := (bx2.mono (add_new z2 (.cells #[.bool false, .slice none 0 0, .slice none 0 0] 25))); have fb9_0 := fb9_.c0; have fb9_1 := fb9_.c1; have fb9_2 := fb9_.c2; have fb9_3 := fb9_.fr 0; have fb9_4 := fb9_.fr 1; have fb9_5 := fb9_.fr 2; clear fb9_; have fb10_ := (bx2.mono (add_new z2 (.cells #[.bool s1, .slice a1 n1 k1, .slice e1 d1 l1] 25))); have fb10_0 := fb10_.c0; have fb10_1 := fb10_.c1; have fb10_2 := fb10_.c2; have fb10_3 := fb10_.fr 0; have fb10_4 := fb10_.fr 1; have fb10_5 := fb10_.fr 2; clear fb10_)))
    · go_wp2_with fail
      go_meet
      exact ⟨_, _, _, _, _, _, _, _, _, _, _, _, _, _, rfl, rfl, two_a t3, (x3.mono (add_new _ _)).mono (add_new _ _), (y3.mono (add_new _ _)).mono (add_new _ _), (x2.mono (add_new _ _)).mono (add_new _ _), (y2.mono (add_new _ _)).mono (add_new _ _)⟩
    · go_wp2_with fail
      go_meet
      exact ⟨_, _, _, _, _, _, _, _, _, _, _, _, _, _, rfl, rfl, two_b t3, (x3.mono (add_new _ _)).mono (add_new _ _), (y3.mono (add_new _ _)).mono (add_new _ _), (x2.mono (add_new _ _)).mono (add_new _ _), (y2.mono (add_new _ _)).mono (add_new _ _)⟩
    · go_wp2_with fail
      go_meet
      exact ⟨_, _, _, _, _, _, _, _, _, _, _, _, _, _, rfl, rfl, two_c t3 bx2 (by omega), Num.put (Num.put (x3.mono (add_new _ _)) (bx2.mono (add_new _ _)) (.bool s1) (.slice a1 n1 k1) (.slice e1 d1 l1)) (Box.other2 (box_new ..) (by have := bx2.lt; omega) (.bool s1) (.slice a1 n1 k1) (.slice e1 d1 l1)) (.bool s2) (.slice a2 m2 k2) (.slice e2 d4 l2), Num.put (Num.put (y3.mono (add_new _ _)) (bx2.mono (add_new _ _)) (.bool s1) (.slice a1 n1 k1) (.slice e1 d1 l1)) (Box.other2 (box_new ..) (by have := bx2.lt; omega) (.bool s1) (.slice a1 n1 k1) (.slice e1 d1 l1)) (.bool s2) (.slice a2 m2 k2) (.slice e2 d4 l2), Num.put (Num.put (x2.mono (add_new _ _)) (bx2.mono (add_new _ _)) (.bool s1) (.slice a1 n1 k1) (.slice e1 d1 l1)) (Box.other2 (box_new ..) (by have := bx2.lt; omega) (.bool s1) (.slice a1 n1 k1) (.slice e1 d1 l1)) (.bool s2) (.slice a2 m2 k2) (.slice e2 d4 l2), Num.put (Num.put (y2.mono (add_new _ _)) (bx2.mono (add_new _ _)) (.bool s1) (.slice a1 n1 k1) (.slice e1 d1 l1)) (Box.other2 (box_new ..) (by have := bx2.lt; omega) (.bool s1) (.slice a1 n1 k1) (.slice e1 d1 l1)) (.bool s2) (.slice a2 m2 k2) (.slice e2 d4 l2)⟩
    · go_wp2_with fail
      go_meet
      exact ⟨_, _, _, _, _, _, _, _, _, _, _, _, _, _, rfl, rfl, two_e t3 bx2 by2 (by omega) (by omega) (by omega), Num.put (Num.put (x3) bx2 (.bool s1) (.slice a1 n1 k1) (.slice e1 d1 l1)) (Box.other2 by2 (by omega) (.bool s1) (.slice a1 n1 k1) (.slice e1 d1 l1)) (.bool s2) (.slice a2 m2 k2) (.slice e2 d4 l2), Num.put (Num.put (y3) bx2 (.bool s1) (.slice a1 n1 k1) (.slice e1 d1 l1)) (Box.other2 by2 (by omega) (.bool s1) (.slice a1 n1 k1) (.slice e1 d1 l1)) (.bool s2) (.slice a2 m2 k2) (.slice e2 d4 l2), Num.put (Num.put (x2) bx2 (.bool s1) (.slice a1 n1 k1) (.slice e1 d1 l1)) (Box.other2 by2 (by omega) (.bool s1) (.slice a1 n1 k1) (.slice e1 d1 l1)) (.bool s2) (.slice a2 m2 k2) (.slice e2 d4 l2), Num.put (Num.put (y2) bx2 (.bool s1) (.slice a1 n1 k1) (.slice e1 d1 l1)) (Box.other2 by2 (by omega) (.bool s1) (.slice a1 n1 k1) (.slice e1 d1 l1)) (.bool s2) (.slice a2 m2 k2) (.slice e2 d4 l2)⟩
    · go_wp2_with fail
      go_meet
      exact ⟨_, _, _, _, _, _, _, _, _, _, _, _, _, _, rfl, rfl, two_d t3 bx2 (by omega), Num.put (x3.mono (add_new _ _)) (bx2.mono (add_new _ _)) (.bool s2) (.slice a2 m2 k2) (.slice e2 d4 l2), Num.put (y3.mono (add_new _ _)) (bx2.mono (add_new _ _)) (.bool s2) (.slice a2 m2 k2) (.slice e2 d4 l2), Num.put (x2.mono (add_new _ _)) (bx2.mono (add_new _ _)) (.bool s2) (.slice a2 m2 k2) (.slice e2 d4 l2), Num.put (y2.mono (add_new _ _)) (bx2.mono (add_new _ _)) (.bool s2) (.slice a2 m2 k2) (.slice e2 d4 l2)⟩
    · go_wp2_with fail
      go_meet
      exact ⟨_, _, _, _, _, _, _, _, _, _, _, _, _, _, rfl, rfl, two_e t3 by2 bx2 (by omega) (by omega) (by omega), Num.put (Num.put (x3) by2 (.bool s1) (.slice a1 n1 k1) (.slice e1 d1 l1)) (Box.other2 bx2 (by omega) (.bool s1) (.slice a1 n1 k1) (.slice e1 d1 l1)) (.bool s2) (.slice a2 m2 k2) (.slice e2 d4 l2), Num.put (Num.put (y3) by2 (.bool s1) (.slice a1 n1 k1) (.slice e1 d1 l1)) (Box.other2 bx2 (by omega) (.bool s1) (.slice a1 n1 k1) (.slice e1 d1 l1)) (.bool s2) (.slice a2 m2 k2) (.slice e2 d4 l2), Num.put (Num.put (x2) by2 (.bool s1) (.slice a1 n1 k1) (.slice e1 d1 l1)) (Box.other2 bx2 (by omega) (.bool s1) (.slice a1 n1 k1) (.slice e1 d1 l1)) (.bool s2) (.slice a2 m2 k2) (.slice e2 d4 l2), Num.put (Num.put (y2) by2 (.bool s1) (.slice a1 n1 k1) (.slice e1 d1 l1)) (Box.other2 bx2 (by omega) (.bool s1) (.slice a1 n1 k1) (.slice e1 d1 l1)) (.bool s2) (.slice a2 m2 k2) (.slice e2 d4 l2)⟩
    · go_wp2_with fail
      go_meet
      exact ⟨_, _, _, _, _, _, _, _, _, _, _, _, _, _, rfl, rfl, two_c t3 bx2 (by omega), Num.put (Num.put (x3.mono (add_new _ _)) (bx2.mono (add_new _ _)) (.bool s1) (.slice a1 n1 k1) (.slice e1 d1 l1)) (Box.other2 (box_new ..) (by have := bx2.lt; omega) (.bool s1) (.slice a1 n1 k1) (.slice e1 d1 l1)) (.bool s2) (.slice a2 m2 k2) (.slice e2 d4 l2), Num.put (Num.put (y3.mono (add_new _ _)) (bx2.mono (add_new _ _)) (.bool s1) (.slice a1 n1 k1) (.slice e1 d1 l1)) (Box.other2 (box_new ..) (by have := bx2.lt; omega) (.bool s1) (.slice a1 n1 k1) (.slice e1 d1 l1)) (.bool s2) (.slice a2 m2 k2) (.slice e2 d4 l2), Num.put (Num.put (x2.mono (add_new _ _)) (bx2.mono (add_new _ _)) (.bool s1) (.slice a1 n1 k1) (.slice e1 d1 l1)) (Box.other2 (box_new ..) (by have := bx2.lt; omega) (.bool s1) (.slice a1 n1 k1) (.slice e1 d1 l1)) (.bool s2) (.slice a2 m2 k2) (.slice e2 d4 l2), Num.put (Num.put (y2.mono (add_new _ _)) (bx2.mono (add_new _ _)) (.bool s1) (.slice a1 n1 k1) (.slice e1 d1 l1)) (Box.other2 (box_new ..) (by have := bx2.lt; omega) (.bool s1) (.slice a1 n1 k1) (.slice e1 d1 l1)) (.bool s2) (.slice a2 m2 k2) (.slice e2 d4 l2)⟩
    · go_wp2_with fail
      go_meet
      exact ⟨_, _, _, _, _, _, _, _, _, _, _, _, _, _, rfl, rfl, two_e t3 bx2 by2 (by omega) (by omega) (by omega), Num.put (Num.put (x3) bx2 (.bool s1) (.slice a1 n1 k1) (.slice e1 d1 l1)) (Box.other2 by2 (by omega) (.bool s1) (.slice a1 n1 k1) (.slice e1 d1 l1)) (.bool s2) (.slice a2 m2 k2) (.slice e2 d4 l2), Num.put (Num.put (y3) bx2 (.bool s1) (.slice a1 n1 k1) (.slice e1 d1 l1)) (Box.other2 by2 (by omega) (.bool s1) (.slice a1 n1 k1) (.slice e1 d1 l1)) (.bool s2) (.slice a2 m2 k2) (.slice e2 d4 l2), Num.put (Num.put (x2) bx2 (.bool s1) (.slice a1 n1 k1) (.slice e1 d1 l1)) (Box.other2 by2 (by omega) (.bool s1) (.slice a1 n1 k1) (.slice e1 d1 l1)) (.bool s2) (.slice a2 m2 k2) (.slice e2 d4 l2), Num.put (Num.put (y2) bx2 (.bool s1) (.slice a1 n1 k1) (.slice e1 d1 l1)) (Box.other2 by2 (by omega) (.bool s1) (.slice a1 n1 k1) (.slice e1 d1 l1)) (.bool s2) (.slice a2 m2 k2) (.slice e2 d4 l2)⟩
    · go_wp2_with fail
      go_meet
      exact ⟨_, _, _, _, _, _, _, _, _, _, _, _, _, _, rfl, rfl, two_e t3 bx2 by2 (by omega) (by omega) (by omega), Num.put (Num.put (x3) bx2 (.bool s1) (.slice a1 n1 k1) (.slice e1 d1 l1)) (Box.other2 by2 (by omega) (.bool s1) (.slice a1 n1 k1) (.slice e1 d1 l1)) (.bool s2) (.slice a2 m2 k2) (.slice e2 d4 l2), Num.put (Num.put (y3) bx2 (.bool s1) (.slice a1 n1 k1) (.slice e1 d1 l1)) (Box.other2 by2 (by omega) (.bool s1) (.slice a1 n1 k1) (.slice e1 d1 l1)) (.bool s2) (.slice a2 m2 k2) (.slice e2 d4 l2), Num.put (Num.put (x2) bx2 (.bool s1) (.slice a1 n1 k1) (.slice e1 d1 l1)) (Box.other2 by2 (by omega) (.bool s1) (.slice a1 n1 k1) (.slice e1 d1 l1)) (.bool s2) (.slice a2 m2 k2) (.slice e2 d4 l2), Num.put (Num.put (y2) bx2 (.bool s1) (.slice a1 n1 k1) (.slice e1 d1 l1)) (Box.other2 by2 (by omega) (.bool s1) (.slice a1 n1 k1) (.slice e1 d1 l1)) (.bool s2) (.slice a2 m2 k2) (.slice e2 d4 l2)⟩
    · go_wp2_with fail
      go_meet
      exact ⟨_, _, _, _, _, _, _, _, _, _, _, _, _, _, rfl, rfl, two_d t3 bx2 (by omega), Num.put (x3.mono (add_new _ _)) (bx2.mono (add_new _ _)) (.bool s2) (.slice a2 m2 k2) (.slice e2 d4 l2), Num.put (y3.mono (add_new _ _)) (bx2.mono (add_new _ _)) (.bool s2) (.slice a2 m2 k2) (.slice e2 d4 l2), Num.put (x2.mono (add_new _ _)) (bx2.mono (add_new _ _)) (.bool s2) (.slice a2 m2 k2) (.slice e2 d4 l2), Num.put (y2.mono (add_new _ _)) (bx2.mono (add_new _ _)) (.bool s2) (.slice a2 m2 k2) (.slice e2 d4 l2)⟩
    · go_wp2_with fail
      go_meet
      exact ⟨_, _, _, _, _, _, _, _, _, _, _, _, _, _, rfl, rfl, two_e t3 by2 bx2 (by omega) (by omega) (by omega), Num.put (Num.put (x3) by2 (.bool s1) (.slice a1 n1 k1) (.slice e1 d1 l1)) (Box.other2 bx2 (by omega) (.bool s1) (.slice a1 n1 k1) (.slice e1 d1 l1)) (.bool s2) (.slice a2 m2 k2) (.slice e2 d4 l2), Num.put (Num.put (y3) by2 (.bool s1) (.slice a1 n1 k1) (.slice e1 d1 l1)) (Box.other2 bx2 (by omega) (.bool s1) (.slice a1 n1 k1) (.slice e1 d1 l1)) (.bool s2) (.slice a2 m2 k2) (.slice e2 d4 l2), Num.put (Num.put (x2) by2 (.bool s1) (.slice a1 n1 k1) (.slice e1 d1 l1)) (Box.other2 bx2 (by omega) (.bool s1) (.slice a1 n1 k1) (.slice e1 d1 l1)) (.bool s2) (.slice a2 m2 k2) (.slice e2 d4 l2), Num.put (Num.put (y2) by2 (.bool s1) (.slice a1 n1 k1) (.slice e1 d1 l1)) (Box.other2 bx2 (by omega) (.bool s1) (.slice a1 n1 k1) (.slice e1 d1 l1)) (.bool s2) (.slice a2 m2 k2) (.slice e2 d4 l2)⟩
    · go_wp2_with fail
      go_meet
      exact ⟨_, _, _, _, _, _, _, _, _, _, _, _, _, _, rfl, rfl, two_e t3 by2 bx2 (by omega) (by omega) (by omega), Num.put (Num.put (x3) by2 (.bool s1) (.slice a1 n1 k1) (.slice e1 d1 l1)) (Box.other2 bx2 (by omega) (.bool s1) (.slice a1 n1 k1) (.slice e1 d1 l1)) (.bool s2) (.slice a2 m2 k2) (.slice e2 d4 l2), Num.put (Num.put (y3) by2 (.bool s1) (.slice a1 n1 k1) (.slice e1 d1 l1)) (Box.other2 bx2 (by omega) (.bool s1) (.slice a1 n1 k1) (.slice e1 d1 l1)) (.bool s2) (.slice a2 m2 k2) (.slice e2 d4 l2), Num.put (Num.put (x2) by2 (.bool s1) (.slice a1 n1 k1) (.slice e1 d1 l1)) (Box.other2 bx2 (by omega) (.bool s1) (.slice a1 n1 k1) (.slice e1 d1 l1)) (.bool s2) (.slice a2 m2 k2) (.slice e2 d4 l2), Num.put (Num.put (y2) by2 (.bool s1) (.slice a1 n1 k1) (.slice e1 d1 l1)) (Box.other2 bx2 (by omega) (.bool s1) (.slice a1 n1 k1) (.slice e1 d1 l1)) (.bool s2) (.slice a2 m2 k2) (.slice e2 d4 l2)⟩
  case rest =>
    obtain ⟨g, h, a1, n1, k1, e1, d1, l1, a2, m2, k2, e2, d4, l2, rfl, rfl, ⟨hX, hY, tc⟩, x1, y1, x2, y2⟩ := hcut
    clear K0 C1 C2 ca0 ca1 ca2 ca3 ca4 ca5 cb0 cb1 cb2 cb3 cb4 cb5
    replace hA := hA.mono tc
    replace hB := hB.mono tc
    replace hT := hT.mono tc
    replace qa := qa.mono tc
    replace qb := qb.mono tc
    replace T := Add.trans T tc
    clear tc
    have f1 := numT x1 y1 G3.out (by decide)
    have f2 := numT x2 y2 G4.out (by decide)
    clear x1 y1 x2 y2
    have ca0 := hA.c0
    have ca1 := hA.c1
    have ca2 := hA.c2
    have ca3 := hA.c3
    have ca4 := hA.c4
    have ca5 := hA.c5
    have cb0 := hB.c0
    have cb1 := hB.c1
    have cb2 := hB.c2
    have cb3 := hB.c3
    have cb4 := hB.c4
    have cb5 := hB.c5
    go_wp2_with fail
    refine ((addIN_works s6 N6 D6 s7 N7 D7 qa qb hT OO G5 G6).mono fun _ _ g => g.ok).mono ?_
    rintro e w5 ⟨a10, n10, k10, e10, d10z, l10, a11, n11, k11, e11, d11z, l11, rfl, x10, y10, x11, y11, h5⟩
    replace hT := hT.mono h5
    replace hA := hA.mono h5
    replace hB := hB.mono h5
    replace hX := hX.mono h5
    replace hY := hY.mono h5
    replace qa := qa.mono h5
    replace qb := qb.mono h5
    replace f1 := f1.mono h5
    replace f2 := f2.mono h5
    replace T := Add.trans T h5
    clear h5 G5 G6 ca0 ca1 ca2 ca3 ca4 ca5 cb0 cb1 cb2 cb3 cb4 cb5
    obtain ⟨tt, hS⟩ := laid6 w5 s6 a10 n10 k10 e10 d10z l10 s7 a11 n11 k11 e11 d11z l11
    replace hT := hT.mono tt
    replace hA := hA.mono tt
    replace hB := hB.mono tt
    replace hX := hX.mono tt
    replace hY := hY.mono tt
    replace qa := qa.mono tt
    replace qb := qb.mono tt
    replace f1 := f1.mono tt
    replace f2 := f2.mono tt
    replace x10 := x10.mono tt
    replace y10 := y10.mono tt
    replace x11 := x11.mono tt
    replace y11 := y11.mono tt
    replace T := Add.trans T tt
    clear tt
    have hSq := IvT.arg (x := ((s6, N6, D6), (s7, N7, D7))) ⟨_, _, _, _, _, _, _, _, _, _, _, _, rfl, x10, y10, x11, y11⟩ (lt_up G10.out.1.2.1 (by decide)) (lt_up G10.out.1.2.2 (by decide)) (lt_up G10.out.2.2.1 (by decide)) (lt_up G10.out.2.2.2 (by decide))
    clear x10 y10 x11 y11
    have ca0 := hA.c0
    have ca1 := hA.c1
    have ca2 := hA.c2
    have ca3 := hA.c3
    have ca4 := hA.c4
    have ca5 := hA.c5
    have cb0 := hB.c0
    have cb1 := hB.c1
    have cb2 := hB.c2
    have cb3 := hB.c3
    have cb4 := hB.c4
    have cb5 := hB.c5
    go_wp2_with fail
    refine ((subIN_works s8 N8 D8 s9 N9 D9 qa qb hT OO G7 G8).mono fun _ _ g => g.ok).mono ?_
    rintro e w6 ⟨a12, n12, k12, e12, d12z, l12, a13, n13, k13, e13, d13z, l13, rfl, x12, y12, x13, y13, h6⟩
    replace hT := hT.mono h6
    replace hA := hA.mono h6
    replace hB := hB.mono h6
    replace hX := hX.mono h6
    replace hY := hY.mono h6
    replace qa := qa.mono h6
    replace qb := qb.mono h6
    replace f1 := f1.mono h6
    replace f2 := f2.mono h6
    replace hS := hS.mono h6
    replace hSq := hSq.mono h6
    replace T := Add.trans T h6
    clear h6 G7 G8 ca0 ca1 ca2 ca3 ca4 ca5 cb0 cb1 cb2 cb3 cb4 cb5
    obtain ⟨tt, hD⟩ := laid6 w6 s8 a12 n12 k12 e12 d12z l12 s9 a13 n13 k13 e13 d13z l13
    replace hT := hT.mono tt
    replace hA := hA.mono tt
    replace hB := hB.mono tt
    replace hX := hX.mono tt
    replace hY := hY.mono tt
    replace qa := qa.mono tt
    replace qb := qb.mono tt
    replace f1 := f1.mono tt
    replace f2 := f2.mono tt
    replace hS := hS.mono tt
    replace hSq := hSq.mono tt
    replace x12 := x12.mono tt
    replace y12 := y12.mono tt
    replace x13 := x13.mono tt
    replace y13 := y13.mono tt
    replace T := Add.trans T tt
    clear tt
    have hDq := IvT.arg (x := ((s8, N8, D8), (s9, N9, D9))) ⟨_, _, _, _, _, _, _, _, _, _, _, _, rfl, x12, y12, x13, y13⟩ (lt_up G11.out.1.2.1 (by decide)) (lt_up G11.out.1.2.2 (by decide)) (lt_up G11.out.2.2.1 (by decide)) (lt_up G11.out.2.2.2 (by decide))
    clear x12 y12 x13 y13
    have ca0 := hA.c0
    have ca1 := hA.c1
    have ca2 := hA.c2
    have ca3 := hA.c3
    have ca4 := hA.c4
    have ca5 := hA.c5
    have cb0 := hB.c0
    have cb1 := hB.c1
    have cb2 := hB.c2
    have cb3 := hB.c3
    have cb4 := hB.c4
    have cb5 := hB.c5
    go_wp2_with fail
    refine ((mulIN_works 12 12 ((p1, P1, Q1), (p2, P2, Q2)) qa qb hT OO SS G9).mono fun _ _ g => g.ok).mono ?_
    rintro e w7 ⟨a14, n14, k14, e14, d14z, l14, a15, n15, k15, e15, d15z, l15, rfl, x14, y14, x15, y15, h7⟩
    replace hT := hT.mono h7
    replace hA := hA.mono h7
    replace hB := hB.mono h7
    replace hX := hX.mono h7
    replace hY := hY.mono h7
    replace qa := qa.mono h7
    replace qb := qb.mono h7
    replace f1 := f1.mono h7
    replace f2 := f2.mono h7
    replace hS := hS.mono h7
    replace hSq := hSq.mono h7
    replace hD := hD.mono h7
    replace hDq := hDq.mono h7
    replace T := Add.trans T h7
    clear h7 OO ca0 ca1 ca2 ca3 ca4 ca5 cb0 cb1 cb2 cb3 cb4 cb5
    obtain ⟨tt, hP⟩ := laid6 w7 p1 a14 n14 k14 e14 d14z l14 p2 a15 n15 k15 e15 d15z l15
    replace hT := hT.mono tt
    replace hA := hA.mono tt
    replace hB := hB.mono tt
    replace hX := hX.mono tt
    replace hY := hY.mono tt
    replace qa := qa.mono tt
    replace qb := qb.mono tt
    replace f1 := f1.mono tt
    replace f2 := f2.mono tt
    replace hS := hS.mono tt
    replace hSq := hSq.mono tt
    replace hD := hD.mono tt
    replace hDq := hDq.mono tt
    replace x14 := x14.mono tt
    replace y14 := y14.mono tt
    replace x15 := x15.mono tt
    replace y15 := y15.mono tt
    replace T := Add.trans T tt
    clear tt
    have hPq := IvT.arg (x := ((p1, P1, Q1), (p2, P2, Q2))) ⟨_, _, _, _, _, _, _, _, _, _, _, _, rfl, x14, y14, x15, y15⟩ (lt_up G12.out.1.2.1 (by decide)) (lt_up G12.out.1.2.2 (by decide)) (lt_up G12.out.2.2.1 (by decide)) (lt_up G12.out.2.2.2 (by decide))
    clear x14 y14 x15 y15
    have cx0 := hX.c0
    have cx1 := hX.c1
    have cx2 := hX.c2
    have cy0 := hY.c0
    have cy1 := hY.c1
    have cy2 := hY.c2
    go_wp2_with fail
    refine ((refAddN2 _ f1 f2 G13).mono fun _ _ g => g.ok).mono ?_
    rintro e w8 ⟨a23, n23, k23, e23, d23, l23, rfl, x23, y23, h8⟩
    replace hT := hT.mono h8
    replace hA := hA.mono h8
    replace hB := hB.mono h8
    replace hX := hX.mono h8
    replace hY := hY.mono h8
    replace qa := qa.mono h8
    replace qb := qb.mono h8
    replace f1 := f1.mono h8
    replace f2 := f2.mono h8
    replace hS := hS.mono h8
    replace hSq := hSq.mono h8
    replace hD := hD.mono h8
    replace hDq := hDq.mono h8
    replace hP := hP.mono h8
    replace hPq := hPq.mono h8
    replace T := Add.trans T h8
    clear h8 cx0 cx1 cx2 cy0 cy1 cy2 G13
    obtain ⟨tt, hU⟩ := laid_var w8 s3 a23 n23 k23 e23 d23 l23
    replace hT := hT.mono tt
    replace hA := hA.mono tt
    replace hB := hB.mono tt
    replace hX := hX.mono tt
    replace hY := hY.mono tt
    replace qa := qa.mono tt
    replace qb := qb.mono tt
    replace f1 := f1.mono tt
    replace f2 := f2.mono tt
    replace hS := hS.mono tt
    replace hSq := hSq.mono tt
    replace hD := hD.mono tt
    replace hDq := hDq.mono tt
    replace hP := hP.mono tt
    replace hPq := hPq.mono tt
    replace x23 := x23.mono tt
    replace y23 := y23.mono tt
    replace T := Add.trans T tt
    clear tt
    have hUq := numT x23 y23 G16.out (by decide)
    clear x23 y23 G16
    have cx0 := hX.c0
    have cx1 := hX.c1
    have cx2 := hX.c2
    have cy0 := hY.c0
    have cy1 := hY.c1
    have cy2 := hY.c2
    go_wp2_with fail
    refine ((refSubN2 _ f1 f2 G14).mono fun _ _ g => g.ok).mono ?_
    rintro e w9 ⟨a24, n24, k24, e24, d24, l24, rfl, x24, y24, h9⟩
    replace hT := hT.mono h9
    replace hA := hA.mono h9
    replace hB := hB.mono h9
    replace hX := hX.mono h9
    replace hY := hY.mono h9
    replace qa := qa.mono h9
    replace qb := qb.mono h9
    replace f1 := f1.mono h9
    replace f2 := f2.mono h9
    replace hS := hS.mono h9
    replace hSq := hSq.mono h9
    replace hD := hD.mono h9
    replace hDq := hDq.mono h9
    replace hP := hP.mono h9
    replace hPq := hPq.mono h9
    replace hU := hU.mono h9
    replace hUq := hUq.mono h9
    replace T := Add.trans T h9
    clear h9 cx0 cx1 cx2 cy0 cy1 cy2 G14
    obtain ⟨tt, hV⟩ := laid_var w9 s4 a24 n24 k24 e24 d24 l24
    replace hT := hT.mono tt
    replace hA := hA.mono tt
    replace hB := hB.mono tt
    replace hX := hX.mono tt
    replace hY := hY.mono tt
    replace qa := qa.mono tt
    replace qb := qb.mono tt
    replace f1 := f1.mono tt
    replace f2 := f2.mono tt
    replace hS := hS.mono tt
    replace hSq := hSq.mono tt
    replace hD := hD.mono tt
    replace hDq := hDq.mono tt
    replace hP := hP.mono tt
    replace hPq := hPq.mono tt
    replace hU := hU.mono tt
    replace hUq := hUq.mono tt
    replace x24 := x24.mono tt
    replace y24 := y24.mono tt
    replace T := Add.trans T tt
    clear tt
    have hVq := numT x24 y24 G17.out (by decide)
    clear x24 y24 G17
    have cx0 := hX.c0
    have cx1 := hX.c1
    have cx2 := hX.c2
    have cy0 := hY.c0
    have cy1 := hY.c1
    have cy2 := hY.c2
    go_wp2_with fail
    refine ((refMulN2 _ f1 f2 G15).mono fun _ _ g => g.ok).mono ?_
    rintro e w10 ⟨a25, n25, k25, e25, d25, l25, rfl, x25, y25, h10⟩
    replace hT := hT.mono h10
    replace hA := hA.mono h10
    replace hB := hB.mono h10
    replace hX := hX.mono h10
    replace hY := hY.mono h10
    replace qa := qa.mono h10
    replace qb := qb.mono h10
    replace f1 := f1.mono h10
    replace f2 := f2.mono h10
    replace hS := hS.mono h10
    replace hSq := hSq.mono h10
    replace hD := hD.mono h10
    replace hDq := hDq.mono h10
    replace hP := hP.mono h10
    replace hPq := hPq.mono h10
    replace hU := hU.mono h10
    replace hUq := hUq.mono h10
    replace hV := hV.mono h10
    replace hVq := hVq.mono h10
    replace T := Add.trans T h10
    clear h10 cx0 cx1 cx2 cy0 cy1 cy2 G15
    obtain ⟨tt, hZ⟩ := laid_var w10 s5 a25 n25 k25 e25 d25 l25
    replace hT := hT.mono tt
    replace hA := hA.mono tt
    replace hB := hB.mono tt
    replace hX := hX.mono tt
    replace hY := hY.mono tt
    replace qa := qa.mono tt
    replace qb := qb.mono tt
    replace f1 := f1.mono tt
    replace f2 := f2.mono tt
    replace hS := hS.mono tt
    replace hSq := hSq.mono tt
    replace hD := hD.mono tt
    replace hDq := hDq.mono tt
    replace hP := hP.mono tt
    replace hPq := hPq.mono tt
    replace hU := hU.mono tt
    replace hUq := hUq.mono tt
    replace hV := hV.mono tt
    replace hVq := hVq.mono tt
    replace x25 := x25.mono tt
    replace y25 := y25.mono tt
    replace T := Add.trans T tt
    clear tt
    have hZq := numT x25 y25 G18.out (by decide)
    clear x25 y25 G18
    clear hX hY f1 f2 G3 G4
    have ca0 := hS.c0
    have ca1 := hS.c1
    have ca2 := hS.c2
    have ca3 := hS.c3
    have ca4 := hS.c4
    have ca5 := hS.c5
    have cz0 := hU.c0
    have cz1 := hU.c1
    have cz2 := hU.c2
    go_wp2_with fail
    refine (containsN true hSq hUq G19).mono ?_
    rintro e w11 ⟨rfl, h11⟩
    replace hT := hT.mono h11
    replace hA := hA.mono h11
    replace hB := hB.mono h11
    replace qa := qa.mono h11
    replace qb := qb.mono h11
    replace hD := hD.mono h11
    replace hDq := hDq.mono h11
    replace hP := hP.mono h11
    replace hPq := hPq.mono h11
    replace hV := hV.mono h11
    replace hVq := hVq.mono h11
    replace hZ := hZ.mono h11
    replace hZq := hZq.mono h11
    replace T := Add.trans T h11
    clear h11 hS hSq hU hUq G19 cz0 cz1 cz2 ca0 ca1 ca2 ca3 ca4 ca5
    have ca0 := hD.c0
    have ca1 := hD.c1
    have ca2 := hD.c2
    have ca3 := hD.c3
    have ca4 := hD.c4
    have ca5 := hD.c5
    have cz0 := hV.c0
    have cz1 := hV.c1
    have cz2 := hV.c2
    go_wp2_with fail
    refine (containsN true hDq hVq G20).mono ?_
    rintro e w12 ⟨rfl, h12⟩
    replace hT := hT.mono h12
    replace hA := hA.mono h12
    replace hB := hB.mono h12
    replace qa := qa.mono h12
    replace qb := qb.mono h12
    replace hP := hP.mono h12
    replace hPq := hPq.mono h12
    replace hZ := hZ.mono h12
    replace hZq := hZq.mono h12
    replace T := Add.trans T h12
    clear h12 hD hDq hV hVq G20 cz0 cz1 cz2 ca0 ca1 ca2 ca3 ca4 ca5
    have ca0 := hP.c0
    have ca1 := hP.c1
    have ca2 := hP.c2
    have ca3 := hP.c3
    have ca4 := hP.c4
    have ca5 := hP.c5
    have cz0 := hZ.c0
    have cz1 := hZ.c1
    have cz2 := hZ.c2
    go_wp2_with fail
    refine (containsN true hPq hZq G21).mono ?_
    rintro e w13 ⟨rfl, h13⟩
    replace hT := hT.mono h13
    replace hA := hA.mono h13
    replace hB := hB.mono h13
    replace qa := qa.mono h13
    replace qb := qb.mono h13
    replace hP := hP.mono h13
    replace hPq := hPq.mono h13
    replace T := Add.trans T h13
    clear h13 hZ hZq G21 cz0 cz1 cz2 ca0 ca1 ca2 ca3 ca4 ca5
    clear G10 G11
    have E12 : Hid (qv (p1, P1, Q1) = lo4 a b ∧ qv (p2, P2, Q2) = hi4 a b) := Lib.hid ⟨(congrArg (fun p : Iv => qv p.1) G9.out.symm).trans (qv_can _), (congrArg (fun p : Iv => qv p.2) G9.out.symm).trans (qv_can _)⟩
    have za := SS.out.1
    have zb := SS.out.2.1
    have fal := IvA_lo qa
    have fah := IvA_hi qa
    have fbl := IvA_lo qb
    have fbh := IvA_hi qb
    have fpl := IvA_lo hPq
    have fph := IvA_hi hPq
    have lw1 := hA.lt
    have lw2 := hB.lt
    have lw3 := hP.lt
    clear qa qb hPq
    go_wp2_with fail
    go_loopw [23, 24, 25] (fun lo hi i wr => ∃ k : Nat, ∃ l h : Bool, k ≤ 4 ∧ lo = .bool l ∧ hi = .bool h ∧ i = .int .i64 (k : Nat) ∧ Hid (among a b (lo4 a b) k = l ∧ among a b (hi4 a b) k = h) ∧ Box6 wr w.heap.size x.1.1 an n cn ad d cd x.2.1 an' n' cn' ad' d' cd' ∧ Box6 wr (w.heap.size + 1) y.1.1 an2 n2 cn2 ad2 d2 cd2 y.2.1 an3 n3 cn3 ad3 d3 cd3 ∧ Box6 wr w7.heap.size p1 a14 n14 k14 e14 d14z l14 p2 a15 n15 k15 e15 d15z l15 ∧ Add w13 wr) (fun _ _ i _ => 4 - (intOf i).toNat)
    case atStart => exact ⟨0, false, false, by omega, rfl, rfl, rfl, Lib.hid ⟨rfl, rfl⟩, hA, hB, hP, Below.refl _ _⟩
    case round =>
      clear hA hB hP
      obtain ⟨k, l, h, hk, rfl, rfl, rfl, AM, hA, hB, hP, T13⟩ := hrel
      have T0 := T
      clear T
      have T := T13
      clear T13
      have lw4 := T.size
      have e : k = 0 ∨ k = 1 ∨ k = 2 ∨ k = 3 ∨ k = 4 := by omega
      rcases e with rfl | rfl | rfl | rfl | rfl
      · as_aux_lemma =>
          have ca0 := hA.c0
          have cb0 := hB.c0
          have ca1 := hA.c1
          have cb1 := hB.c1
          have ca2 := hA.c2
          have cb2 := hB.c2
          have K0 : Hid (∀ w', Add wr w' → w'.cell? ⟨w.heap.size, 0, none⟩ = some (.bool x.1.1) ∧ w'.cell? ⟨w.heap.size, 1, none⟩ = some (.slice an n cn) ∧ w'.cell? ⟨w.heap.size, 2, none⟩ = some (.slice ad d cd) ∧ w'.cell? ⟨w.heap.size + 1, 0, none⟩ = some (.bool y.1.1) ∧ w'.cell? ⟨w.heap.size + 1, 1, none⟩ = some (.slice an2 n2 cn2) ∧ w'.cell? ⟨w.heap.size + 1, 2, none⟩ = some (.slice ad2 d2 cd2)) := Lib.hid fun w' k => ⟨(hA.mono k).c0, (hA.mono k).c1, (hA.mono k).c2, (hB.mono k).c0, (hB.mono k).c1, (hB.mono k).c2⟩
          go_wp2_with fail
          go_region_held3 (fun w' => w'.cell? ⟨w.heap.size, 0, none⟩ = some (.bool x.1.1) ∧ w'.cell? ⟨w.heap.size, 1, none⟩ = some (.slice an n cn) ∧ w'.cell? ⟨w.heap.size, 2, none⟩ = some (.slice ad d cd) ∧ w'.cell? ⟨w.heap.size + 1, 0, none⟩ = some (.bool y.1.1) ∧ w'.cell? ⟨w.heap.size + 1, 1, none⟩ = some (.slice an2 n2 cn2) ∧ w'.cell? ⟨w.heap.size + 1, 2, none⟩ = some (.slice ad2 d2 cd2))
            (first | (refine K0.out _ ?_; (repeat (with_reducible refine Below.setCell ?_ (by dsimp only; omega) _)); (repeat (with_reducible refine Below.drew ?_)); (repeat (with_reducible refine Below.alloc ?_ (by first | omega | (simp; done) | (simp; omega)) _)); first | with_reducible assumption | with_reducible exact Below.refl _ _) | go_keep)
            (first | fail)
          · obtain ⟨tt, hu, hv⟩ := two_drew wr x.1.1 an n cn ad d cd y.1.1 an2 n2 cn2 ad2 d2 cd2
            obtain ⟨W5, hW5⟩ : ∃ W5, W5 = (((wr.alloc (.cells #[.bool x.1.1, .slice an n cn, .slice ad d cd] 25)).alloc (.cells #[.bool y.1.1, .slice an2 n2 cn2, .slice ad2 d2 cd2] 25)).drew) := ⟨_, rfl⟩
            rw [← hW5] at tt hu hv ⊢
            clear hW5
            replace hA := hA.mono tt
            replace hB := hB.mono tt
            replace hP := hP.mono tt
            replace T := Add.trans T tt
            clear tt ca0 cb0 ca1 cb1 ca2 cb2 K0
            have gu := fal.mono T
            have gv := fbl.mono T
            obtain ⟨gm, gz⟩ := mul_sz za.1 zb.1 (by decide)
            obtain ⟨⟨s0, N0, D0⟩, hz0⟩ : ∃ q, can (qv a.1 * qv b.1) = q := ⟨_, rfl⟩
            rw [hz0] at gm gz
            have hzq : qv (s0, N0, D0) = prodQ a b 0 := by rw [← hz0, qv_can]; rfl
            obtain ⟨t1, ht1⟩ : ∃ t, decide (prodQ a b 0 = lo4 a b) = t := ⟨_, rfl⟩
            obtain ⟨t2, ht2⟩ : ∃ t, decide (prodQ a b 0 = hi4 a b) = t := ⟨_, rfl⟩
            have HT1 : Hid (decide (qv (s0, N0, D0) = qv (p1, P1, Q1)) = t1) := Lib.hid (by rw [hzq, E12.out.1]; exact ht1)
            have HT2 : Hid (decide (qv (s0, N0, D0) = qv (p2, P2, Q2)) = t2) := Lib.hid (by rw [hzq, E12.out.2]; exact ht2)
            have E1 := Lib.hid ht1
            have E2 := Lib.hid ht2
            have GM := Lib.hid gm
            have GZ := Lib.hid gz
            have OE1 : Hid (okF (s0, N0, D0) = true ∧ okF (p1, P1, Q1) = true) := Lib.hid ⟨gz.ok (by decide), G12.out.1.ok (by decide)⟩
            have OE2 : Hid (okF (s0, N0, D0) = true ∧ okF (p2, P2, Q2) = true) := Lib.hid ⟨gz.ok (by decide), G12.out.2.ok (by decide)⟩
            clear gm gz hz0 hzq ht1 ht2
            have cx0 := hu.c0
            have cx1 := hu.c1
            have cx2 := hu.c2
            have cy0 := hv.c0
            have cy1 := hv.c1
            have cy2 := hv.c2
            go_wp2_with fail
            refine ((refMulN2 _ gu gv GM).mono fun _ _ g => g.ok).mono ?_
            rintro e w30 ⟨a30, n30, k30, e30, d30, l30, rfl, x30, y30, h30⟩
            replace hA := hA.mono h30
            replace hB := hB.mono h30
            replace hP := hP.mono h30
            replace T := Add.trans T h30
            clear h30 gu gv GM hu hv cx0 cx1 cx2 cy0 cy1 cy2
            obtain ⟨tt, hW⟩ := laid_var w30 s0 a30 n30 k30 e30 d30 l30
            replace hA := hA.mono tt
            replace hB := hB.mono tt
            replace hP := hP.mono tt
            replace x30 := x30.mono tt
            replace y30 := y30.mono tt
            replace T := Add.trans T tt
            clear tt
            have fw := numT x30 y30 GZ.out (by decide)
            have fp1 := fpl.mono T
            have fp2 := fph.mono T
            clear x30 y30 GZ
            cases l with
            | true =>
              cases h with
              | true =>
                go_wp2_with fail
                go_roundw
                case rel => exact ⟨1, true, true, by omega, rfl, rfl, rfl, Lib.hid ⟨by rw [among, AM.out.1]; rfl, by rw [among, AM.out.2]; rfl⟩, hA, hB, hP, T⟩
                case measure => simp [intOf]
              | false =>
                have cw0 := hW.c0
                have cw1 := hW.c1
                have cw2 := hW.c2
                have cp3 := hP.c3
                have cp4 := hP.c4
                have cp5 := hP.c5
                go_wp2_with fail
                refine (equalN t2 fw fp2 OE2 HT2).mono ?_
                rintro e w32 ⟨rfl, hA2⟩
                replace hA := hA.mono hA2
                replace hB := hB.mono hA2
                replace hP := hP.mono hA2
                replace T := Add.trans T hA2
                clear hA2 hW fw fp2 cw0 cw1 cw2 cp3 cp4 cp5
                go_wp2_with fail
                go_roundw
                case rel => exact ⟨1, true, t2, by omega, rfl, rfl, rfl, Lib.hid ⟨by rw [among, AM.out.1]; rfl, by rw [among, AM.out.2]; rw [Bool.false_or]; exact E2.out⟩, hA, hB, hP, T⟩
                case measure => simp [intOf]
            | false =>
              cases h with
              | true =>
                have cw0 := hW.c0
                have cw1 := hW.c1
                have cw2 := hW.c2
                have cp0 := hP.c0
                have cp1 := hP.c1
                have cp2 := hP.c2
                go_wp2_with fail
                refine (equalN t1 fw fp1 OE1 HT1).mono ?_
                rintro e w31 ⟨rfl, hA1⟩
                replace hA := hA.mono hA1
                replace hB := hB.mono hA1
                replace hP := hP.mono hA1
                replace hW := hW.mono hA1
                replace fw := fw.mono hA1
                replace fp2 := fp2.mono hA1
                replace T := Add.trans T hA1
                clear hA1 fp1 cw0 cw1 cw2 cp0 cp1 cp2
                go_wp2_with fail
                go_roundw
                case rel => exact ⟨1, t1, true, by omega, rfl, rfl, rfl, Lib.hid ⟨by rw [among, AM.out.1]; rw [Bool.false_or]; exact E1.out, by rw [among, AM.out.2]; rfl⟩, hA, hB, hP, T⟩
                case measure => simp [intOf]
              | false =>
                have cw0 := hW.c0
                have cw1 := hW.c1
                have cw2 := hW.c2
                have cp0 := hP.c0
                have cp1 := hP.c1
                have cp2 := hP.c2
                go_wp2_with fail
                refine (equalN t1 fw fp1 OE1 HT1).mono ?_
                rintro e w31 ⟨rfl, hA1⟩
                replace hA := hA.mono hA1
                replace hB := hB.mono hA1
                replace hP := hP.mono hA1
                replace hW := hW.mono hA1
                replace fw := fw.mono hA1
                replace fp2 := fp2.mono hA1
                replace T := Add.trans T hA1
                clear hA1 fp1 cw0 cw1 cw2 cp0 cp1 cp2
                have cw0 := hW.c0
                have cw1 := hW.c1
                have cw2 := hW.c2
                have cp3 := hP.c3
                have cp4 := hP.c4
                have cp5 := hP.c5
                go_wp2_with fail
                refine (equalN t2 fw fp2 OE2 HT2).mono ?_
                rintro e w32 ⟨rfl, hA2⟩
                replace hA := hA.mono hA2
                replace hB := hB.mono hA2
                replace hP := hP.mono hA2
                replace T := Add.trans T hA2
                clear hA2 hW fw fp2 cw0 cw1 cw2 cp3 cp4 cp5
                go_wp2_with fail
                go_roundw
                case rel => exact ⟨1, t1, t2, by omega, rfl, rfl, rfl, Lib.hid ⟨by rw [among, AM.out.1]; rw [Bool.false_or]; exact E1.out, by rw [among, AM.out.2]; rw [Bool.false_or]; exact E2.out⟩, hA, hB, hP, T⟩
                case measure => simp [intOf]
          · obtain ⟨tt, hv, hu⟩ := two_drew wr y.1.1 an2 n2 cn2 ad2 d2 cd2 x.1.1 an n cn ad d cd
            obtain ⟨W5, hW5⟩ : ∃ W5, W5 = (((wr.alloc (.cells #[.bool y.1.1, .slice an2 n2 cn2, .slice ad2 d2 cd2] 25)).alloc (.cells #[.bool x.1.1, .slice an n cn, .slice ad d cd] 25)).drew) := ⟨_, rfl⟩
            rw [← hW5] at tt hu hv ⊢
            clear hW5
            replace hA := hA.mono tt
            replace hB := hB.mono tt
            replace hP := hP.mono tt
            replace T := Add.trans T tt
            clear tt ca0 cb0 ca1 cb1 ca2 cb2 K0
            have gu := fal.mono T
            have gv := fbl.mono T
            obtain ⟨gm, gz⟩ := mul_sz za.1 zb.1 (by decide)
            obtain ⟨⟨s0, N0, D0⟩, hz0⟩ : ∃ q, can (qv a.1 * qv b.1) = q := ⟨_, rfl⟩
            rw [hz0] at gm gz
            have hzq : qv (s0, N0, D0) = prodQ a b 0 := by rw [← hz0, qv_can]; rfl
            obtain ⟨t1, ht1⟩ : ∃ t, decide (prodQ a b 0 = lo4 a b) = t := ⟨_, rfl⟩
            obtain ⟨t2, ht2⟩ : ∃ t, decide (prodQ a b 0 = hi4 a b) = t := ⟨_, rfl⟩
            have HT1 : Hid (decide (qv (s0, N0, D0) = qv (p1, P1, Q1)) = t1) := Lib.hid (by rw [hzq, E12.out.1]; exact ht1)
            have HT2 : Hid (decide (qv (s0, N0, D0) = qv (p2, P2, Q2)) = t2) := Lib.hid (by rw [hzq, E12.out.2]; exact ht2)
            have E1 := Lib.hid ht1
            have E2 := Lib.hid ht2
            have GM := Lib.hid gm
            have GZ := Lib.hid gz
            have OE1 : Hid (okF (s0, N0, D0) = true ∧ okF (p1, P1, Q1) = true) := Lib.hid ⟨gz.ok (by decide), G12.out.1.ok (by decide)⟩
            have OE2 : Hid (okF (s0, N0, D0) = true ∧ okF (p2, P2, Q2) = true) := Lib.hid ⟨gz.ok (by decide), G12.out.2.ok (by decide)⟩
            clear gm gz hz0 hzq ht1 ht2
            have cx0 := hu.c0
            have cx1 := hu.c1
            have cx2 := hu.c2
            have cy0 := hv.c0
            have cy1 := hv.c1
            have cy2 := hv.c2
            go_wp2_with fail
            refine ((refMulN2 _ gu gv GM).mono fun _ _ g => g.ok).mono ?_
            rintro e w30 ⟨a30, n30, k30, e30, d30, l30, rfl, x30, y30, h30⟩
            replace hA := hA.mono h30
            replace hB := hB.mono h30
            replace hP := hP.mono h30
            replace T := Add.trans T h30
            clear h30 gu gv GM hu hv cx0 cx1 cx2 cy0 cy1 cy2
            obtain ⟨tt, hW⟩ := laid_var w30 s0 a30 n30 k30 e30 d30 l30
            replace hA := hA.mono tt
            replace hB := hB.mono tt
            replace hP := hP.mono tt
            replace x30 := x30.mono tt
            replace y30 := y30.mono tt
            replace T := Add.trans T tt
            clear tt
            have fw := numT x30 y30 GZ.out (by decide)
            have fp1 := fpl.mono T
            have fp2 := fph.mono T
            clear x30 y30 GZ
            cases l with
            | true =>
              cases h with
              | true =>
                go_wp2_with fail
                go_roundw
                case rel => exact ⟨1, true, true, by omega, rfl, rfl, rfl, Lib.hid ⟨by rw [among, AM.out.1]; rfl, by rw [among, AM.out.2]; rfl⟩, hA, hB, hP, T⟩
                case measure => simp [intOf]
              | false =>
                have cw0 := hW.c0
                have cw1 := hW.c1
                have cw2 := hW.c2
                have cp3 := hP.c3
                have cp4 := hP.c4
                have cp5 := hP.c5
                go_wp2_with fail
                refine (equalN t2 fw fp2 OE2 HT2).mono ?_
                rintro e w32 ⟨rfl, hA2⟩
                replace hA := hA.mono hA2
                replace hB := hB.mono hA2
                replace hP := hP.mono hA2
                replace T := Add.trans T hA2
                clear hA2 hW fw fp2 cw0 cw1 cw2 cp3 cp4 cp5
                go_wp2_with fail
                go_roundw
                case rel => exact ⟨1, true, t2, by omega, rfl, rfl, rfl, Lib.hid ⟨by rw [among, AM.out.1]; rfl, by rw [among, AM.out.2]; rw [Bool.false_or]; exact E2.out⟩, hA, hB, hP, T⟩
                case measure => simp [intOf]
            | false =>
              cases h with
              | true =>
                have cw0 := hW.c0
                have cw1 := hW.c1
                have cw2 := hW.c2
                have cp0 := hP.c0
                have cp1 := hP.c1
                have cp2 := hP.c2
                go_wp2_with fail
                refine (equalN t1 fw fp1 OE1 HT1).mono ?_
                rintro e w31 ⟨rfl, hA1⟩
                replace hA := hA.mono hA1
                replace hB := hB.mono hA1
                replace hP := hP.mono hA1
                replace hW := hW.mono hA1
                replace fw := fw.mono hA1
                replace fp2 := fp2.mono hA1
                replace T := Add.trans T hA1
                clear hA1 fp1 cw0 cw1 cw2 cp0 cp1 cp2
                go_wp2_with fail
                go_roundw
                case rel => exact ⟨1, t1, true, by omega, rfl, rfl, rfl, Lib.hid ⟨by rw [among, AM.out.1]; rw [Bool.false_or]; exact E1.out, by rw [among, AM.out.2]; rfl⟩, hA, hB, hP, T⟩
                case measure => simp [intOf]
              | false =>
                have cw0 := hW.c0
                have cw1 := hW.c1
                have cw2 := hW.c2
                have cp0 := hP.c0
                have cp1 := hP.c1
                have cp2 := hP.c2
                go_wp2_with fail
                refine (equalN t1 fw fp1 OE1 HT1).mono ?_
                rintro e w31 ⟨rfl, hA1⟩
                replace hA := hA.mono hA1
                replace hB := hB.mono hA1
                replace hP := hP.mono hA1
                replace hW := hW.mono hA1
                replace fw := fw.mono hA1
                replace fp2 := fp2.mono hA1
                replace T := Add.trans T hA1
                clear hA1 fp1 cw0 cw1 cw2 cp0 cp1 cp2
                have cw0 := hW.c0
                have cw1 := hW.c1
                have cw2 := hW.c2
                have cp3 := hP.c3
                have cp4 := hP.c4
                have cp5 := hP.c5
                go_wp2_with fail
                refine (equalN t2 fw fp2 OE2 HT2).mono ?_
                rintro e w32 ⟨rfl, hA2⟩
                replace hA := hA.mono hA2
                replace hB := hB.mono hA2
                replace hP := hP.mono hA2
                replace T := Add.trans T hA2
                clear hA2 hW fw fp2 cw0 cw1 cw2 cp3 cp4 cp5
                go_wp2_with fail
                go_roundw
                case rel => exact ⟨1, t1, t2, by omega, rfl, rfl, rfl, Lib.hid ⟨by rw [among, AM.out.1]; rw [Bool.false_or]; exact E1.out, by rw [among, AM.out.2]; rw [Bool.false_or]; exact E2.out⟩, hA, hB, hP, T⟩
                case measure => simp [intOf]
      · as_aux_lemma =>
          have ca0 := hA.c0
          have cb0 := hB.c0
          have ca1 := hA.c1
          have cb1 := hB.c1
          have ca2 := hA.c2
          have cb2 := hB.c2
          have K0 : Hid (∀ w', Add wr w' → w'.cell? ⟨w.heap.size, 0, none⟩ = some (.bool x.1.1) ∧ w'.cell? ⟨w.heap.size, 1, none⟩ = some (.slice an n cn) ∧ w'.cell? ⟨w.heap.size, 2, none⟩ = some (.slice ad d cd) ∧ w'.cell? ⟨w.heap.size + 1, 0, none⟩ = some (.bool y.1.1) ∧ w'.cell? ⟨w.heap.size + 1, 1, none⟩ = some (.slice an2 n2 cn2) ∧ w'.cell? ⟨w.heap.size + 1, 2, none⟩ = some (.slice ad2 d2 cd2)) := Lib.hid fun w' k => ⟨(hA.mono k).c0, (hA.mono k).c1, (hA.mono k).c2, (hB.mono k).c0, (hB.mono k).c1, (hB.mono k).c2⟩
          go_wp2_with fail
          go_region_held3 (fun w' => w'.cell? ⟨w.heap.size, 0, none⟩ = some (.bool x.1.1) ∧ w'.cell? ⟨w.heap.size, 1, none⟩ = some (.slice an n cn) ∧ w'.cell? ⟨w.heap.size, 2, none⟩ = some (.slice ad d cd) ∧ w'.cell? ⟨w.heap.size + 1, 0, none⟩ = some (.bool y.1.1) ∧ w'.cell? ⟨w.heap.size + 1, 1, none⟩ = some (.slice an2 n2 cn2) ∧ w'.cell? ⟨w.heap.size + 1, 2, none⟩ = some (.slice ad2 d2 cd2))
            (first | (refine K0.out _ ?_; (repeat (with_reducible refine Below.setCell ?_ (by dsimp only; omega) _)); (repeat (with_reducible refine Below.drew ?_)); (repeat (with_reducible refine Below.alloc ?_ (by first | omega | (simp; done) | (simp; omega)) _)); first | with_reducible assumption | with_reducible exact Below.refl _ _) | go_keep)
            (first | fail)
          · obtain ⟨tt, hu, hv⟩ := two_drew wr x.1.1 an n cn ad d cd y.1.1 an2 n2 cn2 ad2 d2 cd2
            obtain ⟨W5, hW5⟩ : ∃ W5, W5 = (((wr.alloc (.cells #[.bool x.1.1, .slice an n cn, .slice ad d cd] 25)).alloc (.cells #[.bool y.1.1, .slice an2 n2 cn2, .slice ad2 d2 cd2] 25)).drew) := ⟨_, rfl⟩
            rw [← hW5] at tt hu hv ⊢
            clear hW5
            replace hA := hA.mono tt
            replace hB := hB.mono tt
            replace hP := hP.mono tt
            replace T := Add.trans T tt
            clear tt ca0 cb0 ca1 cb1 ca2 cb2 K0
            have cu0 := hu.c0
            have cu1 := hu.c1
            have cu2 := hu.c2
            have cu3 := hu.fr 0
            have cu4 := hu.fr 1
            have cu5 := hu.fr 2
            have ca3 := hA.c3
            have ca4 := hA.c4
            have ca5 := hA.c5
            have hv2 := Box.other2 hv (show wr.heap.size + 1 ≠ wr.heap.size by omega) (.bool x.2.1) (.slice an' n' cn') (.slice ad' d' cd')
            have hA2 := Box6.putBox hA (show w.heap.size ≠ wr.heap.size by omega) (.bool x.2.1) (.slice an' n' cn') (.slice ad' d' cd')
            have hB2 := Box6.putBox hB (show w.heap.size + 1 ≠ wr.heap.size by omega) (.bool x.2.1) (.slice an' n' cn') (.slice ad' d' cd')
            have hP2 := Box6.putBox hP (show w7.heap.size ≠ wr.heap.size by omega) (.bool x.2.1) (.slice an' n' cn') (.slice ad' d' cd')
            have T2 := put3_below (.bool x.2.1) (.slice an' n' cn') (.slice ad' d' cd') T (show w13.heap.size ≤ wr.heap.size by omega)
            have hu2 := hu.put x.2.1 an' n' cn' ad' d' cd'
            unfold put3 at hv2 hA2 hB2 hP2 T2 hu2
            clear hv hA hB hP T hu
            have hv := hv2
            have hA := hA2
            have hB := hB2
            have hP := hP2
            have T := T2
            have hu := hu2
            clear hv2 hA2 hB2 hP2 T2 hu2
            have gu := fah.mono T
            have gv := fbl.mono T
            obtain ⟨gm, gz⟩ := mul_sz za.2 zb.1 (by decide)
            obtain ⟨⟨s0, N0, D0⟩, hz0⟩ : ∃ q, can (qv a.2 * qv b.1) = q := ⟨_, rfl⟩
            rw [hz0] at gm gz
            have hzq : qv (s0, N0, D0) = prodQ a b 1 := by rw [← hz0, qv_can]; rfl
            obtain ⟨t1, ht1⟩ : ∃ t, decide (prodQ a b 1 = lo4 a b) = t := ⟨_, rfl⟩
            obtain ⟨t2, ht2⟩ : ∃ t, decide (prodQ a b 1 = hi4 a b) = t := ⟨_, rfl⟩
            have HT1 : Hid (decide (qv (s0, N0, D0) = qv (p1, P1, Q1)) = t1) := Lib.hid (by rw [hzq, E12.out.1]; exact ht1)
            have HT2 : Hid (decide (qv (s0, N0, D0) = qv (p2, P2, Q2)) = t2) := Lib.hid (by rw [hzq, E12.out.2]; exact ht2)
            have E1 := Lib.hid ht1
            have E2 := Lib.hid ht2
            have GM := Lib.hid gm
            have GZ := Lib.hid gz
            have OE1 : Hid (okF (s0, N0, D0) = true ∧ okF (p1, P1, Q1) = true) := Lib.hid ⟨gz.ok (by decide), G12.out.1.ok (by decide)⟩
            have OE2 : Hid (okF (s0, N0, D0) = true ∧ okF (p2, P2, Q2) = true) := Lib.hid ⟨gz.ok (by decide), G12.out.2.ok (by decide)⟩
            clear gm gz hz0 hzq ht1 ht2
            have cx0 := hu.c0
            have cx1 := hu.c1
            have cx2 := hu.c2
            have cy0 := hv.c0
            have cy1 := hv.c1
            have cy2 := hv.c2
            go_wp2_with fail
            refine ((refMulN2 _ gu gv GM).mono fun _ _ g => g.ok).mono ?_
            rintro e w30 ⟨a30, n30, k30, e30, d30, l30, rfl, x30, y30, h30⟩
            replace hA := hA.mono h30
            replace hB := hB.mono h30
            replace hP := hP.mono h30
            replace T := Add.trans T h30
            clear h30 gu gv GM hu hv cx0 cx1 cx2 cy0 cy1 cy2 cu0 cu1 cu2 cu3 cu4 cu5 ca3 ca4 ca5
            obtain ⟨tt, hW⟩ := laid_var w30 s0 a30 n30 k30 e30 d30 l30
            replace hA := hA.mono tt
            replace hB := hB.mono tt
            replace hP := hP.mono tt
            replace x30 := x30.mono tt
            replace y30 := y30.mono tt
            replace T := Add.trans T tt
            clear tt
            have fw := numT x30 y30 GZ.out (by decide)
            have fp1 := fpl.mono T
            have fp2 := fph.mono T
            clear x30 y30 GZ
            cases l with
            | true =>
              cases h with
              | true =>
                go_wp2_with fail
                go_roundw
                case rel => exact ⟨2, true, true, by omega, rfl, rfl, rfl, Lib.hid ⟨by rw [among, AM.out.1]; rfl, by rw [among, AM.out.2]; rfl⟩, hA, hB, hP, T⟩
                case measure => simp [intOf]
              | false =>
                have cw0 := hW.c0
                have cw1 := hW.c1
                have cw2 := hW.c2
                have cp3 := hP.c3
                have cp4 := hP.c4
                have cp5 := hP.c5
                go_wp2_with fail
                refine (equalN t2 fw fp2 OE2 HT2).mono ?_
                rintro e w32 ⟨rfl, hA2⟩
                replace hA := hA.mono hA2
                replace hB := hB.mono hA2
                replace hP := hP.mono hA2
                replace T := Add.trans T hA2
                clear hA2 hW fw fp2 cw0 cw1 cw2 cp3 cp4 cp5
                go_wp2_with fail
                go_roundw
                case rel => exact ⟨2, true, t2, by omega, rfl, rfl, rfl, Lib.hid ⟨by rw [among, AM.out.1]; rfl, by rw [among, AM.out.2]; rw [Bool.false_or]; exact E2.out⟩, hA, hB, hP, T⟩
                case measure => simp [intOf]
            | false =>
              cases h with
              | true =>
                have cw0 := hW.c0
                have cw1 := hW.c1
                have cw2 := hW.c2
                have cp0 := hP.c0
                have cp1 := hP.c1
                have cp2 := hP.c2
                go_wp2_with fail
                refine (equalN t1 fw fp1 OE1 HT1).mono ?_
                rintro e w31 ⟨rfl, hA1⟩
                replace hA := hA.mono hA1
                replace hB := hB.mono hA1
                replace hP := hP.mono hA1
                replace hW := hW.mono hA1
                replace fw := fw.mono hA1
                replace fp2 := fp2.mono hA1
                replace T := Add.trans T hA1
                clear hA1 fp1 cw0 cw1 cw2 cp0 cp1 cp2
                go_wp2_with fail
                go_roundw
                case rel => exact ⟨2, t1, true, by omega, rfl, rfl, rfl, Lib.hid ⟨by rw [among, AM.out.1]; rw [Bool.false_or]; exact E1.out, by rw [among, AM.out.2]; rfl⟩, hA, hB, hP, T⟩
                case measure => simp [intOf]
              | false =>
                have cw0 := hW.c0
                have cw1 := hW.c1
                have cw2 := hW.c2
                have cp0 := hP.c0
                have cp1 := hP.c1
                have cp2 := hP.c2
                go_wp2_with fail
                refine (equalN t1 fw fp1 OE1 HT1).mono ?_
                rintro e w31 ⟨rfl, hA1⟩
                replace hA := hA.mono hA1
                replace hB := hB.mono hA1
                replace hP := hP.mono hA1
                replace hW := hW.mono hA1
                replace fw := fw.mono hA1
                replace fp2 := fp2.mono hA1
                replace T := Add.trans T hA1
                clear hA1 fp1 cw0 cw1 cw2 cp0 cp1 cp2
                have cw0 := hW.c0
                have cw1 := hW.c1
                have cw2 := hW.c2
                have cp3 := hP.c3
                have cp4 := hP.c4
                have cp5 := hP.c5
                go_wp2_with fail
                refine (equalN t2 fw fp2 OE2 HT2).mono ?_
                rintro e w32 ⟨rfl, hA2⟩
                replace hA := hA.mono hA2
                replace hB := hB.mono hA2
                replace hP := hP.mono hA2
                replace T := Add.trans T hA2
                clear hA2 hW fw fp2 cw0 cw1 cw2 cp3 cp4 cp5
                go_wp2_with fail
                go_roundw
                case rel => exact ⟨2, t1, t2, by omega, rfl, rfl, rfl, Lib.hid ⟨by rw [among, AM.out.1]; rw [Bool.false_or]; exact E1.out, by rw [among, AM.out.2]; rw [Bool.false_or]; exact E2.out⟩, hA, hB, hP, T⟩
                case measure => simp [intOf]
          · obtain ⟨tt, hv, hu⟩ := two_drew wr y.1.1 an2 n2 cn2 ad2 d2 cd2 x.1.1 an n cn ad d cd
            obtain ⟨W5, hW5⟩ : ∃ W5, W5 = (((wr.alloc (.cells #[.bool y.1.1, .slice an2 n2 cn2, .slice ad2 d2 cd2] 25)).alloc (.cells #[.bool x.1.1, .slice an n cn, .slice ad d cd] 25)).drew) := ⟨_, rfl⟩
            rw [← hW5] at tt hu hv ⊢
            clear hW5
            replace hA := hA.mono tt
            replace hB := hB.mono tt
            replace hP := hP.mono tt
            replace T := Add.trans T tt
            clear tt ca0 cb0 ca1 cb1 ca2 cb2 K0
            have cu0 := hu.c0
            have cu1 := hu.c1
            have cu2 := hu.c2
            have cu3 := hu.fr 0
            have cu4 := hu.fr 1
            have cu5 := hu.fr 2
            have ca3 := hA.c3
            have ca4 := hA.c4
            have ca5 := hA.c5
            have hv2 := Box.other2 hv (show wr.heap.size ≠ wr.heap.size + 1 by omega) (.bool x.2.1) (.slice an' n' cn') (.slice ad' d' cd')
            have hA2 := Box6.putBox hA (show w.heap.size ≠ wr.heap.size + 1 by omega) (.bool x.2.1) (.slice an' n' cn') (.slice ad' d' cd')
            have hB2 := Box6.putBox hB (show w.heap.size + 1 ≠ wr.heap.size + 1 by omega) (.bool x.2.1) (.slice an' n' cn') (.slice ad' d' cd')
            have hP2 := Box6.putBox hP (show w7.heap.size ≠ wr.heap.size + 1 by omega) (.bool x.2.1) (.slice an' n' cn') (.slice ad' d' cd')
            have T2 := put3_below (.bool x.2.1) (.slice an' n' cn') (.slice ad' d' cd') T (show w13.heap.size ≤ wr.heap.size + 1 by omega)
            have hu2 := hu.put x.2.1 an' n' cn' ad' d' cd'
            unfold put3 at hv2 hA2 hB2 hP2 T2 hu2
            clear hv hA hB hP T hu
            have hv := hv2
            have hA := hA2
            have hB := hB2
            have hP := hP2
            have T := T2
            have hu := hu2
            clear hv2 hA2 hB2 hP2 T2 hu2
            have gu := fah.mono T
            have gv := fbl.mono T
            obtain ⟨gm, gz⟩ := mul_sz za.2 zb.1 (by decide)
            obtain ⟨⟨s0, N0, D0⟩, hz0⟩ : ∃ q, can (qv a.2 * qv b.1) = q := ⟨_, rfl⟩
            rw [hz0] at gm gz
            have hzq : qv (s0, N0, D0) = prodQ a b 1 := by rw [← hz0, qv_can]; rfl
            obtain ⟨t1, ht1⟩ : ∃ t, decide (prodQ a b 1 = lo4 a b) = t := ⟨_, rfl⟩
            obtain ⟨t2, ht2⟩ : ∃ t, decide (prodQ a b 1 = hi4 a b) = t := ⟨_, rfl⟩
            have HT1 : Hid (decide (qv (s0, N0, D0) = qv (p1, P1, Q1)) = t1) := Lib.hid (by rw [hzq, E12.out.1]; exact ht1)
            have HT2 : Hid (decide (qv (s0, N0, D0) = qv (p2, P2, Q2)) = t2) := Lib.hid (by rw [hzq, E12.out.2]; exact ht2)
            have E1 := Lib.hid ht1
            have E2 := Lib.hid ht2
            have GM := Lib.hid gm
            have GZ := Lib.hid gz
            have OE1 : Hid (okF (s0, N0, D0) = true ∧ okF (p1, P1, Q1) = true) := Lib.hid ⟨gz.ok (by decide), G12.out.1.ok (by decide)⟩
            have OE2 : Hid (okF (s0, N0, D0) = true ∧ okF (p2, P2, Q2) = true) := Lib.hid ⟨gz.ok (by decide), G12.out.2.ok (by decide)⟩
            clear gm gz hz0 hzq ht1 ht2
            have cx0 := hu.c0
            have cx1 := hu.c1
            have cx2 := hu.c2
            have cy0 := hv.c0
            have cy1 := hv.c1
            have cy2 := hv.c2
            go_wp2_with fail
            refine ((refMulN2 _ gu gv GM).mono fun _ _ g => g.ok).mono ?_
            rintro e w30 ⟨a30, n30, k30, e30, d30, l30, rfl, x30, y30, h30⟩
            replace hA := hA.mono h30
            replace hB := hB.mono h30
            replace hP := hP.mono h30
            replace T := Add.trans T h30
            clear h30 gu gv GM hu hv cx0 cx1 cx2 cy0 cy1 cy2 cu0 cu1 cu2 cu3 cu4 cu5 ca3 ca4 ca5
            obtain ⟨tt, hW⟩ := laid_var w30 s0 a30 n30 k30 e30 d30 l30
            replace hA := hA.mono tt
            replace hB := hB.mono tt
            replace hP := hP.mono tt
            replace x30 := x30.mono tt
            replace y30 := y30.mono tt
            replace T := Add.trans T tt
            clear tt
            have fw := numT x30 y30 GZ.out (by decide)
            have fp1 := fpl.mono T
            have fp2 := fph.mono T
            clear x30 y30 GZ
            cases l with
            | true =>
              cases h with
              | true =>
                go_wp2_with fail
                go_roundw
                case rel => exact ⟨2, true, true, by omega, rfl, rfl, rfl, Lib.hid ⟨by rw [among, AM.out.1]; rfl, by rw [among, AM.out.2]; rfl⟩, hA, hB, hP, T⟩
                case measure => simp [intOf]
              | false =>
                have cw0 := hW.c0
                have cw1 := hW.c1
                have cw2 := hW.c2
                have cp3 := hP.c3
                have cp4 := hP.c4
                have cp5 := hP.c5
                go_wp2_with fail
                refine (equalN t2 fw fp2 OE2 HT2).mono ?_
                rintro e w32 ⟨rfl, hA2⟩
                replace hA := hA.mono hA2
                replace hB := hB.mono hA2
                replace hP := hP.mono hA2
                replace T := Add.trans T hA2
                clear hA2 hW fw fp2 cw0 cw1 cw2 cp3 cp4 cp5
                go_wp2_with fail
                go_roundw
                case rel => exact ⟨2, true, t2, by omega, rfl, rfl, rfl, Lib.hid ⟨by rw [among, AM.out.1]; rfl, by rw [among, AM.out.2]; rw [Bool.false_or]; exact E2.out⟩, hA, hB, hP, T⟩
                case measure => simp [intOf]
            | false =>
              cases h with
              | true =>
                have cw0 := hW.c0
                have cw1 := hW.c1
                have cw2 := hW.c2
                have cp0 := hP.c0
                have cp1 := hP.c1
                have cp2 := hP.c2
                go_wp2_with fail
                refine (equalN t1 fw fp1 OE1 HT1).mono ?_
                rintro e w31 ⟨rfl, hA1⟩
                replace hA := hA.mono hA1
                replace hB := hB.mono hA1
                replace hP := hP.mono hA1
                replace hW := hW.mono hA1
                replace fw := fw.mono hA1
                replace fp2 := fp2.mono hA1
                replace T := Add.trans T hA1
                clear hA1 fp1 cw0 cw1 cw2 cp0 cp1 cp2
                go_wp2_with fail
                go_roundw
                case rel => exact ⟨2, t1, true, by omega, rfl, rfl, rfl, Lib.hid ⟨by rw [among, AM.out.1]; rw [Bool.false_or]; exact E1.out, by rw [among, AM.out.2]; rfl⟩, hA, hB, hP, T⟩
                case measure => simp [intOf]
              | false =>
                have cw0 := hW.c0
                have cw1 := hW.c1
                have cw2 := hW.c2
                have cp0 := hP.c0
                have cp1 := hP.c1
                have cp2 := hP.c2
                go_wp2_with fail
                refine (equalN t1 fw fp1 OE1 HT1).mono ?_
                rintro e w31 ⟨rfl, hA1⟩
                replace hA := hA.mono hA1
                replace hB := hB.mono hA1
                replace hP := hP.mono hA1
                replace hW := hW.mono hA1
                replace fw := fw.mono hA1
                replace fp2 := fp2.mono hA1
                replace T := Add.trans T hA1
                clear hA1 fp1 cw0 cw1 cw2 cp0 cp1 cp2
                have cw0 := hW.c0
                have cw1 := hW.c1
                have cw2 := hW.c2
                have cp3 := hP.c3
                have cp4 := hP.c4
                have cp5 := hP.c5
                go_wp2_with fail
                refine (equalN t2 fw fp2 OE2 HT2).mono ?_
                rintro e w32 ⟨rfl, hA2⟩
                replace hA := hA.mono hA2
                replace hB := hB.mono hA2
                replace hP := hP.mono hA2
                replace T := Add.trans T hA2
                clear hA2 hW fw fp2 cw0 cw1 cw2 cp3 cp4 cp5
                go_wp2_with fail
                go_roundw
                case rel => exact ⟨2, t1, t2, by omega, rfl, rfl, rfl, Lib.hid ⟨by rw [among, AM.out.1]; rw [Bool.false_or]; exact E1.out, by rw [among, AM.out.2]; rw [Bool.false_or]; exact E2.out⟩, hA, hB, hP, T⟩
                case measure => simp [intOf]
      · as_aux_lemma =>
          have ca0 := hA.c0
          have cb0 := hB.c0
          have ca1 := hA.c1
          have cb1 := hB.c1
          have ca2 := hA.c2
          have cb2 := hB.c2
          have K0 : Hid (∀ w', Add wr w' → w'.cell? ⟨w.heap.size, 0, none⟩ = some (.bool x.1.1) ∧ w'.cell? ⟨w.heap.size, 1, none⟩ = some (.slice an n cn) ∧ w'.cell? ⟨w.heap.size, 2, none⟩ = some (.slice ad d cd) ∧ w'.cell? ⟨w.heap.size + 1, 0, none⟩ = some (.bool y.1.1) ∧ w'.cell? ⟨w.heap.size + 1, 1, none⟩ = some (.slice an2 n2 cn2) ∧ w'.cell? ⟨w.heap.size + 1, 2, none⟩ = some (.slice ad2 d2 cd2)) := Lib.hid fun w' k => ⟨(hA.mono k).c0, (hA.mono k).c1, (hA.mono k).c2, (hB.mono k).c0, (hB.mono k).c1, (hB.mono k).c2⟩
          go_wp2_with fail
          go_region_held3 (fun w' => w'.cell? ⟨w.heap.size, 0, none⟩ = some (.bool x.1.1) ∧ w'.cell? ⟨w.heap.size, 1, none⟩ = some (.slice an n cn) ∧ w'.cell? ⟨w.heap.size, 2, none⟩ = some (.slice ad d cd) ∧ w'.cell? ⟨w.heap.size + 1, 0, none⟩ = some (.bool y.1.1) ∧ w'.cell? ⟨w.heap.size + 1, 1, none⟩ = some (.slice an2 n2 cn2) ∧ w'.cell? ⟨w.heap.size + 1, 2, none⟩ = some (.slice ad2 d2 cd2))
            (first | (refine K0.out _ ?_; (repeat (with_reducible refine Below.setCell ?_ (by dsimp only; omega) _)); (repeat (with_reducible refine Below.drew ?_)); (repeat (with_reducible refine Below.alloc ?_ (by first | omega | (simp; done) | (simp; omega)) _)); first | with_reducible assumption | with_reducible exact Below.refl _ _) | go_keep)
            (first | fail)
          · obtain ⟨tt, hu, hv⟩ := two_drew wr x.1.1 an n cn ad d cd y.1.1 an2 n2 cn2 ad2 d2 cd2
            obtain ⟨W5, hW5⟩ : ∃ W5, W5 = (((wr.alloc (.cells #[.bool x.1.1, .slice an n cn, .slice ad d cd] 25)).alloc (.cells #[.bool y.1.1, .slice an2 n2 cn2, .slice ad2 d2 cd2] 25)).drew) := ⟨_, rfl⟩
            rw [← hW5] at tt hu hv ⊢
            clear hW5
            replace hA := hA.mono tt
            replace hB := hB.mono tt
            replace hP := hP.mono tt
            replace T := Add.trans T tt
            clear tt ca0 cb0 ca1 cb1 ca2 cb2 K0
            have cv0 := hv.c0
            have cv1 := hv.c1
            have cv2 := hv.c2
            have cv3 := hv.fr 0
            have cv4 := hv.fr 1
            have cv5 := hv.fr 2
            have cb3 := hB.c3
            have cb4 := hB.c4
            have cb5 := hB.c5
            have hu2 := Box.other2 hu (show wr.heap.size ≠ wr.heap.size + 1 by omega) (.bool y.2.1) (.slice an3 n3 cn3) (.slice ad3 d3 cd3)
            have hA2 := Box6.putBox hA (show w.heap.size ≠ wr.heap.size + 1 by omega) (.bool y.2.1) (.slice an3 n3 cn3) (.slice ad3 d3 cd3)
            have hB2 := Box6.putBox hB (show w.heap.size + 1 ≠ wr.heap.size + 1 by omega) (.bool y.2.1) (.slice an3 n3 cn3) (.slice ad3 d3 cd3)
            have hP2 := Box6.putBox hP (show w7.heap.size ≠ wr.heap.size + 1 by omega) (.bool y.2.1) (.slice an3 n3 cn3) (.slice ad3 d3 cd3)
            have T2 := put3_below (.bool y.2.1) (.slice an3 n3 cn3) (.slice ad3 d3 cd3) T (show w13.heap.size ≤ wr.heap.size + 1 by omega)
            have hv2 := hv.put y.2.1 an3 n3 cn3 ad3 d3 cd3
            unfold put3 at hu2 hA2 hB2 hP2 T2 hv2
            clear hu hA hB hP T hv
            have hu := hu2
            have hA := hA2
            have hB := hB2
            have hP := hP2
            have T := T2
            have hv := hv2
            clear hv2 hA2 hB2 hP2 T2 hu2
            have gu := fal.mono T
            have gv := fbh.mono T
            obtain ⟨gm, gz⟩ := mul_sz za.1 zb.2 (by decide)
            obtain ⟨⟨s0, N0, D0⟩, hz0⟩ : ∃ q, can (qv a.1 * qv b.2) = q := ⟨_, rfl⟩
            rw [hz0] at gm gz
            have hzq : qv (s0, N0, D0) = prodQ a b 2 := by rw [← hz0, qv_can]; rfl
            obtain ⟨t1, ht1⟩ : ∃ t, decide (prodQ a b 2 = lo4 a b) = t := ⟨_, rfl⟩
            obtain ⟨t2, ht2⟩ : ∃ t, decide (prodQ a b 2 = hi4 a b) = t := ⟨_, rfl⟩
            have HT1 : Hid (decide (qv (s0, N0, D0) = qv (p1, P1, Q1)) = t1) := Lib.hid (by rw [hzq, E12.out.1]; exact ht1)
            have HT2 : Hid (decide (qv (s0, N0, D0) = qv (p2, P2, Q2)) = t2) := Lib.hid (by rw [hzq, E12.out.2]; exact ht2)
            have E1 := Lib.hid ht1
            have E2 := Lib.hid ht2
            have GM := Lib.hid gm
            have GZ := Lib.hid gz
            have OE1 : Hid (okF (s0, N0, D0) = true ∧ okF (p1, P1, Q1) = true) := Lib.hid ⟨gz.ok (by decide), G12.out.1.ok (by decide)⟩
            have OE2 : Hid (okF (s0, N0, D0) = true ∧ okF (p2, P2, Q2) = true) := Lib.hid ⟨gz.ok (by decide), G12.out.2.ok (by decide)⟩
            clear gm gz hz0 hzq ht1 ht2
            have cx0 := hu.c0
            have cx1 := hu.c1
            have cx2 := hu.c2
            have cy0 := hv.c0
            have cy1 := hv.c1
            have cy2 := hv.c2
            go_wp2_with fail
            refine ((refMulN2 _ gu gv GM).mono fun _ _ g => g.ok).mono ?_
            rintro e w30 ⟨a30, n30, k30, e30, d30, l30, rfl, x30, y30, h30⟩
            replace hA := hA.mono h30
            replace hB := hB.mono h30
            replace hP := hP.mono h30
            replace T := Add.trans T h30
            clear h30 gu gv GM hu hv cx0 cx1 cx2 cy0 cy1 cy2 cv0 cv1 cv2 cv3 cv4 cv5 cb3 cb4 cb5
            obtain ⟨tt, hW⟩ := laid_var w30 s0 a30 n30 k30 e30 d30 l30
            replace hA := hA.mono tt
            replace hB := hB.mono tt
            replace hP := hP.mono tt
            replace x30 := x30.mono tt
            replace y30 := y30.mono tt
            replace T := Add.trans T tt
            clear tt
            have fw := numT x30 y30 GZ.out (by decide)
            have fp1 := fpl.mono T
            have fp2 := fph.mono T
            clear x30 y30 GZ
            cases l with
            | true =>
              cases h with
              | true =>
                go_wp2_with fail
                go_roundw
                case rel => exact ⟨3, true, true, by omega, rfl, rfl, rfl, Lib.hid ⟨by rw [among, AM.out.1]; rfl, by rw [among, AM.out.2]; rfl⟩, hA, hB, hP, T⟩
                case measure => simp [intOf]
              | false =>
                have cw0 := hW.c0
                have cw1 := hW.c1
                have cw2 := hW.c2
                have cp3 := hP.c3
                have cp4 := hP.c4
                have cp5 := hP.c5
                go_wp2_with fail
                refine (equalN t2 fw fp2 OE2 HT2).mono ?_
                rintro e w32 ⟨rfl, hA2⟩
                replace hA := hA.mono hA2
                replace hB := hB.mono hA2
                replace hP := hP.mono hA2
                replace T := Add.trans T hA2
                clear hA2 hW fw fp2 cw0 cw1 cw2 cp3 cp4 cp5
                go_wp2_with fail
                go_roundw
                case rel => exact ⟨3, true, t2, by omega, rfl, rfl, rfl, Lib.hid ⟨by rw [among, AM.out.1]; rfl, by rw [among, AM.out.2]; rw [Bool.false_or]; exact E2.out⟩, hA, hB, hP, T⟩
                case measure => simp [intOf]
            | false =>
              cases h with
              | true =>
                have cw0 := hW.c0
                have cw1 := hW.c1
                have cw2 := hW.c2
                have cp0 := hP.c0
                have cp1 := hP.c1
                have cp2 := hP.c2
                go_wp2_with fail
                refine (equalN t1 fw fp1 OE1 HT1).mono ?_
                rintro e w31 ⟨rfl, hA1⟩
                replace hA := hA.mono hA1
                replace hB := hB.mono hA1
                replace hP := hP.mono hA1
                replace hW := hW.mono hA1
                replace fw := fw.mono hA1
                replace fp2 := fp2.mono hA1
                replace T := Add.trans T hA1
                clear hA1 fp1 cw0 cw1 cw2 cp0 cp1 cp2
                go_wp2_with fail
                go_roundw
                case rel => exact ⟨3, t1, true, by omega, rfl, rfl, rfl, Lib.hid ⟨by rw [among, AM.out.1]; rw [Bool.false_or]; exact E1.out, by rw [among, AM.out.2]; rfl⟩, hA, hB, hP, T⟩
                case measure => simp [intOf]
              | false =>
                have cw0 := hW.c0
                have cw1 := hW.c1
                have cw2 := hW.c2
                have cp0 := hP.c0
                have cp1 := hP.c1
                have cp2 := hP.c2
                go_wp2_with fail
                refine (equalN t1 fw fp1 OE1 HT1).mono ?_
                rintro e w31 ⟨rfl, hA1⟩
                replace hA := hA.mono hA1
                replace hB := hB.mono hA1
                replace hP := hP.mono hA1
                replace hW := hW.mono hA1
                replace fw := fw.mono hA1
                replace fp2 := fp2.mono hA1
                replace T := Add.trans T hA1
                clear hA1 fp1 cw0 cw1 cw2 cp0 cp1 cp2
                have cw0 := hW.c0
                have cw1 := hW.c1
                have cw2 := hW.c2
                have cp3 := hP.c3
                have cp4 := hP.c4
                have cp5 := hP.c5
                go_wp2_with fail
                refine (equalN t2 fw fp2 OE2 HT2).mono ?_
                rintro e w32 ⟨rfl, hA2⟩
                replace hA := hA.mono hA2
                replace hB := hB.mono hA2
                replace hP := hP.mono hA2
                replace T := Add.trans T hA2
                clear hA2 hW fw fp2 cw0 cw1 cw2 cp3 cp4 cp5
                go_wp2_with fail
                go_roundw
                case rel => exact ⟨3, t1, t2, by omega, rfl, rfl, rfl, Lib.hid ⟨by rw [among, AM.out.1]; rw [Bool.false_or]; exact E1.out, by rw [among, AM.out.2]; rw [Bool.false_or]; exact E2.out⟩, hA, hB, hP, T⟩
                case measure => simp [intOf]
          · obtain ⟨tt, hv, hu⟩ := two_drew wr y.1.1 an2 n2 cn2 ad2 d2 cd2 x.1.1 an n cn ad d cd
            obtain ⟨W5, hW5⟩ : ∃ W5, W5 = (((wr.alloc (.cells #[.bool y.1.1, .slice an2 n2 cn2, .slice ad2 d2 cd2] 25)).alloc (.cells #[.bool x.1.1, .slice an n cn, .slice ad d cd] 25)).drew) := ⟨_, rfl⟩
            rw [← hW5] at tt hu hv ⊢
            clear hW5
            replace hA := hA.mono tt
            replace hB := hB.mono tt
            replace hP := hP.mono tt
            replace T := Add.trans T tt
            clear tt ca0 cb0 ca1 cb1 ca2 cb2 K0
            have cv0 := hv.c0
            have cv1 := hv.c1
            have cv2 := hv.c2
            have cv3 := hv.fr 0
            have cv4 := hv.fr 1
            have cv5 := hv.fr 2
            have cb3 := hB.c3
            have cb4 := hB.c4
            have cb5 := hB.c5
            have hu2 := Box.other2 hu (show wr.heap.size + 1 ≠ wr.heap.size by omega) (.bool y.2.1) (.slice an3 n3 cn3) (.slice ad3 d3 cd3)
            have hA2 := Box6.putBox hA (show w.heap.size ≠ wr.heap.size by omega) (.bool y.2.1) (.slice an3 n3 cn3) (.slice ad3 d3 cd3)
            have hB2 := Box6.putBox hB (show w.heap.size + 1 ≠ wr.heap.size by omega) (.bool y.2.1) (.slice an3 n3 cn3) (.slice ad3 d3 cd3)
            have hP2 := Box6.putBox hP (show w7.heap.size ≠ wr.heap.size by omega) (.bool y.2.1) (.slice an3 n3 cn3) (.slice ad3 d3 cd3)
            have T2 := put3_below (.bool y.2.1) (.slice an3 n3 cn3) (.slice ad3 d3 cd3) T (show w13.heap.size ≤ wr.heap.size by omega)
            have hv2 := hv.put y.2.1 an3 n3 cn3 ad3 d3 cd3
            unfold put3 at hu2 hA2 hB2 hP2 T2 hv2
            clear hu hA hB hP T hv
            have hu := hu2
            have hA := hA2
            have hB := hB2
            have hP := hP2
            have T := T2
            have hv := hv2
            clear hv2 hA2 hB2 hP2 T2 hu2
            have gu := fal.mono T
            have gv := fbh.mono T
            obtain ⟨gm, gz⟩ := mul_sz za.1 zb.2 (by decide)
            obtain ⟨⟨s0, N0, D0⟩, hz0⟩ : ∃ q, can (qv a.1 * qv b.2) = q := ⟨_, rfl⟩
            rw [hz0] at gm gz
            have hzq : qv (s0, N0, D0) = prodQ a b 2 := by rw [← hz0, qv_can]; rfl
            obtain ⟨t1, ht1⟩ : ∃ t, decide (prodQ a b 2 = lo4 a b) = t := ⟨_, rfl⟩
            obtain ⟨t2, ht2⟩ : ∃ t, decide (prodQ a b 2 = hi4 a b) = t := ⟨_, rfl⟩
            have HT1 : Hid (decide (qv (s0, N0, D0) = qv (p1, P1, Q1)) = t1) := Lib.hid (by rw [hzq, E12.out.1]; exact ht1)
            have HT2 : Hid (decide (qv (s0, N0, D0) = qv (p2, P2, Q2)) = t2) := Lib.hid (by rw [hzq, E12.out.2]; exact ht2)
            have E1 := Lib.hid ht1
            have E2 := Lib.hid ht2
            have GM := Lib.hid gm
            have GZ := Lib.hid gz
            have OE1 : Hid (okF (s0, N0, D0) = true ∧ okF (p1, P1, Q1) = true) := Lib.hid ⟨gz.ok (by decide), G12.out.1.ok (by decide)⟩
            have OE2 : Hid (okF (s0, N0, D0) = true ∧ okF (p2, P2, Q2) = true) := Lib.hid ⟨gz.ok (by decide), G12.out.2.ok (by decide)⟩
            clear gm gz hz0 hzq ht1 ht2
            have cx0 := hu.c0
            have cx1 := hu.c1
            have cx2 := hu.c2
            have cy0 := hv.c0
            have cy1 := hv.c1
            have cy2 := hv.c2
            go_wp2_with fail
            refine ((refMulN2 _ gu gv GM).mono fun _ _ g => g.ok).mono ?_
            rintro e w30 ⟨a30, n30, k30, e30, d30, l30, rfl, x30, y30, h30⟩
            replace hA := hA.mono h30
            replace hB := hB.mono h30
            replace hP := hP.mono h30
            replace T := Add.trans T h30
            clear h30 gu gv GM hu hv cx0 cx1 cx2 cy0 cy1 cy2 cv0 cv1 cv2 cv3 cv4 cv5 cb3 cb4 cb5
            obtain ⟨tt, hW⟩ := laid_var w30 s0 a30 n30 k30 e30 d30 l30
            replace hA := hA.mono tt
            replace hB := hB.mono tt
            replace hP := hP.mono tt
            replace x30 := x30.mono tt
            replace y30 := y30.mono tt
            replace T := Add.trans T tt
            clear tt
            have fw := numT x30 y30 GZ.out (by decide)
            have fp1 := fpl.mono T
            have fp2 := fph.mono T
            clear x30 y30 GZ
            cases l with
            | true =>
              cases h with
              | true =>
                go_wp2_with fail
                go_roundw
                case rel => exact ⟨3, true, true, by omega, rfl, rfl, rfl, Lib.hid ⟨by rw [among, AM.out.1]; rfl, by rw [among, AM.out.2]; rfl⟩, hA, hB, hP, T⟩
                case measure => simp [intOf]
              | false =>
                have cw0 := hW.c0
                have cw1 := hW.c1
                have cw2 := hW.c2
                have cp3 := hP.c3
                have cp4 := hP.c4
                have cp5 := hP.c5
                go_wp2_with fail
                refine (equalN t2 fw fp2 OE2 HT2).mono ?_
                rintro e w32 ⟨rfl, hA2⟩
                replace hA := hA.mono hA2
                replace hB := hB.mono hA2
                replace hP := hP.mono hA2
                replace T := Add.trans T hA2
                clear hA2 hW fw fp2 cw0 cw1 cw2 cp3 cp4 cp5
                go_wp2_with fail
                go_roundw
                case rel => exact ⟨3, true, t2, by omega, rfl, rfl, rfl, Lib.hid ⟨by rw [among, AM.out.1]; rfl, by rw [among, AM.out.2]; rw [Bool.false_or]; exact E2.out⟩, hA, hB, hP, T⟩
                case measure => simp [intOf]
            | false =>
              cases h with
              | true =>
                have cw0 := hW.c0
                have cw1 := hW.c1
                have cw2 := hW.c2
                have cp0 := hP.c0
                have cp1 := hP.c1
                have cp2 := hP.c2
                go_wp2_with fail
                refine (equalN t1 fw fp1 OE1 HT1).mono ?_
                rintro e w31 ⟨rfl, hA1⟩
                replace hA := hA.mono hA1
                replace hB := hB.mono hA1
                replace hP := hP.mono hA1
                replace hW := hW.mono hA1
                replace fw := fw.mono hA1
                replace fp2 := fp2.mono hA1
                replace T := Add.trans T hA1
                clear hA1 fp1 cw0 cw1 cw2 cp0 cp1 cp2
                go_wp2_with fail
                go_roundw
                case rel => exact ⟨3, t1, true, by omega, rfl, rfl, rfl, Lib.hid ⟨by rw [among, AM.out.1]; rw [Bool.false_or]; exact E1.out, by rw [among, AM.out.2]; rfl⟩, hA, hB, hP, T⟩
                case measure => simp [intOf]
              | false =>
                have cw0 := hW.c0
                have cw1 := hW.c1
                have cw2 := hW.c2
                have cp0 := hP.c0
                have cp1 := hP.c1
                have cp2 := hP.c2
                go_wp2_with fail
                refine (equalN t1 fw fp1 OE1 HT1).mono ?_
                rintro e w31 ⟨rfl, hA1⟩
                replace hA := hA.mono hA1
                replace hB := hB.mono hA1
                replace hP := hP.mono hA1
                replace hW := hW.mono hA1
                replace fw := fw.mono hA1
                replace fp2 := fp2.mono hA1
                replace T := Add.trans T hA1
                clear hA1 fp1 cw0 cw1 cw2 cp0 cp1 cp2
                have cw0 := hW.c0
                have cw1 := hW.c1
                have cw2 := hW.c2
                have cp3 := hP.c3
                have cp4 := hP.c4
                have cp5 := hP.c5
                go_wp2_with fail
                refine (equalN t2 fw fp2 OE2 HT2).mono ?_
                rintro e w32 ⟨rfl, hA2⟩
                replace hA := hA.mono hA2
                replace hB := hB.mono hA2
                replace hP := hP.mono hA2
                replace T := Add.trans T hA2
                clear hA2 hW fw fp2 cw0 cw1 cw2 cp3 cp4 cp5
                go_wp2_with fail
                go_roundw
                case rel => exact ⟨3, t1, t2, by omega, rfl, rfl, rfl, Lib.hid ⟨by rw [among, AM.out.1]; rw [Bool.false_or]; exact E1.out, by rw [among, AM.out.2]; rw [Bool.false_or]; exact E2.out⟩, hA, hB, hP, T⟩
                case measure => simp [intOf]
      · as_aux_lemma =>
          have ca0 := hA.c0
          have cb0 := hB.c0
          have ca1 := hA.c1
          have cb1 := hB.c1
          have ca2 := hA.c2
          have cb2 := hB.c2
          have K0 : Hid (∀ w', Add wr w' → w'.cell? ⟨w.heap.size, 0, none⟩ = some (.bool x.1.1) ∧ w'.cell? ⟨w.heap.size, 1, none⟩ = some (.slice an n cn) ∧ w'.cell? ⟨w.heap.size, 2, none⟩ = some (.slice ad d cd) ∧ w'.cell? ⟨w.heap.size + 1, 0, none⟩ = some (.bool y.1.1) ∧ w'.cell? ⟨w.heap.size + 1, 1, none⟩ = some (.slice an2 n2 cn2) ∧ w'.cell? ⟨w.heap.size + 1, 2, none⟩ = some (.slice ad2 d2 cd2)) := Lib.hid fun w' k => ⟨(hA.mono k).c0, (hA.mono k).c1, (hA.mono k).c2, (hB.mono k).c0, (hB.mono k).c1, (hB.mono k).c2⟩
          go_wp2_with fail
          go_region_held3 (fun w' => w'.cell? ⟨w.heap.size, 0, none⟩ = some (.bool x.1.1) ∧ w'.cell? ⟨w.heap.size, 1, none⟩ = some (.slice an n cn) ∧ w'.cell? ⟨w.heap.size, 2, none⟩ = some (.slice ad d cd) ∧ w'.cell? ⟨w.heap.size + 1, 0, none⟩ = some (.bool y.1.1) ∧ w'.cell? ⟨w.heap.size + 1, 1, none⟩ = some (.slice an2 n2 cn2) ∧ w'.cell? ⟨w.heap.size + 1, 2, none⟩ = some (.slice ad2 d2 cd2))
            (first | (refine K0.out _ ?_; (repeat (with_reducible refine Below.setCell ?_ (by dsimp only; omega) _)); (repeat (with_reducible refine Below.drew ?_)); (repeat (with_reducible refine Below.alloc ?_ (by first | omega | (simp; done) | (simp; omega)) _)); first | with_reducible assumption | with_reducible exact Below.refl _ _) | go_keep)
            (first | fail)
          · obtain ⟨tt, hu, hv⟩ := two_drew wr x.1.1 an n cn ad d cd y.1.1 an2 n2 cn2 ad2 d2 cd2
            obtain ⟨W5, hW5⟩ : ∃ W5, W5 = (((wr.alloc (.cells #[.bool x.1.1, .slice an n cn, .slice ad d cd] 25)).alloc (.cells #[.bool y.1.1, .slice an2 n2 cn2, .slice ad2 d2 cd2] 25)).drew) := ⟨_, rfl⟩
            rw [← hW5] at tt hu hv ⊢
            clear hW5
            replace hA := hA.mono tt
            replace hB := hB.mono tt
            replace hP := hP.mono tt
            replace T := Add.trans T tt
            clear tt ca0 cb0 ca1 cb1 ca2 cb2 K0
            have cu0 := hu.c0
            have cu1 := hu.c1
            have cu2 := hu.c2
            have cu3 := hu.fr 0
            have cu4 := hu.fr 1
            have cu5 := hu.fr 2
            have ca3 := hA.c3
            have ca4 := hA.c4
            have ca5 := hA.c5
            have hv2 := Box.other2 hv (show wr.heap.size + 1 ≠ wr.heap.size by omega) (.bool x.2.1) (.slice an' n' cn') (.slice ad' d' cd')
            have hA2 := Box6.putBox hA (show w.heap.size ≠ wr.heap.size by omega) (.bool x.2.1) (.slice an' n' cn') (.slice ad' d' cd')
            have hB2 := Box6.putBox hB (show w.heap.size + 1 ≠ wr.heap.size by omega) (.bool x.2.1) (.slice an' n' cn') (.slice ad' d' cd')
            have hP2 := Box6.putBox hP (show w7.heap.size ≠ wr.heap.size by omega) (.bool x.2.1) (.slice an' n' cn') (.slice ad' d' cd')
            have T2 := put3_below (.bool x.2.1) (.slice an' n' cn') (.slice ad' d' cd') T (show w13.heap.size ≤ wr.heap.size by omega)
            have hu2 := hu.put x.2.1 an' n' cn' ad' d' cd'
            unfold put3 at hv2 hA2 hB2 hP2 T2 hu2
            clear hv hA hB hP T hu
            have hv := hv2
            have hA := hA2
            have hB := hB2
            have hP := hP2
            have T := T2
            have hu := hu2
            clear hv2 hA2 hB2 hP2 T2 hu2
            go_upto_if 130 with fail
            obtain ⟨W6, hW6⟩ : ∃ W6, W6 = (((W5.setCell ⟨wr.heap.size, 0, none⟩ (.bool x.2.1)).setCell ⟨wr.heap.size, 1, none⟩ (.slice an' n' cn')).setCell ⟨wr.heap.size, 2, none⟩ (.slice ad' d' cd')) := ⟨_, rfl⟩
            rw [← hW6] at hu hv hA hB hP T ⊢
            clear hW6 cu0 cu1 cu2 cu3 cu4 cu5 ca3 ca4 ca5
            have cv0 := hv.c0
            have cv1 := hv.c1
            have cv2 := hv.c2
            have cv3 := hv.fr 0
            have cv4 := hv.fr 1
            have cv5 := hv.fr 2
            have cb3 := hB.c3
            have cb4 := hB.c4
            have cb5 := hB.c5
            have hu2 := Box.other2 hu (show wr.heap.size ≠ wr.heap.size + 1 by omega) (.bool y.2.1) (.slice an3 n3 cn3) (.slice ad3 d3 cd3)
            have hA2 := Box6.putBox hA (show w.heap.size ≠ wr.heap.size + 1 by omega) (.bool y.2.1) (.slice an3 n3 cn3) (.slice ad3 d3 cd3)
            have hB2 := Box6.putBox hB (show w.heap.size + 1 ≠ wr.heap.size + 1 by omega) (.bool y.2.1) (.slice an3 n3 cn3) (.slice ad3 d3 cd3)
            have hP2 := Box6.putBox hP (show w7.heap.size ≠ wr.heap.size + 1 by omega) (.bool y.2.1) (.slice an3 n3 cn3) (.slice ad3 d3 cd3)
            have T2 := put3_below (.bool y.2.1) (.slice an3 n3 cn3) (.slice ad3 d3 cd3) T (show w13.heap.size ≤ wr.heap.size + 1 by omega)
            have hv2 := hv.put y.2.1 an3 n3 cn3 ad3 d3 cd3
            unfold put3 at hu2 hA2 hB2 hP2 T2 hv2
            clear hu hA hB hP T hv
            have hu := hu2
            have hA := hA2
            have hB := hB2
            have hP := hP2
            have T := T2
            have hv := hv2
            clear hv2 hA2 hB2 hP2 T2 hu2
            have gu := fah.mono T
            have gv := fbh.mono T
            obtain ⟨gm, gz⟩ := mul_sz za.2 zb.2 (by decide)
            obtain ⟨⟨s0, N0, D0⟩, hz0⟩ : ∃ q, can (qv a.2 * qv b.2) = q := ⟨_, rfl⟩
            rw [hz0] at gm gz
            have hzq : qv (s0, N0, D0) = prodQ a b 3 := by rw [← hz0, qv_can]; rfl
            obtain ⟨t1, ht1⟩ : ∃ t, decide (prodQ a b 3 = lo4 a b) = t := ⟨_, rfl⟩
            obtain ⟨t2, ht2⟩ : ∃ t, decide (prodQ a b 3 = hi4 a b) = t := ⟨_, rfl⟩
            have HT1 : Hid (decide (qv (s0, N0, D0) = qv (p1, P1, Q1)) = t1) := Lib.hid (by rw [hzq, E12.out.1]; exact ht1)
            have HT2 : Hid (decide (qv (s0, N0, D0) = qv (p2, P2, Q2)) = t2) := Lib.hid (by rw [hzq, E12.out.2]; exact ht2)
            have E1 := Lib.hid ht1
            have E2 := Lib.hid ht2
            have GM := Lib.hid gm
            have GZ := Lib.hid gz
            have OE1 : Hid (okF (s0, N0, D0) = true ∧ okF (p1, P1, Q1) = true) := Lib.hid ⟨gz.ok (by decide), G12.out.1.ok (by decide)⟩
            have OE2 : Hid (okF (s0, N0, D0) = true ∧ okF (p2, P2, Q2) = true) := Lib.hid ⟨gz.ok (by decide), G12.out.2.ok (by decide)⟩
            clear gm gz hz0 hzq ht1 ht2
            have cx0 := hu.c0
            have cx1 := hu.c1
            have cx2 := hu.c2
            have cy0 := hv.c0
            have cy1 := hv.c1
            have cy2 := hv.c2
            go_wp2_with fail
            refine ((refMulN2 _ gu gv GM).mono fun _ _ g => g.ok).mono ?_
            rintro e w30 ⟨a30, n30, k30, e30, d30, l30, rfl, x30, y30, h30⟩
            replace hA := hA.mono h30
            replace hB := hB.mono h30
            replace hP := hP.mono h30
            replace T := Add.trans T h30
            clear h30 gu gv GM hu hv cx0 cx1 cx2 cy0 cy1 cy2 cv0 cv1 cv2 cv3 cv4 cv5 cb3 cb4 cb5
            obtain ⟨tt, hW⟩ := laid_var w30 s0 a30 n30 k30 e30 d30 l30
            replace hA := hA.mono tt
            replace hB := hB.mono tt
            replace hP := hP.mono tt
            replace x30 := x30.mono tt
            replace y30 := y30.mono tt
            replace T := Add.trans T tt
            clear tt
            have fw := numT x30 y30 GZ.out (by decide)
            have fp1 := fpl.mono T
            have fp2 := fph.mono T
            clear x30 y30 GZ
            cases l with
            | true =>
              cases h with
              | true =>
                go_wp2_with fail
                go_roundw
                case rel => exact ⟨4, true, true, by omega, rfl, rfl, rfl, Lib.hid ⟨by rw [among, AM.out.1]; rfl, by rw [among, AM.out.2]; rfl⟩, hA, hB, hP, T⟩
                case measure => simp [intOf]
              | false =>
                have cw0 := hW.c0
                have cw1 := hW.c1
                have cw2 := hW.c2
                have cp3 := hP.c3
                have cp4 := hP.c4
                have cp5 := hP.c5
                go_wp2_with fail
                refine (equalN t2 fw fp2 OE2 HT2).mono ?_
                rintro e w32 ⟨rfl, hA2⟩
                replace hA := hA.mono hA2
                replace hB := hB.mono hA2
                replace hP := hP.mono hA2
                replace T := Add.trans T hA2
                clear hA2 hW fw fp2 cw0 cw1 cw2 cp3 cp4 cp5
                go_wp2_with fail
                go_roundw
                case rel => exact ⟨4, true, t2, by omega, rfl, rfl, rfl, Lib.hid ⟨by rw [among, AM.out.1]; rfl, by rw [among, AM.out.2]; rw [Bool.false_or]; exact E2.out⟩, hA, hB, hP, T⟩
                case measure => simp [intOf]
            | false =>
              cases h with
              | true =>
                have cw0 := hW.c0
                have cw1 := hW.c1
                have cw2 := hW.c2
                have cp0 := hP.c0
                have cp1 := hP.c1
                have cp2 := hP.c2
                go_wp2_with fail
                refine (equalN t1 fw fp1 OE1 HT1).mono ?_
                rintro e w31 ⟨rfl, hA1⟩
                replace hA := hA.mono hA1
                replace hB := hB.mono hA1
                replace hP := hP.mono hA1
                replace hW := hW.mono hA1
                replace fw := fw.mono hA1
                replace fp2 := fp2.mono hA1
                replace T := Add.trans T hA1
                clear hA1 fp1 cw0 cw1 cw2 cp0 cp1 cp2
                go_wp2_with fail
                go_roundw
                case rel => exact ⟨4, t1, true, by omega, rfl, rfl, rfl, Lib.hid ⟨by rw [among, AM.out.1]; rw [Bool.false_or]; exact E1.out, by rw [among, AM.out.2]; rfl⟩, hA, hB, hP, T⟩
                case measure => simp [intOf]
              | false =>
                have cw0 := hW.c0
                have cw1 := hW.c1
                have cw2 := hW.c2
                have cp0 := hP.c0
                have cp1 := hP.c1
                have cp2 := hP.c2
                go_wp2_with fail
                refine (equalN t1 fw fp1 OE1 HT1).mono ?_
                rintro e w31 ⟨rfl, hA1⟩
                replace hA := hA.mono hA1
                replace hB := hB.mono hA1
                replace hP := hP.mono hA1
                replace hW := hW.mono hA1
                replace fw := fw.mono hA1
                replace fp2 := fp2.mono hA1
                replace T := Add.trans T hA1
                clear hA1 fp1 cw0 cw1 cw2 cp0 cp1 cp2
                have cw0 := hW.c0
                have cw1 := hW.c1
                have cw2 := hW.c2
                have cp3 := hP.c3
                have cp4 := hP.c4
                have cp5 := hP.c5
                go_wp2_with fail
                refine (equalN t2 fw fp2 OE2 HT2).mono ?_
                rintro e w32 ⟨rfl, hA2⟩
                replace hA := hA.mono hA2
                replace hB := hB.mono hA2
                replace hP := hP.mono hA2
                replace T := Add.trans T hA2
                clear hA2 hW fw fp2 cw0 cw1 cw2 cp3 cp4 cp5
                go_wp2_with fail
                go_roundw
                case rel => exact ⟨4, t1, t2, by omega, rfl, rfl, rfl, Lib.hid ⟨by rw [among, AM.out.1]; rw [Bool.false_or]; exact E1.out, by rw [among, AM.out.2]; rw [Bool.false_or]; exact E2.out⟩, hA, hB, hP, T⟩
                case measure => simp [intOf]
          · obtain ⟨tt, hv, hu⟩ := two_drew wr y.1.1 an2 n2 cn2 ad2 d2 cd2 x.1.1 an n cn ad d cd
            obtain ⟨W5, hW5⟩ : ∃ W5, W5 = (((wr.alloc (.cells #[.bool y.1.1, .slice an2 n2 cn2, .slice ad2 d2 cd2] 25)).alloc (.cells #[.bool x.1.1, .slice an n cn, .slice ad d cd] 25)).drew) := ⟨_, rfl⟩
            rw [← hW5] at tt hu hv ⊢
            clear hW5
            replace hA := hA.mono tt
            replace hB := hB.mono tt
            replace hP := hP.mono tt
            replace T := Add.trans T tt
            clear tt ca0 cb0 ca1 cb1 ca2 cb2 K0
            have cu0 := hu.c0
            have cu1 := hu.c1
            have cu2 := hu.c2
            have cu3 := hu.fr 0
            have cu4 := hu.fr 1
            have cu5 := hu.fr 2
            have ca3 := hA.c3
            have ca4 := hA.c4
            have ca5 := hA.c5
            have hv2 := Box.other2 hv (show wr.heap.size ≠ wr.heap.size + 1 by omega) (.bool x.2.1) (.slice an' n' cn') (.slice ad' d' cd')
            have hA2 := Box6.putBox hA (show w.heap.size ≠ wr.heap.size + 1 by omega) (.bool x.2.1) (.slice an' n' cn') (.slice ad' d' cd')
            have hB2 := Box6.putBox hB (show w.heap.size + 1 ≠ wr.heap.size + 1 by omega) (.bool x.2.1) (.slice an' n' cn') (.slice ad' d' cd')
            have hP2 := Box6.putBox hP (show w7.heap.size ≠ wr.heap.size + 1 by omega) (.bool x.2.1) (.slice an' n' cn') (.slice ad' d' cd')
            have T2 := put3_below (.bool x.2.1) (.slice an' n' cn') (.slice ad' d' cd') T (show w13.heap.size ≤ wr.heap.size + 1 by omega)
            have hu2 := hu.put x.2.1 an' n' cn' ad' d' cd'
            unfold put3 at hv2 hA2 hB2 hP2 T2 hu2
            clear hv hA hB hP T hu
            have hv := hv2
            have hA := hA2
            have hB := hB2
            have hP := hP2
            have T := T2
            have hu := hu2
            clear hv2 hA2 hB2 hP2 T2 hu2
            go_upto_if 130 with fail
            obtain ⟨W6, hW6⟩ : ∃ W6, W6 = (((W5.setCell ⟨wr.heap.size + 1, 0, none⟩ (.bool x.2.1)).setCell ⟨wr.heap.size + 1, 1, none⟩ (.slice an' n' cn')).setCell ⟨wr.heap.size + 1, 2, none⟩ (.slice ad' d' cd')) := ⟨_, rfl⟩
            rw [← hW6] at hu hv hA hB hP T ⊢
            clear hW6 cu0 cu1 cu2 cu3 cu4 cu5 ca3 ca4 ca5
            have cv0 := hv.c0
            have cv1 := hv.c1
            have cv2 := hv.c2
            have cv3 := hv.fr 0
            have cv4 := hv.fr 1
            have cv5 := hv.fr 2
            have cb3 := hB.c3
            have cb4 := hB.c4
            have cb5 := hB.c5
            have hu2 := Box.other2 hu (show wr.heap.size + 1 ≠ wr.heap.size by omega) (.bool y.2.1) (.slice an3 n3 cn3) (.slice ad3 d3 cd3)
            have hA2 := Box6.putBox hA (show w.heap.size ≠ wr.heap.size by omega) (.bool y.2.1) (.slice an3 n3 cn3) (.slice ad3 d3 cd3)
            have hB2 := Box6.putBox hB (show w.heap.size + 1 ≠ wr.heap.size by omega) (.bool y.2.1) (.slice an3 n3 cn3) (.slice ad3 d3 cd3)
            have hP2 := Box6.putBox hP (show w7.heap.size ≠ wr.heap.size by omega) (.bool y.2.1) (.slice an3 n3 cn3) (.slice ad3 d3 cd3)
            have T2 := put3_below (.bool y.2.1) (.slice an3 n3 cn3) (.slice ad3 d3 cd3) T (show w13.heap.size ≤ wr.heap.size by omega)
            have hv2 := hv.put y.2.1 an3 n3 cn3 ad3 d3 cd3
            unfold put3 at hu2 hA2 hB2 hP2 T2 hv2
            clear hu hA hB hP T hv
            have hu := hu2
            have hA := hA2
            have hB := hB2
            have hP := hP2
            have T := T2
            have hv := hv2
            clear hv2 hA2 hB2 hP2 T2 hu2
            have gu := fah.mono T
            have gv := fbh.mono T
            obtain ⟨gm, gz⟩ := mul_sz za.2 zb.2 (by decide)
            obtain ⟨⟨s0, N0, D0⟩, hz0⟩ : ∃ q, can (qv a.2 * qv b.2) = q := ⟨_, rfl⟩
            rw [hz0] at gm gz
            have hzq : qv (s0, N0, D0) = prodQ a b 3 := by rw [← hz0, qv_can]; rfl
            obtain ⟨t1, ht1⟩ : ∃ t, decide (prodQ a b 3 = lo4 a b) = t := ⟨_, rfl⟩
            obtain ⟨t2, ht2⟩ : ∃ t, decide (prodQ a b 3 = hi4 a b) = t := ⟨_, rfl⟩
            have HT1 : Hid (decide (qv (s0, N0, D0) = qv (p1, P1, Q1)) = t1) := Lib.hid (by rw [hzq, E12.out.1]; exact ht1)
            have HT2 : Hid (decide (qv (s0, N0, D0) = qv (p2, P2, Q2)) = t2) := Lib.hid (by rw [hzq, E12.out.2]; exact ht2)
            have E1 := Lib.hid ht1
            have E2 := Lib.hid ht2
            have GM := Lib.hid gm
            have GZ := Lib.hid gz
            have OE1 : Hid (okF (s0, N0, D0) = true ∧ okF (p1, P1, Q1) = true) := Lib.hid ⟨gz.ok (by decide), G12.out.1.ok (by decide)⟩
            have OE2 : Hid (okF (s0, N0, D0) = true ∧ okF (p2, P2, Q2) = true) := Lib.hid ⟨gz.ok (by decide), G12.out.2.ok (by decide)⟩
            clear gm gz hz0 hzq ht1 ht2
            have cx0 := hu.c0
            have cx1 := hu.c1
            have cx2 := hu.c2
            have cy0 := hv.c0
            have cy1 := hv.c1
            have cy2 := hv.c2
            go_wp2_with fail
            refine ((refMulN2 _ gu gv GM).mono fun _ _ g => g.ok).mono ?_
            rintro e w30 ⟨a30, n30, k30, e30, d30, l30, rfl, x30, y30, h30⟩
            replace hA := hA.mono h30
            replace hB := hB.mono h30
            replace hP := hP.mono h30
            replace T := Add.trans T h30
            clear h30 gu gv GM hu hv cx0 cx1 cx2 cy0 cy1 cy2 cv0 cv1 cv2 cv3 cv4 cv5 cb3 cb4 cb5
            obtain ⟨tt, hW⟩ := laid_var w30 s0 a30 n30 k30 e30 d30 l30
            replace hA := hA.mono tt
            replace hB := hB.mono tt
            replace hP := hP.mono tt
            replace x30 := x30.mono tt
            replace y30 := y30.mono tt
            replace T := Add.trans T tt
            clear tt
            have fw := numT x30 y30 GZ.out (by decide)
            have fp1 := fpl.mono T
            have fp2 := fph.mono T
            clear x30 y30 GZ
            cases l with
            | true =>
              cases h with
              | true =>
                go_wp2_with fail
                go_roundw
                case rel => exact ⟨4, true, true, by omega, rfl, rfl, rfl, Lib.hid ⟨by rw [among, AM.out.1]; rfl, by rw [among, AM.out.2]; rfl⟩, hA, hB, hP, T⟩
                case measure => simp [intOf]
              | false =>
                have cw0 := hW.c0
                have cw1 := hW.c1
                have cw2 := hW.c2
                have cp3 := hP.c3
                have cp4 := hP.c4
                have cp5 := hP.c5
                go_wp2_with fail
                refine (equalN t2 fw fp2 OE2 HT2).mono ?_
                rintro e w32 ⟨rfl, hA2⟩
                replace hA := hA.mono hA2
                replace hB := hB.mono hA2
                replace hP := hP.mono hA2
                replace T := Add.trans T hA2
                clear hA2 hW fw fp2 cw0 cw1 cw2 cp3 cp4 cp5
                go_wp2_with fail
                go_roundw
                case rel => exact ⟨4, true, t2, by omega, rfl, rfl, rfl, Lib.hid ⟨by rw [among, AM.out.1]; rfl, by rw [among, AM.out.2]; rw [Bool.false_or]; exact E2.out⟩, hA, hB, hP, T⟩
                case measure => simp [intOf]
            | false =>
              cases h with
              | true =>
                have cw0 := hW.c0
                have cw1 := hW.c1
                have cw2 := hW.c2
                have cp0 := hP.c0
                have cp1 := hP.c1
                have cp2 := hP.c2
                go_wp2_with fail
                refine (equalN t1 fw fp1 OE1 HT1).mono ?_
                rintro e w31 ⟨rfl, hA1⟩
                replace hA := hA.mono hA1
                replace hB := hB.mono hA1
                replace hP := hP.mono hA1
                replace hW := hW.mono hA1
                replace fw := fw.mono hA1
                replace fp2 := fp2.mono hA1
                replace T := Add.trans T hA1
                clear hA1 fp1 cw0 cw1 cw2 cp0 cp1 cp2
                go_wp2_with fail
                go_roundw
                case rel => exact ⟨4, t1, true, by omega, rfl, rfl, rfl, Lib.hid ⟨by rw [among, AM.out.1]; rw [Bool.false_or]; exact E1.out, by rw [among, AM.out.2]; rfl⟩, hA, hB, hP, T⟩
                case measure => simp [intOf]
              | false =>
                have cw0 := hW.c0
                have cw1 := hW.c1
                have cw2 := hW.c2
                have cp0 := hP.c0
                have cp1 := hP.c1
                have cp2 := hP.c2
                go_wp2_with fail
                refine (equalN t1 fw fp1 OE1 HT1).mono ?_
                rintro e w31 ⟨rfl, hA1⟩
                replace hA := hA.mono hA1
                replace hB := hB.mono hA1
                replace hP := hP.mono hA1
                replace hW := hW.mono hA1
                replace fw := fw.mono hA1
                replace fp2 := fp2.mono hA1
                replace T := Add.trans T hA1
                clear hA1 fp1 cw0 cw1 cw2 cp0 cp1 cp2
                have cw0 := hW.c0
                have cw1 := hW.c1
                have cw2 := hW.c2
                have cp3 := hP.c3
                have cp4 := hP.c4
                have cp5 := hP.c5
                go_wp2_with fail
                refine (equalN t2 fw fp2 OE2 HT2).mono ?_
                rintro e w32 ⟨rfl, hA2⟩
                replace hA := hA.mono hA2
                replace hB := hB.mono hA2
                replace hP := hP.mono hA2
                replace T := Add.trans T hA2
                clear hA2 hW fw fp2 cw0 cw1 cw2 cp3 cp4 cp5
                go_wp2_with fail
                go_roundw
                case rel => exact ⟨4, t1, t2, by omega, rfl, rfl, rfl, Lib.hid ⟨by rw [among, AM.out.1]; rw [Bool.false_or]; exact E1.out, by rw [among, AM.out.2]; rw [Bool.false_or]; exact E2.out⟩, hA, hB, hP, T⟩
                case measure => simp [intOf]
      · have e1 : l = true := by rw [← AM.out.1, among_lo]
        have e2 : h = true := by rw [← AM.out.2, among_hi]
        subst e1 e2
        clear AM hA hB hP fal fah fbl fbh fpl fph
        replace hT := hT.mono T
        replace T := Add.trans T0 T
        go_wp2_with fail
        refine (awake3_any _ hT).mono ?_
        rintro e wz9 ⟨rfl, hz9⟩
        replace T := Add.trans T hz9
        clear hz9 hT
        go_wp2_with fail
        go_ret
        exact ⟨rfl, T⟩
theorem incl_any {v v' : Value} {x y : IvL} {mm nn : Nat} (w : World) (hx : IvI w v x) (hy : IvI w v' y) (hT : Tab w) (hm : mm ≤ 255) (hn : nn ≤ 255) : Calls Tryz.prog 4 #[v, v', .int .u8 (mm : Nat), .int .u8 (nn : Nat)] w (LawP w) := by
  rcases hl : (longE x || longE y) with _ | _
  · rcases ho : okI (ivOf x) with _ | _
    · exact badA w hx hy hT hl ho
    · rcases ho2 : okI (ivOf y) with _ | _
      · exact badB w hx hy hT hl ho ho2
      · exact ok_case w hx hy hT hm hn hl ho ho2
  · exact long_case w hx hy hT hl
end Go.Proofs.YtmadogkngbbcbaaGreatDoor.IvInclL
