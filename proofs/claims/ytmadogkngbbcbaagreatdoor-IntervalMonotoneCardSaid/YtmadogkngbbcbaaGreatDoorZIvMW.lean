/- The law IntervalMonotone: its walk, for all arguments.
(With the texts that are joined here: ) -/
import Derived.Test.YtmadogkngbbcbaaGreatDoorZJ
import Derived.Test.YtmadogkngbbcbaaGreatDoorZK
import Derived.Deep.Cut

namespace Go.Proofs.YtmadogkngbbcbaaGreatDoor.IvMonoL
open Go.Proofs.YtmadogkngbbcbaaGreatDoor Go.RowKit NatM Go.Proofs.YtmadogkngbbcbaaGreatDoor.Api

theorem startXY (w : World) (b : Bool) (an : Option Addr) (n cn : Nat) (ad : Option Addr) (d cd : Nat) (b' : Bool) (an' : Option Addr) (n' cn' : Nat) (ad' : Option Addr) (d' cd' : Nat) (b2 : Bool) (an2 : Option Addr) (n2 cn2 : Nat) (ad2 : Option Addr) (d2 cd2 : Nat) (b3 : Bool) (an3 : Option Addr) (n3 cn3 : Nat) (ad3 : Option Addr) (d3 cd3 : Nat) :
    Add w ((w.alloc (.cells #[.bool b, .slice an n cn, .slice ad d cd, .bool b', .slice an' n' cn', .slice ad' d' cd'] 27)).alloc (.cells #[.bool b2, .slice an2 n2 cn2, .slice ad2 d2 cd2, .bool b3, .slice an3 n3 cn3, .slice ad3 d3 cd3] 27)) ∧ Box6 ((w.alloc (.cells #[.bool b, .slice an n cn, .slice ad d cd, .bool b', .slice an' n' cn', .slice ad' d' cd'] 27)).alloc (.cells #[.bool b2, .slice an2 n2 cn2, .slice ad2 d2 cd2, .bool b3, .slice an3 n3 cn3, .slice ad3 d3 cd3] 27)) w.heap.size b an n cn ad d cd b' an' n' cn' ad' d' cd' ∧ Box6 ((w.alloc (.cells #[.bool b, .slice an n cn, .slice ad d cd, .bool b', .slice an' n' cn', .slice ad' d' cd'] 27)).alloc (.cells #[.bool b2, .slice an2 n2 cn2, .slice ad2 d2 cd2, .bool b3, .slice an3 n3 cn3, .slice ad3 d3 cd3] 27)) (w.heap.size + 1) b2 an2 n2 cn2 ad2 d2 cd2 b3 an3 n3 cn3 ad3 d3 cd3 :=
  ⟨Add.trans (add_new _ _) (add_new _ _), (box6_new ..).mono (add_new _ _), Box6.cells (by simp)⟩
set_option maxRecDepth 100000 in
set_option maxHeartbeats 20000000 in
theorem long_case {v v' : Value} {x y : IvL} {mm nn : Nat} (w : World) (hx : IvI w v x) (hy : IvI w v' y) (hT : Tab w) (hl : (longE x || longE y) = true) : Calls Tryz.prog 5 #[v, v', .int .u8 (mm : Nat), .int .u8 (nn : Nat)] w (LawP w) := by
  obtain ⟨an, n, cn, ad, d, cd, an', n', cn', ad', d', cd', rfl, i1, i2, i3, i4⟩ := hx
  obtain ⟨an2, n2, cn2, ad2, d2, cd2, an3, n3, cn3, ad3, d3, cd3, rfl, j1, j2, j3, j4⟩ := hy
  obtain ⟨T, hA, hB⟩ := startXY w x.1.1 an n cn ad d cd x.2.1 an' n' cn' ad' d' cd' y.1.1 an2 n2 cn2 ad2 d2 cd2 y.2.1 an3 n3 cn3 ad3 d3 cd3
  obtain ⟨W0, hW0⟩ : ∃ W0, W0 = ((w.alloc (.cells #[.bool x.1.1, .slice an n cn, .slice ad d cd, .bool x.2.1, .slice an' n' cn', .slice ad' d' cd'] 27)).alloc (.cells #[.bool y.1.1, .slice an2 n2 cn2, .slice ad2 d2 cd2, .bool y.2.1, .slice an3 n3 cn3, .slice ad3 d3 cd3] 27)) := ⟨_, rfl⟩
  rw [← hW0] at T hA hB
  have CL := Lib.hid (longI2 true (w := W0) (b := x.1.1) (b' := x.2.1) (b2 := y.1.1) (b3 := y.2.1) (w.heap.size + 1 + 1) (i1.mono T) (i2.mono T) (i3.mono T) (i4.mono T) (j1.mono T) (j2.mono T) (j3.mono T) (j4.mono T) (by rw [hW0]; simp) (Lib.hid hl))
  have TL : Add W0 (W0.alloc (.cells #[.bool x.1.1, .slice an n cn, .slice ad d cd, .bool x.2.1, .slice an' n' cn', .slice ad' d' cd', .bool y.1.1, .slice an2 n2 cn2, .slice ad2 d2 cd2, .bool y.2.1, .slice an3 n3 cn3, .slice ad3 d3 cd3] 27)) := add_new _ _
  have hA0 := hA
  replace hA := hA.mono TL
  have hB0 := hB
  replace hB := hB.mono TL
  replace hT := (hT.mono T).mono TL
  replace T := Add.trans T TL
  have ca0 := hA0.c0
  have ca1 := hA0.c1
  have ca2 := hA0.c2
  have ca3 := hA0.c3
  have ca4 := hA0.c4
  have ca5 := hA0.c5
  have cb0 := hB0.c0
  have cb1 := hB0.c1
  have cb2 := hB0.c2
  have cb3 := hB0.c3
  have cb4 := hB0.c4
  have cb5 := hB0.c5
  rw [hW0] at ca0 ca1 ca2 ca3 ca4 ca5 cb0 cb1 cb2 cb3 cb4 cb5
  go_enter Tryz.func5, Tryz.ntmps5
  go_wp2_with fail
  rw [← hW0]
  refine CL.out.mono ?_
  rintro e w9 ⟨rfl, rfl⟩
  clear CL TL hW0 hl ca0 ca1 ca2 ca3 ca4 ca5 hA0 cb0 cb1 cb2 cb3 cb4 cb5 hB0 hA hB i1 i2 i3 i4 j1 j2 j3 j4 
  go_wp2_with fail
  refine (awake3_any _ hT).mono ?_
  rintro e wz9 ⟨rfl, hz9⟩
  replace T := Add.trans T hz9
  clear hz9 hT
  go_wp2_with fail
  go_ret
  exact ⟨rfl, T⟩
set_option maxRecDepth 100000 in
set_option maxHeartbeats 20000000 in
theorem badA {v v' : Value} {x y : IvL} {mm nn : Nat} (w : World) (hx : IvI w v x) (hy : IvI w v' y) (hT : Tab w) (hl : (longE x || longE y) = false) (ho : okI (ivOf x) = false) : Calls Tryz.prog 5 #[v, v', .int .u8 (mm : Nat), .int .u8 (nn : Nat)] w (LawP w) := by
  have hl0 := hl
  obtain ⟨an, n, cn, ad, d, cd, an', n', cn', ad', d', cd', rfl, i1, i2, i3, i4⟩ := hx
  obtain ⟨an2, n2, cn2, ad2, d2, cd2, an3, n3, cn3, ad3, d3, cd3, rfl, j1, j2, j3, j4⟩ := hy
  obtain ⟨T, hA, hB⟩ := startXY w x.1.1 an n cn ad d cd x.2.1 an' n' cn' ad' d' cd' y.1.1 an2 n2 cn2 ad2 d2 cd2 y.2.1 an3 n3 cn3 ad3 d3 cd3
  obtain ⟨W0, hW0⟩ : ∃ W0, W0 = ((w.alloc (.cells #[.bool x.1.1, .slice an n cn, .slice ad d cd, .bool x.2.1, .slice an' n' cn', .slice ad' d' cd'] 27)).alloc (.cells #[.bool y.1.1, .slice an2 n2 cn2, .slice ad2 d2 cd2, .bool y.2.1, .slice an3 n3 cn3, .slice ad3 d3 cd3] 27)) := ⟨_, rfl⟩
  rw [← hW0] at T hA hB
  have CL := Lib.hid (longI2 false (w := W0) (b := x.1.1) (b' := x.2.1) (b2 := y.1.1) (b3 := y.2.1) (w.heap.size + 1 + 1) (i1.mono T) (i2.mono T) (i3.mono T) (i4.mono T) (j1.mono T) (j2.mono T) (j3.mono T) (j4.mono T) (by rw [hW0]; simp) (Lib.hid hl))
  have TL : Add W0 (W0.alloc (.cells #[.bool x.1.1, .slice an n cn, .slice ad d cd, .bool x.2.1, .slice an' n' cn', .slice ad' d' cd', .bool y.1.1, .slice an2 n2 cn2, .slice ad2 d2 cd2, .bool y.2.1, .slice an3 n3 cn3, .slice ad3 d3 cd3] 27)) := add_new _ _
  have hA0 := hA
  replace hA := hA.mono TL
  have hB0 := hB
  replace hB := hB.mono TL
  replace hT := (hT.mono T).mono TL
  replace T := Add.trans T TL
  have ca0 := hA0.c0
  have ca1 := hA0.c1
  have ca2 := hA0.c2
  have ca3 := hA0.c3
  have ca4 := hA0.c4
  have ca5 := hA0.c5
  have cb0 := hB0.c0
  have cb1 := hB0.c1
  have cb2 := hB0.c2
  have cb3 := hB0.c3
  have cb4 := hB0.c4
  have cb5 := hB0.c5
  rw [hW0] at ca0 ca1 ca2 ca3 ca4 ca5 cb0 cb1 cb2 cb3 cb4 cb5
  simp only [Bool.or_eq_false_iff] at hl0
  have qa := (IvI.arg (w := w) ⟨an, n, cn, ad, d, cd, an', n', cn', ad', d', cd', rfl, i1, i2, i3, i4⟩ hl0.1).mono T
  have qb := (IvI.arg (w := w) ⟨an2, n2, cn2, ad2, d2, cd2, an3, n3, cn3, ad3, d3, cd3, rfl, j1, j2, j3, j4⟩ hl0.2).mono T
  have la := IvI.lim (w := w) ⟨an, n, cn, ad, d, cd, an', n', cn', ad', d', cd', rfl, i1, i2, i3, i4⟩ hl0.1
  have lb := IvI.lim (w := w) ⟨an2, n2, cn2, ad2, d2, cd2, an3, n3, cn3, ad3, d3, cd3, rfl, j1, j2, j3, j4⟩ hl0.2
  obtain ⟨a, ea⟩ : ∃ a : Iv, ivOf x = a := ⟨_, rfl⟩
  obtain ⟨b, eb⟩ : ∃ a : Iv, ivOf y = a := ⟨_, rfl⟩
  rw [ea] at qa la ho
  rw [eb] at qb lb 
  have HO := Lib.hid ho
  clear ho ea eb la lb hl0 i1 i2 i3 i4 j1 j2 j3 j4
  go_enter Tryz.func5, Tryz.ntmps5
  go_wp2_with fail
  rw [← hW0]
  refine CL.out.mono ?_
  rintro e w9 ⟨rfl, rfl⟩
  clear CL TL hW0 hl ca0 ca1 ca2 ca3 ca4 ca5 hA0 cb0 cb1 cb2 cb3 cb4 cb5 hB0 
  have ca0 := hA.c0
  have ca1 := hA.c1
  have ca2 := hA.c2
  have ca3 := hA.c3
  have ca4 := hA.c4
  have ca5 := hA.c5
  go_wp2_with fail
  refine (refValidIN false qa HO).mono ?_
  rintro e w1 ⟨rfl, h1⟩
  replace hT := hT.mono h1
  replace T := Add.trans T h1
  clear h1 hA hB qa qb HO ca0 ca1 ca2 ca3 ca4 ca5
  go_wp2_with fail
  refine (awake3_any _ hT).mono ?_
  rintro e wz9 ⟨rfl, hz9⟩
  replace T := Add.trans T hz9
  clear hz9 hT
  go_wp2_with fail
  go_ret
  exact ⟨rfl, T⟩
set_option maxRecDepth 100000 in
set_option maxHeartbeats 20000000 in
theorem badB {v v' : Value} {x y : IvL} {mm nn : Nat} (w : World) (hx : IvI w v x) (hy : IvI w v' y) (hT : Tab w) (hl : (longE x || longE y) = false) (ho : okI (ivOf x) = true) (ho2 : okI (ivOf y) = false) : Calls Tryz.prog 5 #[v, v', .int .u8 (mm : Nat), .int .u8 (nn : Nat)] w (LawP w) := by
  have hl0 := hl
  obtain ⟨an, n, cn, ad, d, cd, an', n', cn', ad', d', cd', rfl, i1, i2, i3, i4⟩ := hx
  obtain ⟨an2, n2, cn2, ad2, d2, cd2, an3, n3, cn3, ad3, d3, cd3, rfl, j1, j2, j3, j4⟩ := hy
  obtain ⟨T, hA, hB⟩ := startXY w x.1.1 an n cn ad d cd x.2.1 an' n' cn' ad' d' cd' y.1.1 an2 n2 cn2 ad2 d2 cd2 y.2.1 an3 n3 cn3 ad3 d3 cd3
  obtain ⟨W0, hW0⟩ : ∃ W0, W0 = ((w.alloc (.cells #[.bool x.1.1, .slice an n cn, .slice ad d cd, .bool x.2.1, .slice an' n' cn', .slice ad' d' cd'] 27)).alloc (.cells #[.bool y.1.1, .slice an2 n2 cn2, .slice ad2 d2 cd2, .bool y.2.1, .slice an3 n3 cn3, .slice ad3 d3 cd3] 27)) := ⟨_, rfl⟩
  rw [← hW0] at T hA hB
  have CL := Lib.hid (longI2 false (w := W0) (b := x.1.1) (b' := x.2.1) (b2 := y.1.1) (b3 := y.2.1) (w.heap.size + 1 + 1) (i1.mono T) (i2.mono T) (i3.mono T) (i4.mono T) (j1.mono T) (j2.mono T) (j3.mono T) (j4.mono T) (by rw [hW0]; simp) (Lib.hid hl))
  have TL : Add W0 (W0.alloc (.cells #[.bool x.1.1, .slice an n cn, .slice ad d cd, .bool x.2.1, .slice an' n' cn', .slice ad' d' cd', .bool y.1.1, .slice an2 n2 cn2, .slice ad2 d2 cd2, .bool y.2.1, .slice an3 n3 cn3, .slice ad3 d3 cd3] 27)) := add_new _ _
  have hA0 := hA
  replace hA := hA.mono TL
  have hB0 := hB
  replace hB := hB.mono TL
  replace hT := (hT.mono T).mono TL
  replace T := Add.trans T TL
  have ca0 := hA0.c0
  have ca1 := hA0.c1
  have ca2 := hA0.c2
  have ca3 := hA0.c3
  have ca4 := hA0.c4
  have ca5 := hA0.c5
  have cb0 := hB0.c0
  have cb1 := hB0.c1
  have cb2 := hB0.c2
  have cb3 := hB0.c3
  have cb4 := hB0.c4
  have cb5 := hB0.c5
  rw [hW0] at ca0 ca1 ca2 ca3 ca4 ca5 cb0 cb1 cb2 cb3 cb4 cb5
  simp only [Bool.or_eq_false_iff] at hl0
  have qa := (IvI.arg (w := w) ⟨an, n, cn, ad, d, cd, an', n', cn', ad', d', cd', rfl, i1, i2, i3, i4⟩ hl0.1).mono T
  have qb := (IvI.arg (w := w) ⟨an2, n2, cn2, ad2, d2, cd2, an3, n3, cn3, ad3, d3, cd3, rfl, j1, j2, j3, j4⟩ hl0.2).mono T
  have la := IvI.lim (w := w) ⟨an, n, cn, ad, d, cd, an', n', cn', ad', d', cd', rfl, i1, i2, i3, i4⟩ hl0.1
  have lb := IvI.lim (w := w) ⟨an2, n2, cn2, ad2, d2, cd2, an3, n3, cn3, ad3, d3, cd3, rfl, j1, j2, j3, j4⟩ hl0.2
  obtain ⟨a, ea⟩ : ∃ a : Iv, ivOf x = a := ⟨_, rfl⟩
  obtain ⟨b, eb⟩ : ∃ a : Iv, ivOf y = a := ⟨_, rfl⟩
  rw [ea] at qa la ho
  rw [eb] at qb lb ho2
  have HO := Lib.hid ho
  have HO2 := Lib.hid ho2
  clear ho ho2 ea eb la lb hl0 i1 i2 i3 i4 j1 j2 j3 j4
  go_enter Tryz.func5, Tryz.ntmps5
  go_wp2_with fail
  rw [← hW0]
  refine CL.out.mono ?_
  rintro e w9 ⟨rfl, rfl⟩
  clear CL TL hW0 hl ca0 ca1 ca2 ca3 ca4 ca5 hA0 cb0 cb1 cb2 cb3 cb4 cb5 hB0 
  have ca0 := hA.c0
  have ca1 := hA.c1
  have ca2 := hA.c2
  have ca3 := hA.c3
  have ca4 := hA.c4
  have ca5 := hA.c5
  go_wp2_with fail
  refine (refValidIN true qa HO).mono ?_
  rintro e w1 ⟨rfl, h1⟩
  replace hT := hT.mono h1
  replace hB := hB.mono h1
  replace qb := qb.mono h1
  replace T := Add.trans T h1
  clear h1 hA qa HO ca0 ca1 ca2 ca3 ca4 ca5
  have cb0 := hB.c0
  have cb1 := hB.c1
  have cb2 := hB.c2
  have cb3 := hB.c3
  have cb4 := hB.c4
  have cb5 := hB.c5
  go_wp2_with fail
  refine (refValidIN false qb HO2).mono ?_
  rintro e w2 ⟨rfl, h2⟩
  replace hT := hT.mono h2
  replace T := Add.trans T h2
  clear h2 hB qb HO2 cb0 cb1 cb2 cb3 cb4 cb5
  go_wp2_with fail
  refine (awake3_any _ hT).mono ?_
  rintro e wz9 ⟨rfl, hz9⟩
  replace T := Add.trans T hz9
  clear hz9 hT
  go_wp2_with fail
  go_ret
  exact ⟨rfl, T⟩
theorem subs_can {i j k l : Nat} {p q r s : Rat} (hp : Sz i (can p)) (hq : Sz j (can q)) (hr : Sz k (can r)) (hs : Sz l (can s)) (hi : i ≤ 128) (hj : j ≤ 128) (hk : k ≤ 128) (hl : l ≤ 128) (h1 : r ≤ p) (h2 : p ≤ q) (h3 : q ≤ s) : subsI (can p, can q) (can r, can s) = true := by
  have o1 : okI (can p, can q) = true := okI_iff.2 ⟨hp.ok hi, hq.ok hj, by rw [qv_can, qv_can]; exact h2⟩
  have o2 : okI (can r, can s) = true := okI_iff.2 ⟨hr.ok hk, hs.ok hl, by rw [qv_can, qv_can]; exact Rat.le_trans h1 (Rat.le_trans h2 h3)⟩
  unfold subsI
  rw [o1, o2]
  simp only [qv_can, Bool.true_and]
  exact decide_eq_true ⟨h1, h3⟩
theorem mono_math {a b : Iv} {m n : Nat} (sa : SzI 12 a) (sb : SzI 12 b) (oa : okI a = true) (ob : okI b = true) (hmn : m ≤ n) (hn : n ≤ 255) : ∃ (C S1 S2 P1 P2 D1 D2 : Iv),
    (can (wiQ a m) = C.1 ∧ can (wiQ a n) = C.2 ∧ SzI 39 C ∧ okI C = true) ∧
    (addF C.1 b.1 = (S1.1, 0) ∧ addF C.2 b.2 = (S1.2, 0) ∧ addF a.1 b.1 = (S2.1, 0) ∧ addF a.2 b.2 = (S2.2, 0)) ∧
    ((can (lo4 C b), can (hi4 C b)) = P1 ∧ (can (lo4 a b), can (hi4 a b)) = P2) ∧
    (subF b.1 C.2 = (D1.1, 0) ∧ subF b.2 C.1 = (D1.2, 0) ∧ subF b.1 a.2 = (D2.1, 0) ∧ subF b.2 a.1 = (D2.2, 0)) ∧
    (SzI 128 S1 ∧ SzI 128 S2 ∧ SzI 128 P1 ∧ SzI 128 P2 ∧ SzI 128 D1 ∧ SzI 128 D2) ∧
    subsI C a = true ∧ subsI S1 S2 = true ∧ subsI P1 P2 = true ∧ subsI D1 D2 = true := by
  have la := (okI_iff.1 oa).2.2
  have lb := (okI_iff.1 ob).2.2
  obtain ⟨-, -, -, -, -, -, -, x1⟩ := within_sz sa (Nat.le_trans hmn hn)
  obtain ⟨-, -, -, -, -, -, -, y1⟩ := within_sz sa hn
  obtain ⟨i1, i2⟩ := wi_in (Nat.le_trans hmn hn) la
  obtain ⟨j1, j2⟩ := wi_in hn la
  have mo := wi_mono hmn la
  generalize wiQ a m = p at *
  generalize wiQ a n = q at *
  have hC : SzI 39 (can p, can q) := ⟨x1, y1⟩
  have e1 : qv (can p) = p := qv_can p
  have e2 : qv (can q) = q := qv_can q
  have oC : okI (can p, can q) = true := okI_iff.2 ⟨x1.ok (by decide), y1.ok (by decide), by rw [e1, e2]; exact mo⟩
  obtain ⟨s1, s2⟩ := add_sz x1 sb.1 (by decide)
  obtain ⟨s3, s4⟩ := add_sz y1 sb.2 (by decide)
  obtain ⟨s5, s6⟩ := add_sz sa.1 sb.1 (by decide)
  obtain ⟨s7, s8⟩ := add_sz sa.2 sb.2 (by decide)
  obtain ⟨d1, d2⟩ := sub_sz sb.1 y1 (by decide)
  obtain ⟨d3, d4⟩ := sub_sz sb.2 x1 (by decide)
  obtain ⟨d5, d6⟩ := sub_sz sb.1 sa.2 (by decide)
  obtain ⟨d7, d8⟩ := sub_sz sb.2 sa.1 (by decide)
  rw [e1] at s1 s2 d3 d4
  rw [e2] at s3 s4 d1 d2
  have p1 := mulI_sz hC sb (by decide)
  have p2 := mulI_sz sa sb (by decide)
  obtain ⟨m1, m2⟩ := mul_sub (a := a) (b := b) (c := (can p, can q)) (by rw [e1]; exact i1) (by rw [e1, e2]; exact mo) (by rw [e2]; exact j2) lb
  have m3 : lo4 (can p, can q) b ≤ hi4 (can p, can q) b := Rat.le_trans (lo4_le _ _).1 (le_hi4 _ _).1
  have m4 : lo4 a b ≤ hi4 a b := Rat.le_trans (lo4_le _ _).1 (le_hi4 _ _).1
  have oa1 := (okI_iff.1 oa).1
  have oa2 := (okI_iff.1 oa).2.1
  refine ⟨(can p, can q), (can (p + qv b.1), can (q + qv b.2)), (can (qv a.1 + qv b.1), can (qv a.2 + qv b.2)), _, _, (can (qv b.1 - q), can (qv b.2 - p)), (can (qv b.1 - qv a.2), can (qv b.2 - qv a.1)), ⟨rfl, rfl, hC, oC⟩, ⟨s1, s3, s5, s7⟩, ⟨rfl, rfl⟩, ⟨d1, d3, d5, d7⟩,
    ⟨⟨s2.up (by decide), s4.up (by decide)⟩, ⟨s6.up (by decide), s8.up (by decide)⟩, p1.up (by decide), p2.up (by decide), ⟨d2.up (by decide), d4.up (by decide)⟩, ⟨d6.up (by decide), d8.up (by decide)⟩⟩, ?_, ?_, ?_, ?_⟩
  · refine subsI_iff.2 ⟨oC, oa, ⟨?_, ?_⟩, ?_, ?_⟩ <;> simp only [e1, e2] <;> grind
  · exact subs_can s2 s4 s6 s8 (by decide) (by decide) (by decide) (by decide) (by grind) (by grind) (by grind)
  · exact subs_can p1.1 p1.2 p2.1 p2.2 (by decide) (by decide) (by decide) (by decide) m1 m3 m2
  · exact subs_can d2 d4 d6 d8 (by decide) (by decide) (by decide) (by decide) (by grind) (by grind) (by grind)
set_option maxRecDepth 100000 in
set_option maxHeartbeats 20000000 in
theorem ok_case {v v' : Value} {x y : IvL} {mm nn : Nat} (w : World) (hx : IvI w v x) (hy : IvI w v' y) (hT : Tab w) (hm : mm ≤ 255) (hn : nn ≤ 255) (hl : (longE x || longE y) = false) (ho : okI (ivOf x) = true) (ho2 : okI (ivOf y) = true) : Calls Tryz.prog 5 #[v, v', .int .u8 (mm : Nat), .int .u8 (nn : Nat)] w (LawP w) := by
  have hl0 := hl
  obtain ⟨an, n, cn, ad, d, cd, an', n', cn', ad', d', cd', rfl, i1, i2, i3, i4⟩ := hx
  obtain ⟨an2, n2, cn2, ad2, d2, cd2, an3, n3, cn3, ad3, d3, cd3, rfl, j1, j2, j3, j4⟩ := hy
  obtain ⟨T, hA, hB⟩ := startXY w x.1.1 an n cn ad d cd x.2.1 an' n' cn' ad' d' cd' y.1.1 an2 n2 cn2 ad2 d2 cd2 y.2.1 an3 n3 cn3 ad3 d3 cd3
  obtain ⟨W0, hW0⟩ : ∃ W0, W0 = ((w.alloc (.cells #[.bool x.1.1, .slice an n cn, .slice ad d cd, .bool x.2.1, .slice an' n' cn', .slice ad' d' cd'] 27)).alloc (.cells #[.bool y.1.1, .slice an2 n2 cn2, .slice ad2 d2 cd2, .bool y.2.1, .slice an3 n3 cn3, .slice ad3 d3 cd3] 27)) := ⟨_, rfl⟩
  rw [← hW0] at T hA hB
  have CL := Lib.hid (longI2 false (w := W0) (b := x.1.1) (b' := x.2.1) (b2 := y.1.1) (b3 := y.2.1) (w.heap.size + 1 + 1) (i1.mono T) (i2.mono T) (i3.mono T) (i4.mono T) (j1.mono T) (j2.mono T) (j3.mono T) (j4.mono T) (by rw [hW0]; simp) (Lib.hid hl))
  have TL : Add W0 (W0.alloc (.cells #[.bool x.1.1, .slice an n cn, .slice ad d cd, .bool x.2.1, .slice an' n' cn', .slice ad' d' cd', .bool y.1.1, .slice an2 n2 cn2, .slice ad2 d2 cd2, .bool y.2.1, .slice an3 n3 cn3, .slice ad3 d3 cd3] 27)) := add_new _ _
  have hA0 := hA
  replace hA := hA.mono TL
  have hB0 := hB
  replace hB := hB.mono TL
  replace hT := (hT.mono T).mono TL
  replace T := Add.trans T TL
  have ca0 := hA0.c0
  have ca1 := hA0.c1
  have ca2 := hA0.c2
  have ca3 := hA0.c3
  have ca4 := hA0.c4
  have ca5 := hA0.c5
  have cb0 := hB0.c0
  have cb1 := hB0.c1
  have cb2 := hB0.c2
  have cb3 := hB0.c3
  have cb4 := hB0.c4
  have cb5 := hB0.c5
  rw [hW0] at ca0 ca1 ca2 ca3 ca4 ca5 cb0 cb1 cb2 cb3 cb4 cb5
  simp only [Bool.or_eq_false_iff] at hl0
  have qa := (IvI.arg (w := w) ⟨an, n, cn, ad, d, cd, an', n', cn', ad', d', cd', rfl, i1, i2, i3, i4⟩ hl0.1).mono T
  have qb := (IvI.arg (w := w) ⟨an2, n2, cn2, ad2, d2, cd2, an3, n3, cn3, ad3, d3, cd3, rfl, j1, j2, j3, j4⟩ hl0.2).mono T
  have la := IvI.lim (w := w) ⟨an, n, cn, ad, d, cd, an', n', cn', ad', d', cd', rfl, i1, i2, i3, i4⟩ hl0.1
  have lb := IvI.lim (w := w) ⟨an2, n2, cn2, ad2, d2, cd2, an3, n3, cn3, ad3, d3, cd3, rfl, j1, j2, j3, j4⟩ hl0.2
  obtain ⟨a, ea⟩ : ∃ a : Iv, ivOf x = a := ⟨_, rfl⟩
  obtain ⟨b, eb⟩ : ∃ a : Iv, ivOf y = a := ⟨_, rfl⟩
  rw [ea] at qa la ho
  rw [eb] at qb lb ho2
  have HO := Lib.hid ho
  have HO2 := Lib.hid ho2
  have sa := la.sz ho
  have sb := lb.sz ho2
  obtain ⟨lo, hlo⟩ : ∃ l, min mm nn = l := ⟨_, rfl⟩
  obtain ⟨hi, hhi⟩ : ∃ l, max mm nn = l := ⟨_, rfl⟩
  have hlm : ((min (mm : Int) (nn : Int))) = (lo : Nat) := by omega
  have hhm : ((max (mm : Int) (nn : Int))) = (hi : Nat) := by omega
  obtain ⟨⟨⟨s1, N1, D1⟩, ⟨s2, N2, D2⟩⟩, ⟨⟨s3, N3, D3⟩, ⟨s4, N4, D4⟩⟩, ⟨⟨s5, N5, D5⟩, ⟨s6, N6, D6⟩⟩, ⟨⟨p1, P1, Q1⟩, ⟨p2, P2, Q2⟩⟩, ⟨⟨p3, P3, Q3⟩, ⟨p4, P4, Q4⟩⟩, ⟨⟨s7, N7, D7⟩, ⟨s8, N8, D8⟩⟩, ⟨⟨s9, N9, D9⟩, ⟨s0, N0, D0⟩⟩, ⟨g1, g2, g3, g4⟩, ⟨g5, g6, g7, g8⟩, ⟨g9, g10⟩, ⟨g11, g12, g13, g14⟩, ⟨g15, g16, g17, g18, g19, g20⟩, g21, g22, g23, g24⟩ := mono_math sa sb ho ho2 (m := lo) (n := hi) (by omega) (by omega)
  have G1 := Lib.hid g1
  have G2 := Lib.hid g2
  have G3 := Lib.hid g3
  have G4 := Lib.hid g4
  have G5 := Lib.hid g5
  have G6 := Lib.hid g6
  have G7 := Lib.hid g7
  have G8 := Lib.hid g8
  have G9 := Lib.hid g9
  have G10 := Lib.hid g10
  have G11 := Lib.hid g11
  have G12 := Lib.hid g12
  have G13 := Lib.hid g13
  have G14 := Lib.hid g14
  have G15 := Lib.hid g15
  have G16 := Lib.hid g16
  have G17 := Lib.hid g17
  have G18 := Lib.hid g18
  have G19 := Lib.hid g19
  have G20 := Lib.hid g20
  have G21 := Lib.hid g21
  have G22 := Lib.hid g22
  have G23 := Lib.hid g23
  have G24 := Lib.hid g24
  have FS1 : Hid (SzI 12 a ∧ lo ≤ 255) := Lib.hid ⟨sa, by omega⟩
  have FS2 : Hid (SzI 12 a ∧ hi ≤ 255) := Lib.hid ⟨sa, by omega⟩
  have OAB := Lib.hid (And.intro ho ho2)
  have OCB := Lib.hid (And.intro g4 ho2)
  have OBC := Lib.hid (And.intro ho2 g4)
  have OBA := Lib.hid (And.intro ho2 ho)
  have SS1 : Hid (SzI 39 ((s1, N1, D1), (s2, N2, D2)) ∧ SzI 12 b ∧ 39 + 12 ≤ 128) := Lib.hid ⟨g3, sb, by decide⟩
  have SS2 : Hid (SzI 12 a ∧ SzI 12 b ∧ 12 + 12 ≤ 128) := Lib.hid ⟨sa, sb, by decide⟩
  clear hlo hhi hm hn g1 g2 g3 g4 g5 g6 g7 g8 g9 g10 g11 g12 g13 g14 g15 g16 g17 g18 g19 g20 g21 g22 g23 g24
  clear sa sb ho ho2 ea eb la lb hl0 i1 i2 i3 i4 j1 j2 j3 j4
  go_enter Tryz.func5, Tryz.ntmps5
  go_wp2_with fail
  rw [← hW0]
  refine CL.out.mono ?_
  rintro e w9 ⟨rfl, rfl⟩
  clear CL TL hW0 hl ca0 ca1 ca2 ca3 ca4 ca5 hA0 cb0 cb1 cb2 cb3 cb4 cb5 hB0 
  have ca0 := hA.c0
  have ca1 := hA.c1
  have ca2 := hA.c2
  have ca3 := hA.c3
  have ca4 := hA.c4
  have ca5 := hA.c5
  go_wp2_with fail
  refine (refValidIN true qa HO).mono ?_
  rintro e w1 ⟨rfl, h1⟩
  replace hT := hT.mono h1
  replace hA := hA.mono h1
  replace hB := hB.mono h1
  replace qa := qa.mono h1
  replace qb := qb.mono h1
  replace T := Add.trans T h1
  clear h1 ca0 ca1 ca2 ca3 ca4 ca5
  have cb0 := hB.c0
  have cb1 := hB.c1
  have cb2 := hB.c2
  have cb3 := hB.c3
  have cb4 := hB.c4
  have cb5 := hB.c5
  go_wp2_with fail
  refine (refValidIN true qb HO2).mono ?_
  rintro e w2 ⟨rfl, h2⟩
  replace hT := hT.mono h2
  replace hA := hA.mono h2
  replace hB := hB.mono h2
  replace qa := qa.mono h2
  replace qb := qb.mono h2
  replace T := Add.trans T h2
  clear h2 cb0 cb1 cb2 cb3 cb4 cb5
  have ca0 := hA.c0
  have ca1 := hA.c1
  have ca2 := hA.c2
  have ca3 := hA.c3
  have ca4 := hA.c4
  have ca5 := hA.c5
  have K0 : Hid (∀ w', Add w2 w' → w'.cell? ⟨w.heap.size, 0, none⟩ = some (.bool x.1.1) ∧ w'.cell? ⟨w.heap.size, 1, none⟩ = some (.slice an n cn) ∧ w'.cell? ⟨w.heap.size, 2, none⟩ = some (.slice ad d cd) ∧ w'.cell? ⟨w.heap.size, 3, none⟩ = some (.bool x.2.1) ∧ w'.cell? ⟨w.heap.size, 4, none⟩ = some (.slice an' n' cn') ∧ w'.cell? ⟨w.heap.size, 5, none⟩ = some (.slice ad' d' cd')) := Lib.hid fun w' k => ⟨(hA.mono k).c0, (hA.mono k).c1, (hA.mono k).c2, (hA.mono k).c3, (hA.mono k).c4, (hA.mono k).c5⟩
  have C1 : Hid (∀ w', Add w2 w' → Calls Tryz.prog 32 #[.agg #[.bool x.1.1, .slice an n cn, .slice ad d cd, .bool x.2.1, .slice an' n' cn', .slice ad' d' cd'], .int .u8 (lo : Nat)] w' (RetF w' (s1, N1, D1))) := Lib.hid fun w' k => withinN lo _ (qa.mono k) HO FS1 G1
  have C2 : Hid (∀ w', Add w2 w' → Calls Tryz.prog 32 #[.agg #[.bool x.1.1, .slice an n cn, .slice ad d cd, .bool x.2.1, .slice an' n' cn', .slice ad' d' cd'], .int .u8 (hi : Nat)] w' (RetF w' (s2, N2, D2))) := Lib.hid fun w' k => withinN hi _ (qa.mono k) HO FS2 G2
  go_upto_region 3 with fail
  go_cut [9, 10] from 24 (fun p q wx => ∃ g h a1 n1 k1 e1 d1 l1 a2 m2 k2 e2 d4 l2, p = .pointer (some ⟨g, 0, none⟩) ∧ q = .pointer (some ⟨h, 0, none⟩) ∧ Laid2 w2 g h s1 a1 n1 k1 e1 d1 l1 s2 a2 m2 k2 e2 d4 l2 wx ∧ Num wx (.slice a1 n1 k1) N1 ∧ Num wx (.slice e1 d1 l1) D1 ∧ Num wx (.slice a2 m2 k2) N2 ∧ Num wx (.slice e2 d4 l2) D2)
  case first =>
    go_region_held3 (fun w' => w'.cell? ⟨w.heap.size, 0, none⟩ = some (.bool x.1.1) ∧ w'.cell? ⟨w.heap.size, 1, none⟩ = some (.slice an n cn) ∧ w'.cell? ⟨w.heap.size, 2, none⟩ = some (.slice ad d cd) ∧ w'.cell? ⟨w.heap.size, 3, none⟩ = some (.bool x.2.1) ∧ w'.cell? ⟨w.heap.size, 4, none⟩ = some (.slice an' n' cn') ∧ w'.cell? ⟨w.heap.size, 5, none⟩ = some (.slice ad' d' cd'))
      (first | (refine K0.out _ ?_; (repeat (with_reducible refine Below.setCell ?_ (by dsimp only; omega) _)); (repeat (with_reducible refine Below.drew ?_)); (repeat (with_reducible refine Below.alloc ?_ (by first | omega | (simp; done) | (simp; omega)) _)); first | with_reducible assumption | with_reducible exact Below.refl _ _) | go_keep)
      (first | (go_at_call 32; ((with_reducible refine (C1.out _ (Below.drew (Below.refl _ _))).mono ?_); rintro e z1 ⟨v1, rfl, ⟨a1, n1, k1, e1, d1, l1, rfl, x1, y1⟩, hq1⟩; have t2 := Add.trans (Below.drew (Below.refl _ _) : Add w2 (World.drew w2)) hq1; have sz2 := t2.size))
             | (go_at_call 32; ((with_reducible refine (C1.out _ (Below.drew (add_new _ _))).mono ?_); rintro e z1 ⟨v1, rfl, ⟨a1, n1, k1, e1, d1, l1, rfl, x1, y1⟩, hq1⟩; have t2 := Add.trans (Below.drew (add_new w2 (.cells #[.bool false, .slice none 0 0, .slice none 0 0] 25)) : Add w2 (World.drew (w2.alloc (.cells #[.bool false, .slice none 0 0, .slice none 0 0] 25)))) hq1; have sz2 := t2.size; have bx1 := ((box_new w2 false none 0 0 none 0 0).mono (Below.drew (Below.refl _ _))).mono hq1; have ltx := bx1.lt))
             | (go_at_call 32; ((with_reducible refine (C1.out _ (Below.drew (Add.trans (add_new _ _) (add_new _ _)))).mono ?_); rintro e z1 ⟨v1, rfl, ⟨a1, n1, k1, e1, d1, l1, rfl, x1, y1⟩, hq1⟩; have t2 := Add.trans (Below.drew (Add.trans (add_new w2 (.cells #[.bool false, .slice none 0 0, .slice none 0 0] 25)) (add_new _ (.cells #[.bool false, .slice none 0 0, .slice none 0 0] 25))) : Add w2 (World.drew ((w2.alloc (.cells #[.bool false, .slice none 0 0, .slice none 0 0] 25)).alloc (.cells #[.bool false, .slice none 0 0, .slice none 0 0] 25)))) hq1; have sz2 := t2.size; have bx1 := (((box_new w2 false none 0 0 none 0 0).mono (add_new _ (.cells #[.bool false, .slice none 0 0, .slice none 0 0] 25))).mono (Below.drew (Below.refl _ _))).mono hq1; have ltx := bx1.lt; have by1 := ((Box.cells (w := w2.alloc (.cells #[.bool false, .slice none 0 0, .slice none 0 0] 25)) (g := w2.heap.size + 1) (b := false) (an := none) (n := 0) (cn := 0) (ad := none) (d := 0) (cd := 0) (by simp)).mono (Below.drew (Below.refl _ _))).mono hq1; have lty := by1.lt))
             | (go_at_call 32; ((with_reducible refine (C2.out _ (t2)).mono ?_); rintro e z2 ⟨v2, rfl, ⟨a2, m2, k2, e2, d4, l2, rfl, x2, y2⟩, hq2⟩; have t3 := Add.trans t2 hq2; have sz3 := t3.size; have x3 := x1.mono hq2; have y3 := y1.mono hq2; have bx2 := bx1; have bx2 := bx2.mono hq2; have by2 := by1.mono hq2; have hne1 : w2.heap.size ≠ w2.heap.size + 1 := (by omega); have hne2 : w2.heap.size + 1 ≠ w2.heap.size := (by omega); have fb1_ := bx2; have fb1_0 := fb1_.c0; have fb1_1 := fb1_.c1; have fb1_2 := fb1_.c2; have fb1_3 := fb1_.fr 0; have fb1_4 := fb1_.fr 1; have fb1_5 := fb1_.fr 2; clear fb1_; have fb2_ := by2; have fb2_0 := fb2_.c0; have fb2_1 := fb2_.c1; have fb2_2 := fb2_.c2; have fb2_3 := fb2_.fr 0; have fb2_4 := fb2_.fr 1; have fb2_5 := fb2_.fr 2; clear fb2_))
             | (go_at_call 32; ((with_reducible refine (C2.out _ (t2)).mono ?_); rintro e z2 ⟨v2, rfl, ⟨a2, m2, k2, e2, d4, l2, rfl, x2, y2⟩, hq2⟩; have t3 := Add.trans t2 hq2; have sz3 := t3.size; have x3 := x1.mono hq2; have y3 := y1.mono hq2; have bx2 := bx1; have bx2 := bx2.mono hq2; have hne0 := bx2.lt; have hne1 : z2.heap.size ≠ w2.heap.size := (by omega); have hne2 : w2.heap.size ≠ z2.heap.size := (by omega); clear hne0; have fb3_ := (bx2.mono (add_new z2 (.cells #[.bool false, .slice none 0 0, .slice none 0 0] 25))); have fb3_0 := fb3_.c0; have fb3_1 := fb3_.c1; have fb3_2 := fb3_.c2; have fb3_3 := fb3_.fr 0; have fb3_4 := fb3_.fr 1; have fb3_5 := fb3_.fr 2; clear fb3_; have fb4_ := (bx2.mono (add_new z2 (.cells #[.bool s1, .slice a1 n1 k1, .slice e1 d1 l1] 25))); have fb4_0 := fb4_.c0; have fb4_1 := fb4_.c1; have fb4_2 := fb4_.c2; have fb4_3 := fb4_.fr 0; have fb4_4 := fb4_.fr 1; have fb4_5 := fb4_.fr 2; clear fb4_))
             | (go_at_call 32; ((with_reducible refine (C2.out _ (t2)).mono ?_); rintro e z2 ⟨v2, rfl, ⟨a2, m2, k2, e2, d4, l2, rfl, x2, y2⟩, hq2⟩; have t3 := Add.trans t2 hq2; have sz3 := t3.size; have x3 := x1.mono hq2; have y3 := y1.mono hq2))
             | (go_at_call 32; ((with_reducible refine (C2.out _ (Add.trans t2 (add_new _ _))).mono ?_); rintro e z2 ⟨v2, rfl, ⟨a2, m2, k2, e2, d4, l2, rfl, x2, y2⟩, hq2⟩; have t3 := Add.trans (Add.trans t2 (add_new z1 (.cells #[.bool false, .slice none 0 0, .slice none 0 0] 25))) hq2; have sz3 := t3.size; have x3 := x1.mono (Add.trans (add_new _ _) hq2); have y3 := y1.mono (Add.trans (add_new _ _) hq2); have bx2 := bx1.mono (add_new _ (.cells #[.bool false, .slice none 0 0, .slice none 0 0] 25)); have bx2 := bx2.mono hq2; have by2 := (box_new z1 false none 0 0 none 0 0).mono hq2; have hne1 : w2.heap.size ≠ z1.heap.size := (by omega); have hne2 : z1.heap.size ≠ w2.heap.size := (by omega); have fb5_ := bx2; have fb5_0 := fb5_.c0; have fb5_1 := fb5_.c1; have fb5_2 := fb5_.c2; have fb5_3 := fb5_.fr 0; have fb5_4 := fb5_.fr 1; have fb5_5 := fb5_.fr 2; clear fb5_; have fb6_ := by2; have fb6_0 := fb6_.c0; have fb6_1 := fb6_.c1; have fb6_2 := fb6_.c2; have fb6_3 := fb6_.fr 0; have fb6_4 := fb6_.fr 1; have fb6_5 := fb6_.fr 2; clear fb6_))
             | (go_at_call 32; ((with_reducible refine (C2.out _ (Add.trans (Add.trans t2 (add_new _ _)) (add_new _ _))).mono ?_); rintro e z2 ⟨v2, rfl, ⟨a2, m2, k2, e2, d4, l2, rfl, x2, y2⟩, hq2⟩; have t3 := Add.trans (Add.trans (Add.trans t2 (add_new z1 (.cells #[.bool false, .slice none 0 0, .slice none 0 0] 25))) (add_new _ (.cells #[.bool false, .slice none 0 0, .slice none 0 0] 25))) hq2; have sz3 := t3.size; have x3 := x1.mono (Add.trans (Add.trans (add_new _ _) (add_new _ _)) hq2); have y3 := y1.mono (Add.trans (Add.trans (add_new _ _) (add_new _ _)) hq2); have bx2 := ((box_new z1 false none 0 0 none 0 0).mono (add_new _ (.cells #[.bool false, .slice none 0 0, .slice none 0 0] 25))).mono hq2; have by2 := (Box.cells (w := z1.alloc (.cells #[.bool false, .slice none 0 0, .slice none 0 0] 25)) (g := z1.heap.size + 1) (b := false) (an := none) (n := 0) (cn := 0) (ad := none) (d := 0) (cd := 0) (by simp)).mono hq2; have hne1 : z1.heap.size ≠ z1.heap.size + 1 := (by omega); have hne2 : z1.heap.size + 1 ≠ z1.heap.size := (by omega); have fb7_ := bx2; have fb7_0 := fb7_.c0; have fb7_1 := fb7_.c1; have fb7_2 := fb7_.c2; have fb7_3 := fb7_.fr 0; have fb7_4 := fb7_.fr 1; have fb7_5 := fb7_.fr 2; clear fb7_; have fb8_ := by2; have fb8_0 := fb8_.c0; have fb8_1 := fb8_.c1; have fb8_2 := fb8_.c2; have fb8_3 := fb8_.fr 0; have fb8_4 := fb8_.fr 1; have fb8_5 := fb8_.fr 2; clear fb8_))
             | (go_at_call 32; ((with_reducible refine (C2.out _ (Add.trans t2 (add_new _ _))).mono ?_); rintro e z2 ⟨v2, rfl, ⟨a2, m2, k2, e2, d4, l2, rfl, x2, y2⟩, hq2⟩; have t3 := Add.trans (Add.trans t2 (add_new z1 (.cells #[.bool false, .slice none 0 0, .slice none 0 0] 25))) hq2; have sz3 := t3.size; have x3 := x1.mono (Add.trans (add_new _ _) hq2); have y3 := y1.mono (Add.trans (add_new _ _) hq2); have bx2 := (box_new z1 false none 0 0 none 0 0).mono hq2; have hne0 := bx2.lt; have hne1 : z2.heap.size ≠ z1.heap.size := (by omega); have hne2 : z1.heap.size ≠ z2.heap.size := (by omega); clear hne0; have fb9_ := (bx2.mono (add_new z2 (.cells #[.bool false, .slice none 0 0, .slice none 0 0] 25))); have fb9_0 := fb9_.c0; have fb9_1 := fb9_.c1; have fb9_2 := fb9_.c2; have fb9_3 := fb9_.fr 0; have fb9_4 := fb9_.fr 1; have fb9_5 := fb9_.fr 2; clear fb9_; have fb10_ := (bx2.mono (add_new z2 (.cells #[.bool s1, .slice a1 n1 k1, .slice e1 d1 l1] 25))); have fb10_0 := fb10_.c0; have fb10_1 := fb10_.c1; have fb10_2 := fb10_.c2; have fb10_3 := fb10_.fr 0; have fb10_4 := fb10_.fr 1; have fb10_5 := fb10_.fr 2; clear fb10_)))
    · as_aux_lemma =>
        go_wp2_with fail
        go_meet
        exact ⟨_, _, _, _, _, _, _, _, _, _, _, _, _, _, rfl, rfl, two_a t3, (x3.mono (add_new _ _)).mono (add_new _ _), (y3.mono (add_new _ _)).mono (add_new _ _), (x2.mono (add_new _ _)).mono (add_new _ _), (y2.mono (add_new _ _)).mono (add_new _ _)⟩
    · as_aux_lemma =>
        go_wp2_with fail
        go_meet
        exact ⟨_, _, _, _, _, _, _, _, _, _, _, _, _, _, rfl, rfl, two_b t3, (x3.mono (add_new _ _)).mono (add_new _ _), (y3.mono (add_new _ _)).mono (add_new _ _), (x2.mono (add_new _ _)).mono (add_new _ _), (y2.mono (add_new _ _)).mono (add_new _ _)⟩
    · as_aux_lemma =>
        go_wp2_with fail
        go_meet
        exact ⟨_, _, _, _, _, _, _, _, _, _, _, _, _, _, rfl, rfl, two_c t3 bx2 (by omega), Num.put (Num.put (x3.mono (add_new _ _)) (bx2.mono (add_new _ _)) (.bool s1) (.slice a1 n1 k1) (.slice e1 d1 l1)) (Box.other2 (box_new ..) (by have := bx2.lt; omega) (.bool s1) (.slice a1 n1 k1) (.slice e1 d1 l1)) (.bool s2) (.slice a2 m2 k2) (.slice e2 d4 l2), Num.put (Num.put (y3.mono (add_new _ _)) (bx2.mono (add_new _ _)) (.bool s1) (.slice a1 n1 k1) (.slice e1 d1 l1)) (Box.other2 (box_new ..) (by have := bx2.lt; omega) (.bool s1) (.slice a1 n1 k1) (.slice e1 d1 l1)) (.bool s2) (.slice a2 m2 k2) (.slice e2 d4 l2), Num.put (Num.put (x2.mono (add_new _ _)) (bx2.mono (add_new _ _)) (.bool s1) (.slice a1 n1 k1) (.slice e1 d1 l1)) (Box.other2 (box_new ..) (by have := bx2.lt; omega) (.bool s1) (.slice a1 n1 k1) (.slice e1 d1 l1)) (.bool s2) (.slice a2 m2 k2) (.slice e2 d4 l2), Num.put (Num.put (y2.mono (add_new _ _)) (bx2.mono (add_new _ _)) (.bool s1) (.slice a1 n1 k1) (.slice e1 d1 l1)) (Box.other2 (box_new ..) (by have := bx2.lt; omega) (.bool s1) (.slice a1 n1 k1) (.slice e1 d1 l1)) (.bool s2) (.slice a2 m2 k2) (.slice e2 d4 l2)⟩
    · as_aux_lemma =>
        go_wp2_with fail
        go_meet
        exact ⟨_, _, _, _, _, _, _, _, _, _, _, _, _, _, rfl, rfl, two_e t3 bx2 by2 (by omega) (by omega) (by omega), Num.put (Num.put (x3) bx2 (.bool s1) (.slice a1 n1 k1) (.slice e1 d1 l1)) (Box.other2 by2 (by omega) (.bool s1) (.slice a1 n1 k1) (.slice e1 d1 l1)) (.bool s2) (.slice a2 m2 k2) (.slice e2 d4 l2), Num.put (Num.put (y3) bx2 (.bool s1) (.slice a1 n1 k1) (.slice e1 d1 l1)) (Box.other2 by2 (by omega) (.bool s1) (.slice a1 n1 k1) (.slice e1 d1 l1)) (.bool s2) (.slice a2 m2 k2) (.slice e2 d4 l2), Num.put (Num.put (x2) bx2 (.bool s1) (.slice a1 n1 k1) (.slice e1 d1 l1)) (Box.other2 by2 (by omega) (.bool s1) (.slice a1 n1 k1) (.slice e1 d1 l1)) (.bool s2) (.slice a2 m2 k2) (.slice e2 d4 l2), Num.put (Num.put (y2) bx2 (.bool s1) (.slice a1 n1 k1) (.slice e1 d1 l1)) (Box.other2 by2 (by omega) (.bool s1) (.slice a1 n1 k1) (.slice e1 d1 l1)) (.bool s2) (.slice a2 m2 k2) (.slice e2 d4 l2)⟩
    · as_aux_lemma =>
        go_wp2_with fail
        go_meet
        exact ⟨_, _, _, _, _, _, _, _, _, _, _, _, _, _, rfl, rfl, two_d t3 bx2 (by omega), Num.put (x3.mono (add_new _ _)) (bx2.mono (add_new _ _)) (.bool s2) (.slice a2 m2 k2) (.slice e2 d4 l2), Num.put (y3.mono (add_new _ _)) (bx2.mono (add_new _ _)) (.bool s2) (.slice a2 m2 k2) (.slice e2 d4 l2), Num.put (x2.mono (add_new _ _)) (bx2.mono (add_new _ _)) (.bool s2) (.slice a2 m2 k2) (.slice e2 d4 l2), Num.put (y2.mono (add_new _ _)) (bx2.mono (add_new _ _)) (.bool s2) (.slice a2 m2 k2) (.slice e2 d4 l2)⟩
    · as_aux_lemma =>
        go_wp2_with fail
        go_meet
        exact ⟨_, _, _, _, _, _, _, _, _, _, _, _, _, _, rfl, rfl, two_e t3 by2 bx2 (by omega) (by omega) (by omega), Num.put (Num.put (x3) by2 (.bool s1) (.slice a1 n1 k1) (.slice e1 d1 l1)) (Box.other2 bx2 (by omega) (.bool s1) (.slice a1 n1 k1) (.slice e1 d1 l1)) (.bool s2) (.slice a2 m2 k2) (.slice e2 d4 l2), Num.put (Num.put (y3) by2 (.bool s1) (.slice a1 n1 k1) (.slice e1 d1 l1)) (Box.other2 bx2 (by omega) (.bool s1) (.slice a1 n1 k1) (.slice e1 d1 l1)) (.bool s2) (.slice a2 m2 k2) (.slice e2 d4 l2), Num.put (Num.put (x2) by2 (.bool s1) (.slice a1 n1 k1) (.slice e1 d1 l1)) (Box.other2 bx2 (by omega) (.bool s1) (.slice a1 n1 k1) (.slice e1 d1 l1)) (.bool s2) (.slice a2 m2 k2) (.slice e2 d4 l2), Num.put (Num.put (y2) by2 (.bool s1) (.slice a1 n1 k1) (.slice e1 d1 l1)) (Box.other2 bx2 (by omega) (.bool s1) (.slice a1 n1 k1) (.slice e1 d1 l1)) (.bool s2) (.slice a2 m2 k2) (.slice e2 d4 l2)⟩
    · as_aux_lemma =>
        go_wp2_with fail
        go_meet
        exact ⟨_, _, _, _, _, _, _, _, _, _, _, _, _, _, rfl, rfl, two_c t3 bx2 (by omega), Num.put (Num.put (x3.mono (add_new _ _)) (bx2.mono (add_new _ _)) (.bool s1) (.slice a1 n1 k1) (.slice e1 d1 l1)) (Box.other2 (box_new ..) (by have := bx2.lt; omega) (.bool s1) (.slice a1 n1 k1) (.slice e1 d1 l1)) (.bool s2) (.slice a2 m2 k2) (.slice e2 d4 l2), Num.put (Num.put (y3.mono (add_new _ _)) (bx2.mono (add_new _ _)) (.bool s1) (.slice a1 n1 k1) (.slice e1 d1 l1)) (Box.other2 (box_new ..) (by have := bx2.lt; omega) (.bool s1) (.slice a1 n1 k1) (.slice e1 d1 l1)) (.bool s2) (.slice a2 m2 k2) (.slice e2 d4 l2), Num.put (Num.put (x2.mono (add_new _ _)) (bx2.mono (add_new _ _)) (.bool s1) (.slice a1 n1 k1) (.slice e1 d1 l1)) (Box.other2 (box_new ..) (by have := bx2.lt; omega) (.bool s1) (.slice a1 n1 k1) (.slice e1 d1 l1)) (.bool s2) (.slice a2 m2 k2) (.slice e2 d4 l2), Num.put (Num.put (y2.mono (add_new _ _)) (bx2.mono (add_new _ _)) (.bool s1) (.slice a1 n1 k1) (.slice e1 d1 l1)) (Box.other2 (box_new ..) (by have := bx2.lt; omega) (.bool s1) (.slice a1 n1 k1) (.slice e1 d1 l1)) (.bool s2) (.slice a2 m2 k2) (.slice e2 d4 l2)⟩
    · as_aux_lemma =>
        go_wp2_with fail
        go_meet
        exact ⟨_, _, _, _, _, _, _, _, _, _, _, _, _, _, rfl, rfl, two_e t3 bx2 by2 (by omega) (by omega) (by omega), Num.put (Num.put (x3) bx2 (.bool s1) (.slice a1 n1 k1) (.slice e1 d1 l1)) (Box.other2 by2 (by omega) (.bool s1) (.slice a1 n1 k1) (.slice e1 d1 l1)) (.bool s2) (.slice a2 m2 k2) (.slice e2 d4 l2), Num.put (Num.put (y3) bx2 (.bool s1) (.slice a1 n1 k1) (.slice e1 d1 l1)) (Box.other2 by2 (by omega) (.bool s1) (.slice a1 n1 k1) (.slice e1 d1 l1)) (.bool s2) (.slice a2 m2 k2) (.slice e2 d4 l2), Num.put (Num.put (x2) bx2 (.bool s1) (.slice a1 n1 k1) (.slice e1 d1 l1)) (Box.other2 by2 (by omega) (.bool s1) (.slice a1 n1 k1) (.slice e1 d1 l1)) (.bool s2) (.slice a2 m2 k2) (.slice e2 d4 l2), Num.put (Num.put (y2) bx2 (.bool s1) (.slice a1 n1 k1) (.slice e1 d1 l1)) (Box.other2 by2 (by omega) (.bool s1) (.slice a1 n1 k1) (.slice e1 d1 l1)) (.bool s2) (.slice a2 m2 k2) (.slice e2 d4 l2)⟩
    · as_aux_lemma =>
        go_wp2_with fail
        go_meet
        exact ⟨_, _, _, _, _, _, _, _, _, _, _, _, _, _, rfl, rfl, two_e t3 bx2 by2 (by omega) (by omega) (by omega), Num.put (Num.put (x3) bx2 (.bool s1) (.slice a1 n1 k1) (.slice e1 d1 l1)) (Box.other2 by2 (by omega) (.bool s1) (.slice a1 n1 k1) (.slice e1 d1 l1)) (.bool s2) (.slice a2 m2 k2) (.slice e2 d4 l2), Num.put (Num.put (y3) bx2 (.bool s1) (.slice a1 n1 k1) (.slice e1 d1 l1)) (Box.other2 by2 (by omega) (.bool s1) (.slice a1 n1 k1) (.slice e1 d1 l1)) (.bool s2) (.slice a2 m2 k2) (.slice e2 d4 l2), Num.put (Num.put (x2) bx2 (.bool s1) (.slice a1 n1 k1) (.slice e1 d1 l1)) (Box.other2 by2 (by omega) (.bool s1) (.slice a1 n1 k1) (.slice e1 d1 l1)) (.bool s2) (.slice a2 m2 k2) (.slice e2 d4 l2), Num.put (Num.put (y2) bx2 (.bool s1) (.slice a1 n1 k1) (.slice e1 d1 l1)) (Box.other2 by2 (by omega) (.bool s1) (.slice a1 n1 k1) (.slice e1 d1 l1)) (.bool s2) (.slice a2 m2 k2) (.slice e2 d4 l2)⟩
    · as_aux_lemma =>
        go_wp2_with fail
        go_meet
        exact ⟨_, _, _, _, _, _, _, _, _, _, _, _, _, _, rfl, rfl, two_d t3 bx2 (by omega), Num.put (x3.mono (add_new _ _)) (bx2.mono (add_new _ _)) (.bool s2) (.slice a2 m2 k2) (.slice e2 d4 l2), Num.put (y3.mono (add_new _ _)) (bx2.mono (add_new _ _)) (.bool s2) (.slice a2 m2 k2) (.slice e2 d4 l2), Num.put (x2.mono (add_new _ _)) (bx2.mono (add_new _ _)) (.bool s2) (.slice a2 m2 k2) (.slice e2 d4 l2), Num.put (y2.mono (add_new _ _)) (bx2.mono (add_new _ _)) (.bool s2) (.slice a2 m2 k2) (.slice e2 d4 l2)⟩
    · as_aux_lemma =>
        go_wp2_with fail
        go_meet
        exact ⟨_, _, _, _, _, _, _, _, _, _, _, _, _, _, rfl, rfl, two_e t3 by2 bx2 (by omega) (by omega) (by omega), Num.put (Num.put (x3) by2 (.bool s1) (.slice a1 n1 k1) (.slice e1 d1 l1)) (Box.other2 bx2 (by omega) (.bool s1) (.slice a1 n1 k1) (.slice e1 d1 l1)) (.bool s2) (.slice a2 m2 k2) (.slice e2 d4 l2), Num.put (Num.put (y3) by2 (.bool s1) (.slice a1 n1 k1) (.slice e1 d1 l1)) (Box.other2 bx2 (by omega) (.bool s1) (.slice a1 n1 k1) (.slice e1 d1 l1)) (.bool s2) (.slice a2 m2 k2) (.slice e2 d4 l2), Num.put (Num.put (x2) by2 (.bool s1) (.slice a1 n1 k1) (.slice e1 d1 l1)) (Box.other2 bx2 (by omega) (.bool s1) (.slice a1 n1 k1) (.slice e1 d1 l1)) (.bool s2) (.slice a2 m2 k2) (.slice e2 d4 l2), Num.put (Num.put (y2) by2 (.bool s1) (.slice a1 n1 k1) (.slice e1 d1 l1)) (Box.other2 bx2 (by omega) (.bool s1) (.slice a1 n1 k1) (.slice e1 d1 l1)) (.bool s2) (.slice a2 m2 k2) (.slice e2 d4 l2)⟩
    · as_aux_lemma =>
        go_wp2_with fail
        go_meet
        exact ⟨_, _, _, _, _, _, _, _, _, _, _, _, _, _, rfl, rfl, two_e t3 by2 bx2 (by omega) (by omega) (by omega), Num.put (Num.put (x3) by2 (.bool s1) (.slice a1 n1 k1) (.slice e1 d1 l1)) (Box.other2 bx2 (by omega) (.bool s1) (.slice a1 n1 k1) (.slice e1 d1 l1)) (.bool s2) (.slice a2 m2 k2) (.slice e2 d4 l2), Num.put (Num.put (y3) by2 (.bool s1) (.slice a1 n1 k1) (.slice e1 d1 l1)) (Box.other2 bx2 (by omega) (.bool s1) (.slice a1 n1 k1) (.slice e1 d1 l1)) (.bool s2) (.slice a2 m2 k2) (.slice e2 d4 l2), Num.put (Num.put (x2) by2 (.bool s1) (.slice a1 n1 k1) (.slice e1 d1 l1)) (Box.other2 bx2 (by omega) (.bool s1) (.slice a1 n1 k1) (.slice e1 d1 l1)) (.bool s2) (.slice a2 m2 k2) (.slice e2 d4 l2), Num.put (Num.put (y2) by2 (.bool s1) (.slice a1 n1 k1) (.slice e1 d1 l1)) (Box.other2 bx2 (by omega) (.bool s1) (.slice a1 n1 k1) (.slice e1 d1 l1)) (.bool s2) (.slice a2 m2 k2) (.slice e2 d4 l2)⟩
    · as_aux_lemma =>
        go_wp2_with fail
        go_meet
        exact ⟨_, _, _, _, _, _, _, _, _, _, _, _, _, _, rfl, rfl, two_a t3, (x3.mono (add_new _ _)).mono (add_new _ _), (y3.mono (add_new _ _)).mono (add_new _ _), (x2.mono (add_new _ _)).mono (add_new _ _), (y2.mono (add_new _ _)).mono (add_new _ _)⟩
    · as_aux_lemma =>
        go_wp2_with fail
        go_meet
        exact ⟨_, _, _, _, _, _, _, _, _, _, _, _, _, _, rfl, rfl, two_b t3, (x3.mono (add_new _ _)).mono (add_new _ _), (y3.mono (add_new _ _)).mono (add_new _ _), (x2.mono (add_new _ _)).mono (add_new _ _), (y2.mono (add_new _ _)).mono (add_new _ _)⟩
    · as_aux_lemma =>
        go_wp2_with fail
        go_meet
        exact ⟨_, _, _, _, _, _, _, _, _, _, _, _, _, _, rfl, rfl, two_c t3 bx2 (by omega), Num.put (Num.put (x3.mono (add_new _ _)) (bx2.mono (add_new _ _)) (.bool s1) (.slice a1 n1 k1) (.slice e1 d1 l1)) (Box.other2 (box_new ..) (by have := bx2.lt; omega) (.bool s1) (.slice a1 n1 k1) (.slice e1 d1 l1)) (.bool s2) (.slice a2 m2 k2) (.slice e2 d4 l2), Num.put (Num.put (y3.mono (add_new _ _)) (bx2.mono (add_new _ _)) (.bool s1) (.slice a1 n1 k1) (.slice e1 d1 l1)) (Box.other2 (box_new ..) (by have := bx2.lt; omega) (.bool s1) (.slice a1 n1 k1) (.slice e1 d1 l1)) (.bool s2) (.slice a2 m2 k2) (.slice e2 d4 l2), Num.put (Num.put (x2.mono (add_new _ _)) (bx2.mono (add_new _ _)) (.bool s1) (.slice a1 n1 k1) (.slice e1 d1 l1)) (Box.other2 (box_new ..) (by have := bx2.lt; omega) (.bool s1) (.slice a1 n1 k1) (.slice e1 d1 l1)) (.bool s2) (.slice a2 m2 k2) (.slice e2 d4 l2), Num.put (Num.put (y2.mono (add_new _ _)) (bx2.mono (add_new _ _)) (.bool s1) (.slice a1 n1 k1) (.slice e1 d1 l1)) (Box.other2 (box_new ..) (by have := bx2.lt; omega) (.bool s1) (.slice a1 n1 k1) (.slice e1 d1 l1)) (.bool s2) (.slice a2 m2 k2) (.slice e2 d4 l2)⟩
    · as_aux_lemma =>
        go_wp2_with fail
        go_meet
        exact ⟨_, _, _, _, _, _, _, _, _, _, _, _, _, _, rfl, rfl, two_e t3 bx2 by2 (by omega) (by omega) (by omega), Num.put (Num.put (x3) bx2 (.bool s1) (.slice a1 n1 k1) (.slice e1 d1 l1)) (Box.other2 by2 (by omega) (.bool s1) (.slice a1 n1 k1) (.slice e1 d1 l1)) (.bool s2) (.slice a2 m2 k2) (.slice e2 d4 l2), Num.put (Num.put (y3) bx2 (.bool s1) (.slice a1 n1 k1) (.slice e1 d1 l1)) (Box.other2 by2 (by omega) (.bool s1) (.slice a1 n1 k1) (.slice e1 d1 l1)) (.bool s2) (.slice a2 m2 k2) (.slice e2 d4 l2), Num.put (Num.put (x2) bx2 (.bool s1) (.slice a1 n1 k1) (.slice e1 d1 l1)) (Box.other2 by2 (by omega) (.bool s1) (.slice a1 n1 k1) (.slice e1 d1 l1)) (.bool s2) (.slice a2 m2 k2) (.slice e2 d4 l2), Num.put (Num.put (y2) bx2 (.bool s1) (.slice a1 n1 k1) (.slice e1 d1 l1)) (Box.other2 by2 (by omega) (.bool s1) (.slice a1 n1 k1) (.slice e1 d1 l1)) (.bool s2) (.slice a2 m2 k2) (.slice e2 d4 l2)⟩
    · as_aux_lemma =>
        go_wp2_with fail
        go_meet
        exact ⟨_, _, _, _, _, _, _, _, _, _, _, _, _, _, rfl, rfl, two_d t3 bx2 (by omega), Num.put (x3.mono (add_new _ _)) (bx2.mono (add_new _ _)) (.bool s2) (.slice a2 m2 k2) (.slice e2 d4 l2), Num.put (y3.mono (add_new _ _)) (bx2.mono (add_new _ _)) (.bool s2) (.slice a2 m2 k2) (.slice e2 d4 l2), Num.put (x2.mono (add_new _ _)) (bx2.mono (add_new _ _)) (.bool s2) (.slice a2 m2 k2) (.slice e2 d4 l2), Num.put (y2.mono (add_new _ _)) (bx2.mono (add_new _ _)) (.bool s2) (.slice a2 m2 k2) (.slice e2 d4 l2)⟩
    · as_aux_lemma =>
        go_wp2_with fail
        go_meet
        exact ⟨_, _, _, _, _, _, _, _, _, _, _, _, _, _, rfl, rfl, two_e t3 by2 bx2 (by omega) (by omega) (by omega), Num.put (Num.put (x3) by2 (.bool s1) (.slice a1 n1 k1) (.slice e1 d1 l1)) (Box.other2 bx2 (by omega) (.bool s1) (.slice a1 n1 k1) (.slice e1 d1 l1)) (.bool s2) (.slice a2 m2 k2) (.slice e2 d4 l2), Num.put (Num.put (y3) by2 (.bool s1) (.slice a1 n1 k1) (.slice e1 d1 l1)) (Box.other2 bx2 (by omega) (.bool s1) (.slice a1 n1 k1) (.slice e1 d1 l1)) (.bool s2) (.slice a2 m2 k2) (.slice e2 d4 l2), Num.put (Num.put (x2) by2 (.bool s1) (.slice a1 n1 k1) (.slice e1 d1 l1)) (Box.other2 bx2 (by omega) (.bool s1) (.slice a1 n1 k1) (.slice e1 d1 l1)) (.bool s2) (.slice a2 m2 k2) (.slice e2 d4 l2), Num.put (Num.put (y2) by2 (.bool s1) (.slice a1 n1 k1) (.slice e1 d1 l1)) (Box.other2 bx2 (by omega) (.bool s1) (.slice a1 n1 k1) (.slice e1 d1 l1)) (.bool s2) (.slice a2 m2 k2) (.slice e2 d4 l2)⟩
    · as_aux_lemma =>
        go_wp2_with fail
        go_meet
        exact ⟨_, _, _, _, _, _, _, _, _, _, _, _, _, _, rfl, rfl, two_c t3 bx2 (by omega), Num.put (Num.put (x3.mono (add_new _ _)) (bx2.mono (add_new _ _)) (.bool s1) (.slice a1 n1 k1) (.slice e1 d1 l1)) (Box.other2 (box_new ..) (by have := bx2.lt; omega) (.bool s1) (.slice a1 n1 k1) (.slice e1 d1 l1)) (.bool s2) (.slice a2 m2 k2) (.slice e2 d4 l2), Num.put (Num.put (y3.mono (add_new _ _)) (bx2.mono (add_new _ _)) (.bool s1) (.slice a1 n1 k1) (.slice e1 d1 l1)) (Box.other2 (box_new ..) (by have := bx2.lt; omega) (.bool s1) (.slice a1 n1 k1) (.slice e1 d1 l1)) (.bool s2) (.slice a2 m2 k2) (.slice e2 d4 l2), Num.put (Num.put (x2.mono (add_new _ _)) (bx2.mono (add_new _ _)) (.bool s1) (.slice a1 n1 k1) (.slice e1 d1 l1)) (Box.other2 (box_new ..) (by have := bx2.lt; omega) (.bool s1) (.slice a1 n1 k1) (.slice e1 d1 l1)) (.bool s2) (.slice a2 m2 k2) (.slice e2 d4 l2), Num.put (Num.put (y2.mono (add_new _ _)) (bx2.mono (add_new _ _)) (.bool s1) (.slice a1 n1 k1) (.slice e1 d1 l1)) (Box.other2 (box_new ..) (by have := bx2.lt; omega) (.bool s1) (.slice a1 n1 k1) (.slice e1 d1 l1)) (.bool s2) (.slice a2 m2 k2) (.slice e2 d4 l2)⟩
    · as_aux_lemma =>
        go_wp2_with fail
        go_meet
        exact ⟨_, _, _, _, _, _, _, _, _, _, _, _, _, _, rfl, rfl, two_e t3 bx2 by2 (by omega) (by omega) (by omega), Num.put (Num.put (x3) bx2 (.bool s1) (.slice a1 n1 k1) (.slice e1 d1 l1)) (Box.other2 by2 (by omega) (.bool s1) (.slice a1 n1 k1) (.slice e1 d1 l1)) (.bool s2) (.slice a2 m2 k2) (.slice e2 d4 l2), Num.put (Num.put (y3) bx2 (.bool s1) (.slice a1 n1 k1) (.slice e1 d1 l1)) (Box.other2 by2 (by omega) (.bool s1) (.slice a1 n1 k1) (.slice e1 d1 l1)) (.bool s2) (.slice a2 m2 k2) (.slice e2 d4 l2), Num.put (Num.put (x2) bx2 (.bool s1) (.slice a1 n1 k1) (.slice e1 d1 l1)) (Box.other2 by2 (by omega) (.bool s1) (.slice a1 n1 k1) (.slice e1 d1 l1)) (.bool s2) (.slice a2 m2 k2) (.slice e2 d4 l2), Num.put (Num.put (y2) bx2 (.bool s1) (.slice a1 n1 k1) (.slice e1 d1 l1)) (Box.other2 by2 (by omega) (.bool s1) (.slice a1 n1 k1) (.slice e1 d1 l1)) (.bool s2) (.slice a2 m2 k2) (.slice e2 d4 l2)⟩
    · as_aux_lemma =>
        go_wp2_with fail
        go_meet
        exact ⟨_, _, _, _, _, _, _, _, _, _, _, _, _, _, rfl, rfl, two_e t3 bx2 by2 (by omega) (by omega) (by omega), Num.put (Num.put (x3) bx2 (.bool s1) (.slice a1 n1 k1) (.slice e1 d1 l1)) (Box.other2 by2 (by omega) (.bool s1) (.slice a1 n1 k1) (.slice e1 d1 l1)) (.bool s2) (.slice a2 m2 k2) (.slice e2 d4 l2), Num.put (Num.put (y3) bx2 (.bool s1) (.slice a1 n1 k1) (.slice e1 d1 l1)) (Box.other2 by2 (by omega) (.bool s1) (.slice a1 n1 k1) (.slice e1 d1 l1)) (.bool s2) (.slice a2 m2 k2) (.slice e2 d4 l2), Num.put (Num.put (x2) bx2 (.bool s1) (.slice a1 n1 k1) (.slice e1 d1 l1)) (Box.other2 by2 (by omega) (.bool s1) (.slice a1 n1 k1) (.slice e1 d1 l1)) (.bool s2) (.slice a2 m2 k2) (.slice e2 d4 l2), Num.put (Num.put (y2) bx2 (.bool s1) (.slice a1 n1 k1) (.slice e1 d1 l1)) (Box.other2 by2 (by omega) (.bool s1) (.slice a1 n1 k1) (.slice e1 d1 l1)) (.bool s2) (.slice a2 m2 k2) (.slice e2 d4 l2)⟩
    · as_aux_lemma =>
        go_wp2_with fail
        go_meet
        exact ⟨_, _, _, _, _, _, _, _, _, _, _, _, _, _, rfl, rfl, two_d t3 bx2 (by omega), Num.put (x3.mono (add_new _ _)) (bx2.mono (add_new _ _)) (.bool s2) (.slice a2 m2 k2) (.slice e2 d4 l2), Num.put (y3.mono (add_new _ _)) (bx2.mono (add_new _ _)) (.bool s2) (.slice a2 m2 k2) (.slice e2 d4 l2), Num.put (x2.mono (add_new _ _)) (bx2.mono (add_new _ _)) (.bool s2) (.slice a2 m2 k2) (.slice e2 d4 l2), Num.put (y2.mono (add_new _ _)) (bx2.mono (add_new _ _)) (.bool s2) (.slice a2 m2 k2) (.slice e2 d4 l2)⟩
    · as_aux_lemma =>
        go_wp2_with fail
        go_meet
        exact ⟨_, _, _, _, _, _, _, _, _, _, _, _, _, _, rfl, rfl, two_e t3 by2 bx2 (by omega) (by omega) (by omega), Num.put (Num.put (x3) by2 (.bool s1) (.slice a1 n1 k1) (.slice e1 d1 l1)) (Box.other2 bx2 (by omega) (.bool s1) (.slice a1 n1 k1) (.slice e1 d1 l1)) (.bool s2) (.slice a2 m2 k2) (.slice e2 d4 l2), Num.put (Num.put (y3) by2 (.bool s1) (.slice a1 n1 k1) (.slice e1 d1 l1)) (Box.other2 bx2 (by omega) (.bool s1) (.slice a1 n1 k1) (.slice e1 d1 l1)) (.bool s2) (.slice a2 m2 k2) (.slice e2 d4 l2), Num.put (Num.put (x2) by2 (.bool s1) (.slice a1 n1 k1) (.slice e1 d1 l1)) (Box.other2 bx2 (by omega) (.bool s1) (.slice a1 n1 k1) (.slice e1 d1 l1)) (.bool s2) (.slice a2 m2 k2) (.slice e2 d4 l2), Num.put (Num.put (y2) by2 (.bool s1) (.slice a1 n1 k1) (.slice e1 d1 l1)) (Box.other2 bx2 (by omega) (.bool s1) (.slice a1 n1 k1) (.slice e1 d1 l1)) (.bool s2) (.slice a2 m2 k2) (.slice e2 d4 l2)⟩
    · as_aux_lemma =>
        go_wp2_with fail
        go_meet
        exact ⟨_, _, _, _, _, _, _, _, _, _, _, _, _, _, rfl, rfl, two_e t3 by2 bx2 (by omega) (by omega) (by omega), Num.put (Num.put (x3) by2 (.bool s1) (.slice a1 n1 k1) (.slice e1 d1 l1)) (Box.other2 bx2 (by omega) (.bool s1) (.slice a1 n1 k1) (.slice e1 d1 l1)) (.bool s2) (.slice a2 m2 k2) (.slice e2 d4 l2), Num.put (Num.put (y3) by2 (.bool s1) (.slice a1 n1 k1) (.slice e1 d1 l1)) (Box.other2 bx2 (by omega) (.bool s1) (.slice a1 n1 k1) (.slice e1 d1 l1)) (.bool s2) (.slice a2 m2 k2) (.slice e2 d4 l2), Num.put (Num.put (x2) by2 (.bool s1) (.slice a1 n1 k1) (.slice e1 d1 l1)) (Box.other2 bx2 (by omega) (.bool s1) (.slice a1 n1 k1) (.slice e1 d1 l1)) (.bool s2) (.slice a2 m2 k2) (.slice e2 d4 l2), Num.put (Num.put (y2) by2 (.bool s1) (.slice a1 n1 k1) (.slice e1 d1 l1)) (Box.other2 bx2 (by omega) (.bool s1) (.slice a1 n1 k1) (.slice e1 d1 l1)) (.bool s2) (.slice a2 m2 k2) (.slice e2 d4 l2)⟩
    · as_aux_lemma =>
        go_wp2_with fail
        go_meet
        exact ⟨_, _, _, _, _, _, _, _, _, _, _, _, _, _, rfl, rfl, two_c t3 bx2 (by omega), Num.put (Num.put (x3.mono (add_new _ _)) (bx2.mono (add_new _ _)) (.bool s1) (.slice a1 n1 k1) (.slice e1 d1 l1)) (Box.other2 (box_new ..) (by have := bx2.lt; omega) (.bool s1) (.slice a1 n1 k1) (.slice e1 d1 l1)) (.bool s2) (.slice a2 m2 k2) (.slice e2 d4 l2), Num.put (Num.put (y3.mono (add_new _ _)) (bx2.mono (add_new _ _)) (.bool s1) (.slice a1 n1 k1) (.slice e1 d1 l1)) (Box.other2 (box_new ..) (by have := bx2.lt; omega) (.bool s1) (.slice a1 n1 k1) (.slice e1 d1 l1)) (.bool s2) (.slice a2 m2 k2) (.slice e2 d4 l2), Num.put (Num.put (x2.mono (add_new _ _)) (bx2.mono (add_new _ _)) (.bool s1) (.slice a1 n1 k1) (.slice e1 d1 l1)) (Box.other2 (box_new ..) (by have := bx2.lt; omega) (.bool s1) (.slice a1 n1 k1) (.slice e1 d1 l1)) (.bool s2) (.slice a2 m2 k2) (.slice e2 d4 l2), Num.put (Num.put (y2.mono (add_new _ _)) (bx2.mono (add_new _ _)) (.bool s1) (.slice a1 n1 k1) (.slice e1 d1 l1)) (Box.other2 (box_new ..) (by have := bx2.lt; omega) (.bool s1) (.slice a1 n1 k1) (.slice e1 d1 l1)) (.bool s2) (.slice a2 m2 k2) (.slice e2 d4 l2)⟩
    · as_aux_lemma =>
        go_wp2_with fail
        go_meet
        exact ⟨_, _, _, _, _, _, _, _, _, _, _, _, _, _, rfl, rfl, two_e t3 bx2 by2 (by omega) (by omega) (by omega), Num.put (Num.put (x3) bx2 (.bool s1) (.slice a1 n1 k1) (.slice e1 d1 l1)) (Box.other2 by2 (by omega) (.bool s1) (.slice a1 n1 k1) (.slice e1 d1 l1)) (.bool s2) (.slice a2 m2 k2) (.slice e2 d4 l2), Num.put (Num.put (y3) bx2 (.bool s1) (.slice a1 n1 k1) (.slice e1 d1 l1)) (Box.other2 by2 (by omega) (.bool s1) (.slice a1 n1 k1) (.slice e1 d1 l1)) (.bool s2) (.slice a2 m2 k2) (.slice e2 d4 l2), Num.put (Num.put (x2) bx2 (.bool s1) (.slice a1 n1 k1) (.slice e1 d1 l1)) (Box.other2 by2 (by omega) (.bool s1) (.slice a1 n1 k1) (.slice e1 d1 l1)) (.bool s2) (.slice a2 m2 k2) (.slice e2 d4 l2), Num.put (Num.put (y2) bx2 (.bool s1) (.slice a1 n1 k1) (.slice e1 d1 l1)) (Box.other2 by2 (by omega) (.bool s1) (.slice a1 n1 k1) (.slice e1 d1 l1)) (.bool s2) (.slice a2 m2 k2) (.slice e2 d4 l2)⟩
    · as_aux_lemma =>
        go_wp2_with fail
        go_meet
        exact ⟨_, _, _, _, _, _, _, _, _, _, _, _, _, _, rfl, rfl, two_e t3 bx2 by2 (by omega) (by omega) (by omega), Num.put (Num.put (x3) bx2 (.bool s1) (.slice a1 n1 k1) (.slice e1 d1 l1)) (Box.other2 by2 (by omega) (.bool s1) (.slice a1 n1 k1) (.slice e1 d1 l1)) (.bool s2) (.slice a2 m2 k2) (.slice e2 d4 l2), Num.put (Num.put (y3) bx2 (.bool s1) (.slice a1 n1 k1) (.slice e1 d1 l1)) (Box.other2 by2 (by omega) (.bool s1) (.slice a1 n1 k1) (.slice e1 d1 l1)) (.bool s2) (.slice a2 m2 k2) (.slice e2 d4 l2), Num.put (Num.put (x2) bx2 (.bool s1) (.slice a1 n1 k1) (.slice e1 d1 l1)) (Box.other2 by2 (by omega) (.bool s1) (.slice a1 n1 k1) (.slice e1 d1 l1)) (.bool s2) (.slice a2 m2 k2) (.slice e2 d4 l2), Num.put (Num.put (y2) bx2 (.bool s1) (.slice a1 n1 k1) (.slice e1 d1 l1)) (Box.other2 by2 (by omega) (.bool s1) (.slice a1 n1 k1) (.slice e1 d1 l1)) (.bool s2) (.slice a2 m2 k2) (.slice e2 d4 l2)⟩
    · as_aux_lemma =>
        go_wp2_with fail
        go_meet
        exact ⟨_, _, _, _, _, _, _, _, _, _, _, _, _, _, rfl, rfl, two_c t3 bx2 (by omega), Num.put (Num.put (x3.mono (add_new _ _)) (bx2.mono (add_new _ _)) (.bool s1) (.slice a1 n1 k1) (.slice e1 d1 l1)) (Box.other2 (box_new ..) (by have := bx2.lt; omega) (.bool s1) (.slice a1 n1 k1) (.slice e1 d1 l1)) (.bool s2) (.slice a2 m2 k2) (.slice e2 d4 l2), Num.put (Num.put (y3.mono (add_new _ _)) (bx2.mono (add_new _ _)) (.bool s1) (.slice a1 n1 k1) (.slice e1 d1 l1)) (Box.other2 (box_new ..) (by have := bx2.lt; omega) (.bool s1) (.slice a1 n1 k1) (.slice e1 d1 l1)) (.bool s2) (.slice a2 m2 k2) (.slice e2 d4 l2), Num.put (Num.put (x2.mono (add_new _ _)) (bx2.mono (add_new _ _)) (.bool s1) (.slice a1 n1 k1) (.slice e1 d1 l1)) (Box.other2 (box_new ..) (by have := bx2.lt; omega) (.bool s1) (.slice a1 n1 k1) (.slice e1 d1 l1)) (.bool s2) (.slice a2 m2 k2) (.slice e2 d4 l2), Num.put (Num.put (y2.mono (add_new _ _)) (bx2.mono (add_new _ _)) (.bool s1) (.slice a1 n1 k1) (.slice e1 d1 l1)) (Box.other2 (box_new ..) (by have := bx2.lt; omega) (.bool s1) (.slice a1 n1 k1) (.slice e1 d1 l1)) (.bool s2) (.slice a2 m2 k2) (.slice e2 d4 l2)⟩
    · as_aux_lemma =>
        go_wp2_with fail
        go_meet
        exact ⟨_, _, _, _, _, _, _, _, _, _, _, _, _, _, rfl, rfl, two_e t3 bx2 by2 (by omega) (by omega) (by omega), Num.put (Num.put (x3) bx2 (.bool s1) (.slice a1 n1 k1) (.slice e1 d1 l1)) (Box.other2 by2 (by omega) (.bool s1) (.slice a1 n1 k1) (.slice e1 d1 l1)) (.bool s2) (.slice a2 m2 k2) (.slice e2 d4 l2), Num.put (Num.put (y3) bx2 (.bool s1) (.slice a1 n1 k1) (.slice e1 d1 l1)) (Box.other2 by2 (by omega) (.bool s1) (.slice a1 n1 k1) (.slice e1 d1 l1)) (.bool s2) (.slice a2 m2 k2) (.slice e2 d4 l2), Num.put (Num.put (x2) bx2 (.bool s1) (.slice a1 n1 k1) (.slice e1 d1 l1)) (Box.other2 by2 (by omega) (.bool s1) (.slice a1 n1 k1) (.slice e1 d1 l1)) (.bool s2) (.slice a2 m2 k2) (.slice e2 d4 l2), Num.put (Num.put (y2) bx2 (.bool s1) (.slice a1 n1 k1) (.slice e1 d1 l1)) (Box.other2 by2 (by omega) (.bool s1) (.slice a1 n1 k1) (.slice e1 d1 l1)) (.bool s2) (.slice a2 m2 k2) (.slice e2 d4 l2)⟩
    · as_aux_lemma =>
        go_wp2_with fail
        go_meet
        exact ⟨_, _, _, _, _, _, _, _, _, _, _, _, _, _, rfl, rfl, two_e t3 bx2 by2 (by omega) (by omega) (by omega), Num.put (Num.put (x3) bx2 (.bool s1) (.slice a1 n1 k1) (.slice e1 d1 l1)) (Box.other2 by2 (by omega) (.bool s1) (.slice a1 n1 k1) (.slice e1 d1 l1)) (.bool s2) (.slice a2 m2 k2) (.slice e2 d4 l2), Num.put (Num.put (y3) bx2 (.bool s1) (.slice a1 n1 k1) (.slice e1 d1 l1)) (Box.other2 by2 (by omega) (.bool s1) (.slice a1 n1 k1) (.slice e1 d1 l1)) (.bool s2) (.slice a2 m2 k2) (.slice e2 d4 l2), Num.put (Num.put (x2) bx2 (.bool s1) (.slice a1 n1 k1) (.slice e1 d1 l1)) (Box.other2 by2 (by omega) (.bool s1) (.slice a1 n1 k1) (.slice e1 d1 l1)) (.bool s2) (.slice a2 m2 k2) (.slice e2 d4 l2), Num.put (Num.put (y2) bx2 (.bool s1) (.slice a1 n1 k1) (.slice e1 d1 l1)) (Box.other2 by2 (by omega) (.bool s1) (.slice a1 n1 k1) (.slice e1 d1 l1)) (.bool s2) (.slice a2 m2 k2) (.slice e2 d4 l2)⟩
    · as_aux_lemma =>
        go_wp2_with fail
        go_meet
        exact ⟨_, _, _, _, _, _, _, _, _, _, _, _, _, _, rfl, rfl, two_e t3 bx2 by2 (by omega) (by omega) (by omega), Num.put (Num.put (x3) bx2 (.bool s1) (.slice a1 n1 k1) (.slice e1 d1 l1)) (Box.other2 by2 (by omega) (.bool s1) (.slice a1 n1 k1) (.slice e1 d1 l1)) (.bool s2) (.slice a2 m2 k2) (.slice e2 d4 l2), Num.put (Num.put (y3) bx2 (.bool s1) (.slice a1 n1 k1) (.slice e1 d1 l1)) (Box.other2 by2 (by omega) (.bool s1) (.slice a1 n1 k1) (.slice e1 d1 l1)) (.bool s2) (.slice a2 m2 k2) (.slice e2 d4 l2), Num.put (Num.put (x2) bx2 (.bool s1) (.slice a1 n1 k1) (.slice e1 d1 l1)) (Box.other2 by2 (by omega) (.bool s1) (.slice a1 n1 k1) (.slice e1 d1 l1)) (.bool s2) (.slice a2 m2 k2) (.slice e2 d4 l2), Num.put (Num.put (y2) bx2 (.bool s1) (.slice a1 n1 k1) (.slice e1 d1 l1)) (Box.other2 by2 (by omega) (.bool s1) (.slice a1 n1 k1) (.slice e1 d1 l1)) (.bool s2) (.slice a2 m2 k2) (.slice e2 d4 l2)⟩
    · as_aux_lemma =>
        go_wp2_with fail
        go_meet
        exact ⟨_, _, _, _, _, _, _, _, _, _, _, _, _, _, rfl, rfl, two_e t3 bx2 by2 (by omega) (by omega) (by omega), Num.put (Num.put (x3) bx2 (.bool s1) (.slice a1 n1 k1) (.slice e1 d1 l1)) (Box.other2 by2 (by omega) (.bool s1) (.slice a1 n1 k1) (.slice e1 d1 l1)) (.bool s2) (.slice a2 m2 k2) (.slice e2 d4 l2), Num.put (Num.put (y3) bx2 (.bool s1) (.slice a1 n1 k1) (.slice e1 d1 l1)) (Box.other2 by2 (by omega) (.bool s1) (.slice a1 n1 k1) (.slice e1 d1 l1)) (.bool s2) (.slice a2 m2 k2) (.slice e2 d4 l2), Num.put (Num.put (x2) bx2 (.bool s1) (.slice a1 n1 k1) (.slice e1 d1 l1)) (Box.other2 by2 (by omega) (.bool s1) (.slice a1 n1 k1) (.slice e1 d1 l1)) (.bool s2) (.slice a2 m2 k2) (.slice e2 d4 l2), Num.put (Num.put (y2) bx2 (.bool s1) (.slice a1 n1 k1) (.slice e1 d1 l1)) (Box.other2 by2 (by omega) (.bool s1) (.slice a1 n1 k1) (.slice e1 d1 l1)) (.bool s2) (.slice a2 m2 k2) (.slice e2 d4 l2)⟩
    · as_aux_lemma =>
        go_wp2_with fail
        go_meet
        exact ⟨_, _, _, _, _, _, _, _, _, _, _, _, _, _, rfl, rfl, two_d t3 bx2 (by omega), Num.put (x3.mono (add_new _ _)) (bx2.mono (add_new _ _)) (.bool s2) (.slice a2 m2 k2) (.slice e2 d4 l2), Num.put (y3.mono (add_new _ _)) (bx2.mono (add_new _ _)) (.bool s2) (.slice a2 m2 k2) (.slice e2 d4 l2), Num.put (x2.mono (add_new _ _)) (bx2.mono (add_new _ _)) (.bool s2) (.slice a2 m2 k2) (.slice e2 d4 l2), Num.put (y2.mono (add_new _ _)) (bx2.mono (add_new _ _)) (.bool s2) (.slice a2 m2 k2) (.slice e2 d4 l2)⟩
    · as_aux_lemma =>
        go_wp2_with fail
        go_meet
        exact ⟨_, _, _, _, _, _, _, _, _, _, _, _, _, _, rfl, rfl, two_e t3 by2 bx2 (by omega) (by omega) (by omega), Num.put (Num.put (x3) by2 (.bool s1) (.slice a1 n1 k1) (.slice e1 d1 l1)) (Box.other2 bx2 (by omega) (.bool s1) (.slice a1 n1 k1) (.slice e1 d1 l1)) (.bool s2) (.slice a2 m2 k2) (.slice e2 d4 l2), Num.put (Num.put (y3) by2 (.bool s1) (.slice a1 n1 k1) (.slice e1 d1 l1)) (Box.other2 bx2 (by omega) (.bool s1) (.slice a1 n1 k1) (.slice e1 d1 l1)) (.bool s2) (.slice a2 m2 k2) (.slice e2 d4 l2), Num.put (Num.put (x2) by2 (.bool s1) (.slice a1 n1 k1) (.slice e1 d1 l1)) (Box.other2 bx2 (by omega) (.bool s1) (.slice a1 n1 k1) (.slice e1 d1 l1)) (.bool s2) (.slice a2 m2 k2) (.slice e2 d4 l2), Num.put (Num.put (y2) by2 (.bool s1) (.slice a1 n1 k1) (.slice e1 d1 l1)) (Box.other2 bx2 (by omega) (.bool s1) (.slice a1 n1 k1) (.slice e1 d1 l1)) (.bool s2) (.slice a2 m2 k2) (.slice e2 d4 l2)⟩
    · as_aux_lemma =>
        go_wp2_with fail
        go_meet
        exact ⟨_, _, _, _, _, _, _, _, _, _, _, _, _, _, rfl, rfl, two_e t3 by2 bx2 (by omega) (by omega) (by omega), Num.put (Num.put (x3) by2 (.bool s1) (.slice a1 n1 k1) (.slice e1 d1 l1)) (Box.other2 bx2 (by omega) (.bool s1) (.slice a1 n1 k1) (.slice e1 d1 l1)) (.bool s2) (.slice a2 m2 k2) (.slice e2 d4 l2), Num.put (Num.put (y3) by2 (.bool s1) (.slice a1 n1 k1) (.slice e1 d1 l1)) (Box.other2 bx2 (by omega) (.bool s1) (.slice a1 n1 k1) (.slice e1 d1 l1)) (.bool s2) (.slice a2 m2 k2) (.slice e2 d4 l2), Num.put (Num.put (x2) by2 (.bool s1) (.slice a1 n1 k1) (.slice e1 d1 l1)) (Box.other2 bx2 (by omega) (.bool s1) (.slice a1 n1 k1) (.slice e1 d1 l1)) (.bool s2) (.slice a2 m2 k2) (.slice e2 d4 l2), Num.put (Num.put (y2) by2 (.bool s1) (.slice a1 n1 k1) (.slice e1 d1 l1)) (Box.other2 bx2 (by omega) (.bool s1) (.slice a1 n1 k1) (.slice e1 d1 l1)) (.bool s2) (.slice a2 m2 k2) (.slice e2 d4 l2)⟩
    · as_aux_lemma =>
        go_wp2_with fail
        go_meet
        exact ⟨_, _, _, _, _, _, _, _, _, _, _, _, _, _, rfl, rfl, two_d t3 bx2 (by omega), Num.put (x3.mono (add_new _ _)) (bx2.mono (add_new _ _)) (.bool s2) (.slice a2 m2 k2) (.slice e2 d4 l2), Num.put (y3.mono (add_new _ _)) (bx2.mono (add_new _ _)) (.bool s2) (.slice a2 m2 k2) (.slice e2 d4 l2), Num.put (x2.mono (add_new _ _)) (bx2.mono (add_new _ _)) (.bool s2) (.slice a2 m2 k2) (.slice e2 d4 l2), Num.put (y2.mono (add_new _ _)) (bx2.mono (add_new _ _)) (.bool s2) (.slice a2 m2 k2) (.slice e2 d4 l2)⟩
    · as_aux_lemma =>
        go_wp2_with fail
        go_meet
        exact ⟨_, _, _, _, _, _, _, _, _, _, _, _, _, _, rfl, rfl, two_e t3 by2 bx2 (by omega) (by omega) (by omega), Num.put (Num.put (x3) by2 (.bool s1) (.slice a1 n1 k1) (.slice e1 d1 l1)) (Box.other2 bx2 (by omega) (.bool s1) (.slice a1 n1 k1) (.slice e1 d1 l1)) (.bool s2) (.slice a2 m2 k2) (.slice e2 d4 l2), Num.put (Num.put (y3) by2 (.bool s1) (.slice a1 n1 k1) (.slice e1 d1 l1)) (Box.other2 bx2 (by omega) (.bool s1) (.slice a1 n1 k1) (.slice e1 d1 l1)) (.bool s2) (.slice a2 m2 k2) (.slice e2 d4 l2), Num.put (Num.put (x2) by2 (.bool s1) (.slice a1 n1 k1) (.slice e1 d1 l1)) (Box.other2 bx2 (by omega) (.bool s1) (.slice a1 n1 k1) (.slice e1 d1 l1)) (.bool s2) (.slice a2 m2 k2) (.slice e2 d4 l2), Num.put (Num.put (y2) by2 (.bool s1) (.slice a1 n1 k1) (.slice e1 d1 l1)) (Box.other2 bx2 (by omega) (.bool s1) (.slice a1 n1 k1) (.slice e1 d1 l1)) (.bool s2) (.slice a2 m2 k2) (.slice e2 d4 l2)⟩
    · as_aux_lemma =>
        go_wp2_with fail
        go_meet
        exact ⟨_, _, _, _, _, _, _, _, _, _, _, _, _, _, rfl, rfl, two_e t3 by2 bx2 (by omega) (by omega) (by omega), Num.put (Num.put (x3) by2 (.bool s1) (.slice a1 n1 k1) (.slice e1 d1 l1)) (Box.other2 bx2 (by omega) (.bool s1) (.slice a1 n1 k1) (.slice e1 d1 l1)) (.bool s2) (.slice a2 m2 k2) (.slice e2 d4 l2), Num.put (Num.put (y3) by2 (.bool s1) (.slice a1 n1 k1) (.slice e1 d1 l1)) (Box.other2 bx2 (by omega) (.bool s1) (.slice a1 n1 k1) (.slice e1 d1 l1)) (.bool s2) (.slice a2 m2 k2) (.slice e2 d4 l2), Num.put (Num.put (x2) by2 (.bool s1) (.slice a1 n1 k1) (.slice e1 d1 l1)) (Box.other2 bx2 (by omega) (.bool s1) (.slice a1 n1 k1) (.slice e1 d1 l1)) (.bool s2) (.slice a2 m2 k2) (.slice e2 d4 l2), Num.put (Num.put (y2) by2 (.bool s1) (.slice a1 n1 k1) (.slice e1 d1 l1)) (Box.other2 bx2 (by omega) (.bool s1) (.slice a1 n1 k1) (.slice e1 d1 l1)) (.bool s2) (.slice a2 m2 k2) (.slice e2 d4 l2)⟩
    · as_aux_lemma =>
        go_wp2_with fail
        go_meet
        exact ⟨_, _, _, _, _, _, _, _, _, _, _, _, _, _, rfl, rfl, two_e t3 by2 bx2 (by omega) (by omega) (by omega), Num.put (Num.put (x3) by2 (.bool s1) (.slice a1 n1 k1) (.slice e1 d1 l1)) (Box.other2 bx2 (by omega) (.bool s1) (.slice a1 n1 k1) (.slice e1 d1 l1)) (.bool s2) (.slice a2 m2 k2) (.slice e2 d4 l2), Num.put (Num.put (y3) by2 (.bool s1) (.slice a1 n1 k1) (.slice e1 d1 l1)) (Box.other2 bx2 (by omega) (.bool s1) (.slice a1 n1 k1) (.slice e1 d1 l1)) (.bool s2) (.slice a2 m2 k2) (.slice e2 d4 l2), Num.put (Num.put (x2) by2 (.bool s1) (.slice a1 n1 k1) (.slice e1 d1 l1)) (Box.other2 bx2 (by omega) (.bool s1) (.slice a1 n1 k1) (.slice e1 d1 l1)) (.bool s2) (.slice a2 m2 k2) (.slice e2 d4 l2), Num.put (Num.put (y2) by2 (.bool s1) (.slice a1 n1 k1) (.slice e1 d1 l1)) (Box.other2 bx2 (by omega) (.bool s1) (.slice a1 n1 k1) (.slice e1 d1 l1)) (.bool s2) (.slice a2 m2 k2) (.slice e2 d4 l2)⟩
    · as_aux_lemma =>
        go_wp2_with fail
        go_meet
        exact ⟨_, _, _, _, _, _, _, _, _, _, _, _, _, _, rfl, rfl, two_e t3 by2 bx2 (by omega) (by omega) (by omega), Num.put (Num.put (x3) by2 (.bool s1) (.slice a1 n1 k1) (.slice e1 d1 l1)) (Box.other2 bx2 (by omega) (.bool s1) (.slice a1 n1 k1) (.slice e1 d1 l1)) (.bool s2) (.slice a2 m2 k2) (.slice e2 d4 l2), Num.put (Num.put (y3) by2 (.bool s1) (.slice a1 n1 k1) (.slice e1 d1 l1)) (Box.other2 bx2 (by omega) (.bool s1) (.slice a1 n1 k1) (.slice e1 d1 l1)) (.bool s2) (.slice a2 m2 k2) (.slice e2 d4 l2), Num.put (Num.put (x2) by2 (.bool s1) (.slice a1 n1 k1) (.slice e1 d1 l1)) (Box.other2 bx2 (by omega) (.bool s1) (.slice a1 n1 k1) (.slice e1 d1 l1)) (.bool s2) (.slice a2 m2 k2) (.slice e2 d4 l2), Num.put (Num.put (y2) by2 (.bool s1) (.slice a1 n1 k1) (.slice e1 d1 l1)) (Box.other2 bx2 (by omega) (.bool s1) (.slice a1 n1 k1) (.slice e1 d1 l1)) (.bool s2) (.slice a2 m2 k2) (.slice e2 d4 l2)⟩
    · as_aux_lemma =>
        go_wp2_with fail
        go_meet
        exact ⟨_, _, _, _, _, _, _, _, _, _, _, _, _, _, rfl, rfl, two_a t3, (x3.mono (add_new _ _)).mono (add_new _ _), (y3.mono (add_new _ _)).mono (add_new _ _), (x2.mono (add_new _ _)).mono (add_new _ _), (y2.mono (add_new _ _)).mono (add_new _ _)⟩
    · as_aux_lemma =>
        go_wp2_with fail
        go_meet
        exact ⟨_, _, _, _, _, _, _, _, _, _, _, _, _, _, rfl, rfl, two_b t3, (x3.mono (add_new _ _)).mono (add_new _ _), (y3.mono (add_new _ _)).mono (add_new _ _), (x2.mono (add_new _ _)).mono (add_new _ _), (y2.mono (add_new _ _)).mono (add_new _ _)⟩
    · as_aux_lemma =>
        go_wp2_with fail
        go_meet
        exact ⟨_, _, _, _, _, _, _, _, _, _, _, _, _, _, rfl, rfl, two_c t3 bx2 (by omega), Num.put (Num.put (x3.mono (add_new _ _)) (bx2.mono (add_new _ _)) (.bool s1) (.slice a1 n1 k1) (.slice e1 d1 l1)) (Box.other2 (box_new ..) (by have := bx2.lt; omega) (.bool s1) (.slice a1 n1 k1) (.slice e1 d1 l1)) (.bool s2) (.slice a2 m2 k2) (.slice e2 d4 l2), Num.put (Num.put (y3.mono (add_new _ _)) (bx2.mono (add_new _ _)) (.bool s1) (.slice a1 n1 k1) (.slice e1 d1 l1)) (Box.other2 (box_new ..) (by have := bx2.lt; omega) (.bool s1) (.slice a1 n1 k1) (.slice e1 d1 l1)) (.bool s2) (.slice a2 m2 k2) (.slice e2 d4 l2), Num.put (Num.put (x2.mono (add_new _ _)) (bx2.mono (add_new _ _)) (.bool s1) (.slice a1 n1 k1) (.slice e1 d1 l1)) (Box.other2 (box_new ..) (by have := bx2.lt; omega) (.bool s1) (.slice a1 n1 k1) (.slice e1 d1 l1)) (.bool s2) (.slice a2 m2 k2) (.slice e2 d4 l2), Num.put (Num.put (y2.mono (add_new _ _)) (bx2.mono (add_new _ _)) (.bool s1) (.slice a1 n1 k1) (.slice e1 d1 l1)) (Box.other2 (box_new ..) (by have := bx2.lt; omega) (.bool s1) (.slice a1 n1 k1) (.slice e1 d1 l1)) (.bool s2) (.slice a2 m2 k2) (.slice e2 d4 l2)⟩
    · as_aux_lemma =>
        go_wp2_with fail
        go_meet
        exact ⟨_, _, _, _, _, _, _, _, _, _, _, _, _, _, rfl, rfl, two_e t3 bx2 by2 (by omega) (by omega) (by omega), Num.put (Num.put (x3) bx2 (.bool s1) (.slice a1 n1 k1) (.slice e1 d1 l1)) (Box.other2 by2 (by omega) (.bool s1) (.slice a1 n1 k1) (.slice e1 d1 l1)) (.bool s2) (.slice a2 m2 k2) (.slice e2 d4 l2), Num.put (Num.put (y3) bx2 (.bool s1) (.slice a1 n1 k1) (.slice e1 d1 l1)) (Box.other2 by2 (by omega) (.bool s1) (.slice a1 n1 k1) (.slice e1 d1 l1)) (.bool s2) (.slice a2 m2 k2) (.slice e2 d4 l2), Num.put (Num.put (x2) bx2 (.bool s1) (.slice a1 n1 k1) (.slice e1 d1 l1)) (Box.other2 by2 (by omega) (.bool s1) (.slice a1 n1 k1) (.slice e1 d1 l1)) (.bool s2) (.slice a2 m2 k2) (.slice e2 d4 l2), Num.put (Num.put (y2) bx2 (.bool s1) (.slice a1 n1 k1) (.slice e1 d1 l1)) (Box.other2 by2 (by omega) (.bool s1) (.slice a1 n1 k1) (.slice e1 d1 l1)) (.bool s2) (.slice a2 m2 k2) (.slice e2 d4 l2)⟩
    · as_aux_lemma =>
        go_wp2_with fail
        go_meet
        exact ⟨_, _, _, _, _, _, _, _, _, _, _, _, _, _, rfl, rfl, two_d t3 bx2 (by omega), Num.put (x3.mono (add_new _ _)) (bx2.mono (add_new _ _)) (.bool s2) (.slice a2 m2 k2) (.slice e2 d4 l2), Num.put (y3.mono (add_new _ _)) (bx2.mono (add_new _ _)) (.bool s2) (.slice a2 m2 k2) (.slice e2 d4 l2), Num.put (x2.mono (add_new _ _)) (bx2.mono (add_new _ _)) (.bool s2) (.slice a2 m2 k2) (.slice e2 d4 l2), Num.put (y2.mono (add_new _ _)) (bx2.mono (add_new _ _)) (.bool s2) (.slice a2 m2 k2) (.slice e2 d4 l2)⟩
    · as_aux_lemma =>
        go_wp2_with fail
        go_meet
        exact ⟨_, _, _, _, _, _, _, _, _, _, _, _, _, _, rfl, rfl, two_e t3 by2 bx2 (by omega) (by omega) (by omega), Num.put (Num.put (x3) by2 (.bool s1) (.slice a1 n1 k1) (.slice e1 d1 l1)) (Box.other2 bx2 (by omega) (.bool s1) (.slice a1 n1 k1) (.slice e1 d1 l1)) (.bool s2) (.slice a2 m2 k2) (.slice e2 d4 l2), Num.put (Num.put (y3) by2 (.bool s1) (.slice a1 n1 k1) (.slice e1 d1 l1)) (Box.other2 bx2 (by omega) (.bool s1) (.slice a1 n1 k1) (.slice e1 d1 l1)) (.bool s2) (.slice a2 m2 k2) (.slice e2 d4 l2), Num.put (Num.put (x2) by2 (.bool s1) (.slice a1 n1 k1) (.slice e1 d1 l1)) (Box.other2 bx2 (by omega) (.bool s1) (.slice a1 n1 k1) (.slice e1 d1 l1)) (.bool s2) (.slice a2 m2 k2) (.slice e2 d4 l2), Num.put (Num.put (y2) by2 (.bool s1) (.slice a1 n1 k1) (.slice e1 d1 l1)) (Box.other2 bx2 (by omega) (.bool s1) (.slice a1 n1 k1) (.slice e1 d1 l1)) (.bool s2) (.slice a2 m2 k2) (.slice e2 d4 l2)⟩
    · as_aux_lemma =>
        go_wp2_with fail
        go_meet
        exact ⟨_, _, _, _, _, _, _, _, _, _, _, _, _, _, rfl, rfl, two_c t3 bx2 (by omega), Num.put (Num.put (x3.mono (add_new _ _)) (bx2.mono (add_new _ _)) (.bool s1) (.slice a1 n1 k1) (.slice e1 d1 l1)) (Box.other2 (box_new ..) (by have := bx2.lt; omega) (.bool s1) (.slice a1 n1 k1) (.slice e1 d1 l1)) (.bool s2) (.slice a2 m2 k2) (.slice e2 d4 l2), Num.put (Num.put (y3.mono (add_new _ _)) (bx2.mono (add_new _ _)) (.bool s1) (.slice a1 n1 k1) (.slice e1 d1 l1)) (Box.other2 (box_new ..) (by have := bx2.lt; omega) (.bool s1) (.slice a1 n1 k1) (.slice e1 d1 l1)) (.bool s2) (.slice a2 m2 k2) (.slice e2 d4 l2), Num.put (Num.put (x2.mono (add_new _ _)) (bx2.mono (add_new _ _)) (.bool s1) (.slice a1 n1 k1) (.slice e1 d1 l1)) (Box.other2 (box_new ..) (by have := bx2.lt; omega) (.bool s1) (.slice a1 n1 k1) (.slice e1 d1 l1)) (.bool s2) (.slice a2 m2 k2) (.slice e2 d4 l2), Num.put (Num.put (y2.mono (add_new _ _)) (bx2.mono (add_new _ _)) (.bool s1) (.slice a1 n1 k1) (.slice e1 d1 l1)) (Box.other2 (box_new ..) (by have := bx2.lt; omega) (.bool s1) (.slice a1 n1 k1) (.slice e1 d1 l1)) (.bool s2) (.slice a2 m2 k2) (.slice e2 d4 l2)⟩
    · as_aux_lemma =>
        go_wp2_with fail
        go_meet
        exact ⟨_, _, _, _, _, _, _, _, _, _, _, _, _, _, rfl, rfl, two_e t3 bx2 by2 (by omega) (by omega) (by omega), Num.put (Num.put (x3) bx2 (.bool s1) (.slice a1 n1 k1) (.slice e1 d1 l1)) (Box.other2 by2 (by omega) (.bool s1) (.slice a1 n1 k1) (.slice e1 d1 l1)) (.bool s2) (.slice a2 m2 k2) (.slice e2 d4 l2), Num.put (Num.put (y3) bx2 (.bool s1) (.slice a1 n1 k1) (.slice e1 d1 l1)) (Box.other2 by2 (by omega) (.bool s1) (.slice a1 n1 k1) (.slice e1 d1 l1)) (.bool s2) (.slice a2 m2 k2) (.slice e2 d4 l2), Num.put (Num.put (x2) bx2 (.bool s1) (.slice a1 n1 k1) (.slice e1 d1 l1)) (Box.other2 by2 (by omega) (.bool s1) (.slice a1 n1 k1) (.slice e1 d1 l1)) (.bool s2) (.slice a2 m2 k2) (.slice e2 d4 l2), Num.put (Num.put (y2) bx2 (.bool s1) (.slice a1 n1 k1) (.slice e1 d1 l1)) (Box.other2 by2 (by omega) (.bool s1) (.slice a1 n1 k1) (.slice e1 d1 l1)) (.bool s2) (.slice a2 m2 k2) (.slice e2 d4 l2)⟩
    · as_aux_lemma =>
        go_wp2_with fail
        go_meet
        exact ⟨_, _, _, _, _, _, _, _, _, _, _, _, _, _, rfl, rfl, two_e t3 bx2 by2 (by omega) (by omega) (by omega), Num.put (Num.put (x3) bx2 (.bool s1) (.slice a1 n1 k1) (.slice e1 d1 l1)) (Box.other2 by2 (by omega) (.bool s1) (.slice a1 n1 k1) (.slice e1 d1 l1)) (.bool s2) (.slice a2 m2 k2) (.slice e2 d4 l2), Num.put (Num.put (y3) bx2 (.bool s1) (.slice a1 n1 k1) (.slice e1 d1 l1)) (Box.other2 by2 (by omega) (.bool s1) (.slice a1 n1 k1) (.slice e1 d1 l1)) (.bool s2) (.slice a2 m2 k2) (.slice e2 d4 l2), Num.put (Num.put (x2) bx2 (.bool s1) (.slice a1 n1 k1) (.slice e1 d1 l1)) (Box.other2 by2 (by omega) (.bool s1) (.slice a1 n1 k1) (.slice e1 d1 l1)) (.bool s2) (.slice a2 m2 k2) (.slice e2 d4 l2), Num.put (Num.put (y2) bx2 (.bool s1) (.slice a1 n1 k1) (.slice e1 d1 l1)) (Box.other2 by2 (by omega) (.bool s1) (.slice a1 n1 k1) (.slice e1 d1 l1)) (.bool s2) (.slice a2 m2 k2) (.slice e2 d4 l2)⟩
    · as_aux_lemma =>
        go_wp2_with fail
        go_meet
        exact ⟨_, _, _, _, _, _, _, _, _, _, _, _, _, _, rfl, rfl, two_d t3 bx2 (by omega), Num.put (x3.mono (add_new _ _)) (bx2.mono (add_new _ _)) (.bool s2) (.slice a2 m2 k2) (.slice e2 d4 l2), Num.put (y3.mono (add_new _ _)) (bx2.mono (add_new _ _)) (.bool s2) (.slice a2 m2 k2) (.slice e2 d4 l2), Num.put (x2.mono (add_new _ _)) (bx2.mono (add_new _ _)) (.bool s2) (.slice a2 m2 k2) (.slice e2 d4 l2), Num.put (y2.mono (add_new _ _)) (bx2.mono (add_new _ _)) (.bool s2) (.slice a2 m2 k2) (.slice e2 d4 l2)⟩
    · as_aux_lemma =>
        go_wp2_with fail
        go_meet
        exact ⟨_, _, _, _, _, _, _, _, _, _, _, _, _, _, rfl, rfl, two_e t3 by2 bx2 (by omega) (by omega) (by omega), Num.put (Num.put (x3) by2 (.bool s1) (.slice a1 n1 k1) (.slice e1 d1 l1)) (Box.other2 bx2 (by omega) (.bool s1) (.slice a1 n1 k1) (.slice e1 d1 l1)) (.bool s2) (.slice a2 m2 k2) (.slice e2 d4 l2), Num.put (Num.put (y3) by2 (.bool s1) (.slice a1 n1 k1) (.slice e1 d1 l1)) (Box.other2 bx2 (by omega) (.bool s1) (.slice a1 n1 k1) (.slice e1 d1 l1)) (.bool s2) (.slice a2 m2 k2) (.slice e2 d4 l2), Num.put (Num.put (x2) by2 (.bool s1) (.slice a1 n1 k1) (.slice e1 d1 l1)) (Box.other2 bx2 (by omega) (.bool s1) (.slice a1 n1 k1) (.slice e1 d1 l1)) (.bool s2) (.slice a2 m2 k2) (.slice e2 d4 l2), Num.put (Num.put (y2) by2 (.bool s1) (.slice a1 n1 k1) (.slice e1 d1 l1)) (Box.other2 bx2 (by omega) (.bool s1) (.slice a1 n1 k1) (.slice e1 d1 l1)) (.bool s2) (.slice a2 m2 k2) (.slice e2 d4 l2)⟩
    · as_aux_lemma =>
        go_wp2_with fail
        go_meet
        exact ⟨_, _, _, _, _, _, _, _, _, _, _, _, _, _, rfl, rfl, two_e t3 by2 bx2 (by omega) (by omega) (by omega), Num.put (Num.put (x3) by2 (.bool s1) (.slice a1 n1 k1) (.slice e1 d1 l1)) (Box.other2 bx2 (by omega) (.bool s1) (.slice a1 n1 k1) (.slice e1 d1 l1)) (.bool s2) (.slice a2 m2 k2) (.slice e2 d4 l2), Num.put (Num.put (y3) by2 (.bool s1) (.slice a1 n1 k1) (.slice e1 d1 l1)) (Box.other2 bx2 (by omega) (.bool s1) (.slice a1 n1 k1) (.slice e1 d1 l1)) (.bool s2) (.slice a2 m2 k2) (.slice e2 d4 l2), Num.put (Num.put (x2) by2 (.bool s1) (.slice a1 n1 k1) (.slice e1 d1 l1)) (Box.other2 bx2 (by omega) (.bool s1) (.slice a1 n1 k1) (.slice e1 d1 l1)) (.bool s2) (.slice a2 m2 k2) (.slice e2 d4 l2), Num.put (Num.put (y2) by2 (.bool s1) (.slice a1 n1 k1) (.slice e1 d1 l1)) (Box.other2 bx2 (by omega) (.bool s1) (.slice a1 n1 k1) (.slice e1 d1 l1)) (.bool s2) (.slice a2 m2 k2) (.slice e2 d4 l2)⟩
    · as_aux_lemma =>
        go_wp2_with fail
        go_meet
        exact ⟨_, _, _, _, _, _, _, _, _, _, _, _, _, _, rfl, rfl, two_c t3 bx2 (by omega), Num.put (Num.put (x3.mono (add_new _ _)) (bx2.mono (add_new _ _)) (.bool s1) (.slice a1 n1 k1) (.slice e1 d1 l1)) (Box.other2 (box_new ..) (by have := bx2.lt; omega) (.bool s1) (.slice a1 n1 k1) (.slice e1 d1 l1)) (.bool s2) (.slice a2 m2 k2) (.slice e2 d4 l2), Num.put (Num.put (y3.mono (add_new _ _)) (bx2.mono (add_new _ _)) (.bool s1) (.slice a1 n1 k1) (.slice e1 d1 l1)) (Box.other2 (box_new ..) (by have := bx2.lt; omega) (.bool s1) (.slice a1 n1 k1) (.slice e1 d1 l1)) (.bool s2) (.slice a2 m2 k2) (.slice e2 d4 l2), Num.put (Num.put (x2.mono (add_new _ _)) (bx2.mono (add_new _ _)) (.bool s1) (.slice a1 n1 k1) (.slice e1 d1 l1)) (Box.other2 (box_new ..) (by have := bx2.lt; omega) (.bool s1) (.slice a1 n1 k1) (.slice e1 d1 l1)) (.bool s2) (.slice a2 m2 k2) (.slice e2 d4 l2), Num.put (Num.put (y2.mono (add_new _ _)) (bx2.mono (add_new _ _)) (.bool s1) (.slice a1 n1 k1) (.slice e1 d1 l1)) (Box.other2 (box_new ..) (by have := bx2.lt; omega) (.bool s1) (.slice a1 n1 k1) (.slice e1 d1 l1)) (.bool s2) (.slice a2 m2 k2) (.slice e2 d4 l2)⟩
    · as_aux_lemma =>
        go_wp2_with fail
        go_meet
        exact ⟨_, _, _, _, _, _, _, _, _, _, _, _, _, _, rfl, rfl, two_e t3 bx2 by2 (by omega) (by omega) (by omega), Num.put (Num.put (x3) bx2 (.bool s1) (.slice a1 n1 k1) (.slice e1 d1 l1)) (Box.other2 by2 (by omega) (.bool s1) (.slice a1 n1 k1) (.slice e1 d1 l1)) (.bool s2) (.slice a2 m2 k2) (.slice e2 d4 l2), Num.put (Num.put (y3) bx2 (.bool s1) (.slice a1 n1 k1) (.slice e1 d1 l1)) (Box.other2 by2 (by omega) (.bool s1) (.slice a1 n1 k1) (.slice e1 d1 l1)) (.bool s2) (.slice a2 m2 k2) (.slice e2 d4 l2), Num.put (Num.put (x2) bx2 (.bool s1) (.slice a1 n1 k1) (.slice e1 d1 l1)) (Box.other2 by2 (by omega) (.bool s1) (.slice a1 n1 k1) (.slice e1 d1 l1)) (.bool s2) (.slice a2 m2 k2) (.slice e2 d4 l2), Num.put (Num.put (y2) bx2 (.bool s1) (.slice a1 n1 k1) (.slice e1 d1 l1)) (Box.other2 by2 (by omega) (.bool s1) (.slice a1 n1 k1) (.slice e1 d1 l1)) (.bool s2) (.slice a2 m2 k2) (.slice e2 d4 l2)⟩
    · as_aux_lemma =>
        go_wp2_with fail
        go_meet
        exact ⟨_, _, _, _, _, _, _, _, _, _, _, _, _, _, rfl, rfl, two_e t3 bx2 by2 (by omega) (by omega) (by omega), Num.put (Num.put (x3) bx2 (.bool s1) (.slice a1 n1 k1) (.slice e1 d1 l1)) (Box.other2 by2 (by omega) (.bool s1) (.slice a1 n1 k1) (.slice e1 d1 l1)) (.bool s2) (.slice a2 m2 k2) (.slice e2 d4 l2), Num.put (Num.put (y3) bx2 (.bool s1) (.slice a1 n1 k1) (.slice e1 d1 l1)) (Box.other2 by2 (by omega) (.bool s1) (.slice a1 n1 k1) (.slice e1 d1 l1)) (.bool s2) (.slice a2 m2 k2) (.slice e2 d4 l2), Num.put (Num.put (x2) bx2 (.bool s1) (.slice a1 n1 k1) (.slice e1 d1 l1)) (Box.other2 by2 (by omega) (.bool s1) (.slice a1 n1 k1) (.slice e1 d1 l1)) (.bool s2) (.slice a2 m2 k2) (.slice e2 d4 l2), Num.put (Num.put (y2) bx2 (.bool s1) (.slice a1 n1 k1) (.slice e1 d1 l1)) (Box.other2 by2 (by omega) (.bool s1) (.slice a1 n1 k1) (.slice e1 d1 l1)) (.bool s2) (.slice a2 m2 k2) (.slice e2 d4 l2)⟩
    · as_aux_lemma =>
        go_wp2_with fail
        go_meet
        exact ⟨_, _, _, _, _, _, _, _, _, _, _, _, _, _, rfl, rfl, two_e t3 bx2 by2 (by omega) (by omega) (by omega), Num.put (Num.put (x3) bx2 (.bool s1) (.slice a1 n1 k1) (.slice e1 d1 l1)) (Box.other2 by2 (by omega) (.bool s1) (.slice a1 n1 k1) (.slice e1 d1 l1)) (.bool s2) (.slice a2 m2 k2) (.slice e2 d4 l2), Num.put (Num.put (y3) bx2 (.bool s1) (.slice a1 n1 k1) (.slice e1 d1 l1)) (Box.other2 by2 (by omega) (.bool s1) (.slice a1 n1 k1) (.slice e1 d1 l1)) (.bool s2) (.slice a2 m2 k2) (.slice e2 d4 l2), Num.put (Num.put (x2) bx2 (.bool s1) (.slice a1 n1 k1) (.slice e1 d1 l1)) (Box.other2 by2 (by omega) (.bool s1) (.slice a1 n1 k1) (.slice e1 d1 l1)) (.bool s2) (.slice a2 m2 k2) (.slice e2 d4 l2), Num.put (Num.put (y2) bx2 (.bool s1) (.slice a1 n1 k1) (.slice e1 d1 l1)) (Box.other2 by2 (by omega) (.bool s1) (.slice a1 n1 k1) (.slice e1 d1 l1)) (.bool s2) (.slice a2 m2 k2) (.slice e2 d4 l2)⟩
    · as_aux_lemma =>
        go_wp2_with fail
        go_meet
        exact ⟨_, _, _, _, _, _, _, _, _, _, _, _, _, _, rfl, rfl, two_d t3 bx2 (by omega), Num.put (x3.mono (add_new _ _)) (bx2.mono (add_new _ _)) (.bool s2) (.slice a2 m2 k2) (.slice e2 d4 l2), Num.put (y3.mono (add_new _ _)) (bx2.mono (add_new _ _)) (.bool s2) (.slice a2 m2 k2) (.slice e2 d4 l2), Num.put (x2.mono (add_new _ _)) (bx2.mono (add_new _ _)) (.bool s2) (.slice a2 m2 k2) (.slice e2 d4 l2), Num.put (y2.mono (add_new _ _)) (bx2.mono (add_new _ _)) (.bool s2) (.slice a2 m2 k2) (.slice e2 d4 l2)⟩
    · as_aux_lemma =>
        go_wp2_with fail
        go_meet
        exact ⟨_, _, _, _, _, _, _, _, _, _, _, _, _, _, rfl, rfl, two_e t3 by2 bx2 (by omega) (by omega) (by omega), Num.put (Num.put (x3) by2 (.bool s1) (.slice a1 n1 k1) (.slice e1 d1 l1)) (Box.other2 bx2 (by omega) (.bool s1) (.slice a1 n1 k1) (.slice e1 d1 l1)) (.bool s2) (.slice a2 m2 k2) (.slice e2 d4 l2), Num.put (Num.put (y3) by2 (.bool s1) (.slice a1 n1 k1) (.slice e1 d1 l1)) (Box.other2 bx2 (by omega) (.bool s1) (.slice a1 n1 k1) (.slice e1 d1 l1)) (.bool s2) (.slice a2 m2 k2) (.slice e2 d4 l2), Num.put (Num.put (x2) by2 (.bool s1) (.slice a1 n1 k1) (.slice e1 d1 l1)) (Box.other2 bx2 (by omega) (.bool s1) (.slice a1 n1 k1) (.slice e1 d1 l1)) (.bool s2) (.slice a2 m2 k2) (.slice e2 d4 l2), Num.put (Num.put (y2) by2 (.bool s1) (.slice a1 n1 k1) (.slice e1 d1 l1)) (Box.other2 bx2 (by omega) (.bool s1) (.slice a1 n1 k1) (.slice e1 d1 l1)) (.bool s2) (.slice a2 m2 k2) (.slice e2 d4 l2)⟩
    · as_aux_lemma =>
        go_wp2_with fail
        go_meet
        exact ⟨_, _, _, _, _, _, _, _, _, _, _, _, _, _, rfl, rfl, two_e t3 by2 bx2 (by omega) (by omega) (by omega), Num.put (Num.put (x3) by2 (.bool s1) (.slice a1 n1 k1) (.slice e1 d1 l1)) (Box.other2 bx2 (by omega) (.bool s1) (.slice a1 n1 k1) (.slice e1 d1 l1)) (.bool s2) (.slice a2 m2 k2) (.slice e2 d4 l2), Num.put (Num.put (y3) by2 (.bool s1) (.slice a1 n1 k1) (.slice e1 d1 l1)) (Box.other2 bx2 (by omega) (.bool s1) (.slice a1 n1 k1) (.slice e1 d1 l1)) (.bool s2) (.slice a2 m2 k2) (.slice e2 d4 l2), Num.put (Num.put (x2) by2 (.bool s1) (.slice a1 n1 k1) (.slice e1 d1 l1)) (Box.other2 bx2 (by omega) (.bool s1) (.slice a1 n1 k1) (.slice e1 d1 l1)) (.bool s2) (.slice a2 m2 k2) (.slice e2 d4 l2), Num.put (Num.put (y2) by2 (.bool s1) (.slice a1 n1 k1) (.slice e1 d1 l1)) (Box.other2 bx2 (by omega) (.bool s1) (.slice a1 n1 k1) (.slice e1 d1 l1)) (.bool s2) (.slice a2 m2 k2) (.slice e2 d4 l2)⟩
    · as_aux_lemma =>
        go_wp2_with fail
        go_meet
        exact ⟨_, _, _, _, _, _, _, _, _, _, _, _, _, _, rfl, rfl, two_e t3 by2 bx2 (by omega) (by omega) (by omega), Num.put (Num.put (x3) by2 (.bool s1) (.slice a1 n1 k1) (.slice e1 d1 l1)) (Box.other2 bx2 (by omega) (.bool s1) (.slice a1 n1 k1) (.slice e1 d1 l1)) (.bool s2) (.slice a2 m2 k2) (.slice e2 d4 l2), Num.put (Num.put (y3) by2 (.bool s1) (.slice a1 n1 k1) (.slice e1 d1 l1)) (Box.other2 bx2 (by omega) (.bool s1) (.slice a1 n1 k1) (.slice e1 d1 l1)) (.bool s2) (.slice a2 m2 k2) (.slice e2 d4 l2), Num.put (Num.put (x2) by2 (.bool s1) (.slice a1 n1 k1) (.slice e1 d1 l1)) (Box.other2 bx2 (by omega) (.bool s1) (.slice a1 n1 k1) (.slice e1 d1 l1)) (.bool s2) (.slice a2 m2 k2) (.slice e2 d4 l2), Num.put (Num.put (y2) by2 (.bool s1) (.slice a1 n1 k1) (.slice e1 d1 l1)) (Box.other2 bx2 (by omega) (.bool s1) (.slice a1 n1 k1) (.slice e1 d1 l1)) (.bool s2) (.slice a2 m2 k2) (.slice e2 d4 l2)⟩
    · as_aux_lemma =>
        go_wp2_with fail
        go_meet
        exact ⟨_, _, _, _, _, _, _, _, _, _, _, _, _, _, rfl, rfl, two_c t3 bx2 (by omega), Num.put (Num.put (x3.mono (add_new _ _)) (bx2.mono (add_new _ _)) (.bool s1) (.slice a1 n1 k1) (.slice e1 d1 l1)) (Box.other2 (box_new ..) (by have := bx2.lt; omega) (.bool s1) (.slice a1 n1 k1) (.slice e1 d1 l1)) (.bool s2) (.slice a2 m2 k2) (.slice e2 d4 l2), Num.put (Num.put (y3.mono (add_new _ _)) (bx2.mono (add_new _ _)) (.bool s1) (.slice a1 n1 k1) (.slice e1 d1 l1)) (Box.other2 (box_new ..) (by have := bx2.lt; omega) (.bool s1) (.slice a1 n1 k1) (.slice e1 d1 l1)) (.bool s2) (.slice a2 m2 k2) (.slice e2 d4 l2), Num.put (Num.put (x2.mono (add_new _ _)) (bx2.mono (add_new _ _)) (.bool s1) (.slice a1 n1 k1) (.slice e1 d1 l1)) (Box.other2 (box_new ..) (by have := bx2.lt; omega) (.bool s1) (.slice a1 n1 k1) (.slice e1 d1 l1)) (.bool s2) (.slice a2 m2 k2) (.slice e2 d4 l2), Num.put (Num.put (y2.mono (add_new _ _)) (bx2.mono (add_new _ _)) (.bool s1) (.slice a1 n1 k1) (.slice e1 d1 l1)) (Box.other2 (box_new ..) (by have := bx2.lt; omega) (.bool s1) (.slice a1 n1 k1) (.slice e1 d1 l1)) (.bool s2) (.slice a2 m2 k2) (.slice e2 d4 l2)⟩
    · as_aux_lemma =>
        go_wp2_with fail
        go_meet
        exact ⟨_, _, _, _, _, _, _, _, _, _, _, _, _, _, rfl, rfl, two_e t3 bx2 by2 (by omega) (by omega) (by omega), Num.put (Num.put (x3) bx2 (.bool s1) (.slice a1 n1 k1) (.slice e1 d1 l1)) (Box.other2 by2 (by omega) (.bool s1) (.slice a1 n1 k1) (.slice e1 d1 l1)) (.bool s2) (.slice a2 m2 k2) (.slice e2 d4 l2), Num.put (Num.put (y3) bx2 (.bool s1) (.slice a1 n1 k1) (.slice e1 d1 l1)) (Box.other2 by2 (by omega) (.bool s1) (.slice a1 n1 k1) (.slice e1 d1 l1)) (.bool s2) (.slice a2 m2 k2) (.slice e2 d4 l2), Num.put (Num.put (x2) bx2 (.bool s1) (.slice a1 n1 k1) (.slice e1 d1 l1)) (Box.other2 by2 (by omega) (.bool s1) (.slice a1 n1 k1) (.slice e1 d1 l1)) (.bool s2) (.slice a2 m2 k2) (.slice e2 d4 l2), Num.put (Num.put (y2) bx2 (.bool s1) (.slice a1 n1 k1) (.slice e1 d1 l1)) (Box.other2 by2 (by omega) (.bool s1) (.slice a1 n1 k1) (.slice e1 d1 l1)) (.bool s2) (.slice a2 m2 k2) (.slice e2 d4 l2)⟩
    · as_aux_lemma =>
        go_wp2_with fail
        go_meet
        exact ⟨_, _, _, _, _, _, _, _, _, _, _, _, _, _, rfl, rfl, two_e t3 bx2 by2 (by omega) (by omega) (by omega), Num.put (Num.put (x3) bx2 (.bool s1) (.slice a1 n1 k1) (.slice e1 d1 l1)) (Box.other2 by2 (by omega) (.bool s1) (.slice a1 n1 k1) (.slice e1 d1 l1)) (.bool s2) (.slice a2 m2 k2) (.slice e2 d4 l2), Num.put (Num.put (y3) bx2 (.bool s1) (.slice a1 n1 k1) (.slice e1 d1 l1)) (Box.other2 by2 (by omega) (.bool s1) (.slice a1 n1 k1) (.slice e1 d1 l1)) (.bool s2) (.slice a2 m2 k2) (.slice e2 d4 l2), Num.put (Num.put (x2) bx2 (.bool s1) (.slice a1 n1 k1) (.slice e1 d1 l1)) (Box.other2 by2 (by omega) (.bool s1) (.slice a1 n1 k1) (.slice e1 d1 l1)) (.bool s2) (.slice a2 m2 k2) (.slice e2 d4 l2), Num.put (Num.put (y2) bx2 (.bool s1) (.slice a1 n1 k1) (.slice e1 d1 l1)) (Box.other2 by2 (by omega) (.bool s1) (.slice a1 n1 k1) (.slice e1 d1 l1)) (.bool s2) (.slice a2 m2 k2) (.slice e2 d4 l2)⟩
    · as_aux_lemma =>
        go_wp2_with fail
        go_meet
        exact ⟨_, _, _, _, _, _, _, _, _, _, _, _, _, _, rfl, rfl, two_c t3 bx2 (by omega), Num.put (Num.put (x3.mono (add_new _ _)) (bx2.mono (add_new _ _)) (.bool s1) (.slice a1 n1 k1) (.slice e1 d1 l1)) (Box.other2 (box_new ..) (by have := bx2.lt; omega) (.bool s1) (.slice a1 n1 k1) (.slice e1 d1 l1)) (.bool s2) (.slice a2 m2 k2) (.slice e2 d4 l2), Num.put (Num.put (y3.mono (add_new _ _)) (bx2.mono (add_new _ _)) (.bool s1) (.slice a1 n1 k1) (.slice e1 d1 l1)) (Box.other2 (box_new ..) (by have := bx2.lt; omega) (.bool s1) (.slice a1 n1 k1) (.slice e1 d1 l1)) (.bool s2) (.slice a2 m2 k2) (.slice e2 d4 l2), Num.put (Num.put (x2.mono (add_new _ _)) (bx2.mono (add_new _ _)) (.bool s1) (.slice a1 n1 k1) (.slice e1 d1 l1)) (Box.other2 (box_new ..) (by have := bx2.lt; omega) (.bool s1) (.slice a1 n1 k1) (.slice e1 d1 l1)) (.bool s2) (.slice a2 m2 k2) (.slice e2 d4 l2), Num.put (Num.put (y2.mono (add_new _ _)) (bx2.mono (add_new _ _)) (.bool s1) (.slice a1 n1 k1) (.slice e1 d1 l1)) (Box.other2 (box_new ..) (by have := bx2.lt; omega) (.bool s1) (.slice a1 n1 k1) (.slice e1 d1 l1)) (.bool s2) (.slice a2 m2 k2) (.slice e2 d4 l2)⟩
    · as_aux_lemma =>
        go_wp2_with fail
        go_meet
        exact ⟨_, _, _, _, _, _, _, _, _, _, _, _, _, _, rfl, rfl, two_e t3 bx2 by2 (by omega) (by omega) (by omega), Num.put (Num.put (x3) bx2 (.bool s1) (.slice a1 n1 k1) (.slice e1 d1 l1)) (Box.other2 by2 (by omega) (.bool s1) (.slice a1 n1 k1) (.slice e1 d1 l1)) (.bool s2) (.slice a2 m2 k2) (.slice e2 d4 l2), Num.put (Num.put (y3) bx2 (.bool s1) (.slice a1 n1 k1) (.slice e1 d1 l1)) (Box.other2 by2 (by omega) (.bool s1) (.slice a1 n1 k1) (.slice e1 d1 l1)) (.bool s2) (.slice a2 m2 k2) (.slice e2 d4 l2), Num.put (Num.put (x2) bx2 (.bool s1) (.slice a1 n1 k1) (.slice e1 d1 l1)) (Box.other2 by2 (by omega) (.bool s1) (.slice a1 n1 k1) (.slice e1 d1 l1)) (.bool s2) (.slice a2 m2 k2) (.slice e2 d4 l2), Num.put (Num.put (y2) bx2 (.bool s1) (.slice a1 n1 k1) (.slice e1 d1 l1)) (Box.other2 by2 (by omega) (.bool s1) (.slice a1 n1 k1) (.slice e1 d1 l1)) (.bool s2) (.slice a2 m2 k2) (.slice e2 d4 l2)⟩
    · as_aux_lemma =>
        go_wp2_with fail
        go_meet
        exact ⟨_, _, _, _, _, _, _, _, _, _, _, _, _, _, rfl, rfl, two_e t3 bx2 by2 (by omega) (by omega) (by omega), Num.put (Num.put (x3) bx2 (.bool s1) (.slice a1 n1 k1) (.slice e1 d1 l1)) (Box.other2 by2 (by omega) (.bool s1) (.slice a1 n1 k1) (.slice e1 d1 l1)) (.bool s2) (.slice a2 m2 k2) (.slice e2 d4 l2), Num.put (Num.put (y3) bx2 (.bool s1) (.slice a1 n1 k1) (.slice e1 d1 l1)) (Box.other2 by2 (by omega) (.bool s1) (.slice a1 n1 k1) (.slice e1 d1 l1)) (.bool s2) (.slice a2 m2 k2) (.slice e2 d4 l2), Num.put (Num.put (x2) bx2 (.bool s1) (.slice a1 n1 k1) (.slice e1 d1 l1)) (Box.other2 by2 (by omega) (.bool s1) (.slice a1 n1 k1) (.slice e1 d1 l1)) (.bool s2) (.slice a2 m2 k2) (.slice e2 d4 l2), Num.put (Num.put (y2) bx2 (.bool s1) (.slice a1 n1 k1) (.slice e1 d1 l1)) (Box.other2 by2 (by omega) (.bool s1) (.slice a1 n1 k1) (.slice e1 d1 l1)) (.bool s2) (.slice a2 m2 k2) (.slice e2 d4 l2)⟩
    · as_aux_lemma =>
        go_wp2_with fail
        go_meet
        exact ⟨_, _, _, _, _, _, _, _, _, _, _, _, _, _, rfl, rfl, two_e t3 bx2 by2 (by omega) (by omega) (by omega), Num.put (Num.put (x3) bx2 (.bool s1) (.slice a1 n1 k1) (.slice e1 d1 l1)) (Box.other2 by2 (by omega) (.bool s1) (.slice a1 n1 k1) (.slice e1 d1 l1)) (.bool s2) (.slice a2 m2 k2) (.slice e2 d4 l2), Num.put (Num.put (y3) bx2 (.bool s1) (.slice a1 n1 k1) (.slice e1 d1 l1)) (Box.other2 by2 (by omega) (.bool s1) (.slice a1 n1 k1) (.slice e1 d1 l1)) (.bool s2) (.slice a2 m2 k2) (.slice e2 d4 l2), Num.put (Num.put (x2) bx2 (.bool s1) (.slice a1 n1 k1) (.slice e1 d1 l1)) (Box.other2 by2 (by omega) (.bool s1) (.slice a1 n1 k1) (.slice e1 d1 l1)) (.bool s2) (.slice a2 m2 k2) (.slice e2 d4 l2), Num.put (Num.put (y2) bx2 (.bool s1) (.slice a1 n1 k1) (.slice e1 d1 l1)) (Box.other2 by2 (by omega) (.bool s1) (.slice a1 n1 k1) (.slice e1 d1 l1)) (.bool s2) (.slice a2 m2 k2) (.slice e2 d4 l2)⟩
    · as_aux_lemma =>
        go_wp2_with fail
        go_meet
        exact ⟨_, _, _, _, _, _, _, _, _, _, _, _, _, _, rfl, rfl, two_e t3 bx2 by2 (by omega) (by omega) (by omega), Num.put (Num.put (x3) bx2 (.bool s1) (.slice a1 n1 k1) (.slice e1 d1 l1)) (Box.other2 by2 (by omega) (.bool s1) (.slice a1 n1 k1) (.slice e1 d1 l1)) (.bool s2) (.slice a2 m2 k2) (.slice e2 d4 l2), Num.put (Num.put (y3) bx2 (.bool s1) (.slice a1 n1 k1) (.slice e1 d1 l1)) (Box.other2 by2 (by omega) (.bool s1) (.slice a1 n1 k1) (.slice e1 d1 l1)) (.bool s2) (.slice a2 m2 k2) (.slice e2 d4 l2), Num.put (Num.put (x2) bx2 (.bool s1) (.slice a1 n1 k1) (.slice e1 d1 l1)) (Box.other2 by2 (by omega) (.bool s1) (.slice a1 n1 k1) (.slice e1 d1 l1)) (.bool s2) (.slice a2 m2 k2) (.slice e2 d4 l2), Num.put (Num.put (y2) bx2 (.bool s1) (.slice a1 n1 k1) (.slice e1 d1 l1)) (Box.other2 by2 (by omega) (.bool s1) (.slice a1 n1 k1) (.slice e1 d1 l1)) (.bool s2) (.slice a2 m2 k2) (.slice e2 d4 l2)⟩
    · as_aux_lemma =>
        go_wp2_with fail
        go_meet
        exact ⟨_, _, _, _, _, _, _, _, _, _, _, _, _, _, rfl, rfl, two_c t3 bx2 (by omega), Num.put (Num.put (x3.mono (add_new _ _)) (bx2.mono (add_new _ _)) (.bool s1) (.slice a1 n1 k1) (.slice e1 d1 l1)) (Box.other2 (box_new ..) (by have := bx2.lt; omega) (.bool s1) (.slice a1 n1 k1) (.slice e1 d1 l1)) (.bool s2) (.slice a2 m2 k2) (.slice e2 d4 l2), Num.put (Num.put (y3.mono (add_new _ _)) (bx2.mono (add_new _ _)) (.bool s1) (.slice a1 n1 k1) (.slice e1 d1 l1)) (Box.other2 (box_new ..) (by have := bx2.lt; omega) (.bool s1) (.slice a1 n1 k1) (.slice e1 d1 l1)) (.bool s2) (.slice a2 m2 k2) (.slice e2 d4 l2), Num.put (Num.put (x2.mono (add_new _ _)) (bx2.mono (add_new _ _)) (.bool s1) (.slice a1 n1 k1) (.slice e1 d1 l1)) (Box.other2 (box_new ..) (by have := bx2.lt; omega) (.bool s1) (.slice a1 n1 k1) (.slice e1 d1 l1)) (.bool s2) (.slice a2 m2 k2) (.slice e2 d4 l2), Num.put (Num.put (y2.mono (add_new _ _)) (bx2.mono (add_new _ _)) (.bool s1) (.slice a1 n1 k1) (.slice e1 d1 l1)) (Box.other2 (box_new ..) (by have := bx2.lt; omega) (.bool s1) (.slice a1 n1 k1) (.slice e1 d1 l1)) (.bool s2) (.slice a2 m2 k2) (.slice e2 d4 l2)⟩
    · as_aux_lemma =>
        go_wp2_with fail
        go_meet
        exact ⟨_, _, _, _, _, _, _, _, _, _, _, _, _, _, rfl, rfl, two_e t3 bx2 by2 (by omega) (by omega) (by omega), Num.put (Num.put (x3) bx2 (.bool s1) (.slice a1 n1 k1) (.slice e1 d1 l1)) (Box.other2 by2 (by omega) (.bool s1) (.slice a1 n1 k1) (.slice e1 d1 l1)) (.bool s2) (.slice a2 m2 k2) (.slice e2 d4 l2), Num.put (Num.put (y3) bx2 (.bool s1) (.slice a1 n1 k1) (.slice e1 d1 l1)) (Box.other2 by2 (by omega) (.bool s1) (.slice a1 n1 k1) (.slice e1 d1 l1)) (.bool s2) (.slice a2 m2 k2) (.slice e2 d4 l2), Num.put (Num.put (x2) bx2 (.bool s1) (.slice a1 n1 k1) (.slice e1 d1 l1)) (Box.other2 by2 (by omega) (.bool s1) (.slice a1 n1 k1) (.slice e1 d1 l1)) (.bool s2) (.slice a2 m2 k2) (.slice e2 d4 l2), Num.put (Num.put (y2) bx2 (.bool s1) (.slice a1 n1 k1) (.slice e1 d1 l1)) (Box.other2 by2 (by omega) (.bool s1) (.slice a1 n1 k1) (.slice e1 d1 l1)) (.bool s2) (.slice a2 m2 k2) (.slice e2 d4 l2)⟩
    · as_aux_lemma =>
        go_wp2_with fail
        go_meet
        exact ⟨_, _, _, _, _, _, _, _, _, _, _, _, _, _, rfl, rfl, two_e t3 bx2 by2 (by omega) (by omega) (by omega), Num.put (Num.put (x3) bx2 (.bool s1) (.slice a1 n1 k1) (.slice e1 d1 l1)) (Box.other2 by2 (by omega) (.bool s1) (.slice a1 n1 k1) (.slice e1 d1 l1)) (.bool s2) (.slice a2 m2 k2) (.slice e2 d4 l2), Num.put (Num.put (y3) bx2 (.bool s1) (.slice a1 n1 k1) (.slice e1 d1 l1)) (Box.other2 by2 (by omega) (.bool s1) (.slice a1 n1 k1) (.slice e1 d1 l1)) (.bool s2) (.slice a2 m2 k2) (.slice e2 d4 l2), Num.put (Num.put (x2) bx2 (.bool s1) (.slice a1 n1 k1) (.slice e1 d1 l1)) (Box.other2 by2 (by omega) (.bool s1) (.slice a1 n1 k1) (.slice e1 d1 l1)) (.bool s2) (.slice a2 m2 k2) (.slice e2 d4 l2), Num.put (Num.put (y2) bx2 (.bool s1) (.slice a1 n1 k1) (.slice e1 d1 l1)) (Box.other2 by2 (by omega) (.bool s1) (.slice a1 n1 k1) (.slice e1 d1 l1)) (.bool s2) (.slice a2 m2 k2) (.slice e2 d4 l2)⟩
    · as_aux_lemma =>
        go_wp2_with fail
        go_meet
        exact ⟨_, _, _, _, _, _, _, _, _, _, _, _, _, _, rfl, rfl, two_e t3 bx2 by2 (by omega) (by omega) (by omega), Num.put (Num.put (x3) bx2 (.bool s1) (.slice a1 n1 k1) (.slice e1 d1 l1)) (Box.other2 by2 (by omega) (.bool s1) (.slice a1 n1 k1) (.slice e1 d1 l1)) (.bool s2) (.slice a2 m2 k2) (.slice e2 d4 l2), Num.put (Num.put (y3) bx2 (.bool s1) (.slice a1 n1 k1) (.slice e1 d1 l1)) (Box.other2 by2 (by omega) (.bool s1) (.slice a1 n1 k1) (.slice e1 d1 l1)) (.bool s2) (.slice a2 m2 k2) (.slice e2 d4 l2), Num.put (Num.put (x2) bx2 (.bool s1) (.slice a1 n1 k1) (.slice e1 d1 l1)) (Box.other2 by2 (by omega) (.bool s1) (.slice a1 n1 k1) (.slice e1 d1 l1)) (.bool s2) (.slice a2 m2 k2) (.slice e2 d4 l2), Num.put (Num.put (y2) bx2 (.bool s1) (.slice a1 n1 k1) (.slice e1 d1 l1)) (Box.other2 by2 (by omega) (.bool s1) (.slice a1 n1 k1) (.slice e1 d1 l1)) (.bool s2) (.slice a2 m2 k2) (.slice e2 d4 l2)⟩
    · as_aux_lemma =>
        go_wp2_with fail
        go_meet
        exact ⟨_, _, _, _, _, _, _, _, _, _, _, _, _, _, rfl, rfl, two_e t3 bx2 by2 (by omega) (by omega) (by omega), Num.put (Num.put (x3) bx2 (.bool s1) (.slice a1 n1 k1) (.slice e1 d1 l1)) (Box.other2 by2 (by omega) (.bool s1) (.slice a1 n1 k1) (.slice e1 d1 l1)) (.bool s2) (.slice a2 m2 k2) (.slice e2 d4 l2), Num.put (Num.put (y3) bx2 (.bool s1) (.slice a1 n1 k1) (.slice e1 d1 l1)) (Box.other2 by2 (by omega) (.bool s1) (.slice a1 n1 k1) (.slice e1 d1 l1)) (.bool s2) (.slice a2 m2 k2) (.slice e2 d4 l2), Num.put (Num.put (x2) bx2 (.bool s1) (.slice a1 n1 k1) (.slice e1 d1 l1)) (Box.other2 by2 (by omega) (.bool s1) (.slice a1 n1 k1) (.slice e1 d1 l1)) (.bool s2) (.slice a2 m2 k2) (.slice e2 d4 l2), Num.put (Num.put (y2) bx2 (.bool s1) (.slice a1 n1 k1) (.slice e1 d1 l1)) (Box.other2 by2 (by omega) (.bool s1) (.slice a1 n1 k1) (.slice e1 d1 l1)) (.bool s2) (.slice a2 m2 k2) (.slice e2 d4 l2)⟩
    · as_aux_lemma =>
        go_wp2_with fail
        go_meet
        exact ⟨_, _, _, _, _, _, _, _, _, _, _, _, _, _, rfl, rfl, two_e t3 bx2 by2 (by omega) (by omega) (by omega), Num.put (Num.put (x3) bx2 (.bool s1) (.slice a1 n1 k1) (.slice e1 d1 l1)) (Box.other2 by2 (by omega) (.bool s1) (.slice a1 n1 k1) (.slice e1 d1 l1)) (.bool s2) (.slice a2 m2 k2) (.slice e2 d4 l2), Num.put (Num.put (y3) bx2 (.bool s1) (.slice a1 n1 k1) (.slice e1 d1 l1)) (Box.other2 by2 (by omega) (.bool s1) (.slice a1 n1 k1) (.slice e1 d1 l1)) (.bool s2) (.slice a2 m2 k2) (.slice e2 d4 l2), Num.put (Num.put (x2) bx2 (.bool s1) (.slice a1 n1 k1) (.slice e1 d1 l1)) (Box.other2 by2 (by omega) (.bool s1) (.slice a1 n1 k1) (.slice e1 d1 l1)) (.bool s2) (.slice a2 m2 k2) (.slice e2 d4 l2), Num.put (Num.put (y2) bx2 (.bool s1) (.slice a1 n1 k1) (.slice e1 d1 l1)) (Box.other2 by2 (by omega) (.bool s1) (.slice a1 n1 k1) (.slice e1 d1 l1)) (.bool s2) (.slice a2 m2 k2) (.slice e2 d4 l2)⟩
    · as_aux_lemma =>
        go_wp2_with fail
        go_meet
        exact ⟨_, _, _, _, _, _, _, _, _, _, _, _, _, _, rfl, rfl, two_e t3 bx2 by2 (by omega) (by omega) (by omega), Num.put (Num.put (x3) bx2 (.bool s1) (.slice a1 n1 k1) (.slice e1 d1 l1)) (Box.other2 by2 (by omega) (.bool s1) (.slice a1 n1 k1) (.slice e1 d1 l1)) (.bool s2) (.slice a2 m2 k2) (.slice e2 d4 l2), Num.put (Num.put (y3) bx2 (.bool s1) (.slice a1 n1 k1) (.slice e1 d1 l1)) (Box.other2 by2 (by omega) (.bool s1) (.slice a1 n1 k1) (.slice e1 d1 l1)) (.bool s2) (.slice a2 m2 k2) (.slice e2 d4 l2), Num.put (Num.put (x2) bx2 (.bool s1) (.slice a1 n1 k1) (.slice e1 d1 l1)) (Box.other2 by2 (by omega) (.bool s1) (.slice a1 n1 k1) (.slice e1 d1 l1)) (.bool s2) (.slice a2 m2 k2) (.slice e2 d4 l2), Num.put (Num.put (y2) bx2 (.bool s1) (.slice a1 n1 k1) (.slice e1 d1 l1)) (Box.other2 by2 (by omega) (.bool s1) (.slice a1 n1 k1) (.slice e1 d1 l1)) (.bool s2) (.slice a2 m2 k2) (.slice e2 d4 l2)⟩
    · as_aux_lemma =>
        go_wp2_with fail
        go_meet
        exact ⟨_, _, _, _, _, _, _, _, _, _, _, _, _, _, rfl, rfl, two_d t3 bx2 (by omega), Num.put (x3.mono (add_new _ _)) (bx2.mono (add_new _ _)) (.bool s2) (.slice a2 m2 k2) (.slice e2 d4 l2), Num.put (y3.mono (add_new _ _)) (bx2.mono (add_new _ _)) (.bool s2) (.slice a2 m2 k2) (.slice e2 d4 l2), Num.put (x2.mono (add_new _ _)) (bx2.mono (add_new _ _)) (.bool s2) (.slice a2 m2 k2) (.slice e2 d4 l2), Num.put (y2.mono (add_new _ _)) (bx2.mono (add_new _ _)) (.bool s2) (.slice a2 m2 k2) (.slice e2 d4 l2)⟩
    · as_aux_lemma =>
        go_wp2_with fail
        go_meet
        exact ⟨_, _, _, _, _, _, _, _, _, _, _, _, _, _, rfl, rfl, two_e t3 by2 bx2 (by omega) (by omega) (by omega), Num.put (Num.put (x3) by2 (.bool s1) (.slice a1 n1 k1) (.slice e1 d1 l1)) (Box.other2 bx2 (by omega) (.bool s1) (.slice a1 n1 k1) (.slice e1 d1 l1)) (.bool s2) (.slice a2 m2 k2) (.slice e2 d4 l2), Num.put (Num.put (y3) by2 (.bool s1) (.slice a1 n1 k1) (.slice e1 d1 l1)) (Box.other2 bx2 (by omega) (.bool s1) (.slice a1 n1 k1) (.slice e1 d1 l1)) (.bool s2) (.slice a2 m2 k2) (.slice e2 d4 l2), Num.put (Num.put (x2) by2 (.bool s1) (.slice a1 n1 k1) (.slice e1 d1 l1)) (Box.other2 bx2 (by omega) (.bool s1) (.slice a1 n1 k1) (.slice e1 d1 l1)) (.bool s2) (.slice a2 m2 k2) (.slice e2 d4 l2), Num.put (Num.put (y2) by2 (.bool s1) (.slice a1 n1 k1) (.slice e1 d1 l1)) (Box.other2 bx2 (by omega) (.bool s1) (.slice a1 n1 k1) (.slice e1 d1 l1)) (.bool s2) (.slice a2 m2 k2) (.slice e2 d4 l2)⟩
    · as_aux_lemma =>
        go_wp2_with fail
        go_meet
        exact ⟨_, _, _, _, _, _, _, _, _, _, _, _, _, _, rfl, rfl, two_e t3 by2 bx2 (by omega) (by omega) (by omega), Num.put (Num.put (x3) by2 (.bool s1) (.slice a1 n1 k1) (.slice e1 d1 l1)) (Box.other2 bx2 (by omega) (.bool s1) (.slice a1 n1 k1) (.slice e1 d1 l1)) (.bool s2) (.slice a2 m2 k2) (.slice e2 d4 l2), Num.put (Num.put (y3) by2 (.bool s1) (.slice a1 n1 k1) (.slice e1 d1 l1)) (Box.other2 bx2 (by omega) (.bool s1) (.slice a1 n1 k1) (.slice e1 d1 l1)) (.bool s2) (.slice a2 m2 k2) (.slice e2 d4 l2), Num.put (Num.put (x2) by2 (.bool s1) (.slice a1 n1 k1) (.slice e1 d1 l1)) (Box.other2 bx2 (by omega) (.bool s1) (.slice a1 n1 k1) (.slice e1 d1 l1)) (.bool s2) (.slice a2 m2 k2) (.slice e2 d4 l2), Num.put (Num.put (y2) by2 (.bool s1) (.slice a1 n1 k1) (.slice e1 d1 l1)) (Box.other2 bx2 (by omega) (.bool s1) (.slice a1 n1 k1) (.slice e1 d1 l1)) (.bool s2) (.slice a2 m2 k2) (.slice e2 d4 l2)⟩
    · as_aux_lemma =>
        go_wp2_with fail
        go_meet
        exact ⟨_, _, _, _, _, _, _, _, _, _, _, _, _, _, rfl, rfl, two_d t3 bx2 (by omega), Num.put (x3.mono (add_new _ _)) (bx2.mono (add_new _ _)) (.bool s2) (.slice a2 m2 k2) (.slice e2 d4 l2), Num.put (y3.mono (add_new _ _)) (bx2.mono (add_new _ _)) (.bool s2) (.slice a2 m2 k2) (.slice e2 d4 l2), Num.put (x2.mono (add_new _ _)) (bx2.mono (add_new _ _)) (.bool s2) (.slice a2 m2 k2) (.slice e2 d4 l2), Num.put (y2.mono (add_new _ _)) (bx2.mono (add_new _ _)) (.bool s2) (.slice a2 m2 k2) (.slice e2 d4 l2)⟩
    · as_aux_lemma =>
        go_wp2_with fail
        go_meet
        exact ⟨_, _, _, _, _, _, _, _, _, _, _, _, _, _, rfl, rfl, two_e t3 by2 bx2 (by omega) (by omega) (by omega), Num.put (Num.put (x3) by2 (.bool s1) (.slice a1 n1 k1) (.slice e1 d1 l1)) (Box.other2 bx2 (by omega) (.bool s1) (.slice a1 n1 k1) (.slice e1 d1 l1)) (.bool s2) (.slice a2 m2 k2) (.slice e2 d4 l2), Num.put (Num.put (y3) by2 (.bool s1) (.slice a1 n1 k1) (.slice e1 d1 l1)) (Box.other2 bx2 (by omega) (.bool s1) (.slice a1 n1 k1) (.slice e1 d1 l1)) (.bool s2) (.slice a2 m2 k2) (.slice e2 d4 l2), Num.put (Num.put (x2) by2 (.bool s1) (.slice a1 n1 k1) (.slice e1 d1 l1)) (Box.other2 bx2 (by omega) (.bool s1) (.slice a1 n1 k1) (.slice e1 d1 l1)) (.bool s2) (.slice a2 m2 k2) (.slice e2 d4 l2), Num.put (Num.put (y2) by2 (.bool s1) (.slice a1 n1 k1) (.slice e1 d1 l1)) (Box.other2 bx2 (by omega) (.bool s1) (.slice a1 n1 k1) (.slice e1 d1 l1)) (.bool s2) (.slice a2 m2 k2) (.slice e2 d4 l2)⟩
    · as_aux_lemma =>
        go_wp2_with fail
        go_meet
        exact ⟨_, _, _, _, _, _, _, _, _, _, _, _, _, _, rfl, rfl, two_e t3 by2 bx2 (by omega) (by omega) (by omega), Num.put (Num.put (x3) by2 (.bool s1) (.slice a1 n1 k1) (.slice e1 d1 l1)) (Box.other2 bx2 (by omega) (.bool s1) (.slice a1 n1 k1) (.slice e1 d1 l1)) (.bool s2) (.slice a2 m2 k2) (.slice e2 d4 l2), Num.put (Num.put (y3) by2 (.bool s1) (.slice a1 n1 k1) (.slice e1 d1 l1)) (Box.other2 bx2 (by omega) (.bool s1) (.slice a1 n1 k1) (.slice e1 d1 l1)) (.bool s2) (.slice a2 m2 k2) (.slice e2 d4 l2), Num.put (Num.put (x2) by2 (.bool s1) (.slice a1 n1 k1) (.slice e1 d1 l1)) (Box.other2 bx2 (by omega) (.bool s1) (.slice a1 n1 k1) (.slice e1 d1 l1)) (.bool s2) (.slice a2 m2 k2) (.slice e2 d4 l2), Num.put (Num.put (y2) by2 (.bool s1) (.slice a1 n1 k1) (.slice e1 d1 l1)) (Box.other2 bx2 (by omega) (.bool s1) (.slice a1 n1 k1) (.slice e1 d1 l1)) (.bool s2) (.slice a2 m2 k2) (.slice e2 d4 l2)⟩
    · as_aux_lemma =>
        go_wp2_with fail
        go_meet
        exact ⟨_, _, _, _, _, _, _, _, _, _, _, _, _, _, rfl, rfl, two_e t3 by2 bx2 (by omega) (by omega) (by omega), Num.put (Num.put (x3) by2 (.bool s1) (.slice a1 n1 k1) (.slice e1 d1 l1)) (Box.other2 bx2 (by omega) (.bool s1) (.slice a1 n1 k1) (.slice e1 d1 l1)) (.bool s2) (.slice a2 m2 k2) (.slice e2 d4 l2), Num.put (Num.put (y3) by2 (.bool s1) (.slice a1 n1 k1) (.slice e1 d1 l1)) (Box.other2 bx2 (by omega) (.bool s1) (.slice a1 n1 k1) (.slice e1 d1 l1)) (.bool s2) (.slice a2 m2 k2) (.slice e2 d4 l2), Num.put (Num.put (x2) by2 (.bool s1) (.slice a1 n1 k1) (.slice e1 d1 l1)) (Box.other2 bx2 (by omega) (.bool s1) (.slice a1 n1 k1) (.slice e1 d1 l1)) (.bool s2) (.slice a2 m2 k2) (.slice e2 d4 l2), Num.put (Num.put (y2) by2 (.bool s1) (.slice a1 n1 k1) (.slice e1 d1 l1)) (Box.other2 bx2 (by omega) (.bool s1) (.slice a1 n1 k1) (.slice e1 d1 l1)) (.bool s2) (.slice a2 m2 k2) (.slice e2 d4 l2)⟩
    · as_aux_lemma =>
        go_wp2_with fail
        go_meet
        exact ⟨_, _, _, _, _, _, _, _, _, _, _, _, _, _, rfl, rfl, two_e t3 by2 bx2 (by omega) (by omega) (by omega), Num.put (Num.put (x3) by2 (.bool s1) (.slice a1 n1 k1) (.slice e1 d1 l1)) (Box.other2 bx2 (by omega) (.bool s1) (.slice a1 n1 k1) (.slice e1 d1 l1)) (.bool s2) (.slice a2 m2 k2) (.slice e2 d4 l2), Num.put (Num.put (y3) by2 (.bool s1) (.slice a1 n1 k1) (.slice e1 d1 l1)) (Box.other2 bx2 (by omega) (.bool s1) (.slice a1 n1 k1) (.slice e1 d1 l1)) (.bool s2) (.slice a2 m2 k2) (.slice e2 d4 l2), Num.put (Num.put (x2) by2 (.bool s1) (.slice a1 n1 k1) (.slice e1 d1 l1)) (Box.other2 bx2 (by omega) (.bool s1) (.slice a1 n1 k1) (.slice e1 d1 l1)) (.bool s2) (.slice a2 m2 k2) (.slice e2 d4 l2), Num.put (Num.put (y2) by2 (.bool s1) (.slice a1 n1 k1) (.slice e1 d1 l1)) (Box.other2 bx2 (by omega) (.bool s1) (.slice a1 n1 k1) (.slice e1 d1 l1)) (.bool s2) (.slice a2 m2 k2) (.slice e2 d4 l2)⟩
    · as_aux_lemma =>
        go_wp2_with fail
        go_meet
        exact ⟨_, _, _, _, _, _, _, _, _, _, _, _, _, _, rfl, rfl, two_d t3 bx2 (by omega), Num.put (x3.mono (add_new _ _)) (bx2.mono (add_new _ _)) (.bool s2) (.slice a2 m2 k2) (.slice e2 d4 l2), Num.put (y3.mono (add_new _ _)) (bx2.mono (add_new _ _)) (.bool s2) (.slice a2 m2 k2) (.slice e2 d4 l2), Num.put (x2.mono (add_new _ _)) (bx2.mono (add_new _ _)) (.bool s2) (.slice a2 m2 k2) (.slice e2 d4 l2), Num.put (y2.mono (add_new _ _)) (bx2.mono (add_new _ _)) (.bool s2) (.slice a2 m2 k2) (.slice e2 d4 l2)⟩
    · as_aux_lemma =>
        go_wp2_with fail
        go_meet
        exact ⟨_, _, _, _, _, _, _, _, _, _, _, _, _, _, rfl, rfl, two_e t3 by2 bx2 (by omega) (by omega) (by omega), Num.put (Num.put (x3) by2 (.bool s1) (.slice a1 n1 k1) (.slice e1 d1 l1)) (Box.other2 bx2 (by omega) (.bool s1) (.slice a1 n1 k1) (.slice e1 d1 l1)) (.bool s2) (.slice a2 m2 k2) (.slice e2 d4 l2), Num.put (Num.put (y3) by2 (.bool s1) (.slice a1 n1 k1) (.slice e1 d1 l1)) (Box.other2 bx2 (by omega) (.bool s1) (.slice a1 n1 k1) (.slice e1 d1 l1)) (.bool s2) (.slice a2 m2 k2) (.slice e2 d4 l2), Num.put (Num.put (x2) by2 (.bool s1) (.slice a1 n1 k1) (.slice e1 d1 l1)) (Box.other2 bx2 (by omega) (.bool s1) (.slice a1 n1 k1) (.slice e1 d1 l1)) (.bool s2) (.slice a2 m2 k2) (.slice e2 d4 l2), Num.put (Num.put (y2) by2 (.bool s1) (.slice a1 n1 k1) (.slice e1 d1 l1)) (Box.other2 bx2 (by omega) (.bool s1) (.slice a1 n1 k1) (.slice e1 d1 l1)) (.bool s2) (.slice a2 m2 k2) (.slice e2 d4 l2)⟩
    · as_aux_lemma =>
        go_wp2_with fail
        go_meet
        exact ⟨_, _, _, _, _, _, _, _, _, _, _, _, _, _, rfl, rfl, two_e t3 by2 bx2 (by omega) (by omega) (by omega), Num.put (Num.put (x3) by2 (.bool s1) (.slice a1 n1 k1) (.slice e1 d1 l1)) (Box.other2 bx2 (by omega) (.bool s1) (.slice a1 n1 k1) (.slice e1 d1 l1)) (.bool s2) (.slice a2 m2 k2) (.slice e2 d4 l2), Num.put (Num.put (y3) by2 (.bool s1) (.slice a1 n1 k1) (.slice e1 d1 l1)) (Box.other2 bx2 (by omega) (.bool s1) (.slice a1 n1 k1) (.slice e1 d1 l1)) (.bool s2) (.slice a2 m2 k2) (.slice e2 d4 l2), Num.put (Num.put (x2) by2 (.bool s1) (.slice a1 n1 k1) (.slice e1 d1 l1)) (Box.other2 bx2 (by omega) (.bool s1) (.slice a1 n1 k1) (.slice e1 d1 l1)) (.bool s2) (.slice a2 m2 k2) (.slice e2 d4 l2), Num.put (Num.put (y2) by2 (.bool s1) (.slice a1 n1 k1) (.slice e1 d1 l1)) (Box.other2 bx2 (by omega) (.bool s1) (.slice a1 n1 k1) (.slice e1 d1 l1)) (.bool s2) (.slice a2 m2 k2) (.slice e2 d4 l2)⟩
    · as_aux_lemma =>
        go_wp2_with fail
        go_meet
        exact ⟨_, _, _, _, _, _, _, _, _, _, _, _, _, _, rfl, rfl, two_e t3 by2 bx2 (by omega) (by omega) (by omega), Num.put (Num.put (x3) by2 (.bool s1) (.slice a1 n1 k1) (.slice e1 d1 l1)) (Box.other2 bx2 (by omega) (.bool s1) (.slice a1 n1 k1) (.slice e1 d1 l1)) (.bool s2) (.slice a2 m2 k2) (.slice e2 d4 l2), Num.put (Num.put (y3) by2 (.bool s1) (.slice a1 n1 k1) (.slice e1 d1 l1)) (Box.other2 bx2 (by omega) (.bool s1) (.slice a1 n1 k1) (.slice e1 d1 l1)) (.bool s2) (.slice a2 m2 k2) (.slice e2 d4 l2), Num.put (Num.put (x2) by2 (.bool s1) (.slice a1 n1 k1) (.slice e1 d1 l1)) (Box.other2 bx2 (by omega) (.bool s1) (.slice a1 n1 k1) (.slice e1 d1 l1)) (.bool s2) (.slice a2 m2 k2) (.slice e2 d4 l2), Num.put (Num.put (y2) by2 (.bool s1) (.slice a1 n1 k1) (.slice e1 d1 l1)) (Box.other2 bx2 (by omega) (.bool s1) (.slice a1 n1 k1) (.slice e1 d1 l1)) (.bool s2) (.slice a2 m2 k2) (.slice e2 d4 l2)⟩
    · as_aux_lemma =>
        go_wp2_with fail
        go_meet
        exact ⟨_, _, _, _, _, _, _, _, _, _, _, _, _, _, rfl, rfl, two_e t3 by2 bx2 (by omega) (by omega) (by omega), Num.put (Num.put (x3) by2 (.bool s1) (.slice a1 n1 k1) (.slice e1 d1 l1)) (Box.other2 bx2 (by omega) (.bool s1) (.slice a1 n1 k1) (.slice e1 d1 l1)) (.bool s2) (.slice a2 m2 k2) (.slice e2 d4 l2), Num.put (Num.put (y3) by2 (.bool s1) (.slice a1 n1 k1) (.slice e1 d1 l1)) (Box.other2 bx2 (by omega) (.bool s1) (.slice a1 n1 k1) (.slice e1 d1 l1)) (.bool s2) (.slice a2 m2 k2) (.slice e2 d4 l2), Num.put (Num.put (x2) by2 (.bool s1) (.slice a1 n1 k1) (.slice e1 d1 l1)) (Box.other2 bx2 (by omega) (.bool s1) (.slice a1 n1 k1) (.slice e1 d1 l1)) (.bool s2) (.slice a2 m2 k2) (.slice e2 d4 l2), Num.put (Num.put (y2) by2 (.bool s1) (.slice a1 n1 k1) (.slice e1 d1 l1)) (Box.other2 bx2 (by omega) (.bool s1) (.slice a1 n1 k1) (.slice e1 d1 l1)) (.bool s2) (.slice a2 m2 k2) (.slice e2 d4 l2)⟩
    · as_aux_lemma =>
        go_wp2_with fail
        go_meet
        exact ⟨_, _, _, _, _, _, _, _, _, _, _, _, _, _, rfl, rfl, two_e t3 by2 bx2 (by omega) (by omega) (by omega), Num.put (Num.put (x3) by2 (.bool s1) (.slice a1 n1 k1) (.slice e1 d1 l1)) (Box.other2 bx2 (by omega) (.bool s1) (.slice a1 n1 k1) (.slice e1 d1 l1)) (.bool s2) (.slice a2 m2 k2) (.slice e2 d4 l2), Num.put (Num.put (y3) by2 (.bool s1) (.slice a1 n1 k1) (.slice e1 d1 l1)) (Box.other2 bx2 (by omega) (.bool s1) (.slice a1 n1 k1) (.slice e1 d1 l1)) (.bool s2) (.slice a2 m2 k2) (.slice e2 d4 l2), Num.put (Num.put (x2) by2 (.bool s1) (.slice a1 n1 k1) (.slice e1 d1 l1)) (Box.other2 bx2 (by omega) (.bool s1) (.slice a1 n1 k1) (.slice e1 d1 l1)) (.bool s2) (.slice a2 m2 k2) (.slice e2 d4 l2), Num.put (Num.put (y2) by2 (.bool s1) (.slice a1 n1 k1) (.slice e1 d1 l1)) (Box.other2 bx2 (by omega) (.bool s1) (.slice a1 n1 k1) (.slice e1 d1 l1)) (.bool s2) (.slice a2 m2 k2) (.slice e2 d4 l2)⟩
    · as_aux_lemma =>
        go_wp2_with fail
        go_meet
        exact ⟨_, _, _, _, _, _, _, _, _, _, _, _, _, _, rfl, rfl, two_e t3 by2 bx2 (by omega) (by omega) (by omega), Num.put (Num.put (x3) by2 (.bool s1) (.slice a1 n1 k1) (.slice e1 d1 l1)) (Box.other2 bx2 (by omega) (.bool s1) (.slice a1 n1 k1) (.slice e1 d1 l1)) (.bool s2) (.slice a2 m2 k2) (.slice e2 d4 l2), Num.put (Num.put (y3) by2 (.bool s1) (.slice a1 n1 k1) (.slice e1 d1 l1)) (Box.other2 bx2 (by omega) (.bool s1) (.slice a1 n1 k1) (.slice e1 d1 l1)) (.bool s2) (.slice a2 m2 k2) (.slice e2 d4 l2), Num.put (Num.put (x2) by2 (.bool s1) (.slice a1 n1 k1) (.slice e1 d1 l1)) (Box.other2 bx2 (by omega) (.bool s1) (.slice a1 n1 k1) (.slice e1 d1 l1)) (.bool s2) (.slice a2 m2 k2) (.slice e2 d4 l2), Num.put (Num.put (y2) by2 (.bool s1) (.slice a1 n1 k1) (.slice e1 d1 l1)) (Box.other2 bx2 (by omega) (.bool s1) (.slice a1 n1 k1) (.slice e1 d1 l1)) (.bool s2) (.slice a2 m2 k2) (.slice e2 d4 l2)⟩
  case rest =>
   as_aux_lemma =>
    obtain ⟨g, h, a1, n1, k1, e1, d1, l1, a2, m2, k2, e2, d4, l2, rfl, rfl, ⟨hX, hY, tc⟩, x1, y1, x2, y2⟩ := hcut
    clear K0 C1 C2 hlm hhm G1 G2 ca0 ca1 ca2 ca3 ca4 ca5
    replace hA := hA.mono tc
    replace hB := hB.mono tc
    replace hT := hT.mono tc
    replace qa := qa.mono tc
    replace qb := qb.mono tc
    replace T := Add.trans T tc
    clear tc
    as_aux_lemma =>
      have cx0 := hX.c0
      have cx1 := hX.c1
      have cx2 := hX.c2
      have cy0 := hY.c0
      have cy1 := hY.c1
      have cy2 := hY.c2
      have qc := IvT.arg (w := wc) (x := ((s1, N1, D1), (s2, N2, D2))) ⟨_, _, _, _, _, _, _, _, _, _, _, _, rfl, x1, y1, x2, y2⟩ (lt_up G3.out.1.2.1 (by decide)) (lt_up G3.out.1.2.2 (by decide)) (lt_up G3.out.2.2.1 (by decide)) (lt_up G3.out.2.2.2 (by decide))
      have hbu := iv_build s1 a1 n1 k1 e1 d1 l1 s2 a2 m2 k2 e2 d4 l2
      clear x1 y1 x2 y2
      obtain ⟨tt, hC⟩ := laid6 wc s1 a1 n1 k1 e1 d1 l1 s2 a2 m2 k2 e2 d4 l2
      replace hA := hA.mono tt
      replace hB := hB.mono tt
      replace hT := hT.mono tt
      replace qa := qa.mono tt
      replace qb := qb.mono tt
      replace qc := qc.mono tt
      replace T := Add.trans T tt
      clear tt hX hY
      have cu0 := hC.c0
      have cu1 := hC.c1
      have cu2 := hC.c2
      have cu3 := hC.c3
      have cu4 := hC.c4
      have cu5 := hC.c5
      have cv0 := hB.c0
      have cv1 := hB.c1
      have cv2 := hB.c2
      have cv3 := hB.c3
      have cv4 := hB.c4
      have cv5 := hB.c5
      go_wp2_with fail
      refine ((addIN_works s3 N3 D3 s4 N4 D4 qc qb hT OCB G5 G6).mono fun _ _ g => g.ok).mono ?_
      rintro e w5 ⟨a10, n10, k10, e10, d10z, l10, a11, n11, k11, e11, d11z, l11, rfl, x10, y10, x11, y11, h5⟩
      replace hT := hT.mono h5
      replace hA := hA.mono h5
      replace hB := hB.mono h5
      replace hC := hC.mono h5
      replace qa := qa.mono h5
      replace qb := qb.mono h5
      replace qc := qc.mono h5
      replace T := Add.trans T h5
      clear h5 hbu cx0 cx1 cx2 cy0 cy1 cy2 G5 G6 cu0 cu1 cu2 cu3 cu4 cu5 cv0 cv1 cv2 cv3 cv4 cv5
      obtain ⟨tt, hE⟩ := laid6 w5 s3 a10 n10 k10 e10 d10z l10 s4 a11 n11 k11 e11 d11z l11
      replace hT := hT.mono tt
      replace hA := hA.mono tt
      replace hB := hB.mono tt
      replace hC := hC.mono tt
      replace qa := qa.mono tt
      replace qb := qb.mono tt
      replace qc := qc.mono tt
      replace x10 := x10.mono tt
      replace y10 := y10.mono tt
      replace x11 := x11.mono tt
      replace y11 := y11.mono tt
      replace T := Add.trans T tt
      clear tt
      have hEq := IvT.arg (x := ((s3, N3, D3), (s4, N4, D4))) ⟨_, _, _, _, _, _, _, _, _, _, _, _, rfl, x10, y10, x11, y11⟩ (lt_up G15.out.1.2.1 (by decide)) (lt_up G15.out.1.2.2 (by decide)) (lt_up G15.out.2.2.1 (by decide)) (lt_up G15.out.2.2.2 (by decide))
      clear x10 y10 x11 y11 G15
      have cu0 := hA.c0
      have cu1 := hA.c1
      have cu2 := hA.c2
      have cu3 := hA.c3
      have cu4 := hA.c4
      have cu5 := hA.c5
      have cv0 := hB.c0
      have cv1 := hB.c1
      have cv2 := hB.c2
      have cv3 := hB.c3
      have cv4 := hB.c4
      have cv5 := hB.c5
      go_wp2_with fail
      refine ((addIN_works s5 N5 D5 s6 N6 D6 qa qb hT OAB G7 G8).mono fun _ _ g => g.ok).mono ?_
      rintro e w6 ⟨a12, n12, k12, e12, d12z, l12, a13, n13, k13, e13, d13z, l13, rfl, x12, y12, x13, y13, h6⟩
      replace hT := hT.mono h6
      replace hA := hA.mono h6
      replace hB := hB.mono h6
      replace hC := hC.mono h6
      replace qa := qa.mono h6
      replace qb := qb.mono h6
      replace qc := qc.mono h6
      replace hE := hE.mono h6
      replace hEq := hEq.mono h6
      replace T := Add.trans T h6
      clear h6 G7 G8 cu0 cu1 cu2 cu3 cu4 cu5 cv0 cv1 cv2 cv3 cv4 cv5
      obtain ⟨tt, hF⟩ := laid6 w6 s5 a12 n12 k12 e12 d12z l12 s6 a13 n13 k13 e13 d13z l13
      replace hT := hT.mono tt
      replace hA := hA.mono tt
      replace hB := hB.mono tt
      replace hC := hC.mono tt
      replace qa := qa.mono tt
      replace qb := qb.mono tt
      replace qc := qc.mono tt
      replace hE := hE.mono tt
      replace hEq := hEq.mono tt
      replace x12 := x12.mono tt
      replace y12 := y12.mono tt
      replace x13 := x13.mono tt
      replace y13 := y13.mono tt
      replace T := Add.trans T tt
      clear tt
      have hFq := IvT.arg (x := ((s5, N5, D5), (s6, N6, D6))) ⟨_, _, _, _, _, _, _, _, _, _, _, _, rfl, x12, y12, x13, y13⟩ (lt_up G16.out.1.2.1 (by decide)) (lt_up G16.out.1.2.2 (by decide)) (lt_up G16.out.2.2.1 (by decide)) (lt_up G16.out.2.2.2 (by decide))
      clear x12 y12 x13 y13 G16
      have cu0 := hC.c0
      have cu1 := hC.c1
      have cu2 := hC.c2
      have cu3 := hC.c3
      have cu4 := hC.c4
      have cu5 := hC.c5
      have cv0 := hB.c0
      have cv1 := hB.c1
      have cv2 := hB.c2
      have cv3 := hB.c3
      have cv4 := hB.c4
      have cv5 := hB.c5
      go_wp2_with fail
      refine ((mulIN_works 39 12 ((p1, P1, Q1), (p2, P2, Q2)) qc qb hT OCB SS1 G9).mono fun _ _ g => g.ok).mono ?_
      rintro e w7 ⟨a14, n14, k14, e14, d14z, l14, a15, n15, k15, e15, d15z, l15, rfl, x14, y14, x15, y15, h7⟩
      replace hT := hT.mono h7
      replace hA := hA.mono h7
      replace hB := hB.mono h7
      replace hC := hC.mono h7
      replace qa := qa.mono h7
      replace qb := qb.mono h7
      replace qc := qc.mono h7
      replace hE := hE.mono h7
      replace hEq := hEq.mono h7
      replace hF := hF.mono h7
      replace hFq := hFq.mono h7
      replace T := Add.trans T h7
      clear h7 G9 SS1 OCB cu0 cu1 cu2 cu3 cu4 cu5 cv0 cv1 cv2 cv3 cv4 cv5
      obtain ⟨tt, hG⟩ := laid6 w7 p1 a14 n14 k14 e14 d14z l14 p2 a15 n15 k15 e15 d15z l15
      replace hT := hT.mono tt
      replace hA := hA.mono tt
      replace hB := hB.mono tt
      replace hC := hC.mono tt
      replace qa := qa.mono tt
      replace qb := qb.mono tt
      replace qc := qc.mono tt
      replace hE := hE.mono tt
      replace hEq := hEq.mono tt
      replace hF := hF.mono tt
      replace hFq := hFq.mono tt
      replace x14 := x14.mono tt
      replace y14 := y14.mono tt
      replace x15 := x15.mono tt
      replace y15 := y15.mono tt
      replace T := Add.trans T tt
      clear tt
      have hGq := IvT.arg (x := ((p1, P1, Q1), (p2, P2, Q2))) ⟨_, _, _, _, _, _, _, _, _, _, _, _, rfl, x14, y14, x15, y15⟩ (lt_up G17.out.1.2.1 (by decide)) (lt_up G17.out.1.2.2 (by decide)) (lt_up G17.out.2.2.1 (by decide)) (lt_up G17.out.2.2.2 (by decide))
      clear x14 y14 x15 y15 G17
      have cu0 := hA.c0
      have cu1 := hA.c1
      have cu2 := hA.c2
      have cu3 := hA.c3
      have cu4 := hA.c4
      have cu5 := hA.c5
      have cv0 := hB.c0
      have cv1 := hB.c1
      have cv2 := hB.c2
      have cv3 := hB.c3
      have cv4 := hB.c4
      have cv5 := hB.c5
      go_wp2_with fail
      refine ((mulIN_works 12 12 ((p3, P3, Q3), (p4, P4, Q4)) qa qb hT OAB SS2 G10).mono fun _ _ g => g.ok).mono ?_
      rintro e w8 ⟨a16, n16, k16, e16, d16z, l16, a17, n17, k17, e17, d17z, l17, rfl, x16, y16, x17, y17, h8⟩
      replace hT := hT.mono h8
      replace hA := hA.mono h8
      replace hB := hB.mono h8
      replace hC := hC.mono h8
      replace qa := qa.mono h8
      replace qb := qb.mono h8
      replace qc := qc.mono h8
      replace hE := hE.mono h8
      replace hEq := hEq.mono h8
      replace hF := hF.mono h8
      replace hFq := hFq.mono h8
      replace hG := hG.mono h8
      replace hGq := hGq.mono h8
      replace T := Add.trans T h8
      clear h8 G10 SS2 OAB cu0 cu1 cu2 cu3 cu4 cu5 cv0 cv1 cv2 cv3 cv4 cv5
      obtain ⟨tt, hH⟩ := laid6 w8 p3 a16 n16 k16 e16 d16z l16 p4 a17 n17 k17 e17 d17z l17
      replace hT := hT.mono tt
      replace hA := hA.mono tt
      replace hB := hB.mono tt
      replace hC := hC.mono tt
      replace qa := qa.mono tt
      replace qb := qb.mono tt
      replace qc := qc.mono tt
      replace hE := hE.mono tt
      replace hEq := hEq.mono tt
      replace hF := hF.mono tt
      replace hFq := hFq.mono tt
      replace hG := hG.mono tt
      replace hGq := hGq.mono tt
      replace x16 := x16.mono tt
      replace y16 := y16.mono tt
      replace x17 := x17.mono tt
      replace y17 := y17.mono tt
      replace T := Add.trans T tt
      clear tt
      have hHq := IvT.arg (x := ((p3, P3, Q3), (p4, P4, Q4))) ⟨_, _, _, _, _, _, _, _, _, _, _, _, rfl, x16, y16, x17, y17⟩ (lt_up G18.out.1.2.1 (by decide)) (lt_up G18.out.1.2.2 (by decide)) (lt_up G18.out.2.2.1 (by decide)) (lt_up G18.out.2.2.2 (by decide))
      clear x16 y16 x17 y17 G18
      have cu0 := hB.c0
      have cu1 := hB.c1
      have cu2 := hB.c2
      have cu3 := hB.c3
      have cu4 := hB.c4
      have cu5 := hB.c5
      have cv0 := hC.c0
      have cv1 := hC.c1
      have cv2 := hC.c2
      have cv3 := hC.c3
      have cv4 := hC.c4
      have cv5 := hC.c5
      go_wp2_with fail
      refine ((subIN_works s7 N7 D7 s8 N8 D8 qb qc hT OBC G11 G12).mono fun _ _ g => g.ok).mono ?_
      rintro e w9 ⟨a18, n18, k18, e18, d18z, l18, a19, n19, k19, e19, d19z, l19, rfl, x18, y18, x19, y19, h9⟩
      replace hT := hT.mono h9
      replace hA := hA.mono h9
      replace hB := hB.mono h9
      replace hC := hC.mono h9
      replace qa := qa.mono h9
      replace qb := qb.mono h9
      replace qc := qc.mono h9
      replace hE := hE.mono h9
      replace hEq := hEq.mono h9
      replace hF := hF.mono h9
      replace hFq := hFq.mono h9
      replace hG := hG.mono h9
      replace hGq := hGq.mono h9
      replace hH := hH.mono h9
      replace hHq := hHq.mono h9
      replace T := Add.trans T h9
      clear h9 G11 G12 OBC cu0 cu1 cu2 cu3 cu4 cu5 cv0 cv1 cv2 cv3 cv4 cv5
      obtain ⟨tt, hI⟩ := laid6 w9 s7 a18 n18 k18 e18 d18z l18 s8 a19 n19 k19 e19 d19z l19
      replace hT := hT.mono tt
      replace hA := hA.mono tt
      replace hB := hB.mono tt
      replace hC := hC.mono tt
      replace qa := qa.mono tt
      replace qb := qb.mono tt
      replace qc := qc.mono tt
      replace hE := hE.mono tt
      replace hEq := hEq.mono tt
      replace hF := hF.mono tt
      replace hFq := hFq.mono tt
      replace hG := hG.mono tt
      replace hGq := hGq.mono tt
      replace hH := hH.mono tt
      replace hHq := hHq.mono tt
      replace x18 := x18.mono tt
      replace y18 := y18.mono tt
      replace x19 := x19.mono tt
      replace y19 := y19.mono tt
      replace T := Add.trans T tt
      clear tt
      have hIq := IvT.arg (x := ((s7, N7, D7), (s8, N8, D8))) ⟨_, _, _, _, _, _, _, _, _, _, _, _, rfl, x18, y18, x19, y19⟩ (lt_up G19.out.1.2.1 (by decide)) (lt_up G19.out.1.2.2 (by decide)) (lt_up G19.out.2.2.1 (by decide)) (lt_up G19.out.2.2.2 (by decide))
      clear x18 y18 x19 y19 G19
      have cu0 := hB.c0
      have cu1 := hB.c1
      have cu2 := hB.c2
      have cu3 := hB.c3
      have cu4 := hB.c4
      have cu5 := hB.c5
      have cv0 := hA.c0
      have cv1 := hA.c1
      have cv2 := hA.c2
      have cv3 := hA.c3
      have cv4 := hA.c4
      have cv5 := hA.c5
      go_wp2_with fail
      refine ((subIN_works s9 N9 D9 s0 N0 D0 qb qa hT OBA G13 G14).mono fun _ _ g => g.ok).mono ?_
      rintro e w10 ⟨a20, n20, k20, e20, d20z, l20, a21, n21, k21, e21, d21z, l21, rfl, x20, y20, x21, y21, h10⟩
      replace hT := hT.mono h10
      replace hA := hA.mono h10
      replace hB := hB.mono h10
      replace hC := hC.mono h10
      replace qa := qa.mono h10
      replace qb := qb.mono h10
      replace qc := qc.mono h10
      replace hE := hE.mono h10
      replace hEq := hEq.mono h10
      replace hF := hF.mono h10
      replace hFq := hFq.mono h10
      replace hG := hG.mono h10
      replace hGq := hGq.mono h10
      replace hH := hH.mono h10
      replace hHq := hHq.mono h10
      replace hI := hI.mono h10
      replace hIq := hIq.mono h10
      replace T := Add.trans T h10
      clear h10 G13 G14 OBA cu0 cu1 cu2 cu3 cu4 cu5 cv0 cv1 cv2 cv3 cv4 cv5
      obtain ⟨tt, hJ⟩ := laid6 w10 s9 a20 n20 k20 e20 d20z l20 s0 a21 n21 k21 e21 d21z l21
      replace hT := hT.mono tt
      replace hA := hA.mono tt
      replace hB := hB.mono tt
      replace hC := hC.mono tt
      replace qa := qa.mono tt
      replace qb := qb.mono tt
      replace qc := qc.mono tt
      replace hE := hE.mono tt
      replace hEq := hEq.mono tt
      replace hF := hF.mono tt
      replace hFq := hFq.mono tt
      replace hG := hG.mono tt
      replace hGq := hGq.mono tt
      replace hH := hH.mono tt
      replace hHq := hHq.mono tt
      replace hI := hI.mono tt
      replace hIq := hIq.mono tt
      replace x20 := x20.mono tt
      replace y20 := y20.mono tt
      replace x21 := x21.mono tt
      replace y21 := y21.mono tt
      replace T := Add.trans T tt
      clear tt
      have hJq := IvT.arg (x := ((s9, N9, D9), (s0, N0, D0))) ⟨_, _, _, _, _, _, _, _, _, _, _, _, rfl, x20, y20, x21, y21⟩ (lt_up G20.out.1.2.1 (by decide)) (lt_up G20.out.1.2.2 (by decide)) (lt_up G20.out.2.2.1 (by decide)) (lt_up G20.out.2.2.2 (by decide))
      clear x20 y20 x21 y21 G20
      have cu0 := hC.c0
      have cu1 := hC.c1
      have cu2 := hC.c2
      have cu3 := hC.c3
      have cu4 := hC.c4
      have cu5 := hC.c5
      have cv0 := hA.c0
      have cv1 := hA.c1
      have cv2 := hA.c2
      have cv3 := hA.c3
      have cv4 := hA.c4
      have cv5 := hA.c5
      go_wp2_with fail
      refine (insideN true qc qa G21).mono ?_
      rintro e w11 ⟨rfl, h11⟩
      replace hT := hT.mono h11
      replace hE := hE.mono h11
      replace hEq := hEq.mono h11
      replace hF := hF.mono h11
      replace hFq := hFq.mono h11
      replace hG := hG.mono h11
      replace hGq := hGq.mono h11
      replace hH := hH.mono h11
      replace hHq := hHq.mono h11
      replace hI := hI.mono h11
      replace hIq := hIq.mono h11
      replace hJ := hJ.mono h11
      replace hJq := hJq.mono h11
      replace T := Add.trans T h11
      clear h11 hC qc hA qa hB qb G21 cu0 cu1 cu2 cu3 cu4 cu5 cv0 cv1 cv2 cv3 cv4 cv5
      have cu0 := hE.c0
      have cu1 := hE.c1
      have cu2 := hE.c2
      have cu3 := hE.c3
      have cu4 := hE.c4
      have cu5 := hE.c5
      have cv0 := hF.c0
      have cv1 := hF.c1
      have cv2 := hF.c2
      have cv3 := hF.c3
      have cv4 := hF.c4
      have cv5 := hF.c5
      go_wp2_with fail
      refine (insideN true hEq hFq G22).mono ?_
      rintro e w12 ⟨rfl, h12⟩
      replace hT := hT.mono h12
      replace hG := hG.mono h12
      replace hGq := hGq.mono h12
      replace hH := hH.mono h12
      replace hHq := hHq.mono h12
      replace hI := hI.mono h12
      replace hIq := hIq.mono h12
      replace hJ := hJ.mono h12
      replace hJq := hJq.mono h12
      replace T := Add.trans T h12
      clear h12 hE hEq hF hFq G22 cu0 cu1 cu2 cu3 cu4 cu5 cv0 cv1 cv2 cv3 cv4 cv5
      have cu0 := hG.c0
      have cu1 := hG.c1
      have cu2 := hG.c2
      have cu3 := hG.c3
      have cu4 := hG.c4
      have cu5 := hG.c5
      have cv0 := hH.c0
      have cv1 := hH.c1
      have cv2 := hH.c2
      have cv3 := hH.c3
      have cv4 := hH.c4
      have cv5 := hH.c5
      go_wp2_with fail
      refine (insideN true hGq hHq G23).mono ?_
      rintro e w13 ⟨rfl, h13⟩
      replace hT := hT.mono h13
      replace hI := hI.mono h13
      replace hIq := hIq.mono h13
      replace hJ := hJ.mono h13
      replace hJq := hJq.mono h13
      replace T := Add.trans T h13
      clear h13 hG hGq hH hHq G23 cu0 cu1 cu2 cu3 cu4 cu5 cv0 cv1 cv2 cv3 cv4 cv5
      have cu0 := hI.c0
      have cu1 := hI.c1
      have cu2 := hI.c2
      have cu3 := hI.c3
      have cu4 := hI.c4
      have cu5 := hI.c5
      have cv0 := hJ.c0
      have cv1 := hJ.c1
      have cv2 := hJ.c2
      have cv3 := hJ.c3
      have cv4 := hJ.c4
      have cv5 := hJ.c5
      go_wp2_with fail
      refine (insideN true hIq hJq G24).mono ?_
      rintro e w14 ⟨rfl, h14⟩
      replace hT := hT.mono h14
      replace T := Add.trans T h14
      clear h14 hI hIq hJ hJq G24 cu0 cu1 cu2 cu3 cu4 cu5 cv0 cv1 cv2 cv3 cv4 cv5
      go_wp2_with fail
      refine (awake3_any _ hT).mono ?_
      rintro e wz9 ⟨rfl, hz9⟩
      replace T := Add.trans T hz9
      clear hz9 hT
      go_wp2_with fail
      go_ret
      exact ⟨rfl, T⟩
theorem mono_any {v v' : Value} {x y : IvL} {mm nn : Nat} (w : World) (hx : IvI w v x) (hy : IvI w v' y) (hT : Tab w) (hm : mm ≤ 255) (hn : nn ≤ 255) : Calls Tryz.prog 5 #[v, v', .int .u8 (mm : Nat), .int .u8 (nn : Nat)] w (LawP w) := by
  rcases hl : (longE x || longE y) with _ | _
  · rcases ho : okI (ivOf x) with _ | _
    · exact badA w hx hy hT hl ho
    · rcases ho2 : okI (ivOf y) with _ | _
      · exact badB w hx hy hT hl ho ho2
      · exact ok_case w hx hy hT hm hn hl ho ho2
  · exact long_case w hx hy hT hl
end Go.Proofs.YtmadogkngbbcbaaGreatDoor.IvMonoL
