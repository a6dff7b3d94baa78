/- The law IntervalRounds: its walk, for all arguments.
(With the texts that are joined here: ) -/
import Derived.Test.YtllemnmgbmohcaaGreatDoorZJ

namespace Go.Proofs.YtllemnmgbmohcaaGreatDoor.IvRoundsL
open Go.Proofs.YtllemnmgbmohcaaGreatDoor Go.RowKit NatM Go.Proofs.YtllemnmgbmohcaaGreatDoor.Api

theorem rounds_math {a : Iv} {k : Nat} (hs : SzI 12 a) (ho : okI a = true) (hk : k ≤ 256) : ∃ (P : Iv) (W X D Z : Tri),
    (roundF a.1 k a.1.1 = (P.1, 0) ∧ roundF a.2 k (!a.2.1) = (P.2, 0) ∧ okI P = true ∧ SzI 34 P) ∧
    (subF a.2 a.1 = (W, 0) ∧ subF P.2 P.1 = (X, 0) ∧ subF X W = (D, 0) ∧ mulF (false, 2, 1) (FracP k) = (Z, 0)) ∧
    (Sz 128 W ∧ Sz 128 X ∧ Sz 128 D ∧ Sz 128 Z) ∧ subsI a P = true ∧ qv D < qv Z := by
  have o1 := okI_iff.1 ho
  have u1 := (okF_iff.1 o1.1).1
  have u2 := (okF_iff.1 o1.2.1).1
  obtain ⟨r1, z1⟩ := round_sz (x := a.1) (z := k) (away := a.1.1) (hs.1.up (by decide)) (by omega) (by omega)
  obtain ⟨r2, z2⟩ := round_sz (x := a.2) (z := k) (away := !a.2.1) (hs.2.up (by decide)) (by omega) (by omega)
  rw [Int.toNat_natCast] at r1 z1 r2 z2
  obtain ⟨l1, l2, -, -⟩ := round_law (s := a.1.1) (N := a.1.2.1) (n := k) u1
  obtain ⟨m1, -, m3, m4⟩ := round_law (s := a.2.1) (N := a.2.2.1) (n := k) u2
  generalize hQ1 : roundQ a.1.1 a.1.2.1 a.1.2.2 k a.1.1 = Q1 at *
  generalize hQ2 : roundQ a.2.1 a.2.2.1 a.2.2.2 k (!a.2.1) = Q2 at *
  obtain ⟨s1, y1⟩ := sub_sz hs.2 hs.1 (by decide)
  obtain ⟨s2, y2⟩ := sub_sz z2 z1 (by decide)
  obtain ⟨s3, y3⟩ := sub_sz y2 y1 (by decide)
  have hu := unit_sz hk
  obtain ⟨s4, y4⟩ := mul_sz (szSmall false 2 1 (by decide) (by decide) (by decide)) hu (by decide)
  rw [qv_can, qv_can] at s2 s3 y2 y3
  rw [qv_can, qv_can] at s3 y3
  have e1 : qv a.1 = frac a.1.1 a.1.2.1 a.1.2.2 := rfl
  have e2 : qv a.2 = frac a.2.1 a.2.2.1 a.2.2.2 := rfl
  have e3 : qv (false, 1, 2 ^ k) = unitQ k := rfl
  have e4 : qv (false, 2, 1) = 2 := by decide +kernel
  rw [← e1] at l1 l2
  rw [← e2] at m1 m3
  have hle : Q1 ≤ Q2 := Rat.le_trans l1 (Rat.le_trans o1.2.2 m3)
  have hoP : okI (can Q1, can Q2) = true := okI_iff.2 ⟨z1.ok (by decide), z2.ok (by decide), by rw [qv_can, qv_can]; exact hle⟩
  refine ⟨(can Q1, can Q2), _, _, _, _, ⟨r1, r2, hoP, z1, z2⟩, ⟨s1, s2, s3, s4⟩, ⟨y1.up (by decide), y2.up (by decide), y3.up (by decide), y4.up (by decide)⟩, ?_, ?_⟩
  · refine subsI_iff.2 ⟨ho, hoP, ?_, ?_⟩
    · show qv (can Q1) ≤ qv a.1 ∧ qv a.1 ≤ qv (can Q2)
      rw [qv_can, qv_can]; exact ⟨l1, Rat.le_trans o1.2.2 m3⟩
    · show qv (can Q1) ≤ qv a.2 ∧ qv a.2 ≤ qv (can Q2)
      rw [qv_can, qv_can]; exact ⟨Rat.le_trans l1 o1.2.2, m3⟩
  · rw [qv_can, qv_can, e3, e4]
    generalize unitQ k = U at *
    generalize roundQ a.2.1 a.2.2.1 a.2.2.2 k a.2.1 = Q3 at *
    generalize qv a.1 = A1 at *
    generalize qv a.2 = A2 at *
    rcases m4 with e | e <;> grind
set_option maxRecDepth 100000 in
set_option maxHeartbeats 20000000 in
theorem long_case {v : Value} {x : IvL} {z : Int} (w : World) (hx : IvI w v x) (hT : Tab w) (hl : longE x = true) : Calls Tryz.prog 4 #[v, .int .i64 z] w (LawP w) := by
  obtain ⟨an, n, cn, ad, d, cd, an', n', cn', ad', d', cd', rfl, i1, i2, i3, i4⟩ := hx
  obtain ⟨T, hA⟩ := laid6 w x.1.1 an n cn ad d cd x.2.1 an' n' cn' ad' d' cd'
  obtain ⟨W0, hW0⟩ : ∃ W0, W0 = (w.alloc (.cells #[.bool x.1.1, .slice an n cn, .slice ad d cd, .bool x.2.1, .slice an' n' cn', .slice ad' d' cd'] 27)) := ⟨_, rfl⟩
  rw [← hW0] at T hA
  have CL := Lib.hid (longI1 true (w := W0) (b := x.1.1) (b' := x.2.1) (w.heap.size + 1) (i1.mono T) (i2.mono T) (i3.mono T) (i4.mono T) (by rw [hW0]; simp) (Lib.hid hl))
  have TL : Add W0 (W0.alloc (.cells #[.bool x.1.1, .slice an n cn, .slice ad d cd, .bool x.2.1, .slice an' n' cn', .slice ad' d' cd'] 27)) := add_new _ _
  have hA0 := hA
  replace hA := hA.mono TL
  replace hT := (hT.mono T).mono TL
  replace T := Add.trans T TL
  have ca0 := hA0.c0
  have ca1 := hA0.c1
  have ca2 := hA0.c2
  have ca3 := hA0.c3
  have ca4 := hA0.c4
  have ca5 := hA0.c5
  rw [hW0] at ca0 ca1 ca2 ca3 ca4 ca5
  go_enter Tryz.func4, Tryz.ntmps4
  go_wp2_with fail
  rw [← hW0]
  refine CL.out.mono ?_
  rintro e w9 ⟨rfl, rfl⟩
  clear CL TL hW0 hl ca0 ca1 ca2 ca3 ca4 ca5 hA0 hA i1 i2 i3 i4
  go_wp2_with fail
  refine (awake3_any _ hT).mono ?_
  rintro e wz9 ⟨rfl, hz9⟩
  replace T := Add.trans T hz9
  clear hz9 hT
  go_wp2_with fail
  go_ret
  exact ⟨rfl, T⟩
set_option maxRecDepth 100000 in
set_option maxHeartbeats 20000000 in
theorem bad_case {v : Value} {x : IvL} {z : Int} (w : World) (hx : IvI w v x) (hT : Tab w) (hl : longE x = false) (ho : okI (ivOf x) = false) : Calls Tryz.prog 4 #[v, .int .i64 z] w (LawP w) := by
  have hl0 := hl
  obtain ⟨an, n, cn, ad, d, cd, an', n', cn', ad', d', cd', rfl, i1, i2, i3, i4⟩ := hx
  obtain ⟨T, hA⟩ := laid6 w x.1.1 an n cn ad d cd x.2.1 an' n' cn' ad' d' cd'
  obtain ⟨W0, hW0⟩ : ∃ W0, W0 = (w.alloc (.cells #[.bool x.1.1, .slice an n cn, .slice ad d cd, .bool x.2.1, .slice an' n' cn', .slice ad' d' cd'] 27)) := ⟨_, rfl⟩
  rw [← hW0] at T hA
  have CL := Lib.hid (longI1 false (w := W0) (b := x.1.1) (b' := x.2.1) (w.heap.size + 1) (i1.mono T) (i2.mono T) (i3.mono T) (i4.mono T) (by rw [hW0]; simp) (Lib.hid hl))
  have TL : Add W0 (W0.alloc (.cells #[.bool x.1.1, .slice an n cn, .slice ad d cd, .bool x.2.1, .slice an' n' cn', .slice ad' d' cd'] 27)) := add_new _ _
  have hA0 := hA
  replace hA := hA.mono TL
  replace hT := (hT.mono T).mono TL
  replace T := Add.trans T TL
  have ca0 := hA0.c0
  have ca1 := hA0.c1
  have ca2 := hA0.c2
  have ca3 := hA0.c3
  have ca4 := hA0.c4
  have ca5 := hA0.c5
  rw [hW0] at ca0 ca1 ca2 ca3 ca4 ca5
  have qa := (IvI.arg (w := w) ⟨an, n, cn, ad, d, cd, an', n', cn', ad', d', cd', rfl, i1, i2, i3, i4⟩ hl0).mono T
  have lm := IvI.lim (w := w) ⟨an, n, cn, ad, d, cd, an', n', cn', ad', d', cd', rfl, i1, i2, i3, i4⟩ hl0
  obtain ⟨a, ea⟩ : ∃ a : Iv, ivOf x = a := ⟨_, rfl⟩
  rw [ea] at qa lm ho
  have HO := Lib.hid ho
  clear ea lm ho hl0 i1 i2 i3 i4
  go_enter Tryz.func4, Tryz.ntmps4
  go_wp2_with fail
  rw [← hW0]
  refine CL.out.mono ?_
  rintro e w9 ⟨rfl, rfl⟩
  clear CL TL hW0 hl ca0 ca1 ca2 ca3 ca4 ca5 hA0 
  have ca0 := hA.c0
  have ca1 := hA.c1
  have ca2 := hA.c2
  have ca3 := hA.c3
  have ca4 := hA.c4
  have ca5 := hA.c5
  go_wp2_with fail
  refine ((outIN_refuses qa HO).mono fun _ _ g => g.no).mono ?_
  rintro e w1 ⟨a1, n1, k1, e1, d1, l1, a2, n2, k2, e2, d2, l2, rfl, x1, y1, x2, y2, h1⟩
  replace hT := hT.mono h1
  replace hA := hA.mono h1
  replace qa := qa.mono h1
  replace T := Add.trans T h1
  clear h1 ca0 ca1 ca2 ca3 ca4 ca5
  obtain ⟨tt, hC⟩ := laid6 w1 false a1 n1 k1 e1 d1 l1 false a2 n2 k2 e2 d2 l2
  replace hT := hT.mono tt
  replace hA := hA.mono tt
  replace qa := qa.mono tt
  replace x1 := x1.mono tt
  replace y1 := y1.mono tt
  replace x2 := x2.mono tt
  replace y2 := y2.mono tt
  replace T := Add.trans T tt
  clear tt
  have ca0 := hA.c0
  have ca1 := hA.c1
  have ca2 := hA.c2
  have ca3 := hA.c3
  have ca4 := hA.c4
  have ca5 := hA.c5
  go_wp2_with fail
  refine ((refOutIN_refuses qa HO).mono fun _ _ g => g.no).mono ?_
  rintro e w2 ⟨a3, n3, k3, e3, d3, l3, a4, n4, k4, e4, d4, l4, rfl, x3, y3, x4, y4, h2⟩
  replace hT := hT.mono h2
  replace hC := hC.mono h2
  replace x1 := x1.mono h2
  replace y1 := y1.mono h2
  replace x2 := x2.mono h2
  replace y2 := y2.mono h2
  replace T := Add.trans T h2
  clear h2 hA qa ca0 ca1 ca2 ca3 ca4 ca5
  obtain ⟨tt, hD⟩ := laid6 w2 false a3 n3 k3 e3 d3 l3 false a4 n4 k4 e4 d4 l4
  replace hT := hT.mono tt
  replace hC := hC.mono tt
  replace x1 := x1.mono tt
  replace y1 := y1.mono tt
  replace x2 := x2.mono tt
  replace y2 := y2.mono tt
  replace x3 := x3.mono tt
  replace y3 := y3.mono tt
  replace x4 := x4.mono tt
  replace y4 := y4.mono tt
  replace T := Add.trans T tt
  clear tt
  have ib : IvT _ _ zI := ⟨_, _, _, _, _, _, _, _, _, _, _, _, rfl, x1, y1, x2, y2⟩
  have ic : IvT _ _ zI := ⟨_, _, _, _, _, _, _, _, _, _, _, _, rfl, x3, y3, x4, y4⟩
  clear x1 y1 x2 y2 x3 y3 x4 y4
  have ca0 := hC.c0
  have ca1 := hC.c1
  have ca2 := hC.c2
  have ca3 := hC.c3
  have ca4 := hC.c4
  have ca5 := hC.c5
  have cb0 := hD.c0
  have cb1 := hD.c1
  have cb2 := hD.c2
  have cb3 := hD.c3
  have cb4 := hD.c4
  have cb5 := hD.c5
  go_wp2_with fail
  refine (sameIN true ib ic (selfI _)).mono ?_
  rintro e w3 ⟨rfl, h3⟩
  replace hT := hT.mono h3
  replace T := Add.trans T h3
  clear h3 ib ic hC hD ca0 ca1 ca2 ca3 ca4 ca5 cb0 cb1 cb2 cb3 cb4 cb5
  go_wp2_with fail
  refine (awake3_any _ hT).mono ?_
  rintro e wz9 ⟨rfl, hz9⟩
  replace T := Add.trans T hz9
  clear hz9 hT
  go_wp2_with fail
  go_ret
  exact ⟨rfl, T⟩
set_option maxRecDepth 100000 in
set_option maxHeartbeats 20000000 in
theorem range_case {v : Value} {x : IvL} {z : Int} (w : World) (hx : IvI w v x) (hT : Tab w) (hl : longE x = false) (ho : okI (ivOf x) = true) (hz : z < 0 ∨ 256 < z) : Calls Tryz.prog 4 #[v, .int .i64 z] w (LawP w) := by
  have hl0 := hl
  obtain ⟨an, n, cn, ad, d, cd, an', n', cn', ad', d', cd', rfl, i1, i2, i3, i4⟩ := hx
  obtain ⟨T, hA⟩ := laid6 w x.1.1 an n cn ad d cd x.2.1 an' n' cn' ad' d' cd'
  obtain ⟨W0, hW0⟩ : ∃ W0, W0 = (w.alloc (.cells #[.bool x.1.1, .slice an n cn, .slice ad d cd, .bool x.2.1, .slice an' n' cn', .slice ad' d' cd'] 27)) := ⟨_, rfl⟩
  rw [← hW0] at T hA
  have CL := Lib.hid (longI1 false (w := W0) (b := x.1.1) (b' := x.2.1) (w.heap.size + 1) (i1.mono T) (i2.mono T) (i3.mono T) (i4.mono T) (by rw [hW0]; simp) (Lib.hid hl))
  have TL : Add W0 (W0.alloc (.cells #[.bool x.1.1, .slice an n cn, .slice ad d cd, .bool x.2.1, .slice an' n' cn', .slice ad' d' cd'] 27)) := add_new _ _
  have hA0 := hA
  replace hA := hA.mono TL
  replace hT := (hT.mono T).mono TL
  replace T := Add.trans T TL
  have ca0 := hA0.c0
  have ca1 := hA0.c1
  have ca2 := hA0.c2
  have ca3 := hA0.c3
  have ca4 := hA0.c4
  have ca5 := hA0.c5
  rw [hW0] at ca0 ca1 ca2 ca3 ca4 ca5
  have qa := (IvI.arg (w := w) ⟨an, n, cn, ad, d, cd, an', n', cn', ad', d', cd', rfl, i1, i2, i3, i4⟩ hl0).mono T
  have lm := IvI.lim (w := w) ⟨an, n, cn, ad, d, cd, an', n', cn', ad', d', cd', rfl, i1, i2, i3, i4⟩ hl0
  obtain ⟨a, ea⟩ : ∃ a : Iv, ivOf x = a := ⟨_, rfl⟩
  rw [ea] at qa lm ho
  have HO := Lib.hid ho
  have G1 := Lib.hid (roundF_range (x := a.1) (z := z) (away := a.1.1) (okI_iff.1 ho).1 hz)
  have G2 := Lib.hid (roundF_range (x := a.2) (z := z) (away := !a.2.1) (okI_iff.1 ho).2.1 hz)
  clear ea lm ho hz hl0 i1 i2 i3 i4
  go_enter Tryz.func4, Tryz.ntmps4
  go_wp2_with fail
  rw [← hW0]
  refine CL.out.mono ?_
  rintro e w9 ⟨rfl, rfl⟩
  clear CL TL hW0 hl ca0 ca1 ca2 ca3 ca4 ca5 hA0 
  have ca0 := hA.c0
  have ca1 := hA.c1
  have ca2 := hA.c2
  have ca3 := hA.c3
  have ca4 := hA.c4
  have ca5 := hA.c5
  go_wp2_with fail
  refine ((outIN_range qa hT HO G1).mono fun _ _ g => g.no).mono ?_
  rintro e w1 ⟨a1, n1, k1, e1, d1, l1, a2, n2, k2, e2, d2, l2, rfl, x1, y1, x2, y2, h1⟩
  replace hT := hT.mono h1
  replace hA := hA.mono h1
  replace qa := qa.mono h1
  replace T := Add.trans T h1
  clear h1 ca0 ca1 ca2 ca3 ca4 ca5
  obtain ⟨tt, hC⟩ := laid6 w1 false a1 n1 k1 e1 d1 l1 false a2 n2 k2 e2 d2 l2
  replace hT := hT.mono tt
  replace hA := hA.mono tt
  replace qa := qa.mono tt
  replace x1 := x1.mono tt
  replace y1 := y1.mono tt
  replace x2 := x2.mono tt
  replace y2 := y2.mono tt
  replace T := Add.trans T tt
  clear tt
  have ca0 := hA.c0
  have ca1 := hA.c1
  have ca2 := hA.c2
  have ca3 := hA.c3
  have ca4 := hA.c4
  have ca5 := hA.c5
  go_wp2_with fail
  refine ((refOutIN_range qa HO G1 G2).mono fun _ _ g => g.no).mono ?_
  rintro e w2 ⟨a3, n3, k3, e3, d3, l3, a4, n4, k4, e4, d4, l4, rfl, x3, y3, x4, y4, h2⟩
  replace hT := hT.mono h2
  replace hC := hC.mono h2
  replace x1 := x1.mono h2
  replace y1 := y1.mono h2
  replace x2 := x2.mono h2
  replace y2 := y2.mono h2
  replace T := Add.trans T h2
  clear h2 hA qa ca0 ca1 ca2 ca3 ca4 ca5
  obtain ⟨tt, hD⟩ := laid6 w2 false a3 n3 k3 e3 d3 l3 false a4 n4 k4 e4 d4 l4
  replace hT := hT.mono tt
  replace hC := hC.mono tt
  replace x1 := x1.mono tt
  replace y1 := y1.mono tt
  replace x2 := x2.mono tt
  replace y2 := y2.mono tt
  replace x3 := x3.mono tt
  replace y3 := y3.mono tt
  replace x4 := x4.mono tt
  replace y4 := y4.mono tt
  replace T := Add.trans T tt
  clear tt
  have ib : IvT _ _ zI := ⟨_, _, _, _, _, _, _, _, _, _, _, _, rfl, x1, y1, x2, y2⟩
  have ic : IvT _ _ zI := ⟨_, _, _, _, _, _, _, _, _, _, _, _, rfl, x3, y3, x4, y4⟩
  clear x1 y1 x2 y2 x3 y3 x4 y4
  have ca0 := hC.c0
  have ca1 := hC.c1
  have ca2 := hC.c2
  have ca3 := hC.c3
  have ca4 := hC.c4
  have ca5 := hC.c5
  have cb0 := hD.c0
  have cb1 := hD.c1
  have cb2 := hD.c2
  have cb3 := hD.c3
  have cb4 := hD.c4
  have cb5 := hD.c5
  go_wp2_with fail
  refine (sameIN true ib ic (selfI _)).mono ?_
  rintro e w3 ⟨rfl, h3⟩
  replace hT := hT.mono h3
  replace T := Add.trans T h3
  clear h3 ib ic hC hD ca0 ca1 ca2 ca3 ca4 ca5 cb0 cb1 cb2 cb3 cb4 cb5
  go_wp2_with fail
  refine (awake3_any _ hT).mono ?_
  rintro e wz9 ⟨rfl, hz9⟩
  replace T := Add.trans T hz9
  clear hz9 hT
  go_wp2_with fail
  go_ret
  exact ⟨rfl, T⟩
set_option maxRecDepth 100000 in
set_option maxHeartbeats 20000000 in
theorem works_case {v : Value} {x : IvL} {k : Nat} (w : World) (hx : IvI w v x) (hT : Tab w) (hl : longE x = false) (ho : okI (ivOf x) = true) (hk : k ≤ 256) : Calls Tryz.prog 4 #[v, .int .i64 (k : Nat)] w (LawP w) := by
  have hl0 := hl
  obtain ⟨an, n, cn, ad, d, cd, an', n', cn', ad', d', cd', rfl, i1, i2, i3, i4⟩ := hx
  obtain ⟨T, hA⟩ := laid6 w x.1.1 an n cn ad d cd x.2.1 an' n' cn' ad' d' cd'
  obtain ⟨W0, hW0⟩ : ∃ W0, W0 = (w.alloc (.cells #[.bool x.1.1, .slice an n cn, .slice ad d cd, .bool x.2.1, .slice an' n' cn', .slice ad' d' cd'] 27)) := ⟨_, rfl⟩
  rw [← hW0] at T hA
  have CL := Lib.hid (longI1 false (w := W0) (b := x.1.1) (b' := x.2.1) (w.heap.size + 1) (i1.mono T) (i2.mono T) (i3.mono T) (i4.mono T) (by rw [hW0]; simp) (Lib.hid hl))
  have TL : Add W0 (W0.alloc (.cells #[.bool x.1.1, .slice an n cn, .slice ad d cd, .bool x.2.1, .slice an' n' cn', .slice ad' d' cd'] 27)) := add_new _ _
  have hA0 := hA
  replace hA := hA.mono TL
  replace hT := (hT.mono T).mono TL
  replace T := Add.trans T TL
  have ca0 := hA0.c0
  have ca1 := hA0.c1
  have ca2 := hA0.c2
  have ca3 := hA0.c3
  have ca4 := hA0.c4
  have ca5 := hA0.c5
  rw [hW0] at ca0 ca1 ca2 ca3 ca4 ca5
  have qa := (IvI.arg (w := w) ⟨an, n, cn, ad, d, cd, an', n', cn', ad', d', cd', rfl, i1, i2, i3, i4⟩ hl0).mono T
  have lm := IvI.lim (w := w) ⟨an, n, cn, ad, d, cd, an', n', cn', ad', d', cd', rfl, i1, i2, i3, i4⟩ hl0
  obtain ⟨a, ea⟩ : ∃ a : Iv, ivOf x = a := ⟨_, rfl⟩
  rw [ea] at qa lm ho
  obtain ⟨⟨⟨s1, N1, D1⟩, ⟨s2, N2, D2⟩⟩, ⟨s3, N3, D3⟩, ⟨s4, N4, D4⟩, ⟨s5, N5, D5⟩, ⟨s6, N6, D6⟩, ⟨r1, r2, r3, r4⟩, ⟨q1, q2, q3, q4⟩, ⟨z1, z2, z3, z4⟩, t1, t2⟩ := rounds_math (lm.sz ho) ho hk
  have HO := Lib.hid ho
  have R1 := Lib.hid r1
  have R2 := Lib.hid r2
  have R3 := Lib.hid r3
  have R4 := Lib.hid r4
  have Q1 := Lib.hid q1
  have Q2 := Lib.hid q2
  have Q3 := Lib.hid q3
  have Q4 := Lib.hid q4
  have Z1 := Lib.hid z1
  have Z2 := Lib.hid z2
  have Z3 := Lib.hid z3
  have Z4 := Lib.hid z4
  have T1 := Lib.hid t1
  have T2 := Lib.hid (decide_eq_true t2)
  have HK := Lib.hid hk
  clear ea lm ho hk r1 r2 r3 r4 q1 q2 q3 q4 z1 z2 z3 z4 t1 t2 hl0 i1 i2 i3 i4
  go_enter Tryz.func4, Tryz.ntmps4
  go_wp2_with fail
  rw [← hW0]
  refine CL.out.mono ?_
  rintro e w9 ⟨rfl, rfl⟩
  clear CL TL hW0 hl ca0 ca1 ca2 ca3 ca4 ca5 hA0 
  have ca0 := hA.c0
  have ca1 := hA.c1
  have ca2 := hA.c2
  have ca3 := hA.c3
  have ca4 := hA.c4
  have ca5 := hA.c5
  go_wp2_with fail
  refine ((outIN_works s1 N1 D1 s2 N2 D2 qa hT HO R1 R2).mono fun _ _ g => g.ok).mono ?_
  rintro e w1 ⟨a1, n1, k1, e1, d1, l1, a2, n2, k2, e2, d2, l2, rfl, x1, y1, x2, y2, h1⟩
  replace hT := hT.mono h1
  replace hA := hA.mono h1
  replace qa := qa.mono h1
  replace T := Add.trans T h1
  clear h1 ca0 ca1 ca2 ca3 ca4 ca5
  obtain ⟨tt, hC⟩ := laid6 w1 s1 a1 n1 k1 e1 d1 l1 s2 a2 n2 k2 e2 d2 l2
  replace hT := hT.mono tt
  replace hA := hA.mono tt
  replace qa := qa.mono tt
  replace x1 := x1.mono tt
  replace y1 := y1.mono tt
  replace x2 := x2.mono tt
  replace y2 := y2.mono tt
  replace T := Add.trans T tt
  clear tt
  have ca0 := hA.c0
  have ca1 := hA.c1
  have ca2 := hA.c2
  have ca3 := hA.c3
  have ca4 := hA.c4
  have ca5 := hA.c5
  go_wp2_with fail
  refine ((refOutIN_works (s1, N1, D1) (s2, N2, D2) qa HO R1 R2).mono fun _ _ g => g.ok).mono ?_
  rintro e w2 ⟨a3, n3, k3, e3, d3, l3, a4, n4, k4, e4, d4, l4, rfl, x3, y3, x4, y4, h2⟩
  replace hT := hT.mono h2
  replace hA := hA.mono h2
  replace qa := qa.mono h2
  replace hC := hC.mono h2
  replace x1 := x1.mono h2
  replace y1 := y1.mono h2
  replace x2 := x2.mono h2
  replace y2 := y2.mono h2
  replace T := Add.trans T h2
  clear h2 ca0 ca1 ca2 ca3 ca4 ca5
  obtain ⟨tt, hD⟩ := laid6 w2 s1 a3 n3 k3 e3 d3 l3 s2 a4 n4 k4 e4 d4 l4
  replace hT := hT.mono tt
  replace hA := hA.mono tt
  replace qa := qa.mono tt
  replace hC := hC.mono tt
  replace x1 := x1.mono tt
  replace y1 := y1.mono tt
  replace x2 := x2.mono tt
  replace y2 := y2.mono tt
  replace x3 := x3.mono tt
  replace y3 := y3.mono tt
  replace x4 := x4.mono tt
  replace y4 := y4.mono tt
  replace T := Add.trans T tt
  clear tt
  have ib : IvT _ _ ((s1, N1, D1), (s2, N2, D2)) := ⟨_, _, _, _, _, _, _, _, _, _, _, _, rfl, x1, y1, x2, y2⟩
  have ic : IvT _ _ ((s1, N1, D1), (s2, N2, D2)) := ⟨_, _, _, _, _, _, _, _, _, _, _, _, rfl, x3, y3, x4, y4⟩
  have qb := IvT.arg ib (lt_up R4.out.1.2.1 (by decide)) (lt_up R4.out.1.2.2 (by decide)) (lt_up R4.out.2.2.1 (by decide)) (lt_up R4.out.2.2.2 (by decide))
  clear x1 y1 x2 y2 x3 y3 x4 y4
  have ca0 := hC.c0
  have ca1 := hC.c1
  have ca2 := hC.c2
  have ca3 := hC.c3
  have ca4 := hC.c4
  have ca5 := hC.c5
  have cb0 := hD.c0
  have cb1 := hD.c1
  have cb2 := hD.c2
  have cb3 := hD.c3
  have cb4 := hD.c4
  have cb5 := hD.c5
  go_wp2_with fail
  refine (sameIN true ib ic (selfI _)).mono ?_
  rintro e w3 ⟨rfl, h3⟩
  replace hT := hT.mono h3
  replace hA := hA.mono h3
  replace hC := hC.mono h3
  replace qa := qa.mono h3
  replace qb := qb.mono h3
  replace T := Add.trans T h3
  clear h3 ib ic hD R1 R2 R4 ca0 ca1 ca2 ca3 ca4 ca5 cb0 cb1 cb2 cb3 cb4 cb5
  have ca0 := hA.c0
  have ca1 := hA.c1
  have ca2 := hA.c2
  have ca3 := hA.c3
  have ca4 := hA.c4
  have ca5 := hA.c5
  go_wp2_with fail
  refine ((widIN_works _ qa hT HO Q1).mono fun _ _ g => g.ok).mono ?_
  rintro e w4 ⟨a5, n5, k5, e5, d5, l5, rfl, x5, y5, h4⟩
  replace hT := hT.mono h4
  replace hA := hA.mono h4
  replace hC := hC.mono h4
  replace qa := qa.mono h4
  replace qb := qb.mono h4
  replace T := Add.trans T h4
  clear h4 Q1 ca0 ca1 ca2 ca3 ca4 ca5
  obtain ⟨tt, hV⟩ := laid_var w4 s3 a5 n5 k5 e5 d5 l5
  replace hT := hT.mono tt
  replace hA := hA.mono tt
  replace hC := hC.mono tt
  replace qa := qa.mono tt
  replace qb := qb.mono tt
  replace x5 := x5.mono tt
  replace y5 := y5.mono tt
  replace T := Add.trans T tt
  clear tt
  have ca0 := hC.c0
  have ca1 := hC.c1
  have ca2 := hC.c2
  have ca3 := hC.c3
  have ca4 := hC.c4
  have ca5 := hC.c5
  go_wp2_with fail
  refine ((widIN_works _ qb hT R3 Q2).mono fun _ _ g => g.ok).mono ?_
  rintro e w5 ⟨a6, n6, k6, e6, d6, l6, rfl, x6, y6, h5⟩
  replace hT := hT.mono h5
  replace hA := hA.mono h5
  replace hC := hC.mono h5
  replace qa := qa.mono h5
  replace qb := qb.mono h5
  replace hV := hV.mono h5
  replace x5 := x5.mono h5
  replace y5 := y5.mono h5
  replace T := Add.trans T h5
  clear h5 Q2 R3 ca0 ca1 ca2 ca3 ca4 ca5
  obtain ⟨tt, hU⟩ := laid_var w5 s4 a6 n6 k6 e6 d6 l6
  replace hT := hT.mono tt
  replace hA := hA.mono tt
  replace hC := hC.mono tt
  replace qa := qa.mono tt
  replace qb := qb.mono tt
  replace hV := hV.mono tt
  replace x5 := x5.mono tt
  replace y5 := y5.mono tt
  replace x6 := x6.mono tt
  replace y6 := y6.mono tt
  replace T := Add.trans T tt
  clear tt
  have f5 := numT x5 y5 Z1.out (by decide)
  have f6 := numT x6 y6 Z2.out (by decide)
  clear x5 y5 x6 y6 Z1 Z2
  have cv0 := hV.c0
  have cv1 := hV.c1
  have cv2 := hV.c2
  have cu0 := hU.c0
  have cu1 := hU.c1
  have cu2 := hU.c2
  go_wp2_with fail
  refine ((refSubN2 _ f6 f5 Q3).mono fun _ _ g => g.ok).mono ?_
  rintro e w6 ⟨a7, n7, k7, e7, d7, l7, rfl, x7, y7, h6⟩
  replace hT := hT.mono h6
  replace hA := hA.mono h6
  replace hC := hC.mono h6
  replace qa := qa.mono h6
  replace qb := qb.mono h6
  replace T := Add.trans T h6
  clear h6 f5 f6 Q3 hV hU cv0 cv1 cv2 cu0 cu1 cu2
  obtain ⟨tt, hV⟩ := laid_var w6 s5 a7 n7 k7 e7 d7 l7
  replace hT := hT.mono tt
  replace hA := hA.mono tt
  replace hC := hC.mono tt
  replace qa := qa.mono tt
  replace qb := qb.mono tt
  replace x7 := x7.mono tt
  replace y7 := y7.mono tt
  replace T := Add.trans T tt
  clear tt
  go_wp2_with fail
  refine (int_p2 _).mono ?_
  rintro e w7 ⟨v8, rfl, ⟨a8, n8, k8, e8, d8, l8, rfl, x8, y8⟩, h7⟩
  replace hT := hT.mono h7
  replace hA := hA.mono h7
  replace hC := hC.mono h7
  replace qa := qa.mono h7
  replace qb := qb.mono h7
  replace hV := hV.mono h7
  replace x7 := x7.mono h7
  replace y7 := y7.mono h7
  replace T := Add.trans T h7
  clear h7 
  go_wp2_with fail
  refine (refPowerN k HK).mono ?_
  rintro e w8 ⟨v9, rfl, ⟨a9, n9, k9, e9, d9, l9, rfl, x9, y9⟩, h8⟩
  replace hT := hT.mono h8
  replace hA := hA.mono h8
  replace hC := hC.mono h8
  replace qa := qa.mono h8
  replace qb := qb.mono h8
  replace hV := hV.mono h8
  replace x7 := x7.mono h8
  replace y7 := y7.mono h8
  replace x8 := x8.mono h8
  replace y8 := y8.mono h8
  replace T := Add.trans T h8
  clear h8 
  have f8 := numT x8 y8 (szSmall false 2 1 (by decide) (by decide) (by decide)) (by decide)
  have f9 : FracA _ _ (FracP k) := numT x9 y9 (unit_sz HK.out) (by decide)
  clear x8 y8 x9 y9 HK
  go_wp2_with fail
  refine ((refMulN2 _ f8 f9 Q4).mono fun _ _ g => g.ok).mono ?_
  rintro e w9 ⟨a10, n10, k10, e10, d10, l10, rfl, x10, y10, h9⟩
  replace hT := hT.mono h9
  replace hA := hA.mono h9
  replace hC := hC.mono h9
  replace qa := qa.mono h9
  replace qb := qb.mono h9
  replace hV := hV.mono h9
  replace x7 := x7.mono h9
  replace y7 := y7.mono h9
  replace T := Add.trans T h9
  clear h9 f8 f9 Q4
  obtain ⟨tt, hU⟩ := laid_var w9 s6 a10 n10 k10 e10 d10 l10
  replace hT := hT.mono tt
  replace hA := hA.mono tt
  replace hC := hC.mono tt
  replace qa := qa.mono tt
  replace qb := qb.mono tt
  replace hV := hV.mono tt
  replace x7 := x7.mono tt
  replace y7 := y7.mono tt
  replace x10 := x10.mono tt
  replace y10 := y10.mono tt
  replace T := Add.trans T tt
  clear tt
  have f7 := numT x7 y7 Z3.out (by decide)
  have f10 := numT x10 y10 Z4.out (by decide)
  have FL : Hid (okF (s5, N5, D5) = true ∧ okF (s6, N6, D6) = true) := Lib.hid ⟨Z3.out.ok (by decide), Z4.out.ok (by decide)⟩
  clear x7 y7 x10 y10 Z3 Z4
  have ca0 := hA.c0
  have ca1 := hA.c1
  have ca2 := hA.c2
  have ca3 := hA.c3
  have ca4 := hA.c4
  have ca5 := hA.c5
  have cb0 := hC.c0
  have cb1 := hC.c1
  have cb2 := hC.c2
  have cb3 := hC.c3
  have cb4 := hC.c4
  have cb5 := hC.c5
  go_wp2_with fail
  refine (insideN true qa qb T1).mono ?_
  rintro e w10 ⟨rfl, h10⟩
  replace hT := hT.mono h10
  replace hV := hV.mono h10
  replace hU := hU.mono h10
  replace f7 := f7.mono h10
  replace f10 := f10.mono h10
  replace T := Add.trans T h10
  clear h10 qa qb T1 hA hC HO ca0 ca1 ca2 ca3 ca4 ca5 cb0 cb1 cb2 cb3 cb4 cb5
  have cv0 := hV.c0
  have cv1 := hV.c1
  have cv2 := hV.c2
  have cu0 := hU.c0
  have cu1 := hU.c1
  have cu2 := hU.c2
  go_wp2_with fail
  refine (lessN true f7 f10 FL T2).mono ?_
  rintro e w11 ⟨rfl, h11⟩
  replace hT := hT.mono h11
  replace T := Add.trans T h11
  clear h11 f7 f10 FL T2 hV hU cv0 cv1 cv2 cu0 cu1 cu2
  go_wp2_with fail
  refine (awake3_any _ hT).mono ?_
  rintro e wz9 ⟨rfl, hz9⟩
  replace T := Add.trans T hz9
  clear hz9 hT
  go_wp2_with fail
  go_ret
  exact ⟨rfl, T⟩
theorem rounds3_any {v : Value} {x : IvL} {z : Int} (w : World) (hx : IvI w v x) (hT : Tab w) : Calls Tryz.prog 4 #[v, .int .i64 z] w (LawP w) := by
  rcases hl : longE x with _ | _
  · rcases ho : okI (ivOf x) with _ | _
    · exact bad_case w hx hT hl ho
    · by_cases hz : z < 0 ∨ 256 < z
      · exact range_case w hx hT hl ho hz
      · obtain ⟨k, rfl⟩ : ∃ k : Nat, z = (k : Int) := ⟨z.toNat, by omega⟩
        exact works_case w hx hT hl ho (by omega)
  · exact long_case w hx hT hl
end Go.Proofs.YtllemnmgbmohcaaGreatDoor.IvRoundsL
