/- Package interval: Hull.
(With the texts that are joined here: ) -/
import Derived.Test.YtifpfoeecnkhoaaGreatDoorZK
import Derived.Deep.CutRange

namespace Go.Proofs.YtifpfoeecnkhoaaGreatDoor
open Go.RowKit NatM Go.Proofs.YtifpfoeecnkhoaaGreatDoor.Api

theorem dropI {L : List Iv} {k n : Nat} (hn : L.length = n) (hk : k < n) : L.drop k = L.getD k zI :: L.drop (k + 1) := by
  rw [List.drop_eq_getElem_cons (by omega)]; simp [List.getD, show k < L.length by omega]
theorem ivA_lo {w : World} {b b' : Bool} {an n cn ad d cd an' n' cn' ad' d' cd'} {a : Iv} (h : IvA w (.agg #[.bool b, .slice an n cn, .slice ad d cd, .bool b', .slice an' n' cn', .slice ad' d' cd']) a) : FracA w (.agg #[.bool b, .slice an n cn, .slice ad d cd]) a.1 := by
  obtain ⟨a1, a2, a3, a4, a5, a6, a7, a8, a9, b1, b2, b3, e, h1, h2, h3, h4⟩ := h
  simp only [Value.agg.injEq, Array.mk.injEq, List.cons.injEq, Value.bool.injEq, Value.slice.injEq, and_true] at e
  obtain ⟨rfl, ⟨rfl, rfl, rfl⟩, ⟨rfl, rfl, rfl⟩, -⟩ := e
  exact ⟨_, _, _, _, _, _, rfl, h1, h2⟩
theorem ivA_hi {w : World} {b b' : Bool} {an n cn ad d cd an' n' cn' ad' d' cd'} {a : Iv} (h : IvA w (.agg #[.bool b, .slice an n cn, .slice ad d cd, .bool b', .slice an' n' cn', .slice ad' d' cd']) a) : FracA w (.agg #[.bool b', .slice an' n' cn', .slice ad' d' cd']) a.2 := by
  obtain ⟨a1, a2, a3, a4, a5, a6, a7, a8, a9, b1, b2, b3, e, h1, h2, h3, h4⟩ := h
  simp only [Value.agg.injEq, Array.mk.injEq, List.cons.injEq, Value.bool.injEq, Value.slice.injEq, and_true] at e
  obtain ⟨-, -, -, rfl, ⟨rfl, rfl, rfl⟩, ⟨rfl, rfl, rfl⟩⟩ := e
  exact ⟨_, _, _, _, _, _, rfl, h3, h4⟩
theorem twoDrew (W : World) (s1 : Bool) (a1 : Option Addr) (n1 k1 : Nat) (e1 : Option Addr) (d1 l1 : Nat) (s2 : Bool) (a2 : Option Addr) (m2 k2 : Nat) (e2 : Option Addr) (d4 l2 : Nat) :
    Add W (((W.alloc (.cells #[.bool s1, .slice a1 n1 k1, .slice e1 d1 l1] 25)).alloc (.cells #[.bool s2, .slice a2 m2 k2, .slice e2 d4 l2] 25)).drew) ∧ Box (((W.alloc (.cells #[.bool s1, .slice a1 n1 k1, .slice e1 d1 l1] 25)).alloc (.cells #[.bool s2, .slice a2 m2 k2, .slice e2 d4 l2] 25)).drew) W.heap.size s1 a1 n1 k1 e1 d1 l1 ∧ Box (((W.alloc (.cells #[.bool s1, .slice a1 n1 k1, .slice e1 d1 l1] 25)).alloc (.cells #[.bool s2, .slice a2 m2 k2, .slice e2 d4 l2] 25)).drew) (W.heap.size + 1) s2 a2 m2 k2 e2 d4 l2 :=
  ⟨Add.trans (Add.trans (add_new _ _) (add_new _ _)) (add_drew _), ((box_new ..).mono (add_new _ _)).mono (add_drew _), (Box.cells (by simp)).mono (add_drew _)⟩
set_option maxRecDepth 100000 in
set_option maxHeartbeats 20000000 in
theorem hullN (p : Iv × Nat) {v : Value} {L : List Iv} {w : World} (hl : IvsA w v L) (hT : Tab w) (hp : Hid (hullI L = p)) : Calls Tryz.prog 30 #[v] w (ResI w p) := by
  have hlw := hl
  obtain ⟨ao, n, c, rfl, hn, hn1, hc⟩ := hl
  obtain ⟨T, hR⟩ := laid6 w false none 0 0 none 0 0 false none 0 0 none 0 0
  rcases Nat.eq_zero_or_pos n with rfl | h0
  · have e : L = [] := List.eq_nil_of_length_eq_zero hn
    subst e
    have e : p = (zI, 1) := hp.out.symm
    subst e
    clear hc hn hlw hT hp
    go_enter Tryz.func30, Tryz.ntmps30
    have hbz := iv_zero
    go_wp2_with fail
    exact bodyPost_ret (v := .tuple #[.agg #[.bool false, .slice none 0 0, .slice none 0 0, .bool false, .slice none 0 0, .slice none 0 0], .int .i64 1]) (by simp [results, Tryz.results30, go_sem, hR.c0, hR.c1, hR.c2, hR.c3, hR.c4, hR.c5]) rfl ⟨_, rfl, ivT_zero _, T⟩
  · obtain ⟨b, off, s, an, m, cn, ad, d, cd, s', an', m', cn', ad', d', cd', rfl, q0, q1, q2, q3, q4, q5, qa⟩ := hc 0 h0
    simp only [Nat.zero_mul, Nat.add_zero] at q0 q1 q2 q3 q4 q5
    have HN := Lib.hid hn
    have dn : ((n : Int) == 0) = false := by simp; omega
    have HC := Lib.hid hc
    have fl := ivA_lo qa
    have fh := ivA_hi qa
    obtain ⟨x0, hx0⟩ : ∃ x, L.getD 0 zI = x := ⟨_, rfl⟩
    rw [hx0] at qa fl fh
    have HD : Hid (hullF (qv x0.1) (qv x0.2) (L.drop 0) = p) := Lib.hid (by
      have e := dropI hn h0
      rw [hx0] at e
      rw [← hp.out]
      have e2 : L.drop 0 = L := rfl
      rw [e2] at e ⊢
      rw [e]; rfl)
    have HX0 := Lib.hid hx0
    clear hc hx0 hp qa hn
    go_enter Tryz.func30, Tryz.ntmps30
    go_upto_region 3 with fail
    obtain ⟨W0, hW0⟩ : ∃ W0, W0 = (w.alloc (.cells #[.bool false, .slice none 0 0, .slice none 0 0, .bool false, .slice none 0 0, .slice none 0 0] 27)) := ⟨_, rfl⟩
    rw [← hW0] at T hR ⊢
    clear hW0

    have kk := fun (p : Addr) (v : Value) (q : w.cell? p = some v) => (T.cell (p := p) (World.block_lt_of_cell? w _ q)).trans q
    replace q0 := kk _ _ q0
    replace q1 := kk _ _ q1
    replace q2 := kk _ _ q2
    replace q3 := kk _ _ q3
    replace q4 := kk _ _ q4
    replace q5 := kk _ _ q5
    have K0 : Hid (∀ w', Add W0 w' → w'.cell? ⟨b, off, none⟩ = some (.bool s) ∧ w'.cell? ⟨b, off + 1, none⟩ = some (.slice an m cn) ∧ w'.cell? ⟨b, off + 2, none⟩ = some (.slice ad d cd) ∧ w'.cell? ⟨b, off + 3, none⟩ = some (.bool s') ∧ w'.cell? ⟨b, off + 4, none⟩ = some (.slice an' m' cn') ∧ w'.cell? ⟨b, off + 5, none⟩ = some (.slice ad' d' cd')) := Lib.hid fun w' k => ⟨(k.cell (World.block_lt_of_cell? W0 _ q0)).trans q0, (k.cell (World.block_lt_of_cell? W0 _ q1)).trans q1, (k.cell (World.block_lt_of_cell? W0 _ q2)).trans q2, (k.cell (World.block_lt_of_cell? W0 _ q3)).trans q3, (k.cell (World.block_lt_of_cell? W0 _ q4)).trans q4, (k.cell (World.block_lt_of_cell? W0 _ q5)).trans q5⟩
    clear kk
    go_cut [4, 5] from 8 (fun p q wx => ∃ g h, p = .pointer (some ⟨g, 0, none⟩) ∧ q = .pointer (some ⟨h, 0, none⟩) ∧ Laid2 W0 g h s an m cn ad d cd s' an' m' cn' ad' d' cd' wx ∧ g ≠ h ∧ W0.heap.size ≤ g ∧ W0.heap.size ≤ h)
    case first =>
      go_region_held3 (fun w' => w'.cell? ⟨b, off, none⟩ = some (.bool s) ∧ w'.cell? ⟨b, off + 1, none⟩ = some (.slice an m cn) ∧ w'.cell? ⟨b, off + 2, none⟩ = some (.slice ad d cd) ∧ w'.cell? ⟨b, off + 3, none⟩ = some (.bool s') ∧ w'.cell? ⟨b, off + 4, none⟩ = some (.slice an' m' cn') ∧ w'.cell? ⟨b, off + 5, none⟩ = some (.slice ad' d' cd'))
        (first | (refine K0.out _ ?_; (repeat (with_reducible refine Below.setCell ?_ (by dsimp only; omega) _)); (repeat (with_reducible refine Below.drew ?_)); (repeat (with_reducible refine Below.alloc ?_ (by first | omega | (simp; done) | (simp; omega)) _)); first | with_reducible assumption | with_reducible exact Below.refl _ _) | go_keep)
        (first | fail)
      · go_wp2_with fail
        go_meet
        obtain ⟨tt, b1, b2⟩ := twoDrew W0 s an m cn ad d cd s' an' m' cn' ad' d' cd'
        exact ⟨_, _, rfl, rfl, ⟨b1, b2, tt⟩, by omega, by omega, by omega⟩
      · go_wp2_with fail
        go_meet
        obtain ⟨tt, b1, b2⟩ := twoDrew W0 s' an' m' cn' ad' d' cd' s an m cn ad d cd
        exact ⟨_, _, rfl, rfl, ⟨b2, b1, tt⟩, by omega, by omega, by omega⟩
    case rest =>
      obtain ⟨g, h, rfl, rfl, ⟨hX, hY, tc⟩, hgh, hg0, hh0⟩ := hcut
      clear K0 q0 q1 q2 q3 q4 q5
      have hg1 : w.heap.size < g := Nat.lt_of_lt_of_le hR.lt hg0
      have hh1 : w.heap.size < h := Nat.lt_of_lt_of_le hR.lt hh0
      clear hg0 hh0
      replace hR := hR.mono tc
      replace T := Add.trans T tc
      clear tc
      have NE := Lib.hid (And.intro hgh (And.intro hg1 hh1))
      clear hgh hg1 hh1
      go_wp2_with fail
      go_loopw [22] (fun i wr => ∃ (k : Nat) (s1 : Bool) (a1 : Option Addr) (n1 k1 : Nat) (e1 : Option Addr) (d1 l1 : Nat) (xl : Tri) (s2 : Bool) (a2 : Option Addr) (m2 k2 : Nat) (e2 : Option Addr) (d4 l2 : Nat) (xh : Tri), k ≤ n ∧ i = .int .i64 (k : Nat) ∧ Box wr g s1 a1 n1 k1 e1 d1 l1 ∧ Box wr h s2 a2 m2 k2 e2 d4 l2 ∧ FracA w (.agg #[.bool s1, .slice a1 n1 k1, .slice e1 d1 l1]) xl ∧ FracA w (.agg #[.bool s2, .slice a2 m2 k2, .slice e2 d4 l2]) xh ∧ Hid ((k = 0 ∧ xl = x0.1 ∧ xh = x0.2) ∨ (okF xl = true ∧ okF xh = true)) ∧ Hid (hullF (qv xl) (qv xh) (L.drop k) = p) ∧ Box6 wr w.heap.size false none 0 0 none 0 0 false none 0 0 none 0 0 ∧ Add w wr) (fun i _ => n - (intOf i).toNat)
      case atStart => exact ⟨0, s, an, m, cn, ad, d, cd, _, s', an', m', cn', ad', d', cd', _, Nat.zero_le _, rfl, hX, hY, fl, fh, Lib.hid (.inl ⟨rfl, rfl, rfl⟩), HD, hR, T⟩
      case round =>
        clear hX hY fl fh HD hR T
        obtain ⟨k, s1, a1, n1, k1, e1, d1, l1, xl, s2, a2, m2, k2, e2, d4, l2, xh, hk, rfl, hX, hY, fl, fh, HO, HD, hR, T⟩ := hrel
        by_cases hlt : k < n
        · obtain ⟨b', off', s, an, m, cn, ad, d, cd, s', an', m', cn', ad', d', cd', e, q0, q1, q2, q3, q4, q5, qe⟩ := HC.out k hlt
          simp only [Option.some.injEq, Addr.mk.injEq, and_true] at e
          obtain ⟨rfl, rfl⟩ := e
          obtain ⟨y, hy⟩ : ∃ y, L.getD k zI = y := ⟨_, rfl⟩
          have hd := dropI HN.out hlt
          rw [hy] at qe hd
          have HG := Lib.hid hd
          have HY := Lib.hid hy
          have yl := ivA_lo qe
          have yh := ivA_hi qe
          have kk := fun (p : Addr) (v : Value) (q : w.cell? p = some v) => (T.cell (p := p) (World.block_lt_of_cell? w _ q)).trans q
          replace q0 := kk _ _ q0
          replace q1 := kk _ _ q1
          replace q2 := kk _ _ q2
          replace q3 := kk _ _ q3
          replace q4 := kk _ _ q4
          replace q5 := kk _ _ q5
          have lX := hX.lt
          have lY := hY.lt
          have T0 := T
          obtain ⟨tq, hA⟩ := laid6 wr s an m cn ad d cd s' an' m' cn' ad' d' cd'
          obtain ⟨t, ht⟩ : ∃ t, okI y = t := ⟨_, rfl⟩
          have HT := Lib.hid ht
          replace hX := hX.mono tq
          replace hY := hY.mono tq
          replace hR := hR.mono tq
          replace T := Add.trans T tq
          replace qe := qe.mono T
          clear tq hd hy kk ht
          cases t with
          | false =>
            have hpe : p = (zI, 1) := by rw [← HD.out, HG.out, hullF_bad HT.out]
            subst hpe
            clear hX hY hA fl fh yl yh HO HD HG
            go_wp2_with fail
            refine (validIN false qe HT).mono ?_
            rintro e w5 ⟨rfl, h5⟩
            replace hR := hR.mono h5
            replace T := Add.trans T h5
            clear h5 qe HT q0 q1 q2 q3 q4 q5
            have hP := Box6.put hR false none 0 0 none 0 0 false none 0 0 none 0 0
            have hF := resI_put (w := w) (p := (zI, 1)) hR (ivT_zero _) T (show w.heap.size ≤ w.heap.size by omega)
            obtain ⟨W7, hW7⟩ : ∃ W7, W7 = put6 (w5) (w.heap.size) (.bool false) (.slice none 0 0) (.slice none 0 0) (.bool false) (.slice none 0 0) (.slice none 0 0) := ⟨_, rfl⟩
            rw [← hW7] at hP hF
            unfold put6 at hW7
            have HF := Lib.hid hF
            have HW := Lib.hid hW7
            have hbz := iv_zero
            have hr0 := hR.c0
            have hr1 := hR.c1
            have hr2 := hR.c2
            have hr3 := hR.c3
            have hr4 := hR.c4
            have hr5 := hR.c5
            have hr6 := hR.fr 0
            have hr7 := hR.fr 1
            have hr8 := hR.fr 2
            have hr9 := hR.fr 3
            have hr10 := hR.fr 4
            have hr11 := hR.fr 5
            clear hF hW7 hR T 
            go_wp2_with fail
            rw [← HW.out]
            exact bodyPost_ret (v := .tuple #[.agg #[.bool false, .slice none 0 0, .slice none 0 0, .bool false, .slice none 0 0, .slice none 0 0], .int .i64 1]) (by simp [results, Tryz.results30, go_sem, hP.c0, hP.c1, hP.c2, hP.c3, hP.c4, hP.c5]) rfl HF.out
          | true =>
            have oy := okI_iff.1 HT.out
            have ol : okF xl = true ∧ okF xh = true := by
              rcases HO.out with ⟨rfl, rfl, rfl⟩ | h
              · have e : x0 = y := HX0.out.symm.trans HY.out
                subst e
                exact ⟨oy.1, oy.2.1⟩
              · exact h
            obtain ⟨s3, a3, n3, k3, e3, d3, l3, zl, C1, f1, o1, r1⟩ := pick_hi fl yl (Lib.hid ⟨ol.1, oy.1⟩)
            obtain ⟨s4, a4, n4, k4, e4, d5, l4, zh, C2, f2, o2, r2⟩ := pick_lo fh yh (Lib.hid ⟨ol.2, oy.2.1⟩)
            have HD2 : Hid (hullF (qv zl) (qv zh) (L.drop (k + 1)) = p) := Lib.hid (by rw [r1, r2, ← hullF_step HT.out, ← HG.out]; exact HD.out)
            have HO2 : Hid ((k + 1 = 0 ∧ zl = x0.1 ∧ zh = x0.2) ∨ (okF zl = true ∧ okF zh = true)) := Lib.hid (.inr ⟨o1, o2⟩)
            clear oy ol HO HD HG HY fl fh yl yh o1 o2 r1 r2
            go_wp2_with fail
            refine (validIN true qe HT).mono ?_
            rintro e w5 ⟨rfl, h5⟩
            replace hX := hX.mono h5
            replace hY := hY.mono h5
            replace hR := hR.mono h5
            replace hA := hA.mono h5
            replace T := Add.trans T h5
            clear h5 qe HT q0 q1 q2 q3 q4 q5
            have K0 : Hid (∀ w', Add w5 w' → w'.cell? ⟨wr.heap.size, 0, none⟩ = some (.bool s) ∧ w'.cell? ⟨wr.heap.size, 1, none⟩ = some (.slice an m cn) ∧ w'.cell? ⟨wr.heap.size, 2, none⟩ = some (.slice ad d cd) ∧ w'.cell? ⟨wr.heap.size, 3, none⟩ = some (.bool s') ∧ w'.cell? ⟨wr.heap.size, 4, none⟩ = some (.slice an' m' cn') ∧ w'.cell? ⟨wr.heap.size, 5, none⟩ = some (.slice ad' d' cd')) := Lib.hid fun w' k => ⟨(hA.mono k).c0, (hA.mono k).c1, (hA.mono k).c2, (hA.mono k).c3, (hA.mono k).c4, (hA.mono k).c5⟩
            have cx0 := hX.c0
            have cx1 := hX.c1
            have cx2 := hX.c2
            have cy0 := hY.c0
            have cy1 := hY.c1
            have cy2 := hY.c2
            have ca0 := hA.c0
            have ca1 := hA.c1
            have ca2 := hA.c2
            have ca3 := hA.c3
            have ca4 := hA.c4
            have ca5 := hA.c5
            obtain ⟨hgh, hg1, hh1⟩ := NE.out
            have hhg := hgh.symm
            clear NE
            go_wp2_with fail
            go_region_with (first | (go_at_call 39; ((with_reducible refine (C1.out _ (Add.trans T (Below.drew (Below.refl _ _)))).mono ?_); rintro e w7 ⟨rfl, hq1⟩; have t4 := Add.trans (Below.drew (Below.refl _ _) : Add w5 (World.drew w5)) hq1; have y7 := hY.mono t4; have y70 := y7.c0; have y71 := y7.c1; have y72 := y7.c2; have a7 := hA.mono t4; have a73 := a7.c3; have a74 := a7.c4; have a75 := a7.c5)) | (go_at_call 40; ((with_reducible refine (C2.out _ (Add.trans T t4)).mono ?_); rintro e w8 ⟨rfl, hq2⟩; have t5 := Add.trans t4 hq2; have x8 := hX.mono t5; have y8 := hY.mono t5; have p80 := x8.c0; have p81 := x8.c1; have p82 := x8.c2; have p83 := x8.fr 0; have p84 := x8.fr 1; have p85 := x8.fr 2; have o80 := y8.c0; have o81 := y8.c1; have o82 := y8.c2; have o83 := y8.fr 0; have o84 := y8.fr 1; have o85 := y8.fr 2; have HF := Lib.hid (And.intro (Box.other2 (x8.put s3 a3 n3 k3 e3 d3 l3) hgh (.bool s4) (.slice a4 n4 k4) (.slice e4 d5 l4)) (And.intro ((Box.other2 y8 hhg (.bool s3) (.slice a3 n3 k3) (.slice e3 d3 l3)).put s4 a4 n4 k4 e4 d5 l4) (And.intro (Box6.putBox (Box6.putBox (hR.mono t5) (show w.heap.size ≠ g by omega) (.bool s3) (.slice a3 n3 k3) (.slice e3 d3 l3)) (show w.heap.size ≠ h by omega) (.bool s4) (.slice a4 n4 k4) (.slice e4 d5 l4)) (put3_below (.bool s4) (.slice a4 n4 k4) (.slice e4 d5 l4) (put3_below (.bool s3) (.slice a3 n3 k3) (.slice e3 d3 l3) (Add.trans T t5) (show w.heap.size ≤ g by omega)) (show w.heap.size ≤ h by omega))))); unfold put3 at HF)))
            all_goals
              go_wp2_with fail
              obtain ⟨f3, f4, f5, f6⟩ := HF.out
              go_roundw
              case rel => exact ⟨k + 1, _, _, _, _, _, _, _, _, _, _, _, _, _, _, _, _, by omega, by go_num, f3, f4, f1, f2, HO2, HD2, f5, f6⟩
              case measure => simp only [intOf]; omega
        · obtain rfl : k = n := by omega
          have OK : Hid (okF xl = true ∧ okF xh = true) := Lib.hid (by
            rcases HO.out with h | h
            · omega
            · exact h)
          obtain ⟨⟨⟨s5, N5, D5⟩, ⟨s6, N6, D6⟩⟩, hq⟩ : ∃ q, (can (qv xl), can (qv xh)) = q := ⟨_, rfl⟩
          have hpe : p = (((s5, N5, D5), (s6, N6, D6)), 0) := by
            rw [← HD.out, List.drop_of_length_le (by rw [HN.out]; exact Nat.le_refl _), hullF_nil, ← hq]
          subst hpe
          have CB := Lib.hid (fun w' k => hq ▸ betweenN (w := w') (fl.mono (w' := w') k) (fh.mono k) (hT.mono k) OK)
          clear HO HD hq hlt
          have cv0 := hX.c0
          have cv1 := hX.c1
          have cv2 := hX.c2
          have cu0 := hY.c0
          have cu1 := hY.c1
          have cu2 := hY.c2
          go_wp2_with fail
          refine (CB.out _ T).mono ?_
          rintro e w6 ⟨v6, rfl, ⟨a7, n7, k7, e7, d7, l7, a8, n8, k8, e8, d8, l8, rfl, x7, y7, x8, y8⟩, h6⟩
          replace hR := hR.mono h6
          replace T := Add.trans T h6
          clear h6 CB hX hY cv0 cv1 cv2 cu0 cu1 cu2
          have hP := Box6.put hR s5 a7 n7 k7 e7 d7 l7 s6 a8 n8 k8 e8 d8 l8
          have hF := resI_put (w := w) (p := (((s5, N5, D5), (s6, N6, D6)), 0)) hR (⟨a7, n7, k7, e7, d7, l7, a8, n8, k8, e8, d8, l8, rfl, x7, y7, x8, y8⟩) T (show w.heap.size ≤ w.heap.size by omega)
          obtain ⟨W7, hW7⟩ : ∃ W7, W7 = put6 (w6) (w.heap.size) (.bool s5) (.slice a7 n7 k7) (.slice e7 d7 l7) (.bool s6) (.slice a8 n8 k8) (.slice e8 d8 l8) := ⟨_, rfl⟩
          rw [← hW7] at hP hF
          unfold put6 at hW7
          have HF := Lib.hid hF
          have HW := Lib.hid hW7
          have hr0 := hR.c0
          have hr1 := hR.c1
          have hr2 := hR.c2
          have hr3 := hR.c3
          have hr4 := hR.c4
          have hr5 := hR.c5
          have hr6 := hR.fr 0
          have hr7 := hR.fr 1
          have hr8 := hR.fr 2
          have hr9 := hR.fr 3
          have hr10 := hR.fr 4
          have hr11 := hR.fr 5
          clear hF hW7 hR T x7 y7 x8 y8
          go_wp2_with fail
          rw [← HW.out]
          exact bodyPost_ret (v := .tuple #[.agg #[.bool s5, .slice a7 n7 k7, .slice e7 d7 l7, .bool s6, .slice a8 n8 k8, .slice e8 d8 l8], .int .i64 0]) (by simp [results, Tryz.results30, go_sem, hP.c0, hP.c1, hP.c2, hP.c3, hP.c4, hP.c5]) rfl HF.out
end Go.Proofs.YtifpfoeecnkhoaaGreatDoor
