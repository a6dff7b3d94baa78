/- The law IntervalLattice: its walk, for all arguments.
(With the texts that are joined here: The reference of layer 3: Hull.) -/
import Derived.Test.YtifpfoeecnkhoaaGreatDoorZL
import Derived.Test.YtifpfoeecnkhoaaGreatDoorZK
import Derived.Test.YtifpfoeecnkhoaaGreatDoorZJ

namespace Go.Proofs.YtifpfoeecnkhoaaGreatDoor
open Go.RowKit NatM Go.Proofs.YtifpfoeecnkhoaaGreatDoor.Api

set_option maxRecDepth 100000 in
set_option maxHeartbeats 20000000 in
theorem refHullN (p : Iv × Nat) {v : Value} {L : List Iv} {w : World} (hl : IvsA w v L) (hp : Hid (hullI L = p)) : Calls Tryz.prog 31 #[v] w (ResI w p) := by
  obtain ⟨ao, n, c, rfl, hn, hn1, hc⟩ := hl
  obtain ⟨T, hR⟩ := laid6 w false none 0 0 none 0 0 false none 0 0 none 0 0
  rcases Nat.eq_zero_or_pos n with rfl | h0
  · have e : L = [] := List.eq_nil_of_length_eq_zero hn
    subst e
    have e : p = (zI, 1) := hp.out.symm
    subst e
    clear hc hn hp
    go_enter Tryz.func31, Tryz.ntmps31
    have hbz := iv_zero
    go_wp2_with fail
    exact bodyPost_ret (v := .tuple #[.agg #[.bool false, .slice none 0 0, .slice none 0 0, .bool false, .slice none 0 0, .slice none 0 0], .int .i64 1]) (by simp [results, Tryz.results31, go_sem, hR.c0, hR.c1, hR.c2, hR.c3, hR.c4, hR.c5]) rfl ⟨_, rfl, ivT_zero _, T⟩
  · obtain ⟨b, off, rfl⟩ : ∃ b off, ao = some ⟨b, off, none⟩ := by
      obtain ⟨b, off, -, -, -, -, -, -, -, -, -, -, -, -, -, -, e, -⟩ := hc 0 h0
      exact ⟨b, off, e⟩
    have HN := Lib.hid hn
    have H0 := Lib.hid h0
    have dn : ((n : Int) == 0) = false := by simp; omega
    have HC := Lib.hid hc
    clear hc hn h0
    go_enter Tryz.func31, Tryz.ntmps31
    go_wp2_with fail
    go_loopw [4] (fun i wr => ∃ k : Nat, k ≤ n ∧ i = .int .i64 (k : Nat) ∧ Hid ((L.take k).all okI = true) ∧ Box6 wr w.heap.size false none 0 0 none 0 0 false none 0 0 none 0 0 ∧ Add w wr) (fun i _ => n - (intOf i).toNat)
    case atStart => exact ⟨0, Nat.zero_le _, rfl, Lib.hid rfl, hR, T⟩
    case round =>
      clear hR T
      obtain ⟨k, hk, rfl, HK, hR, T⟩ := hrel
      by_cases hlt : k < n
      · obtain ⟨b', off', s, an, m, cn, ad, d, cd, s', an', m', cn', ad', d', cd', e, q0, q1, q2, q3, q4, q5, qe⟩ := HC.out k hlt
        simp only [Option.some.injEq, Addr.mk.injEq, and_true] at e
        obtain ⟨rfl, rfl⟩ := e
        obtain ⟨y, hy⟩ : ∃ y, L.getD k zI = y := ⟨_, rfl⟩
        rw [hy] at qe
        have HY := Lib.hid hy
        have kk := fun (p : Addr) (v : Value) (q : w.cell? p = some v) => (T.cell (p := p) (World.block_lt_of_cell? w _ q)).trans q
        replace q0 := kk _ _ q0
        replace q1 := kk _ _ q1
        replace q2 := kk _ _ q2
        replace q3 := kk _ _ q3
        replace q4 := kk _ _ q4
        replace q5 := kk _ _ q5
        replace qe := qe.mono T
        obtain ⟨t, ht⟩ : ∃ t, okI y = t := ⟨_, rfl⟩
        have HT := Lib.hid ht
        clear kk ht hy
        cases t with
        | false =>
          have hpe : p = (zI, 1) := by
            have hm : y ∈ L := by
              rw [← HY.out]
              have h1 : k < L.length := by rw [HN.out]; exact hlt
              simp [List.getD, h1]
            rw [← hp.out]
            cases L with
            | nil => cases hm
            | cons z s => exact hullF_all_bad hm HT.out
          subst hpe
          clear hp HY HK
          go_wp2_with fail
          refine (refValidIN false qe HT).mono ?_
          rintro e w5 ⟨rfl, h5⟩
          replace hR := hR.mono h5
          replace T := Add.trans T h5
          clear h5 qe HT q0 q1 q2 q3 q4 q5
          have hP := Box6.put hR false none 0 0 none 0 0 false none 0 0 none 0 0
          have hF := resI_put (w := w) (p := (zI, 1)) hR (ivT_zero _) T (show w.heap.size ≤ w.heap.size by omega)
          obtain ⟨W7, hW7⟩ : ∃ W7, W7 = put6 (w5) (w.heap.size) (.bool false) (.slice none 0 0) (.slice none 0 0) (.bool false) (.slice none 0 0) (.slice none 0 0) := ⟨_, rfl⟩
          rw [← hW7] at hP hF
          unfold put6 at hW7
          have HF := Lib.hid hF
          have HW := Lib.hid hW7
          have hbz := iv_zero
          have hr0 := hR.c0
          have hr1 := hR.c1
          have hr2 := hR.c2
          have hr3 := hR.c3
          have hr4 := hR.c4
          have hr5 := hR.c5
          have hr6 := hR.fr 0
          have hr7 := hR.fr 1
          have hr8 := hR.fr 2
          have hr9 := hR.fr 3
          have hr10 := hR.fr 4
          have hr11 := hR.fr 5
          clear hF hW7 hR T 
          go_wp2_with fail
          rw [← HW.out]
          exact bodyPost_ret (v := .tuple #[.agg #[.bool false, .slice none 0 0, .slice none 0 0, .bool false, .slice none 0 0, .slice none 0 0], .int .i64 1]) (by simp [results, Tryz.results31, go_sem, hP.c0, hP.c1, hP.c2, hP.c3, hP.c4, hP.c5]) rfl HF.out
        | true =>
          have HK2 : Hid ((L.take (k + 1)).all okI = true) := Lib.hid (by
            have h1 : k < L.length := by rw [HN.out]; exact hlt
            have e : L[k]? = some y := by rw [← HY.out]; simp [List.getD, h1]
            rw [List.take_add_one, List.all_append, HK.out, e]
            simp [HT.out])
          clear HK HY
          go_wp2_with fail
          refine (refValidIN true qe HT).mono ?_
          rintro e w5 ⟨rfl, h5⟩
          replace hR := hR.mono h5
          replace T := Add.trans T h5
          clear h5 qe HT q0 q1 q2 q3 q4 q5
          go_wp2_with fail
          go_roundw
          case rel => exact ⟨k + 1, by omega, by go_num, HK2, hR, T⟩
          case measure => simp only [intOf]; omega
      · obtain rfl : n = k := by omega
        have HA : Hid (L.all okI = true) := Lib.hid (by
          have h1 := HK.out
          rwa [List.take_of_length_le (by rw [HN.out]; exact Nat.le_refl _)] at h1)
        clear HK hlt
        obtain ⟨wm, rfl⟩ : ∃ wm, wm = wr := ⟨_, rfl⟩
        obtain ⟨b', off', s, an, m, cn, ad, d, cd, s', an', m', cn', ad', d', cd', e, q0, q1, q2, q3, q4, q5, qe⟩ := HC.out 0 H0.out
        simp only [Option.some.injEq, Addr.mk.injEq, and_true] at e
        obtain ⟨rfl, rfl⟩ := e
        simp only [Nat.zero_mul, Nat.add_zero] at q0 q1 q2 q3 q4 q5
        obtain ⟨y, hy⟩ : ∃ y, L.getD 0 zI = y := ⟨_, rfl⟩
        rw [hy] at qe
        have okA := List.all_eq_true.1 HA.out
        have oy : okI y = true := by
          refine okA y ?_
          rw [← hy]
          have h1 : 0 < L.length := by rw [HN.out]; exact H0.out
          simp [List.getD, h1]
        have HD : Hid (hullF (qv y.1) (qv y.2) (L.drop 1) = p) := Lib.hid (by
          have e := dropI HN.out H0.out
          rw [hy] at e
          have e2 : L.drop 0 = L := rfl
          rw [e2] at e
          rw [← hp.out]
          conv => rhs; rw [e]
          exact (hullI_cons oy).symm)
        have oyy := okI_iff.1 oy
        have OF : Hid (okF y.1 = true ∧ okF y.2 = true) := Lib.hid ⟨oyy.1, oyy.2.1⟩
        have yl := ivA_lo qe
        have yh := ivA_hi qe
        have kk := fun (p : Addr) (v : Value) (q : w.cell? p = some v) => (T.cell (p := p) (World.block_lt_of_cell? w _ q)).trans q
        replace q0 := kk _ _ q0
        replace q1 := kk _ _ q1
        replace q2 := kk _ _ q2
        replace q3 := kk _ _ q3
        replace q4 := kk _ _ q4
        replace q5 := kk _ _ q5
        have hl0 := hR.lt
        have hne0 : w.heap.size ≠ wm.heap.size ∧ w.heap.size ≤ wm.heap.size := ⟨by omega, by omega⟩
        obtain ⟨tq, hO⟩ := laid6 wm s an m cn ad d cd s' an' m' cn' ad' d' cd'
        replace hR := hR.mono tq
        replace T := Add.trans T tq
        have HNE : Hid (w.heap.size ≠ wm.heap.size ∧ w.heap.size ≤ wm.heap.size) := Lib.hid hne0
        clear tq kk okA oy oyy hp qe
        go_wp2_with fail
        go_loopw [6] (fun i wr => ∃ (k : Nat) (s1 : Bool) (a1 : Option Addr) (n1 k1 : Nat) (e1 : Option Addr) (d1 l1 : Nat) (xl : Tri) (s2 : Bool) (a2 : Option Addr) (m2 k2 : Nat) (e2 : Option Addr) (d4 l2 : Nat) (xh : Tri), k ≤ n ∧ i = .int .i64 (k : Nat) ∧ Box6 wr wm.heap.size s1 a1 n1 k1 e1 d1 l1 s2 a2 m2 k2 e2 d4 l2 ∧ FracA w (.agg #[.bool s1, .slice a1 n1 k1, .slice e1 d1 l1]) xl ∧ FracA w (.agg #[.bool s2, .slice a2 m2 k2, .slice e2 d4 l2]) xh ∧ Hid (okF xl = true ∧ okF xh = true) ∧ Hid (hullF (qv xl) (qv xh) (L.drop k) = p) ∧ Box6 wr w.heap.size false none 0 0 none 0 0 false none 0 0 none 0 0 ∧ Add w wr) (fun i _ => n - (intOf i).toNat)
        case atStart => exact ⟨1, s, an, m, cn, ad, d, cd, _, s', an', m', cn', ad', d', cd', _, H0.out, rfl, hO, yl, yh, OF, HD, hR, T⟩
        case round =>
          clear hO yl yh OF HD hR T q0 q1 q2 q3 q4 q5 hy
          obtain ⟨k, s1, a1, n1, k1, e1, d1, l1, xl, s2, a2, m2, k2, e2, d4, l2, xh, hk, rfl, hO, fl, fh, OF, HD, hR, T⟩ := hrel
          by_cases hlt : k < n
          · obtain ⟨b', off', s, an, m, cn, ad, d, cd, s', an', m', cn', ad', d', cd', e, q0, q1, q2, q3, q4, q5, qe⟩ := HC.out k hlt
            simp only [Option.some.injEq, Addr.mk.injEq, and_true] at e
            obtain ⟨rfl, rfl⟩ := e
            obtain ⟨y, hy⟩ : ∃ y, L.getD k zI = y := ⟨_, rfl⟩
            have hd := dropI HN.out hlt
            rw [hy] at qe hd
            have HG := Lib.hid hd
            have oy : okI y = true := by
              refine List.all_eq_true.1 HA.out y ?_
              rw [← hy]
              have h1 : k < L.length := by rw [HN.out]; exact hlt
              simp [List.getD, h1]
            have OY := Lib.hid oy
            have oyy := okI_iff.1 oy
            have OL : Hid (okF y.1 = true ∧ okF xl = true) := Lib.hid ⟨oyy.1, OF.out.1⟩
            have OH : Hid (okF xh = true ∧ okF y.2 = true) := Lib.hid ⟨OF.out.2, oyy.2.1⟩
            have yl := ivA_lo qe
            have yh := ivA_hi qe
            have Q := Lib.hid (And.intro q0 (And.intro q1 (And.intro q2 (And.intro q3 (And.intro q4 q5)))))
            have kk := fun (p : Addr) (v : Value) (q : w.cell? p = some v) => (T.cell (p := p) (World.block_lt_of_cell? w _ q)).trans q
            replace q0 := kk _ _ q0
            replace q1 := kk _ _ q1
            replace q2 := kk _ _ q2
            replace q3 := kk _ _ q3
            replace q4 := kk _ _ q4
            replace q5 := kk _ _ q5
            obtain ⟨t1, ht1⟩ : ∃ t, decide (qv y.1 < qv xl) = t := ⟨_, rfl⟩
            obtain ⟨t2, ht2⟩ : ∃ t, decide (qv xh < qv y.2) = t := ⟨_, rfl⟩
            have H1 := Lib.hid ht1
            have H2 := Lib.hid ht2
            clear kk hy hd oy oyy qe ht1 ht2
            have co0 := hO.c0
            have co1 := hO.c1
            have co2 := hO.c2
            have K0 : Hid (∀ w', Add wr w' → w'.cell? ⟨b, off + k * 6, none⟩ = some (.bool s) ∧ w'.cell? ⟨b, off + k * 6 + 1, none⟩ = some (.slice an m cn) ∧ w'.cell? ⟨b, off + k * 6 + 2, none⟩ = some (.slice ad d cd) ∧ w'.cell? ⟨wm.heap.size, 0, none⟩ = some (.bool s1) ∧ w'.cell? ⟨wm.heap.size, 1, none⟩ = some (.slice a1 n1 k1) ∧ w'.cell? ⟨wm.heap.size, 2, none⟩ = some (.slice e1 d1 l1)) := Lib.hid fun w' k => ⟨(k.cell (World.block_lt_of_cell? wr _ q0)).trans q0, (k.cell (World.block_lt_of_cell? wr _ q1)).trans q1, (k.cell (World.block_lt_of_cell? wr _ q2)).trans q2, (hO.mono k).c0, (hO.mono k).c1, (hO.mono k).c2⟩
            have CL : Hid (∀ w', Add wr w' → Calls Tryz.prog 46 #[.agg #[.bool s, .slice an m cn, .slice ad d cd], .agg #[.bool s1, .slice a1 n1 k1, .slice e1 d1 l1]] w' (BoolIs w' t1)) := Lib.hid fun w' k => lessN t1 (yl.mono (Add.trans T k)) (fl.mono (Add.trans T k)) OL H1
            go_wp2_with fail
            go_region_held3 (fun w' => w'.cell? ⟨b, off + k * 6, none⟩ = some (.bool s) ∧ w'.cell? ⟨b, off + k * 6 + 1, none⟩ = some (.slice an m cn) ∧ w'.cell? ⟨b, off + k * 6 + 2, none⟩ = some (.slice ad d cd) ∧ w'.cell? ⟨wm.heap.size, 0, none⟩ = some (.bool s1) ∧ w'.cell? ⟨wm.heap.size, 1, none⟩ = some (.slice a1 n1 k1) ∧ w'.cell? ⟨wm.heap.size, 2, none⟩ = some (.slice e1 d1 l1))
              (first | with_reducible exact K0.out _ t5 | with_reducible exact K0.out _ (Below.drew (Below.refl _ _)) | go_keep)
              (first | (go_at_call 46; ((with_reducible refine (CL.out _ (Below.drew (Below.refl _ _))).mono ?_); rintro e w5 ⟨rfl, hq5⟩; have t5 := Add.trans (Below.drew (Below.refl _ _) : Add wr (World.drew wr)) hq5)))
            replace hR := hR.mono t5
            replace hO := hO.mono t5
            replace T := Add.trans T t5
            clear t5 hq5 K0 CL q0 q1 q2 q3 q4 q5 co0 co1 co2
            cases t1 with
            | false =>
              obtain ⟨q0, q1, q2, q3, q4, q5⟩ := Q.out
              have kk := fun (p : Addr) (v : Value) (q : w.cell? p = some v) => (T.cell (p := p) (World.block_lt_of_cell? w _ q)).trans q
              replace q0 := kk _ _ q0
              replace q1 := kk _ _ q1
              replace q2 := kk _ _ q2
              replace q3 := kk _ _ q3
              replace q4 := kk _ _ q4
              replace q5 := kk _ _ q5
              clear kk
              have co3 := hO.c3
              have co4 := hO.c4
              have co5 := hO.c5
              have K0 : Hid (∀ w', Add w5 w' → w'.cell? ⟨wm.heap.size, 3, none⟩ = some (.bool s2) ∧ w'.cell? ⟨wm.heap.size, 4, none⟩ = some (.slice a2 m2 k2) ∧ w'.cell? ⟨wm.heap.size, 5, none⟩ = some (.slice e2 d4 l2) ∧ w'.cell? ⟨b, off + k * 6 + 3, none⟩ = some (.bool s') ∧ w'.cell? ⟨b, off + k * 6 + 4, none⟩ = some (.slice an' m' cn') ∧ w'.cell? ⟨b, off + k * 6 + 5, none⟩ = some (.slice ad' d' cd')) := Lib.hid fun w' k => ⟨(hO.mono k).c3, (hO.mono k).c4, (hO.mono k).c5, (k.cell (World.block_lt_of_cell? w5 _ q3)).trans q3, (k.cell (World.block_lt_of_cell? w5 _ q4)).trans q4, (k.cell (World.block_lt_of_cell? w5 _ q5)).trans q5⟩
              have CL : Hid (∀ w', Add w5 w' → Calls Tryz.prog 46 #[.agg #[.bool s2, .slice a2 m2 k2, .slice e2 d4 l2], .agg #[.bool s', .slice an' m' cn', .slice ad' d' cd']] w' (BoolIs w' t2)) := Lib.hid fun w' k => lessN t2 (fh.mono (Add.trans T k)) (yh.mono (Add.trans T k)) OH H2
              go_wp2_with fail
              go_region_held3 (fun w' => w'.cell? ⟨wm.heap.size, 3, none⟩ = some (.bool s2) ∧ w'.cell? ⟨wm.heap.size, 4, none⟩ = some (.slice a2 m2 k2) ∧ w'.cell? ⟨wm.heap.size, 5, none⟩ = some (.slice e2 d4 l2) ∧ w'.cell? ⟨b, off + k * 6 + 3, none⟩ = some (.bool s') ∧ w'.cell? ⟨b, off + k * 6 + 4, none⟩ = some (.slice an' m' cn') ∧ w'.cell? ⟨b, off + k * 6 + 5, none⟩ = some (.slice ad' d' cd'))
                (first | with_reducible exact K0.out _ t5 | with_reducible exact K0.out _ (Below.drew (Below.refl _ _)) | go_keep)
                (first | (go_at_call 46; ((with_reducible refine (CL.out _ (Below.drew (Below.refl _ _))).mono ?_); rintro e w8 ⟨rfl, hq5⟩; have t5 := Add.trans (Below.drew (Below.refl _ _) : Add w5 (World.drew w5)) hq5)))
              replace hR := hR.mono t5
              replace hO := hO.mono t5
              replace T := Add.trans T t5
              clear t5 hq5 K0 CL q0 q1 q2 q3 q4 q5 co3 co4 co5
              obtain ⟨q0, q1, q2, q3, q4, q5⟩ := Q.out
              have kk := fun (p : Addr) (v : Value) (q : w.cell? p = some v) => (T.cell (p := p) (World.block_lt_of_cell? w _ q)).trans q
              replace q0 := kk _ _ q0
              replace q1 := kk _ _ q1
              replace q2 := kk _ _ q2
              replace q3 := kk _ _ q3
              replace q4 := kk _ _ q4
              replace q5 := kk _ _ q5
              clear kk q0 q1 q2
              cases t2 with
              | false =>
                have ql : mn (qv xl) (qv y.1) = qv xl := by have := of_decide_eq_false H1.out; unfold mn; grind
                have qh : mx (qv xh) (qv y.2) = qv xh := by have := of_decide_eq_false H2.out; unfold mx; grind
                have HD2 : Hid (hullF (qv xl) (qv xh) (L.drop (k + 1)) = p) := Lib.hid (by rw [← ql, ← qh, ← hullF_step OY.out, ← HG.out]; exact HD.out)
                have OF2 : Hid (okF xl = true ∧ okF xh = true) := Lib.hid ⟨OL.out.2, OH.out.1⟩
                clear ql qh HD HG OF OL OH H1 H2
                go_wp2_with fail
                go_roundw
                case rel => exact ⟨k + 1, _, _, _, _, _, _, _, _, _, _, _, _, _, _, _, _, by omega, by go_num, hO, fl, fh, OF2, HD2, hR, T⟩
                case measure => simp only [intOf]; omega
              | true =>
                have ql : mn (qv xl) (qv y.1) = qv xl := by have := of_decide_eq_false H1.out; unfold mn; grind
                have qh : mx (qv xh) (qv y.2) = qv y.2 := by have := of_decide_eq_true H2.out; unfold mx; grind
                have HD2 : Hid (hullF (qv xl) (qv y.2) (L.drop (k + 1)) = p) := Lib.hid (by rw [← ql, ← qh, ← hullF_step OY.out, ← HG.out]; exact HD.out)
                have OF2 : Hid (okF xl = true ∧ okF y.2 = true) := Lib.hid ⟨OL.out.2, OH.out.2⟩
                clear ql qh HD HG OF OL OH H1 H2
                have cf3 := hO.c3
                have cg3 := hO.fr 3
                have cf4 := hO.c4
                have cg4 := hO.fr 4
                have cf5 := hO.c5
                have cg5 := hO.fr 5
                have HF := Lib.hid (And.intro (hO.put1 s' an' m' cn' ad' d' cd') (And.intro (hR.moved 3 4 5 (.bool s') (.slice an' m' cn') (.slice ad' d' cd') HNE.out.1) (set3_below 3 4 5 (.bool s') (.slice an' m' cn') (.slice ad' d' cd') T HNE.out.2)))
                clear hO hR T
                go_wp2_with fail
                obtain ⟨f3, f5, f6⟩ := HF.out
                go_roundw
                case rel => exact ⟨k + 1, _, _, _, _, _, _, _, _, _, _, _, _, _, _, _, _, by omega, by go_num, f3, fl, yh, OF2, HD2, f5, f6⟩
                case measure => simp only [intOf]; omega
            | true =>
              obtain ⟨q0, q1, q2, q3, q4, q5⟩ := Q.out
              have kk := fun (p : Addr) (v : Value) (q : w.cell? p = some v) => (T.cell (p := p) (World.block_lt_of_cell? w _ q)).trans q
              replace q0 := kk _ _ q0
              replace q1 := kk _ _ q1
              replace q2 := kk _ _ q2
              replace q3 := kk _ _ q3
              replace q4 := kk _ _ q4
              replace q5 := kk _ _ q5
              clear kk q3 q4 q5
              have cf0 := hO.c0
              have cg0 := hO.fr 0
              have cf1 := hO.c1
              have cg1 := hO.fr 1
              have cf2 := hO.c2
              have cg2 := hO.fr 2
              go_upto_region 14 with fail
              obtain ⟨W6, hW6⟩ : ∃ W6, W6 = (((w5.setCell ⟨wm.heap.size, 0, none⟩ (.bool s)).setCell ⟨wm.heap.size, 1, none⟩ (.slice an m cn)).setCell ⟨wm.heap.size, 2, none⟩ (.slice ad d cd)) := ⟨_, rfl⟩
              have hR6 : Box6 W6 w.heap.size false none 0 0 none 0 0 false none 0 0 none 0 0 := by rw [hW6]; exact hR.moved 0 1 2 (.bool s) (.slice an m cn) (.slice ad d cd) HNE.out.1
              have hO6 : Box6 W6 wm.heap.size s an m cn ad d cd s2 a2 m2 k2 e2 d4 l2 := by rw [hW6]; exact hO.put0 s an m cn ad d cd
              have T6 : Add w W6 := by rw [hW6]; exact set3_below 0 1 2 (.bool s) (.slice an m cn) (.slice ad d cd) T HNE.out.2
              rw [← hW6]
              clear hW6 hR hO T cf0 cf1 cf2 cg0 cg1 cg2
              have hR := hR6
              have hO := hO6
              have T := T6
              clear hR6 hO6 T6
              clear q0 q1 q2
              obtain ⟨q0, q1, q2, q3, q4, q5⟩ := Q.out
              have kk := fun (p : Addr) (v : Value) (q : w.cell? p = some v) => (T.cell (p := p) (World.block_lt_of_cell? w _ q)).trans q
              replace q0 := kk _ _ q0
              replace q1 := kk _ _ q1
              replace q2 := kk _ _ q2
              replace q3 := kk _ _ q3
              replace q4 := kk _ _ q4
              replace q5 := kk _ _ q5
              clear kk
              have co3 := hO.c3
              have co4 := hO.c4
              have co5 := hO.c5
              have K0 : Hid (∀ w', Add W6 w' → w'.cell? ⟨wm.heap.size, 3, none⟩ = some (.bool s2) ∧ w'.cell? ⟨wm.heap.size, 4, none⟩ = some (.slice a2 m2 k2) ∧ w'.cell? ⟨wm.heap.size, 5, none⟩ = some (.slice e2 d4 l2) ∧ w'.cell? ⟨b, off + k * 6 + 3, none⟩ = some (.bool s') ∧ w'.cell? ⟨b, off + k * 6 + 4, none⟩ = some (.slice an' m' cn') ∧ w'.cell? ⟨b, off + k * 6 + 5, none⟩ = some (.slice ad' d' cd')) := Lib.hid fun w' k => ⟨(hO.mono k).c3, (hO.mono k).c4, (hO.mono k).c5, (k.cell (World.block_lt_of_cell? W6 _ q3)).trans q3, (k.cell (World.block_lt_of_cell? W6 _ q4)).trans q4, (k.cell (World.block_lt_of_cell? W6 _ q5)).trans q5⟩
              have CL : Hid (∀ w', Add W6 w' → Calls Tryz.prog 46 #[.agg #[.bool s2, .slice a2 m2 k2, .slice e2 d4 l2], .agg #[.bool s', .slice an' m' cn', .slice ad' d' cd']] w' (BoolIs w' t2)) := Lib.hid fun w' k => lessN t2 (fh.mono (Add.trans T k)) (yh.mono (Add.trans T k)) OH H2
              go_wp2_with fail
              go_region_held3 (fun w' => w'.cell? ⟨wm.heap.size, 3, none⟩ = some (.bool s2) ∧ w'.cell? ⟨wm.heap.size, 4, none⟩ = some (.slice a2 m2 k2) ∧ w'.cell? ⟨wm.heap.size, 5, none⟩ = some (.slice e2 d4 l2) ∧ w'.cell? ⟨b, off + k * 6 + 3, none⟩ = some (.bool s') ∧ w'.cell? ⟨b, off + k * 6 + 4, none⟩ = some (.slice an' m' cn') ∧ w'.cell? ⟨b, off + k * 6 + 5, none⟩ = some (.slice ad' d' cd'))
                (first | with_reducible exact K0.out _ t5 | with_reducible exact K0.out _ (Below.drew (Below.refl _ _)) | go_keep)
                (first | (go_at_call 46; ((with_reducible refine (CL.out _ (Below.drew (Below.refl _ _))).mono ?_); rintro e w8 ⟨rfl, hq5⟩; have t5 := Add.trans (Below.drew (Below.refl _ _) : Add W6 (World.drew W6)) hq5)))
              replace hR := hR.mono t5
              replace hO := hO.mono t5
              replace T := Add.trans T t5
              clear t5 hq5 K0 CL q0 q1 q2 q3 q4 q5 co3 co4 co5
              obtain ⟨q0, q1, q2, q3, q4, q5⟩ := Q.out
              have kk := fun (p : Addr) (v : Value) (q : w.cell? p = some v) => (T.cell (p := p) (World.block_lt_of_cell? w _ q)).trans q
              replace q0 := kk _ _ q0
              replace q1 := kk _ _ q1
              replace q2 := kk _ _ q2
              replace q3 := kk _ _ q3
              replace q4 := kk _ _ q4
              replace q5 := kk _ _ q5
              clear kk q0 q1 q2
              cases t2 with
              | false =>
                have ql : mn (qv xl) (qv y.1) = qv y.1 := by have := of_decide_eq_true H1.out; unfold mn; grind
                have qh : mx (qv xh) (qv y.2) = qv xh := by have := of_decide_eq_false H2.out; unfold mx; grind
                have HD2 : Hid (hullF (qv y.1) (qv xh) (L.drop (k + 1)) = p) := Lib.hid (by rw [← ql, ← qh, ← hullF_step OY.out, ← HG.out]; exact HD.out)
                have OF2 : Hid (okF y.1 = true ∧ okF xh = true) := Lib.hid ⟨OL.out.1, OH.out.1⟩
                clear ql qh HD HG OF OL OH H1 H2
                go_wp2_with fail
                go_roundw
                case rel => exact ⟨k + 1, _, _, _, _, _, _, _, _, _, _, _, _, _, _, _, _, by omega, by go_num, hO, yl, fh, OF2, HD2, hR, T⟩
                case measure => simp only [intOf]; omega
              | true =>
                have ql : mn (qv xl) (qv y.1) = qv y.1 := by have := of_decide_eq_true H1.out; unfold mn; grind
                have qh : mx (qv xh) (qv y.2) = qv y.2 := by have := of_decide_eq_true H2.out; unfold mx; grind
                have HD2 : Hid (hullF (qv y.1) (qv y.2) (L.drop (k + 1)) = p) := Lib.hid (by rw [← ql, ← qh, ← hullF_step OY.out, ← HG.out]; exact HD.out)
                have OF2 : Hid (okF y.1 = true ∧ okF y.2 = true) := Lib.hid ⟨OL.out.1, OH.out.2⟩
                clear ql qh HD HG OF OL OH H1 H2
                have cf3 := hO.c3
                have cg3 := hO.fr 3
                have cf4 := hO.c4
                have cg4 := hO.fr 4
                have cf5 := hO.c5
                have cg5 := hO.fr 5
                have HF := Lib.hid (And.intro (hO.put1 s' an' m' cn' ad' d' cd') (And.intro (hR.moved 3 4 5 (.bool s') (.slice an' m' cn') (.slice ad' d' cd') HNE.out.1) (set3_below 3 4 5 (.bool s') (.slice an' m' cn') (.slice ad' d' cd') T HNE.out.2)))
                clear hO hR T
                go_wp2_with fail
                obtain ⟨f3, f5, f6⟩ := HF.out
                go_roundw
                case rel => exact ⟨k + 1, _, _, _, _, _, _, _, _, _, _, _, _, _, _, _, _, by omega, by go_num, f3, yl, yh, OF2, HD2, f5, f6⟩
                case measure => simp only [intOf]; omega
          · obtain rfl : n = k := by omega
            obtain ⟨⟨⟨s5, N5, D5⟩, ⟨s6, N6, D6⟩⟩, hq⟩ : ∃ q, (can (qv xl), can (qv xh)) = q := ⟨_, rfl⟩
            have hpe : p = (((s5, N5, D5), (s6, N6, D6)), 0) := by
              rw [← HD.out, List.drop_of_length_le (by rw [HN.out]; exact Nat.le_refl _), hullF_nil, ← hq]
            subst hpe
            have R1 : Hid (redF xl = ((s5, N5, D5), 0)) := Lib.hid (by rw [redF_ok OF.out.1]; exact congrArg (fun z : Iv => (z.1, 0)) hq)
            have R2 : Hid (redF xh = ((s6, N6, D6), 0)) := Lib.hid (by rw [redF_ok OF.out.2]; exact congrArg (fun z : Iv => (z.2, 0)) hq)
            have qo := iv_of_ends (fl.mono T) (fh.mono T)
            clear HD hq hlt OF
            have co0 := hO.c0
            have co1 := hO.c1
            have co2 := hO.c2
            have co3 := hO.c3
            have co4 := hO.c4
            have co5 := hO.c5
            go_wp2_with fail
            refine (refLowestIN s5 N5 D5 s6 N6 D6 qo R1 R2).mono ?_
            rintro e w9 ⟨v9, rfl, ⟨a7, n7, k7, e7, d7, l7, a8, n8, k8, e8, d8, l8, rfl, x7, y7, x8, y8⟩, h9⟩
            replace hR := hR.mono h9
            replace T := Add.trans T h9
            clear h9 qo hO fl fh R1 R2 co0 co1 co2 co3 co4 co5
            have hP := Box6.put hR s5 a7 n7 k7 e7 d7 l7 s6 a8 n8 k8 e8 d8 l8
            have hF := resI_put (w := w) (p := (((s5, N5, D5), (s6, N6, D6)), 0)) hR (⟨a7, n7, k7, e7, d7, l7, a8, n8, k8, e8, d8, l8, rfl, x7, y7, x8, y8⟩) T (show w.heap.size ≤ w.heap.size by omega)
            obtain ⟨W7, hW7⟩ : ∃ W7, W7 = put6 (w9) (w.heap.size) (.bool s5) (.slice a7 n7 k7) (.slice e7 d7 l7) (.bool s6) (.slice a8 n8 k8) (.slice e8 d8 l8) := ⟨_, rfl⟩
            rw [← hW7] at hP hF
            unfold put6 at hW7
            have HF := Lib.hid hF
            have HW := Lib.hid hW7
            have hr0 := hR.c0
            have hr1 := hR.c1
            have hr2 := hR.c2
            have hr3 := hR.c3
            have hr4 := hR.c4
            have hr5 := hR.c5
            have hr6 := hR.fr 0
            have hr7 := hR.fr 1
            have hr8 := hR.fr 2
            have hr9 := hR.fr 3
            have hr10 := hR.fr 4
            have hr11 := hR.fr 5
            clear hF hW7 hR T x7 y7 x8 y8
            go_wp2_with fail
            rw [← HW.out]
            exact bodyPost_ret (v := .tuple #[.agg #[.bool s5, .slice a7 n7 k7, .slice e7 d7 l7, .bool s6, .slice a8 n8 k8, .slice e8 d8 l8], .int .i64 0]) (by simp [results, Tryz.results31, go_sem, hP.c0, hP.c1, hP.c2, hP.c3, hP.c4, hP.c5]) rfl HF.out
end Go.Proofs.YtifpfoeecnkhoaaGreatDoor

namespace Go.Proofs.YtifpfoeecnkhoaaGreatDoor.IvLatL
open Go.Proofs.YtifpfoeecnkhoaaGreatDoor Go.RowKit NatM Go.Proofs.YtifpfoeecnkhoaaGreatDoor.Api

theorem startXYZ (w : World) (b : Bool) (an : Option Addr) (n cn : Nat) (ad : Option Addr) (d cd : Nat) (b' : Bool) (an' : Option Addr) (n' cn' : Nat) (ad' : Option Addr) (d' cd' : Nat) (b2 : Bool) (an2 : Option Addr) (n2 cn2 : Nat) (ad2 : Option Addr) (d2 cd2 : Nat) (b3 : Bool) (an3 : Option Addr) (n3 cn3 : Nat) (ad3 : Option Addr) (d3 cd3 : Nat) (b4 : Bool) (an4 : Option Addr) (n4 cn4 : Nat) (ad4 : Option Addr) (d4 cd4 : Nat) :
    Add w (((w.alloc (.cells #[.bool b, .slice an n cn, .slice ad d cd, .bool b', .slice an' n' cn', .slice ad' d' cd'] 27)).alloc (.cells #[.bool b2, .slice an2 n2 cn2, .slice ad2 d2 cd2, .bool b3, .slice an3 n3 cn3, .slice ad3 d3 cd3] 27)).alloc (.cells #[.bool b4, .slice an4 n4 cn4, .slice ad4 d4 cd4] 25)) ∧ Box6 (((w.alloc (.cells #[.bool b, .slice an n cn, .slice ad d cd, .bool b', .slice an' n' cn', .slice ad' d' cd'] 27)).alloc (.cells #[.bool b2, .slice an2 n2 cn2, .slice ad2 d2 cd2, .bool b3, .slice an3 n3 cn3, .slice ad3 d3 cd3] 27)).alloc (.cells #[.bool b4, .slice an4 n4 cn4, .slice ad4 d4 cd4] 25)) w.heap.size b an n cn ad d cd b' an' n' cn' ad' d' cd' ∧ Box6 (((w.alloc (.cells #[.bool b, .slice an n cn, .slice ad d cd, .bool b', .slice an' n' cn', .slice ad' d' cd'] 27)).alloc (.cells #[.bool b2, .slice an2 n2 cn2, .slice ad2 d2 cd2, .bool b3, .slice an3 n3 cn3, .slice ad3 d3 cd3] 27)).alloc (.cells #[.bool b4, .slice an4 n4 cn4, .slice ad4 d4 cd4] 25)) (w.heap.size + 1) b2 an2 n2 cn2 ad2 d2 cd2 b3 an3 n3 cn3 ad3 d3 cd3 ∧ Box (((w.alloc (.cells #[.bool b, .slice an n cn, .slice ad d cd, .bool b', .slice an' n' cn', .slice ad' d' cd'] 27)).alloc (.cells #[.bool b2, .slice an2 n2 cn2, .slice ad2 d2 cd2, .bool b3, .slice an3 n3 cn3, .slice ad3 d3 cd3] 27)).alloc (.cells #[.bool b4, .slice an4 n4 cn4, .slice ad4 d4 cd4] 25)) (w.heap.size + 1 + 1) b4 an4 n4 cn4 ad4 d4 cd4 :=
  ⟨Add.trans (Add.trans (add_new _ _) (add_new _ _)) (add_new _ _), ((box6_new ..).mono (add_new _ _)).mono (add_new _ _), (Box6.cells (by simp)).mono (add_new _ _), Box.cells (by simp)⟩
theorem ivsTwo {w : World} {g : Nat} {i j : Iv} {b : Bool} {an : Option Addr} {n cn : Nat} {ad : Option Addr} {d cd : Nat} {b' : Bool} {an' : Option Addr} {n' cn' : Nat} {ad' : Option Addr} {d' cd' : Nat} {b2 : Bool} {an2 : Option Addr} {n2 cn2 : Nat} {ad2 : Option Addr} {d2 cd2 : Nat} {b3 : Bool} {an3 : Option Addr} {n3 cn3 : Nat} {ad3 : Option Addr} {d3 cd3 : Nat} (hi : IvA w (.agg #[.bool b, .slice an n cn, .slice ad d cd, .bool b', .slice an' n' cn', .slice ad' d' cd']) i) (hj : IvA w (.agg #[.bool b2, .slice an2 n2 cn2, .slice ad2 d2 cd2, .bool b3, .slice an3 n3 cn3, .slice ad3 d3 cd3]) j) (hg : w.heap.size = g) :
    IvsA (w.alloc (.cells #[.bool b, .slice an n cn, .slice ad d cd, .bool b', .slice an' n' cn', .slice ad' d' cd', .bool b2, .slice an2 n2 cn2, .slice ad2 d2 cd2, .bool b3, .slice an3 n3 cn3, .slice ad3 d3 cd3] 27)) (.slice (some ⟨g, 0, none⟩) 2 2) [i, j] := by
  subst hg
  refine ⟨_, 2, 2, rfl, rfl, by decide, fun k hk => ?_⟩
  have e : k = 0 ∨ k = 1 := by omega
  rcases e with rfl | rfl
  · refine ⟨w.heap.size, 0, b, an, n, cn, ad, d, cd, b', an', n', cn', ad', d', cd', rfl, ?_, ?_, ?_, ?_, ?_, ?_, hi.mono (add_new _ _)⟩ <;> rw [World.cell?_alloc_new] <;> rfl
  · refine ⟨w.heap.size, 0, b2, an2, n2, cn2, ad2, d2, cd2, b3, an3, n3, cn3, ad3, d3, cd3, rfl, ?_, ?_, ?_, ?_, ?_, ?_, hj.mono (add_new _ _)⟩ <;> rw [World.cell?_alloc_new] <;> rfl
theorem frac12 {w : World} {v : Value} {z : FrL} (h : FracI w v z.1 z.2.1 z.2.2) (h1 : ¬ 12 < z.2.1.length) (h2 : ¬ 12 < z.2.2.length) : FracA w v (triOf z) := by
  obtain ⟨a1, l1, k1, a2, l2, k2, rfl, r1, r2⟩ := h
  exact ⟨a1, l1, k1, a2, l2, k2, rfl, ⟨_, r1, rfl, by omega⟩, ⟨_, r2, rfl, by omega⟩⟩
theorem frac12_lim {w : World} {v : Value} {z : FrL} (h : FracI w v z.1 z.2.1 z.2.2) (h1 : ¬ 12 < z.2.1.length) (h2 : ¬ 12 < z.2.2.length) : (triOf z).2.1 < pw 12 ∧ (triOf z).2.2 < pw 12 := by
  obtain ⟨a1, l1, k1, a2, l2, k2, rfl, r1, r2⟩ := h
  exact ⟨Nat.lt_of_lt_of_le (val_lt r1.limbs) (pw_le (by omega)), Nat.lt_of_lt_of_le (val_lt r2.limbs) (pw_le (by omega))⟩
set_option maxRecDepth 100000 in
set_option maxHeartbeats 20000000 in
theorem long_case {v v' u : Value} {x y : IvL} {z : FrL} (w : World) (hx : IvI w v x) (hy : IvI w v' y) (hu : FracI w u z.1 z.2.1 z.2.2) (hT : Tab w) (hl : (longE x || longE y) = true) : Calls Tryz.prog 4 #[v, v', u] w (LawP w) := by
  have hu0 := hu
  obtain ⟨an, n, cn, ad, d, cd, an', n', cn', ad', d', cd', rfl, i1, i2, i3, i4⟩ := hx
  obtain ⟨an2, n2, cn2, ad2, d2, cd2, an3, n3, cn3, ad3, d3, cd3, rfl, j1, j2, j3, j4⟩ := hy
  obtain ⟨an4, n4, cn4, ad4, d4, cd4, rfl, u1, u2⟩ := hu
  obtain ⟨T, hA, hB, hX⟩ := startXYZ w x.1.1 an n cn ad d cd x.2.1 an' n' cn' ad' d' cd' y.1.1 an2 n2 cn2 ad2 d2 cd2 y.2.1 an3 n3 cn3 ad3 d3 cd3 z.1 an4 n4 cn4 ad4 d4 cd4
  obtain ⟨W0, hW0⟩ : ∃ W0, W0 = (((w.alloc (.cells #[.bool x.1.1, .slice an n cn, .slice ad d cd, .bool x.2.1, .slice an' n' cn', .slice ad' d' cd'] 27)).alloc (.cells #[.bool y.1.1, .slice an2 n2 cn2, .slice ad2 d2 cd2, .bool y.2.1, .slice an3 n3 cn3, .slice ad3 d3 cd3] 27)).alloc (.cells #[.bool z.1, .slice an4 n4 cn4, .slice ad4 d4 cd4] 25)) := ⟨_, rfl⟩
  rw [← hW0] at T hA hB hX
  have CL := Lib.hid (longI2 true (w := W0) (b := x.1.1) (b' := x.2.1) (b2 := y.1.1) (b3 := y.2.1) (w.heap.size + 1 + 1 + 1) (i1.mono T) (i2.mono T) (i3.mono T) (i4.mono T) (j1.mono T) (j2.mono T) (j3.mono T) (j4.mono T) (by rw [hW0]; simp) (Lib.hid hl))
  have TL : Add W0 (W0.alloc (.cells #[.bool x.1.1, .slice an n cn, .slice ad d cd, .bool x.2.1, .slice an' n' cn', .slice ad' d' cd', .bool y.1.1, .slice an2 n2 cn2, .slice ad2 d2 cd2, .bool y.2.1, .slice an3 n3 cn3, .slice ad3 d3 cd3] 27)) := add_new _ _
  have hA0 := hA
  have hB0 := hB
  replace hA := hA.mono TL
  replace hB := hB.mono TL
  replace hX := hX.mono TL
  replace hT := (hT.mono T).mono TL
  replace T := Add.trans T TL
  have e1 : n4 = z.2.1.length := u1.lenV
  have e2 : d4 = z.2.2.length := u2.lenV
  have ca0 := hA0.c0
  have ca1 := hA0.c1
  have ca2 := hA0.c2
  have ca3 := hA0.c3
  have ca4 := hA0.c4
  have ca5 := hA0.c5
  have cb0 := hB0.c0
  have cb1 := hB0.c1
  have cb2 := hB0.c2
  have cb3 := hB0.c3
  have cb4 := hB0.c4
  have cb5 := hB0.c5
  rw [hW0] at ca0 ca1 ca2 ca3 ca4 ca5 cb0 cb1 cb2 cb3 cb4 cb5
  clear e1 e2
  go_enter Tryz.func4, Tryz.ntmps4
  go_wp2_with fail
  rw [← hW0]
  refine CL.out.mono ?_
  rintro e w9 ⟨rfl, rfl⟩
  clear CL TL hW0 hl hA0 hB0 ca0 ca1 ca2 ca3 ca4 ca5 cb0 cb1 cb2 cb3 cb4 cb5 hA hB hX hu0 i1 i2 i3 i4 j1 j2 j3 j4 u1 u2
  go_wp2_with fail
  refine (awake3_any _ hT).mono ?_
  rintro e wz9 ⟨rfl, hz9⟩
  replace T := Add.trans T hz9
  clear hz9 hT
  go_wp2_with fail
  go_ret
  exact ⟨rfl, T⟩
set_option maxRecDepth 100000 in
set_option maxHeartbeats 20000000 in
theorem longN {v v' u : Value} {x y : IvL} {z : FrL} (w : World) (hx : IvI w v x) (hy : IvI w v' y) (hu : FracI w u z.1 z.2.1 z.2.2) (hT : Tab w) (hl : (longE x || longE y) = false) (h12 : 12 < z.2.1.length) : Calls Tryz.prog 4 #[v, v', u] w (LawP w) := by
  have hu0 := hu
  obtain ⟨an, n, cn, ad, d, cd, an', n', cn', ad', d', cd', rfl, i1, i2, i3, i4⟩ := hx
  obtain ⟨an2, n2, cn2, ad2, d2, cd2, an3, n3, cn3, ad3, d3, cd3, rfl, j1, j2, j3, j4⟩ := hy
  obtain ⟨an4, n4, cn4, ad4, d4, cd4, rfl, u1, u2⟩ := hu
  obtain ⟨T, hA, hB, hX⟩ := startXYZ w x.1.1 an n cn ad d cd x.2.1 an' n' cn' ad' d' cd' y.1.1 an2 n2 cn2 ad2 d2 cd2 y.2.1 an3 n3 cn3 ad3 d3 cd3 z.1 an4 n4 cn4 ad4 d4 cd4
  obtain ⟨W0, hW0⟩ : ∃ W0, W0 = (((w.alloc (.cells #[.bool x.1.1, .slice an n cn, .slice ad d cd, .bool x.2.1, .slice an' n' cn', .slice ad' d' cd'] 27)).alloc (.cells #[.bool y.1.1, .slice an2 n2 cn2, .slice ad2 d2 cd2, .bool y.2.1, .slice an3 n3 cn3, .slice ad3 d3 cd3] 27)).alloc (.cells #[.bool z.1, .slice an4 n4 cn4, .slice ad4 d4 cd4] 25)) := ⟨_, rfl⟩
  rw [← hW0] at T hA hB hX
  have CL := Lib.hid (longI2 false (w := W0) (b := x.1.1) (b' := x.2.1) (b2 := y.1.1) (b3 := y.2.1) (w.heap.size + 1 + 1 + 1) (i1.mono T) (i2.mono T) (i3.mono T) (i4.mono T) (j1.mono T) (j2.mono T) (j3.mono T) (j4.mono T) (by rw [hW0]; simp) (Lib.hid hl))
  have TL : Add W0 (W0.alloc (.cells #[.bool x.1.1, .slice an n cn, .slice ad d cd, .bool x.2.1, .slice an' n' cn', .slice ad' d' cd', .bool y.1.1, .slice an2 n2 cn2, .slice ad2 d2 cd2, .bool y.2.1, .slice an3 n3 cn3, .slice ad3 d3 cd3] 27)) := add_new _ _
  have hA0 := hA
  have hB0 := hB
  replace hA := hA.mono TL
  replace hB := hB.mono TL
  replace hX := hX.mono TL
  replace hT := (hT.mono T).mono TL
  replace T := Add.trans T TL
  have e1 : n4 = z.2.1.length := u1.lenV
  have e2 : d4 = z.2.2.length := u2.lenV
  have ca0 := hA0.c0
  have ca1 := hA0.c1
  have ca2 := hA0.c2
  have ca3 := hA0.c3
  have ca4 := hA0.c4
  have ca5 := hA0.c5
  have cb0 := hB0.c0
  have cb1 := hB0.c1
  have cb2 := hB0.c2
  have cb3 := hB0.c3
  have cb4 := hB0.c4
  have cb5 := hB0.c5
  rw [hW0] at ca0 ca1 ca2 ca3 ca4 ca5 cb0 cb1 cb2 cb3 cb4 cb5
  have dk1 : decide ((12 : Int) < (n4 : Int)) = true := by simp; omega
  clear e1 e2
  go_enter Tryz.func4, Tryz.ntmps4
  go_wp2_with fail
  rw [← hW0]
  refine CL.out.mono ?_
  rintro e w9 ⟨rfl, rfl⟩
  clear CL TL hW0 hl hA0 hB0 ca0 ca1 ca2 ca3 ca4 ca5 cb0 cb1 cb2 cb3 cb4 cb5 hA hB hu0 i1 i2 i3 i4 j1 j2 j3 j4 u1 u2 h12
  have cx1 := hX.c1
  go_wp2_with fail
  refine (awake3_any _ hT).mono ?_
  rintro e wz9 ⟨rfl, hz9⟩
  replace T := Add.trans T hz9
  clear hz9 hT
  go_wp2_with fail
  go_ret
  exact ⟨rfl, T⟩
set_option maxRecDepth 100000 in
set_option maxHeartbeats 20000000 in
theorem longD {v v' u : Value} {x y : IvL} {z : FrL} (w : World) (hx : IvI w v x) (hy : IvI w v' y) (hu : FracI w u z.1 z.2.1 z.2.2) (hT : Tab w) (hl : (longE x || longE y) = false) (h12 : ¬ 12 < z.2.1.length) (h13 : 12 < z.2.2.length) : Calls Tryz.prog 4 #[v, v', u] w (LawP w) := by
  have hu0 := hu
  obtain ⟨an, n, cn, ad, d, cd, an', n', cn', ad', d', cd', rfl, i1, i2, i3, i4⟩ := hx
  obtain ⟨an2, n2, cn2, ad2, d2, cd2, an3, n3, cn3, ad3, d3, cd3, rfl, j1, j2, j3, j4⟩ := hy
  obtain ⟨an4, n4, cn4, ad4, d4, cd4, rfl, u1, u2⟩ := hu
  obtain ⟨T, hA, hB, hX⟩ := startXYZ w x.1.1 an n cn ad d cd x.2.1 an' n' cn' ad' d' cd' y.1.1 an2 n2 cn2 ad2 d2 cd2 y.2.1 an3 n3 cn3 ad3 d3 cd3 z.1 an4 n4 cn4 ad4 d4 cd4
  obtain ⟨W0, hW0⟩ : ∃ W0, W0 = (((w.alloc (.cells #[.bool x.1.1, .slice an n cn, .slice ad d cd, .bool x.2.1, .slice an' n' cn', .slice ad' d' cd'] 27)).alloc (.cells #[.bool y.1.1, .slice an2 n2 cn2, .slice ad2 d2 cd2, .bool y.2.1, .slice an3 n3 cn3, .slice ad3 d3 cd3] 27)).alloc (.cells #[.bool z.1, .slice an4 n4 cn4, .slice ad4 d4 cd4] 25)) := ⟨_, rfl⟩
  rw [← hW0] at T hA hB hX
  have CL := Lib.hid (longI2 false (w := W0) (b := x.1.1) (b' := x.2.1) (b2 := y.1.1) (b3 := y.2.1) (w.heap.size + 1 + 1 + 1) (i1.mono T) (i2.mono T) (i3.mono T) (i4.mono T) (j1.mono T) (j2.mono T) (j3.mono T) (j4.mono T) (by rw [hW0]; simp) (Lib.hid hl))
  have TL : Add W0 (W0.alloc (.cells #[.bool x.1.1, .slice an n cn, .slice ad d cd, .bool x.2.1, .slice an' n' cn', .slice ad' d' cd', .bool y.1.1, .slice an2 n2 cn2, .slice ad2 d2 cd2, .bool y.2.1, .slice an3 n3 cn3, .slice ad3 d3 cd3] 27)) := add_new _ _
  have hA0 := hA
  have hB0 := hB
  replace hA := hA.mono TL
  replace hB := hB.mono TL
  replace hX := hX.mono TL
  replace hT := (hT.mono T).mono TL
  replace T := Add.trans T TL
  have e1 : n4 = z.2.1.length := u1.lenV
  have e2 : d4 = z.2.2.length := u2.lenV
  have ca0 := hA0.c0
  have ca1 := hA0.c1
  have ca2 := hA0.c2
  have ca3 := hA0.c3
  have ca4 := hA0.c4
  have ca5 := hA0.c5
  have cb0 := hB0.c0
  have cb1 := hB0.c1
  have cb2 := hB0.c2
  have cb3 := hB0.c3
  have cb4 := hB0.c4
  have cb5 := hB0.c5
  rw [hW0] at ca0 ca1 ca2 ca3 ca4 ca5 cb0 cb1 cb2 cb3 cb4 cb5
  have dk1 : decide ((12 : Int) < (n4 : Int)) = false := by simp; omega
  have dk2 : decide ((12 : Int) < (d4 : Int)) = true := by simp; omega
  clear e1 e2
  go_enter Tryz.func4, Tryz.ntmps4
  go_wp2_with fail
  rw [← hW0]
  refine CL.out.mono ?_
  rintro e w9 ⟨rfl, rfl⟩
  clear CL TL hW0 hl hA0 hB0 ca0 ca1 ca2 ca3 ca4 ca5 cb0 cb1 cb2 cb3 cb4 cb5 hA hB hu0 i1 i2 i3 i4 j1 j2 j3 j4 u1 u2 h12 h13
  have cx1 := hX.c1
  have cx2 := hX.c2
  go_wp2_with fail
  refine (awake3_any _ hT).mono ?_
  rintro e wz9 ⟨rfl, hz9⟩
  replace T := Add.trans T hz9
  clear hz9 hT
  go_wp2_with fail
  go_ret
  exact ⟨rfl, T⟩
set_option maxRecDepth 100000 in
set_option maxHeartbeats 20000000 in
theorem bad_case {v v' u : Value} {x y : IvL} {z : FrL} (w : World) (hx : IvI w v x) (hy : IvI w v' y) (hu : FracI w u z.1 z.2.1 z.2.2) (hT : Tab w) (hl : (longE x || longE y) = false) (h12 : ¬ 12 < z.2.1.length) (h13 : ¬ 12 < z.2.2.length) (ho : okI (ivOf x) = false ∨ okI (ivOf y) = false) : Calls Tryz.prog 4 #[v, v', u] w (LawP w) := by
  have hl0 := hl
  have hu0 := hu
  obtain ⟨an, n, cn, ad, d, cd, an', n', cn', ad', d', cd', rfl, i1, i2, i3, i4⟩ := hx
  obtain ⟨an2, n2, cn2, ad2, d2, cd2, an3, n3, cn3, ad3, d3, cd3, rfl, j1, j2, j3, j4⟩ := hy
  obtain ⟨an4, n4, cn4, ad4, d4, cd4, rfl, u1, u2⟩ := hu
  obtain ⟨T, hA, hB, hX⟩ := startXYZ w x.1.1 an n cn ad d cd x.2.1 an' n' cn' ad' d' cd' y.1.1 an2 n2 cn2 ad2 d2 cd2 y.2.1 an3 n3 cn3 ad3 d3 cd3 z.1 an4 n4 cn4 ad4 d4 cd4
  obtain ⟨W0, hW0⟩ : ∃ W0, W0 = (((w.alloc (.cells #[.bool x.1.1, .slice an n cn, .slice ad d cd, .bool x.2.1, .slice an' n' cn', .slice ad' d' cd'] 27)).alloc (.cells #[.bool y.1.1, .slice an2 n2 cn2, .slice ad2 d2 cd2, .bool y.2.1, .slice an3 n3 cn3, .slice ad3 d3 cd3] 27)).alloc (.cells #[.bool z.1, .slice an4 n4 cn4, .slice ad4 d4 cd4] 25)) := ⟨_, rfl⟩
  rw [← hW0] at T hA hB hX
  have CL := Lib.hid (longI2 false (w := W0) (b := x.1.1) (b' := x.2.1) (b2 := y.1.1) (b3 := y.2.1) (w.heap.size + 1 + 1 + 1) (i1.mono T) (i2.mono T) (i3.mono T) (i4.mono T) (j1.mono T) (j2.mono T) (j3.mono T) (j4.mono T) (by rw [hW0]; simp) (Lib.hid hl))
  have TL : Add W0 (W0.alloc (.cells #[.bool x.1.1, .slice an n cn, .slice ad d cd, .bool x.2.1, .slice an' n' cn', .slice ad' d' cd', .bool y.1.1, .slice an2 n2 cn2, .slice ad2 d2 cd2, .bool y.2.1, .slice an3 n3 cn3, .slice ad3 d3 cd3] 27)) := add_new _ _
  have hA0 := hA
  have hB0 := hB
  replace hA := hA.mono TL
  replace hB := hB.mono TL
  replace hX := hX.mono TL
  replace hT := (hT.mono T).mono TL
  replace T := Add.trans T TL
  have e1 : n4 = z.2.1.length := u1.lenV
  have e2 : d4 = z.2.2.length := u2.lenV
  have ca0 := hA0.c0
  have ca1 := hA0.c1
  have ca2 := hA0.c2
  have ca3 := hA0.c3
  have ca4 := hA0.c4
  have ca5 := hA0.c5
  have cb0 := hB0.c0
  have cb1 := hB0.c1
  have cb2 := hB0.c2
  have cb3 := hB0.c3
  have cb4 := hB0.c4
  have cb5 := hB0.c5
  rw [hW0] at ca0 ca1 ca2 ca3 ca4 ca5 cb0 cb1 cb2 cb3 cb4 cb5
  have dk1 : decide ((12 : Int) < (n4 : Int)) = false := by simp; omega
  have dk2 : decide ((12 : Int) < (d4 : Int)) = false := by simp; omega
  clear e1 e2
  simp only [Bool.or_eq_false_iff] at hl0
  have qa := (IvI.arg (w := w) ⟨an, n, cn, ad, d, cd, an', n', cn', ad', d', cd', rfl, i1, i2, i3, i4⟩ hl0.1).mono T
  have qb := (IvI.arg (w := w) ⟨an2, n2, cn2, ad2, d2, cd2, an3, n3, cn3, ad3, d3, cd3, rfl, j1, j2, j3, j4⟩ hl0.2).mono T
  have la := IvI.lim (w := w) ⟨an, n, cn, ad, d, cd, an', n', cn', ad', d', cd', rfl, i1, i2, i3, i4⟩ hl0.1
  have lb := IvI.lim (w := w) ⟨an2, n2, cn2, ad2, d2, cd2, an3, n3, cn3, ad3, d3, cd3, rfl, j1, j2, j3, j4⟩ hl0.2
  have qx := (frac12 hu0 h12 h13).mono T
  have lx := frac12_lim hu0 h12 h13
  obtain ⟨a, ea⟩ : ∃ a : Iv, ivOf x = a := ⟨_, rfl⟩
  obtain ⟨b, eb⟩ : ∃ a : Iv, ivOf y = a := ⟨_, rfl⟩
  obtain ⟨c, ec⟩ : ∃ c : Tri, triOf z = c := ⟨_, rfl⟩
  rw [ea] at qa la ho
  rw [eb] at qb lb ho
  rw [ec] at qx lx
  obtain ⟨hh, hm, hc⟩ := lat_bad (a := a) (b := b) c ho
  obtain ⟨t1, ht1⟩ : ∃ t, inI a c = t := ⟨_, rfl⟩
  obtain ⟨t2, ht2⟩ : ∃ t, inI b c = t := ⟨_, rfl⟩
  rw [ht1, ht2] at hc
  have HH := Lib.hid hh
  have HO := Lib.hid ho
  have H1 := Lib.hid ht1
  have H2 := Lib.hid ht2
  clear hh hm ho la lb lx ht1 ht2
  clear ea eb ec hl0 hu0 h12 h13 i1 i2 i3 i4 j1 j2 j3 j4 u1 u2
  go_enter Tryz.func4, Tryz.ntmps4
  go_wp2_with fail
  rw [← hW0]
  refine CL.out.mono ?_
  rintro e w9 ⟨rfl, rfl⟩
  clear CL TL hW0 hl hA0 hB0 ca0 ca1 ca2 ca3 ca4 ca5 cb0 cb1 cb2 cb3 cb4 cb5 
  obtain ⟨WL, hWL⟩ : ∃ WL, WL = W0.alloc (.cells #[.bool x.1.1, .slice an n cn, .slice ad d cd, .bool x.2.1, .slice an' n' cn', .slice ad' d' cd', .bool y.1.1, .slice an2 n2 cn2, .slice ad2 d2 cd2, .bool y.2.1, .slice an3 n3 cn3, .slice ad3 d3 cd3] 27) := ⟨_, rfl⟩
  rw [← hWL] at T hT hA hB hX qa qb qx ⊢
  clear hWL
  have cx1 := hX.c1
  have cx2 := hX.c2
  have ca0 := hA.c0
  have ca1 := hA.c1
  have ca2 := hA.c2
  have ca3 := hA.c3
  have ca4 := hA.c4
  have ca5 := hA.c5
  have cb0 := hB.c0
  have cb1 := hB.c1
  have cb2 := hB.c2
  have cb3 := hB.c3
  have cb4 := hB.c4
  have cb5 := hB.c5
  have ff := ivsTwo (w := WL) (g := WL.heap.size) qa qb rfl
  have tl : Add WL (WL.alloc (.cells #[.bool x.1.1, .slice an n cn, .slice ad d cd, .bool x.2.1, .slice an' n' cn', .slice ad' d' cd', .bool y.1.1, .slice an2 n2 cn2, .slice ad2 d2 cd2, .bool y.2.1, .slice an3 n3 cn3, .slice ad3 d3 cd3] 27)) := add_new _ _
  go_wp2_with fail
  refine ((hullN _ ff (hT.mono (add_new _ _)) HH).mono fun _ _ g => g.no).mono ?_
  rintro e w1 ⟨p1, m1, c1, q1, d1, e1, p1', m1', c1', q1', d1', e1', rfl, x1, y1, x1', y1', h1⟩
  replace h1 := Add.trans tl h1
  replace hT := hT.mono h1
  replace hA := hA.mono h1
  replace hB := hB.mono h1
  replace hX := hX.mono h1
  replace qa := qa.mono h1
  replace qb := qb.mono h1
  replace qx := qx.mono h1
  replace T := Add.trans T h1
  clear h1 tl ff ca0 ca1 ca2 ca3 ca4 ca5 cb0 cb1 cb2 cb3 cb4 cb5
  obtain ⟨tt, hC⟩ := laid6 w1 false p1 m1 c1 q1 d1 e1 false p1' m1' c1' q1' d1' e1'
  replace hT := hT.mono tt
  replace hA := hA.mono tt
  replace hB := hB.mono tt
  replace hX := hX.mono tt
  replace qa := qa.mono tt
  replace qb := qb.mono tt
  replace qx := qx.mono tt
  replace x1 := x1.mono tt
  replace y1 := y1.mono tt
  replace x1' := x1'.mono tt
  replace y1' := y1'.mono tt
  replace T := Add.trans T tt
  clear tt
  have it1 : IvT _ _ zI := ⟨_, _, _, _, _, _, _, _, _, _, _, _, rfl, x1, y1, x1', y1'⟩
  clear x1 y1 x1' y1'
  have ca0 := hA.c0
  have ca1 := hA.c1
  have ca2 := hA.c2
  have ca3 := hA.c3
  have ca4 := hA.c4
  have ca5 := hA.c5
  have cb0 := hB.c0
  have cb1 := hB.c1
  have cb2 := hB.c2
  have cb3 := hB.c3
  have cb4 := hB.c4
  have cb5 := hB.c5
  have ff := ivsTwo (w := w1.alloc (.cells #[.bool false, .slice p1 m1 c1, .slice q1 d1 e1, .bool false, .slice p1' m1' c1', .slice q1' d1' e1'] 27)) (g := w1.heap.size + 1) qa qb (by simp)
  have tl : Add (w1.alloc (.cells #[.bool false, .slice p1 m1 c1, .slice q1 d1 e1, .bool false, .slice p1' m1' c1', .slice q1' d1' e1'] 27)) ((w1.alloc (.cells #[.bool false, .slice p1 m1 c1, .slice q1 d1 e1, .bool false, .slice p1' m1' c1', .slice q1' d1' e1'] 27)).alloc (.cells #[.bool x.1.1, .slice an n cn, .slice ad d cd, .bool x.2.1, .slice an' n' cn', .slice ad' d' cd', .bool y.1.1, .slice an2 n2 cn2, .slice ad2 d2 cd2, .bool y.2.1, .slice an3 n3 cn3, .slice ad3 d3 cd3] 27)) := add_new _ _
  go_wp2_with fail
  refine ((refHullN _ ff HH).mono fun _ _ g => g.no).mono ?_
  rintro e w2 ⟨p2, m2, c2, q2, d2, e2, p2', m2', c2', q2', d2', e2', rfl, x2, y2, x2', y2', h2⟩
  replace h2 := Add.trans tl h2
  replace hT := hT.mono h2
  replace hA := hA.mono h2
  replace hB := hB.mono h2
  replace hX := hX.mono h2
  replace qa := qa.mono h2
  replace qb := qb.mono h2
  replace qx := qx.mono h2
  replace hC := hC.mono h2
  replace it1 := it1.mono h2
  replace T := Add.trans T h2
  clear h2 tl ff ca0 ca1 ca2 ca3 ca4 ca5 cb0 cb1 cb2 cb3 cb4 cb5
  obtain ⟨tt, hD⟩ := laid6 w2 false p2 m2 c2 q2 d2 e2 false p2' m2' c2' q2' d2' e2'
  replace hT := hT.mono tt
  replace hA := hA.mono tt
  replace hB := hB.mono tt
  replace hX := hX.mono tt
  replace qa := qa.mono tt
  replace qb := qb.mono tt
  replace qx := qx.mono tt
  replace hC := hC.mono tt
  replace it1 := it1.mono tt
  replace x2 := x2.mono tt
  replace y2 := y2.mono tt
  replace x2' := x2'.mono tt
  replace y2' := y2'.mono tt
  replace T := Add.trans T tt
  clear tt
  have it2 : IvT _ _ zI := ⟨_, _, _, _, _, _, _, _, _, _, _, _, rfl, x2, y2, x2', y2'⟩
  clear x2 y2 x2' y2'
  have cc0 := hC.c0
  have cc1 := hC.c1
  have cc2 := hC.c2
  have cc3 := hC.c3
  have cc4 := hC.c4
  have cc5 := hC.c5
  have cd_0 := hD.c0
  have cd_1 := hD.c1
  have cd_2 := hD.c2
  have cd_3 := hD.c3
  have cd_4 := hD.c4
  have cd_5 := hD.c5
  go_wp2_with fail
  refine (sameIN true it1 it2 (selfI _)).mono ?_
  rintro e w3 ⟨rfl, h3⟩
  replace hT := hT.mono h3
  replace hA := hA.mono h3
  replace hB := hB.mono h3
  replace hX := hX.mono h3
  replace qa := qa.mono h3
  replace qb := qb.mono h3
  replace qx := qx.mono h3
  replace hC := hC.mono h3
  replace it1 := it1.mono h3
  replace T := Add.trans T h3
  clear h3 it2 hD cc0 cc1 cc2 cc3 cc4 cc5 cd_0 cd_1 cd_2 cd_3 cd_4 cd_5
  have ca0 := hA.c0
  have ca1 := hA.c1
  have ca2 := hA.c2
  have ca3 := hA.c3
  have ca4 := hA.c4
  have ca5 := hA.c5
  have cb0 := hB.c0
  have cb1 := hB.c1
  have cb2 := hB.c2
  have cb3 := hB.c3
  have cb4 := hB.c4
  have cb5 := hB.c5
  go_wp2_with fail
  refine ((show Calls _ _ _ _ (ResB _ (((false, 0, 0), (false, 0, 0)), false)) from meetIN_refuses qa qb HO)).mono ?_
  rintro e w4 ⟨_, rfl, ⟨p5, m5, c5, q5, d5, e5, p5', m5', c5', q5', d5', e5', rfl, x5, y5, x5', y5'⟩, h4⟩
  replace hT := hT.mono h4
  replace hA := hA.mono h4
  replace hB := hB.mono h4
  replace hX := hX.mono h4
  replace qa := qa.mono h4
  replace qb := qb.mono h4
  replace qx := qx.mono h4
  replace T := Add.trans T h4
  clear h4 ca0 ca1 ca2 ca3 ca4 ca5 cb0 cb1 cb2 cb3 cb4 cb5
  obtain ⟨tt, hM⟩ := laid6 w4 false p5 m5 c5 q5 d5 e5 false p5' m5' c5' q5' d5' e5'
  replace hT := hT.mono tt
  replace hA := hA.mono tt
  replace hB := hB.mono tt
  replace hX := hX.mono tt
  replace qa := qa.mono tt
  replace qb := qb.mono tt
  replace qx := qx.mono tt
  replace x5 := x5.mono tt
  replace y5 := y5.mono tt
  replace x5' := x5'.mono tt
  replace y5' := y5'.mono tt
  replace T := Add.trans T tt
  clear tt
  have it5 : IvT _ _ zI := ⟨_, _, _, _, _, _, _, _, _, _, _, _, rfl, x5, y5, x5', y5'⟩
  clear x5 y5 x5' y5'
  clear hC it1 it5
  cases t1 with
  | false =>
    have cg0 := hA.c0
    have cg1 := hA.c1
    have cg2 := hA.c2
    have cg3 := hA.c3
    have cg4 := hA.c4
    have cg5 := hA.c5
    have cx0 := hX.c0
    have cx1 := hX.c1
    have cx2 := hX.c2
    go_wp2_with fail
    refine (containsN false qa qx H1).mono ?_
    rintro e w5 ⟨rfl, h5⟩
    replace hT := hT.mono h5
    replace T := Add.trans T h5
    clear h5 qa cx0 cx1 cx2 cg0 cg1 cg2 cg3 cg4 cg5
    go_wp2_with fail
    refine (awake3_any _ hT).mono ?_
    rintro e wz9 ⟨rfl, hz9⟩
    replace T := Add.trans T hz9
    clear hz9 hT
    go_wp2_with fail
    go_ret
    exact ⟨rfl, T⟩
  | true =>
    have e2 : t2 = false := by simpa using hc
    subst e2
    have cg0 := hA.c0
    have cg1 := hA.c1
    have cg2 := hA.c2
    have cg3 := hA.c3
    have cg4 := hA.c4
    have cg5 := hA.c5
    have cx0 := hX.c0
    have cx1 := hX.c1
    have cx2 := hX.c2
    go_wp2_with fail
    refine (containsN true qa qx H1).mono ?_
    rintro e w5 ⟨rfl, h5⟩
    replace hT := hT.mono h5
    replace hB := hB.mono h5
    replace hX := hX.mono h5
    replace qb := qb.mono h5
    replace qx := qx.mono h5
    replace T := Add.trans T h5
    clear h5 qa cx0 cx1 cx2 cg0 cg1 cg2 cg3 cg4 cg5
    have cg0 := hB.c0
    have cg1 := hB.c1
    have cg2 := hB.c2
    have cg3 := hB.c3
    have cg4 := hB.c4
    have cg5 := hB.c5
    have cx0 := hX.c0
    have cx1 := hX.c1
    have cx2 := hX.c2
    go_wp2_with fail
    refine (containsN false qb qx H2).mono ?_
    rintro e w6 ⟨rfl, h6⟩
    replace hT := hT.mono h6
    replace T := Add.trans T h6
    clear h6 qb cx0 cx1 cx2 cg0 cg1 cg2 cg3 cg4 cg5
    go_wp2_with fail
    refine (awake3_any _ hT).mono ?_
    rintro e wz9 ⟨rfl, hz9⟩
    replace T := Add.trans T hz9
    clear hz9 hT
    go_wp2_with fail
    go_ret
    exact ⟨rfl, T⟩
set_option maxRecDepth 100000 in
set_option maxHeartbeats 20000000 in
theorem ok_case {v v' u : Value} {x y : IvL} {z : FrL} (w : World) (hx : IvI w v x) (hy : IvI w v' y) (hu : FracI w u z.1 z.2.1 z.2.2) (hT : Tab w) (hl : (longE x || longE y) = false) (h12 : ¬ 12 < z.2.1.length) (h13 : ¬ 12 < z.2.2.length) (ho : okI (ivOf x) = true) (ho2 : okI (ivOf y) = true) : Calls Tryz.prog 4 #[v, v', u] w (LawP w) := by
  have hl0 := hl
  have hu0 := hu
  obtain ⟨an, n, cn, ad, d, cd, an', n', cn', ad', d', cd', rfl, i1, i2, i3, i4⟩ := hx
  obtain ⟨an2, n2, cn2, ad2, d2, cd2, an3, n3, cn3, ad3, d3, cd3, rfl, j1, j2, j3, j4⟩ := hy
  obtain ⟨an4, n4, cn4, ad4, d4, cd4, rfl, u1, u2⟩ := hu
  obtain ⟨T, hA, hB, hX⟩ := startXYZ w x.1.1 an n cn ad d cd x.2.1 an' n' cn' ad' d' cd' y.1.1 an2 n2 cn2 ad2 d2 cd2 y.2.1 an3 n3 cn3 ad3 d3 cd3 z.1 an4 n4 cn4 ad4 d4 cd4
  obtain ⟨W0, hW0⟩ : ∃ W0, W0 = (((w.alloc (.cells #[.bool x.1.1, .slice an n cn, .slice ad d cd, .bool x.2.1, .slice an' n' cn', .slice ad' d' cd'] 27)).alloc (.cells #[.bool y.1.1, .slice an2 n2 cn2, .slice ad2 d2 cd2, .bool y.2.1, .slice an3 n3 cn3, .slice ad3 d3 cd3] 27)).alloc (.cells #[.bool z.1, .slice an4 n4 cn4, .slice ad4 d4 cd4] 25)) := ⟨_, rfl⟩
  rw [← hW0] at T hA hB hX
  have CL := Lib.hid (longI2 false (w := W0) (b := x.1.1) (b' := x.2.1) (b2 := y.1.1) (b3 := y.2.1) (w.heap.size + 1 + 1 + 1) (i1.mono T) (i2.mono T) (i3.mono T) (i4.mono T) (j1.mono T) (j2.mono T) (j3.mono T) (j4.mono T) (by rw [hW0]; simp) (Lib.hid hl))
  have TL : Add W0 (W0.alloc (.cells #[.bool x.1.1, .slice an n cn, .slice ad d cd, .bool x.2.1, .slice an' n' cn', .slice ad' d' cd', .bool y.1.1, .slice an2 n2 cn2, .slice ad2 d2 cd2, .bool y.2.1, .slice an3 n3 cn3, .slice ad3 d3 cd3] 27)) := add_new _ _
  have hA0 := hA
  have hB0 := hB
  replace hA := hA.mono TL
  replace hB := hB.mono TL
  replace hX := hX.mono TL
  replace hT := (hT.mono T).mono TL
  replace T := Add.trans T TL
  have e1 : n4 = z.2.1.length := u1.lenV
  have e2 : d4 = z.2.2.length := u2.lenV
  have ca0 := hA0.c0
  have ca1 := hA0.c1
  have ca2 := hA0.c2
  have ca3 := hA0.c3
  have ca4 := hA0.c4
  have ca5 := hA0.c5
  have cb0 := hB0.c0
  have cb1 := hB0.c1
  have cb2 := hB0.c2
  have cb3 := hB0.c3
  have cb4 := hB0.c4
  have cb5 := hB0.c5
  rw [hW0] at ca0 ca1 ca2 ca3 ca4 ca5 cb0 cb1 cb2 cb3 cb4 cb5
  have dk1 : decide ((12 : Int) < (n4 : Int)) = false := by simp; omega
  have dk2 : decide ((12 : Int) < (d4 : Int)) = false := by simp; omega
  clear e1 e2
  simp only [Bool.or_eq_false_iff] at hl0
  have qa := (IvI.arg (w := w) ⟨an, n, cn, ad, d, cd, an', n', cn', ad', d', cd', rfl, i1, i2, i3, i4⟩ hl0.1).mono T
  have qb := (IvI.arg (w := w) ⟨an2, n2, cn2, ad2, d2, cd2, an3, n3, cn3, ad3, d3, cd3, rfl, j1, j2, j3, j4⟩ hl0.2).mono T
  have la := IvI.lim (w := w) ⟨an, n, cn, ad, d, cd, an', n', cn', ad', d', cd', rfl, i1, i2, i3, i4⟩ hl0.1
  have lb := IvI.lim (w := w) ⟨an2, n2, cn2, ad2, d2, cd2, an3, n3, cn3, ad3, d3, cd3, rfl, j1, j2, j3, j4⟩ hl0.2
  have qx := (frac12 hu0 h12 h13).mono T
  have lx := frac12_lim hu0 h12 h13
  obtain ⟨a, ea⟩ : ∃ a : Iv, ivOf x = a := ⟨_, rfl⟩
  obtain ⟨b, eb⟩ : ∃ a : Iv, ivOf y = a := ⟨_, rfl⟩
  obtain ⟨c, ec⟩ : ∃ c : Tri, triOf z = c := ⟨_, rfl⟩
  rw [ea] at qa la ho
  rw [eb] at qb lb ho2
  rw [ec] at qx lx
  obtain ⟨⟨⟨s1, N1, D1⟩, ⟨s2, N2, D2⟩⟩, ⟨⟨s5, N5, D5⟩, ⟨s6, N6, D6⟩⟩, o, hh, hs, g1, g2, g3, g4, g5, g6, hc⟩ := lat_math c (la.sz ho) (lb.sz ho2) ho ho2
  obtain ⟨t1, ht1⟩ : ∃ t, inI a c = t := ⟨_, rfl⟩
  obtain ⟨t2, ht2⟩ : ∃ t, inI b c = t := ⟨_, rfl⟩
  obtain ⟨t3, ht3⟩ : ∃ t, inI ((s5, N5, D5), (s6, N6, D6)) c = t := ⟨_, rfl⟩
  rw [ht1, ht2, ht3] at hc
  have HH := Lib.hid hh
  have HS := Lib.hid hs
  have G1 := Lib.hid g1
  have G2 := Lib.hid g2
  have G3 := Lib.hid g3
  have G4 := Lib.hid g4
  have G5 := Lib.hid g5
  have G6 := Lib.hid g6
  have OO := Lib.hid (And.intro ho ho2)
  have OO2 := Lib.hid (And.intro ho2 ho)
  have H1 := Lib.hid ht1
  have H2 := Lib.hid ht2
  have H3 := Lib.hid ht3
  have HC := Lib.hid hc
  clear hh hs g1 g2 g3 g4 g5 g6 ho ho2 la lb lx ht1 ht2 ht3 hc
  clear ea eb ec hl0 hu0 h12 h13 i1 i2 i3 i4 j1 j2 j3 j4 u1 u2
  go_enter Tryz.func4, Tryz.ntmps4
  go_wp2_with fail
  rw [← hW0]
  refine CL.out.mono ?_
  rintro e w9 ⟨rfl, rfl⟩
  clear CL TL hW0 hl hA0 hB0 ca0 ca1 ca2 ca3 ca4 ca5 cb0 cb1 cb2 cb3 cb4 cb5 
  obtain ⟨WL, hWL⟩ : ∃ WL, WL = W0.alloc (.cells #[.bool x.1.1, .slice an n cn, .slice ad d cd, .bool x.2.1, .slice an' n' cn', .slice ad' d' cd', .bool y.1.1, .slice an2 n2 cn2, .slice ad2 d2 cd2, .bool y.2.1, .slice an3 n3 cn3, .slice ad3 d3 cd3] 27) := ⟨_, rfl⟩
  rw [← hWL] at T hT hA hB hX qa qb qx ⊢
  clear hWL
  have cx1 := hX.c1
  have cx2 := hX.c2
  have ca0 := hA.c0
  have ca1 := hA.c1
  have ca2 := hA.c2
  have ca3 := hA.c3
  have ca4 := hA.c4
  have ca5 := hA.c5
  have cb0 := hB.c0
  have cb1 := hB.c1
  have cb2 := hB.c2
  have cb3 := hB.c3
  have cb4 := hB.c4
  have cb5 := hB.c5
  have ff := ivsTwo (w := WL) (g := WL.heap.size) qa qb rfl
  have tl : Add WL (WL.alloc (.cells #[.bool x.1.1, .slice an n cn, .slice ad d cd, .bool x.2.1, .slice an' n' cn', .slice ad' d' cd', .bool y.1.1, .slice an2 n2 cn2, .slice ad2 d2 cd2, .bool y.2.1, .slice an3 n3 cn3, .slice ad3 d3 cd3] 27)) := add_new _ _
  go_wp2_with fail
  refine ((hullN _ ff (hT.mono (add_new _ _)) HH).mono fun _ _ g => g.ok).mono ?_
  rintro e w1 ⟨p1, m1, c1, q1, d1, e1, p1', m1', c1', q1', d1', e1', rfl, x1, y1, x1', y1', h1⟩
  replace h1 := Add.trans tl h1
  replace hT := hT.mono h1
  replace hA := hA.mono h1
  replace hB := hB.mono h1
  replace hX := hX.mono h1
  replace qa := qa.mono h1
  replace qb := qb.mono h1
  replace qx := qx.mono h1
  replace T := Add.trans T h1
  clear h1 tl ff ca0 ca1 ca2 ca3 ca4 ca5 cb0 cb1 cb2 cb3 cb4 cb5
  obtain ⟨tt, hC⟩ := laid6 w1 s1 p1 m1 c1 q1 d1 e1 s2 p1' m1' c1' q1' d1' e1'
  replace hT := hT.mono tt
  replace hA := hA.mono tt
  replace hB := hB.mono tt
  replace hX := hX.mono tt
  replace qa := qa.mono tt
  replace qb := qb.mono tt
  replace qx := qx.mono tt
  replace x1 := x1.mono tt
  replace y1 := y1.mono tt
  replace x1' := x1'.mono tt
  replace y1' := y1'.mono tt
  replace T := Add.trans T tt
  clear tt
  have it1 : IvT _ _ ((s1, N1, D1), (s2, N2, D2)) := ⟨_, _, _, _, _, _, _, _, _, _, _, _, rfl, x1, y1, x1', y1'⟩
  clear x1 y1 x1' y1'
  have ca0 := hA.c0
  have ca1 := hA.c1
  have ca2 := hA.c2
  have ca3 := hA.c3
  have ca4 := hA.c4
  have ca5 := hA.c5
  have cb0 := hB.c0
  have cb1 := hB.c1
  have cb2 := hB.c2
  have cb3 := hB.c3
  have cb4 := hB.c4
  have cb5 := hB.c5
  have ff := ivsTwo (w := w1.alloc (.cells #[.bool s1, .slice p1 m1 c1, .slice q1 d1 e1, .bool s2, .slice p1' m1' c1', .slice q1' d1' e1'] 27)) (g := w1.heap.size + 1) qa qb (by simp)
  have tl : Add (w1.alloc (.cells #[.bool s1, .slice p1 m1 c1, .slice q1 d1 e1, .bool s2, .slice p1' m1' c1', .slice q1' d1' e1'] 27)) ((w1.alloc (.cells #[.bool s1, .slice p1 m1 c1, .slice q1 d1 e1, .bool s2, .slice p1' m1' c1', .slice q1' d1' e1'] 27)).alloc (.cells #[.bool x.1.1, .slice an n cn, .slice ad d cd, .bool x.2.1, .slice an' n' cn', .slice ad' d' cd', .bool y.1.1, .slice an2 n2 cn2, .slice ad2 d2 cd2, .bool y.2.1, .slice an3 n3 cn3, .slice ad3 d3 cd3] 27)) := add_new _ _
  go_wp2_with fail
  refine ((refHullN _ ff HH).mono fun _ _ g => g.ok).mono ?_
  rintro e w2 ⟨p2, m2, c2, q2, d2, e2, p2', m2', c2', q2', d2', e2', rfl, x2, y2, x2', y2', h2⟩
  replace h2 := Add.trans tl h2
  replace hT := hT.mono h2
  replace hA := hA.mono h2
  replace hB := hB.mono h2
  replace hX := hX.mono h2
  replace qa := qa.mono h2
  replace qb := qb.mono h2
  replace qx := qx.mono h2
  replace hC := hC.mono h2
  replace it1 := it1.mono h2
  replace T := Add.trans T h2
  clear h2 tl ff ca0 ca1 ca2 ca3 ca4 ca5 cb0 cb1 cb2 cb3 cb4 cb5
  obtain ⟨tt, hD⟩ := laid6 w2 s1 p2 m2 c2 q2 d2 e2 s2 p2' m2' c2' q2' d2' e2'
  replace hT := hT.mono tt
  replace hA := hA.mono tt
  replace hB := hB.mono tt
  replace hX := hX.mono tt
  replace qa := qa.mono tt
  replace qb := qb.mono tt
  replace qx := qx.mono tt
  replace hC := hC.mono tt
  replace it1 := it1.mono tt
  replace x2 := x2.mono tt
  replace y2 := y2.mono tt
  replace x2' := x2'.mono tt
  replace y2' := y2'.mono tt
  replace T := Add.trans T tt
  clear tt
  have it2 : IvT _ _ ((s1, N1, D1), (s2, N2, D2)) := ⟨_, _, _, _, _, _, _, _, _, _, _, _, rfl, x2, y2, x2', y2'⟩
  clear x2 y2 x2' y2'
  have cc0 := hC.c0
  have cc1 := hC.c1
  have cc2 := hC.c2
  have cc3 := hC.c3
  have cc4 := hC.c4
  have cc5 := hC.c5
  have cd_0 := hD.c0
  have cd_1 := hD.c1
  have cd_2 := hD.c2
  have cd_3 := hD.c3
  have cd_4 := hD.c4
  have cd_5 := hD.c5
  go_wp2_with fail
  refine (sameIN true it1 it2 (selfI _)).mono ?_
  rintro e w3 ⟨rfl, h3⟩
  replace hT := hT.mono h3
  replace hA := hA.mono h3
  replace hB := hB.mono h3
  replace hX := hX.mono h3
  replace qa := qa.mono h3
  replace qb := qb.mono h3
  replace qx := qx.mono h3
  replace hC := hC.mono h3
  replace it1 := it1.mono h3
  replace T := Add.trans T h3
  clear h3 it2 hD cc0 cc1 cc2 cc3 cc4 cc5 cd_0 cd_1 cd_2 cd_3 cd_4 cd_5
  have qh := IvT.arg it1 (lt_up HS.out.1.2.1 (by decide)) (lt_up HS.out.1.2.2 (by decide)) (lt_up HS.out.2.2.1 (by decide)) (lt_up HS.out.2.2.2 (by decide))
  clear it1 HS HH
  cases o with
  | false =>
    have ez := G6.out rfl
    simp only [zI, Prod.mk.injEq] at ez
    obtain ⟨⟨rfl, rfl, rfl⟩, rfl, rfl, rfl⟩ := ez
    have ca0 := hA.c0
    have ca1 := hA.c1
    have ca2 := hA.c2
    have ca3 := hA.c3
    have ca4 := hA.c4
    have ca5 := hA.c5
    have cb0 := hB.c0
    have cb1 := hB.c1
    have cb2 := hB.c2
    have cb3 := hB.c3
    have cb4 := hB.c4
    have cb5 := hB.c5
    go_wp2_with fail
    refine (meet_region qa qb hT OO _ G3).mono ?_
    rintro e w4 ⟨_, rfl, ⟨p5, m5, c5, q5, d5, e5, p5', m5', c5', q5', d5', e5', rfl, x5, y5, x5', y5'⟩, h4⟩
    replace hT := hT.mono h4
    replace hA := hA.mono h4
    replace hB := hB.mono h4
    replace hX := hX.mono h4
    replace qa := qa.mono h4
    replace qb := qb.mono h4
    replace qx := qx.mono h4
    replace hC := hC.mono h4
    replace qh := qh.mono h4
    replace T := Add.trans T h4
    clear h4 ca0 ca1 ca2 ca3 ca4 ca5 cb0 cb1 cb2 cb3 cb4 cb5
    obtain ⟨tt, hM⟩ := laid6 w4 false p5 m5 c5 q5 d5 e5 false p5' m5' c5' q5' d5' e5'
    replace hT := hT.mono tt
    replace hA := hA.mono tt
    replace hB := hB.mono tt
    replace hX := hX.mono tt
    replace qa := qa.mono tt
    replace qb := qb.mono tt
    replace qx := qx.mono tt
    replace hC := hC.mono tt
    replace qh := qh.mono tt
    replace x5 := x5.mono tt
    replace y5 := y5.mono tt
    replace x5' := x5'.mono tt
    replace y5' := y5'.mono tt
    replace T := Add.trans T tt
    clear tt
    have it5 : IvT _ _ zI := ⟨_, _, _, _, _, _, _, _, _, _, _, _, rfl, x5, y5, x5', y5'⟩
    clear x5 y5 x5' y5'
    cases t1 with
    | false =>
      as_aux_lemma =>
        have cg0 := hA.c0
        have cg1 := hA.c1
        have cg2 := hA.c2
        have cg3 := hA.c3
        have cg4 := hA.c4
        have cg5 := hA.c5
        have cx0 := hX.c0
        have cx1 := hX.c1
        have cx2 := hX.c2
        go_wp2_with fail
        refine (containsN false qa qx H1).mono ?_
        rintro e w5 ⟨rfl, h5⟩
        replace hT := hT.mono h5
        replace hA := hA.mono h5
        replace hB := hB.mono h5
        replace hX := hX.mono h5
        replace qa := qa.mono h5
        replace qb := qb.mono h5
        replace qx := qx.mono h5
        replace hC := hC.mono h5
        replace qh := qh.mono h5
        replace hM := hM.mono h5
        replace it5 := it5.mono h5
        replace T := Add.trans T h5
        clear h5  cx0 cx1 cx2 cg0 cg1 cg2 cg3 cg4 cg5
        clear hX qx
        have ca0 := hA.c0
        have ca1 := hA.c1
        have ca2 := hA.c2
        have ca3 := hA.c3
        have ca4 := hA.c4
        have ca5 := hA.c5
        have cb0 := hB.c0
        have cb1 := hB.c1
        have cb2 := hB.c2
        have cb3 := hB.c3
        have cb4 := hB.c4
        have cb5 := hB.c5
        go_wp2_with fail
        refine (meet_region qb qa hT OO2 _ G4).mono ?_
        rintro e w8 ⟨_, rfl, ⟨p6, m6, c6, q6, d6, e6, p6', m6', c6', q6', d6', e6', rfl, x6, y6, x6', y6'⟩, h8⟩
        replace hT := hT.mono h8
        replace hA := hA.mono h8
        replace hB := hB.mono h8
        replace qa := qa.mono h8
        replace qb := qb.mono h8
        replace hC := hC.mono h8
        replace qh := qh.mono h8
        replace hM := hM.mono h8
        replace it5 := it5.mono h8
        replace T := Add.trans T h8
        clear h8 ca0 ca1 ca2 ca3 ca4 ca5 cb0 cb1 cb2 cb3 cb4 cb5
        obtain ⟨tt, hN⟩ := laid6 w8 false p6 m6 c6 q6 d6 e6 false p6' m6' c6' q6' d6' e6'
        replace hT := hT.mono tt
        replace hA := hA.mono tt
        replace hB := hB.mono tt
        replace qa := qa.mono tt
        replace qb := qb.mono tt
        replace hC := hC.mono tt
        replace qh := qh.mono tt
        replace hM := hM.mono tt
        replace it5 := it5.mono tt
        replace x6 := x6.mono tt
        replace y6 := y6.mono tt
        replace x6' := x6'.mono tt
        replace y6' := y6'.mono tt
        replace T := Add.trans T tt
        clear tt
        have it6 : IvT _ _ zI := ⟨_, _, _, _, _, _, _, _, _, _, _, _, rfl, x6, y6, x6', y6'⟩
        clear x6 y6 x6' y6'
        have ca0 := hA.c0
        have ca1 := hA.c1
        have ca2 := hA.c2
        have ca3 := hA.c3
        have ca4 := hA.c4
        have ca5 := hA.c5
        have cb0 := hC.c0
        have cb1 := hC.c1
        have cb2 := hC.c2
        have cb3 := hC.c3
        have cb4 := hC.c4
        have cb5 := hC.c5
        go_wp2_with fail
        refine (insideN true qa qh G1).mono ?_
        rintro e w9 ⟨rfl, h9⟩
        replace hT := hT.mono h9
        replace hA := hA.mono h9
        replace hB := hB.mono h9
        replace qa := qa.mono h9
        replace qb := qb.mono h9
        replace hC := hC.mono h9
        replace qh := qh.mono h9
        replace hM := hM.mono h9
        replace it5 := it5.mono h9
        replace hN := hN.mono h9
        replace it6 := it6.mono h9
        replace T := Add.trans T h9
        clear h9 ca0 ca1 ca2 ca3 ca4 ca5 cb0 cb1 cb2 cb3 cb4 cb5
        have ca0 := hB.c0
        have ca1 := hB.c1
        have ca2 := hB.c2
        have ca3 := hB.c3
        have ca4 := hB.c4
        have ca5 := hB.c5
        have cb0 := hC.c0
        have cb1 := hC.c1
        have cb2 := hC.c2
        have cb3 := hC.c3
        have cb4 := hC.c4
        have cb5 := hC.c5
        go_wp2_with fail
        refine (insideN true qb qh G2).mono ?_
        rintro e w10 ⟨rfl, h10⟩
        replace hT := hT.mono h10
        replace hA := hA.mono h10
        replace hB := hB.mono h10
        replace qa := qa.mono h10
        replace qb := qb.mono h10
        replace hM := hM.mono h10
        replace it5 := it5.mono h10
        replace hN := hN.mono h10
        replace it6 := it6.mono h10
        replace T := Add.trans T h10
        clear h10 hC qh ca0 ca1 ca2 ca3 ca4 ca5 cb0 cb1 cb2 cb3 cb4 cb5
        have ca0 := hM.c0
        have ca1 := hM.c1
        have ca2 := hM.c2
        have ca3 := hM.c3
        have ca4 := hM.c4
        have ca5 := hM.c5
        have cb0 := hN.c0
        have cb1 := hN.c1
        have cb2 := hN.c2
        have cb3 := hN.c3
        have cb4 := hN.c4
        have cb5 := hN.c5
        go_wp2_with fail
        refine (sameIN true it5 it6 (selfI _)).mono ?_
        rintro e w11 ⟨rfl, h11⟩
        replace hT := hT.mono h11
        replace T := Add.trans T h11
        clear h11 it5 it6 hM hN hA hB qa qb ca0 ca1 ca2 ca3 ca4 ca5 cb0 cb1 cb2 cb3 cb4 cb5
        go_wp2_with fail
        refine (awake3_any _ hT).mono ?_
        rintro e wz9 ⟨rfl, hz9⟩
        replace T := Add.trans T hz9
        clear hz9 hT
        go_wp2_with fail
        go_ret
        exact ⟨rfl, T⟩
    | true =>
      have e2 : t2 = false := by simpa using HC.out
      subst e2
      as_aux_lemma =>
        have cg0 := hA.c0
        have cg1 := hA.c1
        have cg2 := hA.c2
        have cg3 := hA.c3
        have cg4 := hA.c4
        have cg5 := hA.c5
        have cx0 := hX.c0
        have cx1 := hX.c1
        have cx2 := hX.c2
        go_wp2_with fail
        refine (containsN true qa qx H1).mono ?_
        rintro e w5 ⟨rfl, h5⟩
        replace hT := hT.mono h5
        replace hA := hA.mono h5
        replace hB := hB.mono h5
        replace hX := hX.mono h5
        replace qa := qa.mono h5
        replace qb := qb.mono h5
        replace qx := qx.mono h5
        replace hC := hC.mono h5
        replace qh := qh.mono h5
        replace hM := hM.mono h5
        replace it5 := it5.mono h5
        replace T := Add.trans T h5
        clear h5  cx0 cx1 cx2 cg0 cg1 cg2 cg3 cg4 cg5
        have cg0 := hB.c0
        have cg1 := hB.c1
        have cg2 := hB.c2
        have cg3 := hB.c3
        have cg4 := hB.c4
        have cg5 := hB.c5
        have cx0 := hX.c0
        have cx1 := hX.c1
        have cx2 := hX.c2
        go_wp2_with fail
        refine (containsN false qb qx H2).mono ?_
        rintro e w6 ⟨rfl, h6⟩
        replace hT := hT.mono h6
        replace hA := hA.mono h6
        replace hB := hB.mono h6
        replace hX := hX.mono h6
        replace qa := qa.mono h6
        replace qb := qb.mono h6
        replace qx := qx.mono h6
        replace hC := hC.mono h6
        replace qh := qh.mono h6
        replace hM := hM.mono h6
        replace it5 := it5.mono h6
        replace T := Add.trans T h6
        clear h6  cx0 cx1 cx2 cg0 cg1 cg2 cg3 cg4 cg5
        clear hX qx
        have ca0 := hA.c0
        have ca1 := hA.c1
        have ca2 := hA.c2
        have ca3 := hA.c3
        have ca4 := hA.c4
        have ca5 := hA.c5
        have cb0 := hB.c0
        have cb1 := hB.c1
        have cb2 := hB.c2
        have cb3 := hB.c3
        have cb4 := hB.c4
        have cb5 := hB.c5
        go_wp2_with fail
        refine (meet_region qb qa hT OO2 _ G4).mono ?_
        rintro e w8 ⟨_, rfl, ⟨p6, m6, c6, q6, d6, e6, p6', m6', c6', q6', d6', e6', rfl, x6, y6, x6', y6'⟩, h8⟩
        replace hT := hT.mono h8
        replace hA := hA.mono h8
        replace hB := hB.mono h8
        replace qa := qa.mono h8
        replace qb := qb.mono h8
        replace hC := hC.mono h8
        replace qh := qh.mono h8
        replace hM := hM.mono h8
        replace it5 := it5.mono h8
        replace T := Add.trans T h8
        clear h8 ca0 ca1 ca2 ca3 ca4 ca5 cb0 cb1 cb2 cb3 cb4 cb5
        obtain ⟨tt, hN⟩ := laid6 w8 false p6 m6 c6 q6 d6 e6 false p6' m6' c6' q6' d6' e6'
        replace hT := hT.mono tt
        replace hA := hA.mono tt
        replace hB := hB.mono tt
        replace qa := qa.mono tt
        replace qb := qb.mono tt
        replace hC := hC.mono tt
        replace qh := qh.mono tt
        replace hM := hM.mono tt
        replace it5 := it5.mono tt
        replace x6 := x6.mono tt
        replace y6 := y6.mono tt
        replace x6' := x6'.mono tt
        replace y6' := y6'.mono tt
        replace T := Add.trans T tt
        clear tt
        have it6 : IvT _ _ zI := ⟨_, _, _, _, _, _, _, _, _, _, _, _, rfl, x6, y6, x6', y6'⟩
        clear x6 y6 x6' y6'
        have ca0 := hA.c0
        have ca1 := hA.c1
        have ca2 := hA.c2
        have ca3 := hA.c3
        have ca4 := hA.c4
        have ca5 := hA.c5
        have cb0 := hC.c0
        have cb1 := hC.c1
        have cb2 := hC.c2
        have cb3 := hC.c3
        have cb4 := hC.c4
        have cb5 := hC.c5
        go_wp2_with fail
        refine (insideN true qa qh G1).mono ?_
        rintro e w9 ⟨rfl, h9⟩
        replace hT := hT.mono h9
        replace hA := hA.mono h9
        replace hB := hB.mono h9
        replace qa := qa.mono h9
        replace qb := qb.mono h9
        replace hC := hC.mono h9
        replace qh := qh.mono h9
        replace hM := hM.mono h9
        replace it5 := it5.mono h9
        replace hN := hN.mono h9
        replace it6 := it6.mono h9
        replace T := Add.trans T h9
        clear h9 ca0 ca1 ca2 ca3 ca4 ca5 cb0 cb1 cb2 cb3 cb4 cb5
        have ca0 := hB.c0
        have ca1 := hB.c1
        have ca2 := hB.c2
        have ca3 := hB.c3
        have ca4 := hB.c4
        have ca5 := hB.c5
        have cb0 := hC.c0
        have cb1 := hC.c1
        have cb2 := hC.c2
        have cb3 := hC.c3
        have cb4 := hC.c4
        have cb5 := hC.c5
        go_wp2_with fail
        refine (insideN true qb qh G2).mono ?_
        rintro e w10 ⟨rfl, h10⟩
        replace hT := hT.mono h10
        replace hA := hA.mono h10
        replace hB := hB.mono h10
        replace qa := qa.mono h10
        replace qb := qb.mono h10
        replace hM := hM.mono h10
        replace it5 := it5.mono h10
        replace hN := hN.mono h10
        replace it6 := it6.mono h10
        replace T := Add.trans T h10
        clear h10 hC qh ca0 ca1 ca2 ca3 ca4 ca5 cb0 cb1 cb2 cb3 cb4 cb5
        have ca0 := hM.c0
        have ca1 := hM.c1
        have ca2 := hM.c2
        have ca3 := hM.c3
        have ca4 := hM.c4
        have ca5 := hM.c5
        have cb0 := hN.c0
        have cb1 := hN.c1
        have cb2 := hN.c2
        have cb3 := hN.c3
        have cb4 := hN.c4
        have cb5 := hN.c5
        go_wp2_with fail
        refine (sameIN true it5 it6 (selfI _)).mono ?_
        rintro e w11 ⟨rfl, h11⟩
        replace hT := hT.mono h11
        replace T := Add.trans T h11
        clear h11 it5 it6 hM hN hA hB qa qb ca0 ca1 ca2 ca3 ca4 ca5 cb0 cb1 cb2 cb3 cb4 cb5
        go_wp2_with fail
        refine (awake3_any _ hT).mono ?_
        rintro e wz9 ⟨rfl, hz9⟩
        replace T := Add.trans T hz9
        clear hz9 hT
        go_wp2_with fail
        go_ret
        exact ⟨rfl, T⟩
  | true =>
    obtain ⟨zs, g7, g8⟩ := G5.out rfl
    have ZS := Lib.hid zs
    have G7 := Lib.hid g7
    have G8 := Lib.hid g8
    clear zs g7 g8 G5 G6
    have ca0 := hA.c0
    have ca1 := hA.c1
    have ca2 := hA.c2
    have ca3 := hA.c3
    have ca4 := hA.c4
    have ca5 := hA.c5
    have cb0 := hB.c0
    have cb1 := hB.c1
    have cb2 := hB.c2
    have cb3 := hB.c3
    have cb4 := hB.c4
    have cb5 := hB.c5
    go_wp2_with fail
    refine (meet_region qa qb hT OO _ G3).mono ?_
    rintro e w4 ⟨_, rfl, ⟨p5, m5, c5, q5, d5, e5, p5', m5', c5', q5', d5', e5', rfl, x5, y5, x5', y5'⟩, h4⟩
    replace hT := hT.mono h4
    replace hA := hA.mono h4
    replace hB := hB.mono h4
    replace hX := hX.mono h4
    replace qa := qa.mono h4
    replace qb := qb.mono h4
    replace qx := qx.mono h4
    replace hC := hC.mono h4
    replace qh := qh.mono h4
    replace T := Add.trans T h4
    clear h4 ca0 ca1 ca2 ca3 ca4 ca5 cb0 cb1 cb2 cb3 cb4 cb5
    obtain ⟨tt, hM⟩ := laid6 w4 s5 p5 m5 c5 q5 d5 e5 s6 p5' m5' c5' q5' d5' e5'
    replace hT := hT.mono tt
    replace hA := hA.mono tt
    replace hB := hB.mono tt
    replace hX := hX.mono tt
    replace qa := qa.mono tt
    replace qb := qb.mono tt
    replace qx := qx.mono tt
    replace hC := hC.mono tt
    replace qh := qh.mono tt
    replace x5 := x5.mono tt
    replace y5 := y5.mono tt
    replace x5' := x5'.mono tt
    replace y5' := y5'.mono tt
    replace T := Add.trans T tt
    clear tt
    have it5 : IvT _ _ ((s5, N5, D5), (s6, N6, D6)) := ⟨_, _, _, _, _, _, _, _, _, _, _, _, rfl, x5, y5, x5', y5'⟩
    clear x5 y5 x5' y5'
    have qm := IvT.arg it5 (lt_up ZS.out.1.2.1 (by decide)) (lt_up ZS.out.1.2.2 (by decide)) (lt_up ZS.out.2.2.1 (by decide)) (lt_up ZS.out.2.2.2 (by decide))
    cases t1 with
    | false =>
      as_aux_lemma =>
        have e3 : t3 = false := by simpa using HC.out.symm
        subst e3
        have cg0 := hA.c0
        have cg1 := hA.c1
        have cg2 := hA.c2
        have cg3 := hA.c3
        have cg4 := hA.c4
        have cg5 := hA.c5
        have cx0 := hX.c0
        have cx1 := hX.c1
        have cx2 := hX.c2
        go_wp2_with fail
        refine (containsN false qa qx H1).mono ?_
        rintro e w5 ⟨rfl, h5⟩
        replace hT := hT.mono h5
        replace hA := hA.mono h5
        replace hB := hB.mono h5
        replace hX := hX.mono h5
        replace qa := qa.mono h5
        replace qb := qb.mono h5
        replace qx := qx.mono h5
        replace hC := hC.mono h5
        replace qh := qh.mono h5
        replace hM := hM.mono h5
        replace it5 := it5.mono h5
        replace qm := qm.mono h5
        replace T := Add.trans T h5
        clear h5  cx0 cx1 cx2 cg0 cg1 cg2 cg3 cg4 cg5
        have cg0 := hM.c0
        have cg1 := hM.c1
        have cg2 := hM.c2
        have cg3 := hM.c3
        have cg4 := hM.c4
        have cg5 := hM.c5
        have cx0 := hX.c0
        have cx1 := hX.c1
        have cx2 := hX.c2
        go_wp2_with fail
        refine (containsN false qm qx H3).mono ?_
        rintro e w7 ⟨rfl, h7⟩
        replace hT := hT.mono h7
        replace hA := hA.mono h7
        replace hB := hB.mono h7
        replace hX := hX.mono h7
        replace qa := qa.mono h7
        replace qb := qb.mono h7
        replace qx := qx.mono h7
        replace hC := hC.mono h7
        replace qh := qh.mono h7
        replace hM := hM.mono h7
        replace it5 := it5.mono h7
        replace qm := qm.mono h7
        replace T := Add.trans T h7
        clear h7  cx0 cx1 cx2 cg0 cg1 cg2 cg3 cg4 cg5
        clear hX qx
        have ca0 := hA.c0
        have ca1 := hA.c1
        have ca2 := hA.c2
        have ca3 := hA.c3
        have ca4 := hA.c4
        have ca5 := hA.c5
        have cb0 := hB.c0
        have cb1 := hB.c1
        have cb2 := hB.c2
        have cb3 := hB.c3
        have cb4 := hB.c4
        have cb5 := hB.c5
        go_wp2_with fail
        refine (meet_region qb qa hT OO2 _ G4).mono ?_
        rintro e w8 ⟨_, rfl, ⟨p6, m6, c6, q6, d6, e6, p6', m6', c6', q6', d6', e6', rfl, x6, y6, x6', y6'⟩, h8⟩
        replace hT := hT.mono h8
        replace hA := hA.mono h8
        replace hB := hB.mono h8
        replace qa := qa.mono h8
        replace qb := qb.mono h8
        replace hC := hC.mono h8
        replace qh := qh.mono h8
        replace hM := hM.mono h8
        replace it5 := it5.mono h8
        replace qm := qm.mono h8
        replace T := Add.trans T h8
        clear h8 ca0 ca1 ca2 ca3 ca4 ca5 cb0 cb1 cb2 cb3 cb4 cb5
        obtain ⟨tt, hN⟩ := laid6 w8 s5 p6 m6 c6 q6 d6 e6 s6 p6' m6' c6' q6' d6' e6'
        replace hT := hT.mono tt
        replace hA := hA.mono tt
        replace hB := hB.mono tt
        replace qa := qa.mono tt
        replace qb := qb.mono tt
        replace hC := hC.mono tt
        replace qh := qh.mono tt
        replace hM := hM.mono tt
        replace it5 := it5.mono tt
        replace qm := qm.mono tt
        replace x6 := x6.mono tt
        replace y6 := y6.mono tt
        replace x6' := x6'.mono tt
        replace y6' := y6'.mono tt
        replace T := Add.trans T tt
        clear tt
        have it6 : IvT _ _ ((s5, N5, D5), (s6, N6, D6)) := ⟨_, _, _, _, _, _, _, _, _, _, _, _, rfl, x6, y6, x6', y6'⟩
        clear x6 y6 x6' y6'
        have ca0 := hA.c0
        have ca1 := hA.c1
        have ca2 := hA.c2
        have ca3 := hA.c3
        have ca4 := hA.c4
        have ca5 := hA.c5
        have cb0 := hC.c0
        have cb1 := hC.c1
        have cb2 := hC.c2
        have cb3 := hC.c3
        have cb4 := hC.c4
        have cb5 := hC.c5
        go_wp2_with fail
        refine (insideN true qa qh G1).mono ?_
        rintro e w9 ⟨rfl, h9⟩
        replace hT := hT.mono h9
        replace hA := hA.mono h9
        replace hB := hB.mono h9
        replace qa := qa.mono h9
        replace qb := qb.mono h9
        replace hC := hC.mono h9
        replace qh := qh.mono h9
        replace hM := hM.mono h9
        replace it5 := it5.mono h9
        replace qm := qm.mono h9
        replace hN := hN.mono h9
        replace it6 := it6.mono h9
        replace T := Add.trans T h9
        clear h9 ca0 ca1 ca2 ca3 ca4 ca5 cb0 cb1 cb2 cb3 cb4 cb5
        have ca0 := hB.c0
        have ca1 := hB.c1
        have ca2 := hB.c2
        have ca3 := hB.c3
        have ca4 := hB.c4
        have ca5 := hB.c5
        have cb0 := hC.c0
        have cb1 := hC.c1
        have cb2 := hC.c2
        have cb3 := hC.c3
        have cb4 := hC.c4
        have cb5 := hC.c5
        go_wp2_with fail
        refine (insideN true qb qh G2).mono ?_
        rintro e w10 ⟨rfl, h10⟩
        replace hT := hT.mono h10
        replace hA := hA.mono h10
        replace hB := hB.mono h10
        replace qa := qa.mono h10
        replace qb := qb.mono h10
        replace hM := hM.mono h10
        replace it5 := it5.mono h10
        replace qm := qm.mono h10
        replace hN := hN.mono h10
        replace it6 := it6.mono h10
        replace T := Add.trans T h10
        clear h10 hC qh ca0 ca1 ca2 ca3 ca4 ca5 cb0 cb1 cb2 cb3 cb4 cb5
        have ca0 := hM.c0
        have ca1 := hM.c1
        have ca2 := hM.c2
        have ca3 := hM.c3
        have ca4 := hM.c4
        have ca5 := hM.c5
        have cb0 := hN.c0
        have cb1 := hN.c1
        have cb2 := hN.c2
        have cb3 := hN.c3
        have cb4 := hN.c4
        have cb5 := hN.c5
        go_wp2_with fail
        refine (sameIN true it5 it6 (selfI _)).mono ?_
        rintro e w11 ⟨rfl, h11⟩
        replace hT := hT.mono h11
        replace hA := hA.mono h11
        replace hB := hB.mono h11
        replace hM := hM.mono h11
        replace qa := qa.mono h11
        replace qb := qb.mono h11
        replace qm := qm.mono h11
        replace T := Add.trans T h11
        clear h11 it5 it6 hN ca0 ca1 ca2 ca3 ca4 ca5 cb0 cb1 cb2 cb3 cb4 cb5
        have ca0 := hM.c0
        have ca1 := hM.c1
        have ca2 := hM.c2
        have ca3 := hM.c3
        have ca4 := hM.c4
        have ca5 := hM.c5
        have cb0 := hA.c0
        have cb1 := hA.c1
        have cb2 := hA.c2
        have cb3 := hA.c3
        have cb4 := hA.c4
        have cb5 := hA.c5
        go_wp2_with fail
        refine (insideN true qm qa G7).mono ?_
        rintro e w12 ⟨rfl, h12⟩
        replace hT := hT.mono h12
        replace hB := hB.mono h12
        replace hM := hM.mono h12
        replace qb := qb.mono h12
        replace qm := qm.mono h12
        replace T := Add.trans T h12
        clear h12 hA qa ca0 ca1 ca2 ca3 ca4 ca5 cb0 cb1 cb2 cb3 cb4 cb5
        have ca0 := hM.c0
        have ca1 := hM.c1
        have ca2 := hM.c2
        have ca3 := hM.c3
        have ca4 := hM.c4
        have ca5 := hM.c5
        have cb0 := hB.c0
        have cb1 := hB.c1
        have cb2 := hB.c2
        have cb3 := hB.c3
        have cb4 := hB.c4
        have cb5 := hB.c5
        go_wp2_with fail
        refine (insideN true qm qb G8).mono ?_
        rintro e w13 ⟨rfl, h13⟩
        replace hT := hT.mono h13
        replace T := Add.trans T h13
        clear h13 hB hM qb qm ca0 ca1 ca2 ca3 ca4 ca5 cb0 cb1 cb2 cb3 cb4 cb5
        go_wp2_with fail
        refine (awake3_any _ hT).mono ?_
        rintro e wz9 ⟨rfl, hz9⟩
        replace T := Add.trans T hz9
        clear hz9 hT
        go_wp2_with fail
        go_ret
        exact ⟨rfl, T⟩
    | true =>
      have e3 : t2 = t3 := by simpa using HC.out
      subst e3
      cases t2 with
      | false =>
        as_aux_lemma =>
          have cg0 := hA.c0
          have cg1 := hA.c1
          have cg2 := hA.c2
          have cg3 := hA.c3
          have cg4 := hA.c4
          have cg5 := hA.c5
          have cx0 := hX.c0
          have cx1 := hX.c1
          have cx2 := hX.c2
          go_wp2_with fail
          refine (containsN true qa qx H1).mono ?_
          rintro e w5 ⟨rfl, h5⟩
          replace hT := hT.mono h5
          replace hA := hA.mono h5
          replace hB := hB.mono h5
          replace hX := hX.mono h5
          replace qa := qa.mono h5
          replace qb := qb.mono h5
          replace qx := qx.mono h5
          replace hC := hC.mono h5
          replace qh := qh.mono h5
          replace hM := hM.mono h5
          replace it5 := it5.mono h5
          replace qm := qm.mono h5
          replace T := Add.trans T h5
          clear h5  cx0 cx1 cx2 cg0 cg1 cg2 cg3 cg4 cg5
          have cg0 := hB.c0
          have cg1 := hB.c1
          have cg2 := hB.c2
          have cg3 := hB.c3
          have cg4 := hB.c4
          have cg5 := hB.c5
          have cx0 := hX.c0
          have cx1 := hX.c1
          have cx2 := hX.c2
          go_wp2_with fail
          refine (containsN false qb qx H2).mono ?_
          rintro e w6 ⟨rfl, h6⟩
          replace hT := hT.mono h6
          replace hA := hA.mono h6
          replace hB := hB.mono h6
          replace hX := hX.mono h6
          replace qa := qa.mono h6
          replace qb := qb.mono h6
          replace qx := qx.mono h6
          replace hC := hC.mono h6
          replace qh := qh.mono h6
          replace hM := hM.mono h6
          replace it5 := it5.mono h6
          replace qm := qm.mono h6
          replace T := Add.trans T h6
          clear h6  cx0 cx1 cx2 cg0 cg1 cg2 cg3 cg4 cg5
          have cg0 := hM.c0
          have cg1 := hM.c1
          have cg2 := hM.c2
          have cg3 := hM.c3
          have cg4 := hM.c4
          have cg5 := hM.c5
          have cx0 := hX.c0
          have cx1 := hX.c1
          have cx2 := hX.c2
          go_wp2_with fail
          refine (containsN false qm qx H3).mono ?_
          rintro e w7 ⟨rfl, h7⟩
          replace hT := hT.mono h7
          replace hA := hA.mono h7
          replace hB := hB.mono h7
          replace hX := hX.mono h7
          replace qa := qa.mono h7
          replace qb := qb.mono h7
          replace qx := qx.mono h7
          replace hC := hC.mono h7
          replace qh := qh.mono h7
          replace hM := hM.mono h7
          replace it5 := it5.mono h7
          replace qm := qm.mono h7
          replace T := Add.trans T h7
          clear h7  cx0 cx1 cx2 cg0 cg1 cg2 cg3 cg4 cg5
          clear hX qx
          have ca0 := hA.c0
          have ca1 := hA.c1
          have ca2 := hA.c2
          have ca3 := hA.c3
          have ca4 := hA.c4
          have ca5 := hA.c5
          have cb0 := hB.c0
          have cb1 := hB.c1
          have cb2 := hB.c2
          have cb3 := hB.c3
          have cb4 := hB.c4
          have cb5 := hB.c5
          go_wp2_with fail
          refine (meet_region qb qa hT OO2 _ G4).mono ?_
          rintro e w8 ⟨_, rfl, ⟨p6, m6, c6, q6, d6, e6, p6', m6', c6', q6', d6', e6', rfl, x6, y6, x6', y6'⟩, h8⟩
          replace hT := hT.mono h8
          replace hA := hA.mono h8
          replace hB := hB.mono h8
          replace qa := qa.mono h8
          replace qb := qb.mono h8
          replace hC := hC.mono h8
          replace qh := qh.mono h8
          replace hM := hM.mono h8
          replace it5 := it5.mono h8
          replace qm := qm.mono h8
          replace T := Add.trans T h8
          clear h8 ca0 ca1 ca2 ca3 ca4 ca5 cb0 cb1 cb2 cb3 cb4 cb5
          obtain ⟨tt, hN⟩ := laid6 w8 s5 p6 m6 c6 q6 d6 e6 s6 p6' m6' c6' q6' d6' e6'
          replace hT := hT.mono tt
          replace hA := hA.mono tt
          replace hB := hB.mono tt
          replace qa := qa.mono tt
          replace qb := qb.mono tt
          replace hC := hC.mono tt
          replace qh := qh.mono tt
          replace hM := hM.mono tt
          replace it5 := it5.mono tt
          replace qm := qm.mono tt
          replace x6 := x6.mono tt
          replace y6 := y6.mono tt
          replace x6' := x6'.mono tt
          replace y6' := y6'.mono tt
          replace T := Add.trans T tt
          clear tt
          have it6 : IvT _ _ ((s5, N5, D5), (s6, N6, D6)) := ⟨_, _, _, _, _, _, _, _, _, _, _, _, rfl, x6, y6, x6', y6'⟩
          clear x6 y6 x6' y6'
          have ca0 := hA.c0
          have ca1 := hA.c1
          have ca2 := hA.c2
          have ca3 := hA.c3
          have ca4 := hA.c4
          have ca5 := hA.c5
          have cb0 := hC.c0
          have cb1 := hC.c1
          have cb2 := hC.c2
          have cb3 := hC.c3
          have cb4 := hC.c4
          have cb5 := hC.c5
          go_wp2_with fail
          refine (insideN true qa qh G1).mono ?_
          rintro e w9 ⟨rfl, h9⟩
          replace hT := hT.mono h9
          replace hA := hA.mono h9
          replace hB := hB.mono h9
          replace qa := qa.mono h9
          replace qb := qb.mono h9
          replace hC := hC.mono h9
          replace qh := qh.mono h9
          replace hM := hM.mono h9
          replace it5 := it5.mono h9
          replace qm := qm.mono h9
          replace hN := hN.mono h9
          replace it6 := it6.mono h9
          replace T := Add.trans T h9
          clear h9 ca0 ca1 ca2 ca3 ca4 ca5 cb0 cb1 cb2 cb3 cb4 cb5
          have ca0 := hB.c0
          have ca1 := hB.c1
          have ca2 := hB.c2
          have ca3 := hB.c3
          have ca4 := hB.c4
          have ca5 := hB.c5
          have cb0 := hC.c0
          have cb1 := hC.c1
          have cb2 := hC.c2
          have cb3 := hC.c3
          have cb4 := hC.c4
          have cb5 := hC.c5
          go_wp2_with fail
          refine (insideN true qb qh G2).mono ?_
          rintro e w10 ⟨rfl, h10⟩
          replace hT := hT.mono h10
          replace hA := hA.mono h10
          replace hB := hB.mono h10
          replace qa := qa.mono h10
          replace qb := qb.mono h10
          replace hM := hM.mono h10
          replace it5 := it5.mono h10
          replace qm := qm.mono h10
          replace hN := hN.mono h10
          replace it6 := it6.mono h10
          replace T := Add.trans T h10
          clear h10 hC qh ca0 ca1 ca2 ca3 ca4 ca5 cb0 cb1 cb2 cb3 cb4 cb5
          have ca0 := hM.c0
          have ca1 := hM.c1
          have ca2 := hM.c2
          have ca3 := hM.c3
          have ca4 := hM.c4
          have ca5 := hM.c5
          have cb0 := hN.c0
          have cb1 := hN.c1
          have cb2 := hN.c2
          have cb3 := hN.c3
          have cb4 := hN.c4
          have cb5 := hN.c5
          go_wp2_with fail
          refine (sameIN true it5 it6 (selfI _)).mono ?_
          rintro e w11 ⟨rfl, h11⟩
          replace hT := hT.mono h11
          replace hA := hA.mono h11
          replace hB := hB.mono h11
          replace hM := hM.mono h11
          replace qa := qa.mono h11
          replace qb := qb.mono h11
          replace qm := qm.mono h11
          replace T := Add.trans T h11
          clear h11 it5 it6 hN ca0 ca1 ca2 ca3 ca4 ca5 cb0 cb1 cb2 cb3 cb4 cb5
          have ca0 := hM.c0
          have ca1 := hM.c1
          have ca2 := hM.c2
          have ca3 := hM.c3
          have ca4 := hM.c4
          have ca5 := hM.c5
          have cb0 := hA.c0
          have cb1 := hA.c1
          have cb2 := hA.c2
          have cb3 := hA.c3
          have cb4 := hA.c4
          have cb5 := hA.c5
          go_wp2_with fail
          refine (insideN true qm qa G7).mono ?_
          rintro e w12 ⟨rfl, h12⟩
          replace hT := hT.mono h12
          replace hB := hB.mono h12
          replace hM := hM.mono h12
          replace qb := qb.mono h12
          replace qm := qm.mono h12
          replace T := Add.trans T h12
          clear h12 hA qa ca0 ca1 ca2 ca3 ca4 ca5 cb0 cb1 cb2 cb3 cb4 cb5
          have ca0 := hM.c0
          have ca1 := hM.c1
          have ca2 := hM.c2
          have ca3 := hM.c3
          have ca4 := hM.c4
          have ca5 := hM.c5
          have cb0 := hB.c0
          have cb1 := hB.c1
          have cb2 := hB.c2
          have cb3 := hB.c3
          have cb4 := hB.c4
          have cb5 := hB.c5
          go_wp2_with fail
          refine (insideN true qm qb G8).mono ?_
          rintro e w13 ⟨rfl, h13⟩
          replace hT := hT.mono h13
          replace T := Add.trans T h13
          clear h13 hB hM qb qm ca0 ca1 ca2 ca3 ca4 ca5 cb0 cb1 cb2 cb3 cb4 cb5
          go_wp2_with fail
          refine (awake3_any _ hT).mono ?_
          rintro e wz9 ⟨rfl, hz9⟩
          replace T := Add.trans T hz9
          clear hz9 hT
          go_wp2_with fail
          go_ret
          exact ⟨rfl, T⟩
      | true =>
        as_aux_lemma =>
          have cg0 := hA.c0
          have cg1 := hA.c1
          have cg2 := hA.c2
          have cg3 := hA.c3
          have cg4 := hA.c4
          have cg5 := hA.c5
          have cx0 := hX.c0
          have cx1 := hX.c1
          have cx2 := hX.c2
          go_wp2_with fail
          refine (containsN true qa qx H1).mono ?_
          rintro e w5 ⟨rfl, h5⟩
          replace hT := hT.mono h5
          replace hA := hA.mono h5
          replace hB := hB.mono h5
          replace hX := hX.mono h5
          replace qa := qa.mono h5
          replace qb := qb.mono h5
          replace qx := qx.mono h5
          replace hC := hC.mono h5
          replace qh := qh.mono h5
          replace hM := hM.mono h5
          replace it5 := it5.mono h5
          replace qm := qm.mono h5
          replace T := Add.trans T h5
          clear h5  cx0 cx1 cx2 cg0 cg1 cg2 cg3 cg4 cg5
          have cg0 := hB.c0
          have cg1 := hB.c1
          have cg2 := hB.c2
          have cg3 := hB.c3
          have cg4 := hB.c4
          have cg5 := hB.c5
          have cx0 := hX.c0
          have cx1 := hX.c1
          have cx2 := hX.c2
          go_wp2_with fail
          refine (containsN true qb qx H2).mono ?_
          rintro e w6 ⟨rfl, h6⟩
          replace hT := hT.mono h6
          replace hA := hA.mono h6
          replace hB := hB.mono h6
          replace hX := hX.mono h6
          replace qa := qa.mono h6
          replace qb := qb.mono h6
          replace qx := qx.mono h6
          replace hC := hC.mono h6
          replace qh := qh.mono h6
          replace hM := hM.mono h6
          replace it5 := it5.mono h6
          replace qm := qm.mono h6
          replace T := Add.trans T h6
          clear h6  cx0 cx1 cx2 cg0 cg1 cg2 cg3 cg4 cg5
          have cg0 := hM.c0
          have cg1 := hM.c1
          have cg2 := hM.c2
          have cg3 := hM.c3
          have cg4 := hM.c4
          have cg5 := hM.c5
          have cx0 := hX.c0
          have cx1 := hX.c1
          have cx2 := hX.c2
          go_wp2_with fail
          refine (containsN true qm qx H3).mono ?_
          rintro e w7 ⟨rfl, h7⟩
          replace hT := hT.mono h7
          replace hA := hA.mono h7
          replace hB := hB.mono h7
          replace hX := hX.mono h7
          replace qa := qa.mono h7
          replace qb := qb.mono h7
          replace qx := qx.mono h7
          replace hC := hC.mono h7
          replace qh := qh.mono h7
          replace hM := hM.mono h7
          replace it5 := it5.mono h7
          replace qm := qm.mono h7
          replace T := Add.trans T h7
          clear h7  cx0 cx1 cx2 cg0 cg1 cg2 cg3 cg4 cg5
          clear hX qx
          have ca0 := hA.c0
          have ca1 := hA.c1
          have ca2 := hA.c2
          have ca3 := hA.c3
          have ca4 := hA.c4
          have ca5 := hA.c5
          have cb0 := hB.c0
          have cb1 := hB.c1
          have cb2 := hB.c2
          have cb3 := hB.c3
          have cb4 := hB.c4
          have cb5 := hB.c5
          go_wp2_with fail
          refine (meet_region qb qa hT OO2 _ G4).mono ?_
          rintro e w8 ⟨_, rfl, ⟨p6, m6, c6, q6, d6, e6, p6', m6', c6', q6', d6', e6', rfl, x6, y6, x6', y6'⟩, h8⟩
          replace hT := hT.mono h8
          replace hA := hA.mono h8
          replace hB := hB.mono h8
          replace qa := qa.mono h8
          replace qb := qb.mono h8
          replace hC := hC.mono h8
          replace qh := qh.mono h8
          replace hM := hM.mono h8
          replace it5 := it5.mono h8
          replace qm := qm.mono h8
          replace T := Add.trans T h8
          clear h8 ca0 ca1 ca2 ca3 ca4 ca5 cb0 cb1 cb2 cb3 cb4 cb5
          obtain ⟨tt, hN⟩ := laid6 w8 s5 p6 m6 c6 q6 d6 e6 s6 p6' m6' c6' q6' d6' e6'
          replace hT := hT.mono tt
          replace hA := hA.mono tt
          replace hB := hB.mono tt
          replace qa := qa.mono tt
          replace qb := qb.mono tt
          replace hC := hC.mono tt
          replace qh := qh.mono tt
          replace hM := hM.mono tt
          replace it5 := it5.mono tt
          replace qm := qm.mono tt
          replace x6 := x6.mono tt
          replace y6 := y6.mono tt
          replace x6' := x6'.mono tt
          replace y6' := y6'.mono tt
          replace T := Add.trans T tt
          clear tt
          have it6 : IvT _ _ ((s5, N5, D5), (s6, N6, D6)) := ⟨_, _, _, _, _, _, _, _, _, _, _, _, rfl, x6, y6, x6', y6'⟩
          clear x6 y6 x6' y6'
          have ca0 := hA.c0
          have ca1 := hA.c1
          have ca2 := hA.c2
          have ca3 := hA.c3
          have ca4 := hA.c4
          have ca5 := hA.c5
          have cb0 := hC.c0
          have cb1 := hC.c1
          have cb2 := hC.c2
          have cb3 := hC.c3
          have cb4 := hC.c4
          have cb5 := hC.c5
          go_wp2_with fail
          refine (insideN true qa qh G1).mono ?_
          rintro e w9 ⟨rfl, h9⟩
          replace hT := hT.mono h9
          replace hA := hA.mono h9
          replace hB := hB.mono h9
          replace qa := qa.mono h9
          replace qb := qb.mono h9
          replace hC := hC.mono h9
          replace qh := qh.mono h9
          replace hM := hM.mono h9
          replace it5 := it5.mono h9
          replace qm := qm.mono h9
          replace hN := hN.mono h9
          replace it6 := it6.mono h9
          replace T := Add.trans T h9
          clear h9 ca0 ca1 ca2 ca3 ca4 ca5 cb0 cb1 cb2 cb3 cb4 cb5
          have ca0 := hB.c0
          have ca1 := hB.c1
          have ca2 := hB.c2
          have ca3 := hB.c3
          have ca4 := hB.c4
          have ca5 := hB.c5
          have cb0 := hC.c0
          have cb1 := hC.c1
          have cb2 := hC.c2
          have cb3 := hC.c3
          have cb4 := hC.c4
          have cb5 := hC.c5
          go_wp2_with fail
          refine (insideN true qb qh G2).mono ?_
          rintro e w10 ⟨rfl, h10⟩
          replace hT := hT.mono h10
          replace hA := hA.mono h10
          replace hB := hB.mono h10
          replace qa := qa.mono h10
          replace qb := qb.mono h10
          replace hM := hM.mono h10
          replace it5 := it5.mono h10
          replace qm := qm.mono h10
          replace hN := hN.mono h10
          replace it6 := it6.mono h10
          replace T := Add.trans T h10
          clear h10 hC qh ca0 ca1 ca2 ca3 ca4 ca5 cb0 cb1 cb2 cb3 cb4 cb5
          have ca0 := hM.c0
          have ca1 := hM.c1
          have ca2 := hM.c2
          have ca3 := hM.c3
          have ca4 := hM.c4
          have ca5 := hM.c5
          have cb0 := hN.c0
          have cb1 := hN.c1
          have cb2 := hN.c2
          have cb3 := hN.c3
          have cb4 := hN.c4
          have cb5 := hN.c5
          go_wp2_with fail
          refine (sameIN true it5 it6 (selfI _)).mono ?_
          rintro e w11 ⟨rfl, h11⟩
          replace hT := hT.mono h11
          replace hA := hA.mono h11
          replace hB := hB.mono h11
          replace hM := hM.mono h11
          replace qa := qa.mono h11
          replace qb := qb.mono h11
          replace qm := qm.mono h11
          replace T := Add.trans T h11
          clear h11 it5 it6 hN ca0 ca1 ca2 ca3 ca4 ca5 cb0 cb1 cb2 cb3 cb4 cb5
          have ca0 := hM.c0
          have ca1 := hM.c1
          have ca2 := hM.c2
          have ca3 := hM.c3
          have ca4 := hM.c4
          have ca5 := hM.c5
          have cb0 := hA.c0
          have cb1 := hA.c1
          have cb2 := hA.c2
          have cb3 := hA.c3
          have cb4 := hA.c4
          have cb5 := hA.c5
          go_wp2_with fail
          refine (insideN true qm qa G7).mono ?_
          rintro e w12 ⟨rfl, h12⟩
          replace hT := hT.mono h12
          replace hB := hB.mono h12
          replace hM := hM.mono h12
          replace qb := qb.mono h12
          replace qm := qm.mono h12
          replace T := Add.trans T h12
          clear h12 hA qa ca0 ca1 ca2 ca3 ca4 ca5 cb0 cb1 cb2 cb3 cb4 cb5
          have ca0 := hM.c0
          have ca1 := hM.c1
          have ca2 := hM.c2
          have ca3 := hM.c3
          have ca4 := hM.c4
          have ca5 := hM.c5
          have cb0 := hB.c0
          have cb1 := hB.c1
          have cb2 := hB.c2
          have cb3 := hB.c3
          have cb4 := hB.c4
          have cb5 := hB.c5
          go_wp2_with fail
          refine (insideN true qm qb G8).mono ?_
          rintro e w13 ⟨rfl, h13⟩
          replace hT := hT.mono h13
          replace T := Add.trans T h13
          clear h13 hB hM qb qm ca0 ca1 ca2 ca3 ca4 ca5 cb0 cb1 cb2 cb3 cb4 cb5
          go_wp2_with fail
          refine (awake3_any _ hT).mono ?_
          rintro e wz9 ⟨rfl, hz9⟩
          replace T := Add.trans T hz9
          clear hz9 hT
          go_wp2_with fail
          go_ret
          exact ⟨rfl, T⟩
theorem lat_any {v v' u : Value} {x y : IvL} {z : FrL} (w : World) (hx : IvI w v x) (hy : IvI w v' y) (hu : FracI w u z.1 z.2.1 z.2.2) (hT : Tab w) : Calls Tryz.prog 4 #[v, v', u] w (LawP w) := by
  rcases hl : (longE x || longE y) with _ | _
  · by_cases h12 : 12 < z.2.1.length
    · exact longN w hx hy hu hT hl h12
    · by_cases h13 : 12 < z.2.2.length
      · exact longD w hx hy hu hT hl h12 h13
      · rcases ho : okI (ivOf x) with _ | _
        · exact bad_case w hx hy hu hT hl h12 h13 (.inl ho)
        · rcases ho2 : okI (ivOf y) with _ | _
          · exact bad_case w hx hy hu hT hl h12 h13 (.inr ho2)
          · exact ok_case w hx hy hu hT hl h12 h13 ho ho2
  · exact long_case w hx hy hu hT hl
end Go.Proofs.YtifpfoeecnkhoaaGreatDoor.IvLatL
