/- The law IntervalHulls: its walk, for all arguments.
(With the texts that are joined here: The reference of layer 3: Hull. | Lists of fractions that are built by append: their cells, and the append onto a list of the call's own. | Lists of intervals: as arguments, cut, built by append.) -/
import Derived.Test.YtifpfoeecnkhoaaGreatDoorZL
import Derived.Test.YtifpfoeecnkhoaaGreatDoorZK
import Derived.Test.YtifpfoeecnkhoaaGreatDoorZG
import Derived.Maps.AppendAt
import Derived.Laws.OwnMore
import Derived.Deep.AppendLies
import Derived.Deep.Strs
import Derived.Test.YtifpfoeecnkhoaaGreatDoorZJ
import Derived.Deep.RegionHeld3

namespace Go.Proofs.YtifpfoeecnkhoaaGreatDoor
open Go.RowKit NatM Go.Proofs.YtifpfoeecnkhoaaGreatDoor.Api

set_option maxRecDepth 100000 in
set_option maxHeartbeats 20000000 in
theorem refHullN (p : Iv × Nat) {v : Value} {L : List Iv} {w : World} (hl : IvsA w v L) (hp : Hid (hullI L = p)) : Calls Tryz.prog 31 #[v] w (ResI w p) := by
  obtain ⟨ao, n, c, rfl, hn, hn1, hc⟩ := hl
  obtain ⟨T, hR⟩ := laid6 w false none 0 0 none 0 0 false none 0 0 none 0 0
  rcases Nat.eq_zero_or_pos n with rfl | h0
  · have e : L = [] := List.eq_nil_of_length_eq_zero hn
    subst e
    have e : p = (zI, 1) := hp.out.symm
    subst e
    clear hc hn hp
    go_enter Tryz.func31, Tryz.ntmps31
    have hbz := iv_zero
    go_wp2_with fail
    exact bodyPost_ret (v := .tuple #[.agg #[.bool false, .slice none 0 0, .slice none 0 0, .bool false, .slice none 0 0, .slice none 0 0], .int .i64 1]) (by simp [results, Tryz.results31, go_sem, hR.c0, hR.c1, hR.c2, hR.c3, hR.c4, hR.c5]) rfl ⟨_, rfl, ivT_zero _, T⟩
  · obtain ⟨b, off, rfl⟩ : ∃ b off, ao = some ⟨b, off, none⟩ := by
      obtain ⟨b, off, -, -, -, -, -, -, -, -, -, -, -, -, -, -, e, -⟩ := hc 0 h0
      exact ⟨b, off, e⟩
    have HN := Lib.hid hn
    have H0 := Lib.hid h0
    have dn : ((n : Int) == 0) = false := by simp; omega
    have HC := Lib.hid hc
    clear hc hn h0
    go_enter Tryz.func31, Tryz.ntmps31
    go_wp2_with fail
    go_loopw [4] (fun i wr => ∃ k : Nat, k ≤ n ∧ i = .int .i64 (k : Nat) ∧ Hid ((L.take k).all okI = true) ∧ Box6 wr w.heap.size false none 0 0 none 0 0 false none 0 0 none 0 0 ∧ Add w wr) (fun i _ => n - (intOf i).toNat)
    case atStart => exact ⟨0, Nat.zero_le _, rfl, Lib.hid rfl, hR, T⟩
    case round =>
      clear hR T
      obtain ⟨k, hk, rfl, HK, hR, T⟩ := hrel
      by_cases hlt : k < n
      · obtain ⟨b', off', s, an, m, cn, ad, d, cd, s', an', m', cn', ad', d', cd', e, q0, q1, q2, q3, q4, q5, qe⟩ := HC.out k hlt
        simp only [Option.some.injEq, Addr.mk.injEq, and_true] at e
        obtain ⟨rfl, rfl⟩ := e
        obtain ⟨y, hy⟩ : ∃ y, L.getD k zI = y := ⟨_, rfl⟩
        rw [hy] at qe
        have HY := Lib.hid hy
        have kk := fun (p : Addr) (v : Value) (q : w.cell? p = some v) => (T.cell (p := p) (World.block_lt_of_cell? w _ q)).trans q
        replace q0 := kk _ _ q0
        replace q1 := kk _ _ q1
        replace q2 := kk _ _ q2
        replace q3 := kk _ _ q3
        replace q4 := kk _ _ q4
        replace q5 := kk _ _ q5
        replace qe := qe.mono T
        obtain ⟨t, ht⟩ : ∃ t, okI y = t := ⟨_, rfl⟩
        have HT := Lib.hid ht
        clear kk ht hy
        cases t with
        | false =>
          have hpe : p = (zI, 1) := by
            have hm : y ∈ L := by
              rw [← HY.out]
              have h1 : k < L.length := by rw [HN.out]; exact hlt
              simp [List.getD, h1]
            rw [← hp.out]
            cases L with
            | nil => cases hm
            | cons z s => exact hullF_all_bad hm HT.out
          subst hpe
          clear hp HY HK
          go_wp2_with fail
          refine (refValidIN false qe HT).mono ?_
          rintro e w5 ⟨rfl, h5⟩
          replace hR := hR.mono h5
          replace T := Add.trans T h5
          clear h5 qe HT q0 q1 q2 q3 q4 q5
          have hP := Box6.put hR false none 0 0 none 0 0 false none 0 0 none 0 0
          have hF := resI_put (w := w) (p := (zI, 1)) hR (ivT_zero _) T (show w.heap.size ≤ w.heap.size by omega)
          obtain ⟨W7, hW7⟩ : ∃ W7, W7 = put6 (w5) (w.heap.size) (.bool false) (.slice none 0 0) (.slice none 0 0) (.bool false) (.slice none 0 0) (.slice none 0 0) := ⟨_, rfl⟩
          rw [← hW7] at hP hF
          unfold put6 at hW7
          have HF := Lib.hid hF
          have HW := Lib.hid hW7
          have hbz := iv_zero
          have hr0 := hR.c0
          have hr1 := hR.c1
          have hr2 := hR.c2
          have hr3 := hR.c3
          have hr4 := hR.c4
          have hr5 := hR.c5
          have hr6 := hR.fr 0
          have hr7 := hR.fr 1
          have hr8 := hR.fr 2
          have hr9 := hR.fr 3
          have hr10 := hR.fr 4
          have hr11 := hR.fr 5
          clear hF hW7 hR T 
          go_wp2_with fail
          rw [← HW.out]
          exact bodyPost_ret (v := .tuple #[.agg #[.bool false, .slice none 0 0, .slice none 0 0, .bool false, .slice none 0 0, .slice none 0 0], .int .i64 1]) (by simp [results, Tryz.results31, go_sem, hP.c0, hP.c1, hP.c2, hP.c3, hP.c4, hP.c5]) rfl HF.out
        | true =>
          have HK2 : Hid ((L.take (k + 1)).all okI = true) := Lib.hid (by
            have h1 : k < L.length := by rw [HN.out]; exact hlt
            have e : L[k]? = some y := by rw [← HY.out]; simp [List.getD, h1]
            rw [List.take_add_one, List.all_append, HK.out, e]
            simp [HT.out])
          clear HK HY
          go_wp2_with fail
          refine (refValidIN true qe HT).mono ?_
          rintro e w5 ⟨rfl, h5⟩
          replace hR := hR.mono h5
          replace T := Add.trans T h5
          clear h5 qe HT q0 q1 q2 q3 q4 q5
          go_wp2_with fail
          go_roundw
          case rel => exact ⟨k + 1, by omega, by go_num, HK2, hR, T⟩
          case measure => simp only [intOf]; omega
      · obtain rfl : n = k := by omega
        have HA : Hid (L.all okI = true) := Lib.hid (by
          have h1 := HK.out
          rwa [List.take_of_length_le (by rw [HN.out]; exact Nat.le_refl _)] at h1)
        clear HK hlt
        obtain ⟨wm, rfl⟩ : ∃ wm, wm = wr := ⟨_, rfl⟩
        obtain ⟨b', off', s, an, m, cn, ad, d, cd, s', an', m', cn', ad', d', cd', e, q0, q1, q2, q3, q4, q5, qe⟩ := HC.out 0 H0.out
        simp only [Option.some.injEq, Addr.mk.injEq, and_true] at e
        obtain ⟨rfl, rfl⟩ := e
        simp only [Nat.zero_mul, Nat.add_zero] at q0 q1 q2 q3 q4 q5
        obtain ⟨y, hy⟩ : ∃ y, L.getD 0 zI = y := ⟨_, rfl⟩
        rw [hy] at qe
        have okA := List.all_eq_true.1 HA.out
        have oy : okI y = true := by
          refine okA y ?_
          rw [← hy]
          have h1 : 0 < L.length := by rw [HN.out]; exact H0.out
          simp [List.getD, h1]
        have HD : Hid (hullF (qv y.1) (qv y.2) (L.drop 1) = p) := Lib.hid (by
          have e := dropI HN.out H0.out
          rw [hy] at e
          have e2 : L.drop 0 = L := rfl
          rw [e2] at e
          rw [← hp.out]
          conv => rhs; rw [e]
          exact (hullI_cons oy).symm)
        have oyy := okI_iff.1 oy
        have OF : Hid (okF y.1 = true ∧ okF y.2 = true) := Lib.hid ⟨oyy.1, oyy.2.1⟩
        have yl := ivA_lo qe
        have yh := ivA_hi qe
        have kk := fun (p : Addr) (v : Value) (q : w.cell? p = some v) => (T.cell (p := p) (World.block_lt_of_cell? w _ q)).trans q
        replace q0 := kk _ _ q0
        replace q1 := kk _ _ q1
        replace q2 := kk _ _ q2
        replace q3 := kk _ _ q3
        replace q4 := kk _ _ q4
        replace q5 := kk _ _ q5
        have hl0 := hR.lt
        have hne0 : w.heap.size ≠ wm.heap.size ∧ w.heap.size ≤ wm.heap.size := ⟨by omega, by omega⟩
        obtain ⟨tq, hO⟩ := laid6 wm s an m cn ad d cd s' an' m' cn' ad' d' cd'
        replace hR := hR.mono tq
        replace T := Add.trans T tq
        have HNE : Hid (w.heap.size ≠ wm.heap.size ∧ w.heap.size ≤ wm.heap.size) := Lib.hid hne0
        clear tq kk okA oy oyy hp qe
        go_wp2_with fail
        go_loopw [6] (fun i wr => ∃ (k : Nat) (s1 : Bool) (a1 : Option Addr) (n1 k1 : Nat) (e1 : Option Addr) (d1 l1 : Nat) (xl : Tri) (s2 : Bool) (a2 : Option Addr) (m2 k2 : Nat) (e2 : Option Addr) (d4 l2 : Nat) (xh : Tri), k ≤ n ∧ i = .int .i64 (k : Nat) ∧ Box6 wr wm.heap.size s1 a1 n1 k1 e1 d1 l1 s2 a2 m2 k2 e2 d4 l2 ∧ FracA w (.agg #[.bool s1, .slice a1 n1 k1, .slice e1 d1 l1]) xl ∧ FracA w (.agg #[.bool s2, .slice a2 m2 k2, .slice e2 d4 l2]) xh ∧ Hid (okF xl = true ∧ okF xh = true) ∧ Hid (hullF (qv xl) (qv xh) (L.drop k) = p) ∧ Box6 wr w.heap.size false none 0 0 none 0 0 false none 0 0 none 0 0 ∧ Add w wr) (fun i _ => n - (intOf i).toNat)
        case atStart => exact ⟨1, s, an, m, cn, ad, d, cd, _, s', an', m', cn', ad', d', cd', _, H0.out, rfl, hO, yl, yh, OF, HD, hR, T⟩
        case round =>
          clear hO yl yh OF HD hR T q0 q1 q2 q3 q4 q5 hy
          obtain ⟨k, s1, a1, n1, k1, e1, d1, l1, xl, s2, a2, m2, k2, e2, d4, l2, xh, hk, rfl, hO, fl, fh, OF, HD, hR, T⟩ := hrel
          by_cases hlt : k < n
          · obtain ⟨b', off', s, an, m, cn, ad, d, cd, s', an', m', cn', ad', d', cd', e, q0, q1, q2, q3, q4, q5, qe⟩ := HC.out k hlt
            simp only [Option.some.injEq, Addr.mk.injEq, and_true] at e
            obtain ⟨rfl, rfl⟩ := e
            obtain ⟨y, hy⟩ : ∃ y, L.getD k zI = y := ⟨_, rfl⟩
            have hd := dropI HN.out hlt
            rw [hy] at qe hd
            have HG := Lib.hid hd
            have oy : okI y = true := by
              refine List.all_eq_true.1 HA.out y ?_
              rw [← hy]
              have h1 : k < L.length := by rw [HN.out]; exact hlt
              simp [List.getD, h1]
            have OY := Lib.hid oy
            have oyy := okI_iff.1 oy
            have OL : Hid (okF y.1 = true ∧ okF xl = true) := Lib.hid ⟨oyy.1, OF.out.1⟩
            have OH : Hid (okF xh = true ∧ okF y.2 = true) := Lib.hid ⟨OF.out.2, oyy.2.1⟩
            have yl := ivA_lo qe
            have yh := ivA_hi qe
            have Q := Lib.hid (And.intro q0 (And.intro q1 (And.intro q2 (And.intro q3 (And.intro q4 q5)))))
            have kk := fun (p : Addr) (v : Value) (q : w.cell? p = some v) => (T.cell (p := p) (World.block_lt_of_cell? w _ q)).trans q
            replace q0 := kk _ _ q0
            replace q1 := kk _ _ q1
            replace q2 := kk _ _ q2
            replace q3 := kk _ _ q3
            replace q4 := kk _ _ q4
            replace q5 := kk _ _ q5
            obtain ⟨t1, ht1⟩ : ∃ t, decide (qv y.1 < qv xl) = t := ⟨_, rfl⟩
            obtain ⟨t2, ht2⟩ : ∃ t, decide (qv xh < qv y.2) = t := ⟨_, rfl⟩
            have H1 := Lib.hid ht1
            have H2 := Lib.hid ht2
            clear kk hy hd oy oyy qe ht1 ht2
            have co0 := hO.c0
            have co1 := hO.c1
            have co2 := hO.c2
            have K0 : Hid (∀ w', Add wr w' → w'.cell? ⟨b, off + k * 6, none⟩ = some (.bool s) ∧ w'.cell? ⟨b, off + k * 6 + 1, none⟩ = some (.slice an m cn) ∧ w'.cell? ⟨b, off + k * 6 + 2, none⟩ = some (.slice ad d cd) ∧ w'.cell? ⟨wm.heap.size, 0, none⟩ = some (.bool s1) ∧ w'.cell? ⟨wm.heap.size, 1, none⟩ = some (.slice a1 n1 k1) ∧ w'.cell? ⟨wm.heap.size, 2, none⟩ = some (.slice e1 d1 l1)) := Lib.hid fun w' k => ⟨(k.cell (World.block_lt_of_cell? wr _ q0)).trans q0, (k.cell (World.block_lt_of_cell? wr _ q1)).trans q1, (k.cell (World.block_lt_of_cell? wr _ q2)).trans q2, (hO.mono k).c0, (hO.mono k).c1, (hO.mono k).c2⟩
            have CL : Hid (∀ w', Add wr w' → Calls Tryz.prog 46 #[.agg #[.bool s, .slice an m cn, .slice ad d cd], .agg #[.bool s1, .slice a1 n1 k1, .slice e1 d1 l1]] w' (BoolIs w' t1)) := Lib.hid fun w' k => lessN t1 (yl.mono (Add.trans T k)) (fl.mono (Add.trans T k)) OL H1
            go_wp2_with fail
            go_region_held3 (fun w' => w'.cell? ⟨b, off + k * 6, none⟩ = some (.bool s) ∧ w'.cell? ⟨b, off + k * 6 + 1, none⟩ = some (.slice an m cn) ∧ w'.cell? ⟨b, off + k * 6 + 2, none⟩ = some (.slice ad d cd) ∧ w'.cell? ⟨wm.heap.size, 0, none⟩ = some (.bool s1) ∧ w'.cell? ⟨wm.heap.size, 1, none⟩ = some (.slice a1 n1 k1) ∧ w'.cell? ⟨wm.heap.size, 2, none⟩ = some (.slice e1 d1 l1))
              (first | with_reducible exact K0.out _ t5 | with_reducible exact K0.out _ (Below.drew (Below.refl _ _)) | go_keep)
              (first | (go_at_call 46; ((with_reducible refine (CL.out _ (Below.drew (Below.refl _ _))).mono ?_); rintro e w5 ⟨rfl, hq5⟩; have t5 := Add.trans (Below.drew (Below.refl _ _) : Add wr (World.drew wr)) hq5)))
            replace hR := hR.mono t5
            replace hO := hO.mono t5
            replace T := Add.trans T t5
            clear t5 hq5 K0 CL q0 q1 q2 q3 q4 q5 co0 co1 co2
            cases t1 with
            | false =>
              obtain ⟨q0, q1, q2, q3, q4, q5⟩ := Q.out
              have kk := fun (p : Addr) (v : Value) (q : w.cell? p = some v) => (T.cell (p := p) (World.block_lt_of_cell? w _ q)).trans q
              replace q0 := kk _ _ q0
              replace q1 := kk _ _ q1
              replace q2 := kk _ _ q2
              replace q3 := kk _ _ q3
              replace q4 := kk _ _ q4
              replace q5 := kk _ _ q5
              clear kk
              have co3 := hO.c3
              have co4 := hO.c4
              have co5 := hO.c5
              have K0 : Hid (∀ w', Add w5 w' → w'.cell? ⟨wm.heap.size, 3, none⟩ = some (.bool s2) ∧ w'.cell? ⟨wm.heap.size, 4, none⟩ = some (.slice a2 m2 k2) ∧ w'.cell? ⟨wm.heap.size, 5, none⟩ = some (.slice e2 d4 l2) ∧ w'.cell? ⟨b, off + k * 6 + 3, none⟩ = some (.bool s') ∧ w'.cell? ⟨b, off + k * 6 + 4, none⟩ = some (.slice an' m' cn') ∧ w'.cell? ⟨b, off + k * 6 + 5, none⟩ = some (.slice ad' d' cd')) := Lib.hid fun w' k => ⟨(hO.mono k).c3, (hO.mono k).c4, (hO.mono k).c5, (k.cell (World.block_lt_of_cell? w5 _ q3)).trans q3, (k.cell (World.block_lt_of_cell? w5 _ q4)).trans q4, (k.cell (World.block_lt_of_cell? w5 _ q5)).trans q5⟩
              have CL : Hid (∀ w', Add w5 w' → Calls Tryz.prog 46 #[.agg #[.bool s2, .slice a2 m2 k2, .slice e2 d4 l2], .agg #[.bool s', .slice an' m' cn', .slice ad' d' cd']] w' (BoolIs w' t2)) := Lib.hid fun w' k => lessN t2 (fh.mono (Add.trans T k)) (yh.mono (Add.trans T k)) OH H2
              go_wp2_with fail
              go_region_held3 (fun w' => w'.cell? ⟨wm.heap.size, 3, none⟩ = some (.bool s2) ∧ w'.cell? ⟨wm.heap.size, 4, none⟩ = some (.slice a2 m2 k2) ∧ w'.cell? ⟨wm.heap.size, 5, none⟩ = some (.slice e2 d4 l2) ∧ w'.cell? ⟨b, off + k * 6 + 3, none⟩ = some (.bool s') ∧ w'.cell? ⟨b, off + k * 6 + 4, none⟩ = some (.slice an' m' cn') ∧ w'.cell? ⟨b, off + k * 6 + 5, none⟩ = some (.slice ad' d' cd'))
                (first | with_reducible exact K0.out _ t5 | with_reducible exact K0.out _ (Below.drew (Below.refl _ _)) | go_keep)
                (first | (go_at_call 46; ((with_reducible refine (CL.out _ (Below.drew (Below.refl _ _))).mono ?_); rintro e w8 ⟨rfl, hq5⟩; have t5 := Add.trans (Below.drew (Below.refl _ _) : Add w5 (World.drew w5)) hq5)))
              replace hR := hR.mono t5
              replace hO := hO.mono t5
              replace T := Add.trans T t5
              clear t5 hq5 K0 CL q0 q1 q2 q3 q4 q5 co3 co4 co5
              obtain ⟨q0, q1, q2, q3, q4, q5⟩ := Q.out
              have kk := fun (p : Addr) (v : Value) (q : w.cell? p = some v) => (T.cell (p := p) (World.block_lt_of_cell? w _ q)).trans q
              replace q0 := kk _ _ q0
              replace q1 := kk _ _ q1
              replace q2 := kk _ _ q2
              replace q3 := kk _ _ q3
              replace q4 := kk _ _ q4
              replace q5 := kk _ _ q5
              clear kk q0 q1 q2
              cases t2 with
              | false =>
                have ql : mn (qv xl) (qv y.1) = qv xl := by have := of_decide_eq_false H1.out; unfold mn; grind
                have qh : mx (qv xh) (qv y.2) = qv xh := by have := of_decide_eq_false H2.out; unfold mx; grind
                have HD2 : Hid (hullF (qv xl) (qv xh) (L.drop (k + 1)) = p) := Lib.hid (by rw [← ql, ← qh, ← hullF_step OY.out, ← HG.out]; exact HD.out)
                have OF2 : Hid (okF xl = true ∧ okF xh = true) := Lib.hid ⟨OL.out.2, OH.out.1⟩
                clear ql qh HD HG OF OL OH H1 H2
                go_wp2_with fail
                go_roundw
                case rel => exact ⟨k + 1, _, _, _, _, _, _, _, _, _, _, _, _, _, _, _, _, by omega, by go_num, hO, fl, fh, OF2, HD2, hR, T⟩
                case measure => simp only [intOf]; omega
              | true =>
                have ql : mn (qv xl) (qv y.1) = qv xl := by have := of_decide_eq_false H1.out; unfold mn; grind
                have qh : mx (qv xh) (qv y.2) = qv y.2 := by have := of_decide_eq_true H2.out; unfold mx; grind
                have HD2 : Hid (hullF (qv xl) (qv y.2) (L.drop (k + 1)) = p) := Lib.hid (by rw [← ql, ← qh, ← hullF_step OY.out, ← HG.out]; exact HD.out)
                have OF2 : Hid (okF xl = true ∧ okF y.2 = true) := Lib.hid ⟨OL.out.2, OH.out.2⟩
                clear ql qh HD HG OF OL OH H1 H2
                have cf3 := hO.c3
                have cg3 := hO.fr 3
                have cf4 := hO.c4
                have cg4 := hO.fr 4
                have cf5 := hO.c5
                have cg5 := hO.fr 5
                have HF := Lib.hid (And.intro (hO.put1 s' an' m' cn' ad' d' cd') (And.intro (hR.moved 3 4 5 (.bool s') (.slice an' m' cn') (.slice ad' d' cd') HNE.out.1) (set3_below 3 4 5 (.bool s') (.slice an' m' cn') (.slice ad' d' cd') T HNE.out.2)))
                clear hO hR T
                go_wp2_with fail
                obtain ⟨f3, f5, f6⟩ := HF.out
                go_roundw
                case rel => exact ⟨k + 1, _, _, _, _, _, _, _, _, _, _, _, _, _, _, _, _, by omega, by go_num, f3, fl, yh, OF2, HD2, f5, f6⟩
                case measure => simp only [intOf]; omega
            | true =>
              obtain ⟨q0, q1, q2, q3, q4, q5⟩ := Q.out
              have kk := fun (p : Addr) (v : Value) (q : w.cell? p = some v) => (T.cell (p := p) (World.block_lt_of_cell? w _ q)).trans q
              replace q0 := kk _ _ q0
              replace q1 := kk _ _ q1
              replace q2 := kk _ _ q2
              replace q3 := kk _ _ q3
              replace q4 := kk _ _ q4
              replace q5 := kk _ _ q5
              clear kk q3 q4 q5
              have cf0 := hO.c0
              have cg0 := hO.fr 0
              have cf1 := hO.c1
              have cg1 := hO.fr 1
              have cf2 := hO.c2
              have cg2 := hO.fr 2
              go_upto_region 14 with fail
              obtain ⟨W6, hW6⟩ : ∃ W6, W6 = (((w5.setCell ⟨wm.heap.size, 0, none⟩ (.bool s)).setCell ⟨wm.heap.size, 1, none⟩ (.slice an m cn)).setCell ⟨wm.heap.size, 2, none⟩ (.slice ad d cd)) := ⟨_, rfl⟩
              have hR6 : Box6 W6 w.heap.size false none 0 0 none 0 0 false none 0 0 none 0 0 := by rw [hW6]; exact hR.moved 0 1 2 (.bool s) (.slice an m cn) (.slice ad d cd) HNE.out.1
              have hO6 : Box6 W6 wm.heap.size s an m cn ad d cd s2 a2 m2 k2 e2 d4 l2 := by rw [hW6]; exact hO.put0 s an m cn ad d cd
              have T6 : Add w W6 := by rw [hW6]; exact set3_below 0 1 2 (.bool s) (.slice an m cn) (.slice ad d cd) T HNE.out.2
              rw [← hW6]
              clear hW6 hR hO T cf0 cf1 cf2 cg0 cg1 cg2
              have hR := hR6
              have hO := hO6
              have T := T6
              clear hR6 hO6 T6
              clear q0 q1 q2
              obtain ⟨q0, q1, q2, q3, q4, q5⟩ := Q.out
              have kk := fun (p : Addr) (v : Value) (q : w.cell? p = some v) => (T.cell (p := p) (World.block_lt_of_cell? w _ q)).trans q
              replace q0 := kk _ _ q0
              replace q1 := kk _ _ q1
              replace q2 := kk _ _ q2
              replace q3 := kk _ _ q3
              replace q4 := kk _ _ q4
              replace q5 := kk _ _ q5
              clear kk
              have co3 := hO.c3
              have co4 := hO.c4
              have co5 := hO.c5
              have K0 : Hid (∀ w', Add W6 w' → w'.cell? ⟨wm.heap.size, 3, none⟩ = some (.bool s2) ∧ w'.cell? ⟨wm.heap.size, 4, none⟩ = some (.slice a2 m2 k2) ∧ w'.cell? ⟨wm.heap.size, 5, none⟩ = some (.slice e2 d4 l2) ∧ w'.cell? ⟨b, off + k * 6 + 3, none⟩ = some (.bool s') ∧ w'.cell? ⟨b, off + k * 6 + 4, none⟩ = some (.slice an' m' cn') ∧ w'.cell? ⟨b, off + k * 6 + 5, none⟩ = some (.slice ad' d' cd')) := Lib.hid fun w' k => ⟨(hO.mono k).c3, (hO.mono k).c4, (hO.mono k).c5, (k.cell (World.block_lt_of_cell? W6 _ q3)).trans q3, (k.cell (World.block_lt_of_cell? W6 _ q4)).trans q4, (k.cell (World.block_lt_of_cell? W6 _ q5)).trans q5⟩
              have CL : Hid (∀ w', Add W6 w' → Calls Tryz.prog 46 #[.agg #[.bool s2, .slice a2 m2 k2, .slice e2 d4 l2], .agg #[.bool s', .slice an' m' cn', .slice ad' d' cd']] w' (BoolIs w' t2)) := Lib.hid fun w' k => lessN t2 (fh.mono (Add.trans T k)) (yh.mono (Add.trans T k)) OH H2
              go_wp2_with fail
              go_region_held3 (fun w' => w'.cell? ⟨wm.heap.size, 3, none⟩ = some (.bool s2) ∧ w'.cell? ⟨wm.heap.size, 4, none⟩ = some (.slice a2 m2 k2) ∧ w'.cell? ⟨wm.heap.size, 5, none⟩ = some (.slice e2 d4 l2) ∧ w'.cell? ⟨b, off + k * 6 + 3, none⟩ = some (.bool s') ∧ w'.cell? ⟨b, off + k * 6 + 4, none⟩ = some (.slice an' m' cn') ∧ w'.cell? ⟨b, off + k * 6 + 5, none⟩ = some (.slice ad' d' cd'))
                (first | with_reducible exact K0.out _ t5 | with_reducible exact K0.out _ (Below.drew (Below.refl _ _)) | go_keep)
                (first | (go_at_call 46; ((with_reducible refine (CL.out _ (Below.drew (Below.refl _ _))).mono ?_); rintro e w8 ⟨rfl, hq5⟩; have t5 := Add.trans (Below.drew (Below.refl _ _) : Add W6 (World.drew W6)) hq5)))
              replace hR := hR.mono t5
              replace hO := hO.mono t5
              replace T := Add.trans T t5
              clear t5 hq5 K0 CL q0 q1 q2 q3 q4 q5 co3 co4 co5
              obtain ⟨q0, q1, q2, q3, q4, q5⟩ := Q.out
              have kk := fun (p : Addr) (v : Value) (q : w.cell? p = some v) => (T.cell (p := p) (World.block_lt_of_cell? w _ q)).trans q
              replace q0 := kk _ _ q0
              replace q1 := kk _ _ q1
              replace q2 := kk _ _ q2
              replace q3 := kk _ _ q3
              replace q4 := kk _ _ q4
              replace q5 := kk _ _ q5
              clear kk q0 q1 q2
              cases t2 with
              | false =>
                have ql : mn (qv xl) (qv y.1) = qv y.1 := by have := of_decide_eq_true H1.out; unfold mn; grind
                have qh : mx (qv xh) (qv y.2) = qv xh := by have := of_decide_eq_false H2.out; unfold mx; grind
                have HD2 : Hid (hullF (qv y.1) (qv xh) (L.drop (k + 1)) = p) := Lib.hid (by rw [← ql, ← qh, ← hullF_step OY.out, ← HG.out]; exact HD.out)
                have OF2 : Hid (okF y.1 = true ∧ okF xh = true) := Lib.hid ⟨OL.out.1, OH.out.1⟩
                clear ql qh HD HG OF OL OH H1 H2
                go_wp2_with fail
                go_roundw
                case rel => exact ⟨k + 1, _, _, _, _, _, _, _, _, _, _, _, _, _, _, _, _, by omega, by go_num, hO, yl, fh, OF2, HD2, hR, T⟩
                case measure => simp only [intOf]; omega
              | true =>
                have ql : mn (qv xl) (qv y.1) = qv y.1 := by have := of_decide_eq_true H1.out; unfold mn; grind
                have qh : mx (qv xh) (qv y.2) = qv y.2 := by have := of_decide_eq_true H2.out; unfold mx; grind
                have HD2 : Hid (hullF (qv y.1) (qv y.2) (L.drop (k + 1)) = p) := Lib.hid (by rw [← ql, ← qh, ← hullF_step OY.out, ← HG.out]; exact HD.out)
                have OF2 : Hid (okF y.1 = true ∧ okF y.2 = true) := Lib.hid ⟨OL.out.1, OH.out.2⟩
                clear ql qh HD HG OF OL OH H1 H2
                have cf3 := hO.c3
                have cg3 := hO.fr 3
                have cf4 := hO.c4
                have cg4 := hO.fr 4
                have cf5 := hO.c5
                have cg5 := hO.fr 5
                have HF := Lib.hid (And.intro (hO.put1 s' an' m' cn' ad' d' cd') (And.intro (hR.moved 3 4 5 (.bool s') (.slice an' m' cn') (.slice ad' d' cd') HNE.out.1) (set3_below 3 4 5 (.bool s') (.slice an' m' cn') (.slice ad' d' cd') T HNE.out.2)))
                clear hO hR T
                go_wp2_with fail
                obtain ⟨f3, f5, f6⟩ := HF.out
                go_roundw
                case rel => exact ⟨k + 1, _, _, _, _, _, _, _, _, _, _, _, _, _, _, _, _, by omega, by go_num, f3, yl, yh, OF2, HD2, f5, f6⟩
                case measure => simp only [intOf]; omega
          · obtain rfl : n = k := by omega
            obtain ⟨⟨⟨s5, N5, D5⟩, ⟨s6, N6, D6⟩⟩, hq⟩ : ∃ q, (can (qv xl), can (qv xh)) = q := ⟨_, rfl⟩
            have hpe : p = (((s5, N5, D5), (s6, N6, D6)), 0) := by
              rw [← HD.out, List.drop_of_length_le (by rw [HN.out]; exact Nat.le_refl _), hullF_nil, ← hq]
            subst hpe
            have R1 : Hid (redF xl = ((s5, N5, D5), 0)) := Lib.hid (by rw [redF_ok OF.out.1]; exact congrArg (fun z : Iv => (z.1, 0)) hq)
            have R2 : Hid (redF xh = ((s6, N6, D6), 0)) := Lib.hid (by rw [redF_ok OF.out.2]; exact congrArg (fun z : Iv => (z.2, 0)) hq)
            have qo := iv_of_ends (fl.mono T) (fh.mono T)
            clear HD hq hlt OF
            have co0 := hO.c0
            have co1 := hO.c1
            have co2 := hO.c2
            have co3 := hO.c3
            have co4 := hO.c4
            have co5 := hO.c5
            go_wp2_with fail
            refine (refLowestIN s5 N5 D5 s6 N6 D6 qo R1 R2).mono ?_
            rintro e w9 ⟨v9, rfl, ⟨a7, n7, k7, e7, d7, l7, a8, n8, k8, e8, d8, l8, rfl, x7, y7, x8, y8⟩, h9⟩
            replace hR := hR.mono h9
            replace T := Add.trans T h9
            clear h9 qo hO fl fh R1 R2 co0 co1 co2 co3 co4 co5
            have hP := Box6.put hR s5 a7 n7 k7 e7 d7 l7 s6 a8 n8 k8 e8 d8 l8
            have hF := resI_put (w := w) (p := (((s5, N5, D5), (s6, N6, D6)), 0)) hR (⟨a7, n7, k7, e7, d7, l7, a8, n8, k8, e8, d8, l8, rfl, x7, y7, x8, y8⟩) T (show w.heap.size ≤ w.heap.size by omega)
            obtain ⟨W7, hW7⟩ : ∃ W7, W7 = put6 (w9) (w.heap.size) (.bool s5) (.slice a7 n7 k7) (.slice e7 d7 l7) (.bool s6) (.slice a8 n8 k8) (.slice e8 d8 l8) := ⟨_, rfl⟩
            rw [← hW7] at hP hF
            unfold put6 at hW7
            have HF := Lib.hid hF
            have HW := Lib.hid hW7
            have hr0 := hR.c0
            have hr1 := hR.c1
            have hr2 := hR.c2
            have hr3 := hR.c3
            have hr4 := hR.c4
            have hr5 := hR.c5
            have hr6 := hR.fr 0
            have hr7 := hR.fr 1
            have hr8 := hR.fr 2
            have hr9 := hR.fr 3
            have hr10 := hR.fr 4
            have hr11 := hR.fr 5
            clear hF hW7 hR T x7 y7 x8 y8
            go_wp2_with fail
            rw [← HW.out]
            exact bodyPost_ret (v := .tuple #[.agg #[.bool s5, .slice a7 n7 k7, .slice e7 d7 l7, .bool s6, .slice a8 n8 k8, .slice e8 d8 l8], .int .i64 0]) (by simp [results, Tryz.results31, go_sem, hP.c0, hP.c1, hP.c2, hP.c3, hP.c4, hP.c5]) rfl HF.out
end Go.Proofs.YtifpfoeecnkhoaaGreatDoor

namespace Go
variable {P : Program}
/-- append onto what the call owns, from whatever source: nothing may be appended. -/
theorem fracs_append (w : World) (t ty : TypeId) (base : Nat) (e : TypeId) (i : TypeInfo) (z : Value) (size bytes : Nat) (ht : P.underlying t = some (.slice e)) (hi : P.info? e = some i) (hz : i.zero = some z)
    (hsize : i.size = size) (hby : i.bytes = bytes) (hzs : z.cells.size = size) (hsz : 0 < size)
    (v : Value) (n : Nat) (xs : List Value) (hown : w.ownsRow base e size v n xs)
    (so : Option Addr) (m c : Nat) (hso : so = none → m = 0 ∧ c = 0) (news : List Value) (hl : news.length = m * size) (hnews : ∀ ad, so = some ad → ∀ j u, news[j]? = some u → w.cell? (ad.add j) = some u) (h1 : ∀ u ∈ news, u.oneCell' = true)
    (h63 : n + m ≤ maxLen) (hbytes : (n + m) * bytes ≤ 140737488355328) (hbase : base ≤ w.heap.size) :
    ∃ v' w', (Builtin.append_ #[t, t] ty #[v, .slice so m c]).run P w = .ok v' w' ∧ w'.ownsRow base e size v' (n + m) (xs ++ news) ∧ w.grownBy w' v.ownBlock ∧ (v'.ownBlock = v.ownBlock ∨ v'.ownBlock = some w.heap.size) := by
  cases so with
  | none =>
    obtain ⟨rfl, rfl⟩ := hso rfl
    have hn : news = [] := List.eq_nil_of_length_eq_zero (by simpa using hl)
    subst hn
    refine ⟨v, w, run_append_owned_none (P := P) (w := w) base t ty e i size ht hi v n xs hown, ?_, ⟨rfl, rfl, rfl, Nat.le_refl _, fun _ _ _ => rfl⟩, .inl rfl⟩
    rw [List.append_nil]
    exact hown
  | some ad =>
    obtain ⟨v', w', hr, h2, h3, -, h5⟩ := run_append_own_at (P := P) w base t ty e i z size bytes ht hi hz hsize hby hzs hsz v n xs hown ad m c news hl (hnews ad rfl) h1 h63 hbytes hbase
    exact ⟨v', w', hr, h2, h3, h5⟩
/-- The same at a step of a region that draws its order. -/
theorem step_fracs_append {w : World} {ops : Array Oper} {o : Oper} {a : Act} {K : Act → World → Prop} {Q : Exit → Act → World → Prop} {E : Prop} (hgd : o.guard = none) (s x : Operand) (t : TypeId)
    (ho : o.op = .call { callee := .builtin .append, args := #[s, x], argTypes := #[t, t] })
    (base : Nat) (e : TypeId) (i : TypeInfo) (z : Value) (size bytes : Nat) (ht : P.underlying t = some (.slice e)) (hi : P.info? e = some i) (hz : i.zero = some z)
    (hsize : i.size = size) (hby : i.bytes = bytes) (hzs : z.cells.size = size) (hsz : 0 < size)
    (v : Value) (n : Nat) (xs : List Value) (hs : a.eval s = v) (hown : w.ownsRow base e size v n xs)
    (so : Option Addr) (m c : Nat) (hx : a.eval x = .slice so m c) (hso : so = none → m = 0 ∧ c = 0) (news : List Value) (hl : news.length = m * size) (hnews : ∀ ad, so = some ad → ∀ j u, news[j]? = some u → w.cell? (ad.add j) = some u) (h1 : ∀ u ∈ news, u.oneCell' = true)
    (h63 : n + m ≤ maxLen) (hbytes : (n + m) * bytes ≤ 140737488355328) (hbase : base ≤ w.heap.size)
    (h : ∀ v' w', w'.ownsRow base e size v' (n + m) (xs ++ news) → w.grownBy w' v.ownBlock → (v'.ownBlock = v.ownBlock ∨ v'.ownBlock = some w.heap.size) → K (a.put o.dst v') w') :
    if Region.wanted o (yielded ops a.tmps) = true then Oper.wp P o a w K Q else E := by
  have hw : Region.wanted o (yielded ops a.tmps) = true := by simp [Region.wanted, hgd]
  rw [if_pos hw]
  obtain ⟨v', w', hr, h2, h3, h5⟩ := fracs_append (P := P) w t o.type base e i z size bytes ht hi hz hsize hby hzs hsz v n xs hown so m c hso news hl hnews h1 h63 hbytes hbase
  unfold Oper.wp execOp
  simp only [ho, resolve, invoke, builtin, Sem.run_bind, Sem.run_pure, Result.andThen_ok, List.map_toArray, List.map_cons, List.map_nil, hs, hx, hr]
  exact h v' w' h2 h3 h5
end Go
namespace Go.Proofs.YtifpfoeecnkhoaaGreatDoor
open Go.RowKit NatM Go.Proofs.YtifpfoeecnkhoaaGreatDoor.Api

theorem infoFrac : (Tryz.prog.info? 25).map (fun i => (i.zero, i.size, i.bytes)) = some (some (.agg #[.bool false, .slice none 0 0, .slice none 0 0]), 3, 56) := by kernel_rfl
theorem own_lit {w : World} {g base : Nat} (h : w.heap[g]? = some (.cells #[] 25 (0, 0))) (hb : base ≤ g) : w.ownsRow base 25 3 (.slice (some ⟨g, 0, none⟩) 0 0) 0 [] :=
  ⟨rfl, .inr ⟨g, 0, #[], rfl, hb, h, Nat.le_refl _, Nat.zero_le _, rfl, rfl⟩⟩
theorem own_block {w : World} {base e size n : Nat} {v : Value} {xs : List Value} (h : w.ownsRow base e size v n xs) : ∀ k, v.ownBlock = some k → base ≤ k ∧ k < w.heap.size := by
  intro k hk
  rcases h.2 with ⟨rfl, -⟩ | ⟨g, cap, cur, rfl, hb, hg, -⟩
  · cases hk
  · have e : g = k := by simpa [Value.ownBlock] using hk
    subst e
    exact ⟨hb, (Array.getElem?_eq_some_iff.1 hg).1⟩
theorem Box.grown {w w' : World} {g : Nat} {row : Option Nat} {b an n cn ad d cd} (h : Box w g b an n cn ad d cd) (hg : w.grownBy w' row) (hne : some g ≠ row) : Box w' g b an n cn ad d cd :=
  (hg.block g h.lt hne).trans h
theorem hne_b {w : World} {o1 o2 : Obj} {t : Option Nat} (h : t = some (w.heap.size + 1) ∨ t = some (World.drew ((w.alloc o1).alloc o2)).heap.size) : some w.heap.size ≠ t := by
  have e : (World.drew ((w.alloc o1).alloc o2)).heap.size = w.heap.size + 1 + 1 := by simp
  rw [e] at h
  rintro rfl
  rcases h with h | h
  · have := Option.some.inj h; omega
  · have := Option.some.inj h; omega
theorem hne_c {w : World} {o1 o2 : Obj} {t : Option Nat} (h : t = some w.heap.size ∨ t = some (World.drew ((w.alloc o1).alloc o2)).heap.size) : some (w.heap.size + 1) ≠ t := by
  have e : (World.drew ((w.alloc o1).alloc o2)).heap.size = w.heap.size + 1 + 1 := by simp
  rw [e] at h
  rintro rfl
  rcases h with h | h
  · have := Option.some.inj h; omega
  · have := Option.some.inj h; omega
theorem hne_b0 {n : Nat} : some n ≠ (Value.slice (some ⟨n + 1, 0, none⟩) 0 0).ownBlock := by
  intro h
  have := Option.some.inj (show some n = some (n + 1) from h)
  omega
theorem hne_c0 {n : Nat} : some (n + 1) ≠ (Value.slice (some ⟨n, 0, none⟩) 0 0).ownBlock := by
  intro h
  have := Option.some.inj (show some (n + 1) = some n from h)
  omega
/-- The cells of a list of fractions. -/
def CellsF (w : World) (xs : List Value) (L : List Tri) : Prop := xs.length = L.length * 3 ∧
  ∀ i, i < L.length → ∃ s an m cn ad d cd, xs[i * 3]? = some (.bool s) ∧ xs[i * 3 + 1]? = some (.slice an m cn) ∧ xs[i * 3 + 2]? = some (.slice ad d cd) ∧ FracA w (.agg #[.bool s, .slice an m cn, .slice ad d cd]) (L.getD i (false, 0, 0))
theorem CellsF.mono {w w' : World} {xs : List Value} {L : List Tri} (h : CellsF w xs L) (hb : Add w w') : CellsF w' xs L :=
  ⟨h.1, fun i hi => by
    obtain ⟨s, an, m, cn, ad, d, cd, h1, h2, h3, h4⟩ := h.2 i hi
    exact ⟨s, an, m, cn, ad, d, cd, h1, h2, h3, h4.mono hb⟩⟩
theorem CellsF.append {w : World} {xs ys : List Value} {L M : List Tri} (h : CellsF w xs L) (g : CellsF w ys M) : CellsF w (xs ++ ys) (L ++ M) := by
  refine ⟨by rw [List.length_append, List.length_append, h.1, g.1]; omega, fun i hi => ?_⟩
  rw [List.length_append] at hi
  have hx := h.1
  by_cases c : i < L.length
  · obtain ⟨s, an, m, cn, ad, d, cd, h1, h2, h3, h4⟩ := h.2 i c
    refine ⟨s, an, m, cn, ad, d, cd, ?_, ?_, ?_, ?_⟩
    · rw [List.getElem?_append_left (by omega)]; exact h1
    · rw [List.getElem?_append_left (by omega)]; exact h2
    · rw [List.getElem?_append_left (by omega)]; exact h3
    · have e : (L ++ M).getD i (false, 0, 0) = L.getD i (false, 0, 0) := by simp [List.getD, List.getElem?_append_left c]
      rw [e]; exact h4
  · obtain ⟨s, an, m, cn, ad, d, cd, h1, h2, h3, h4⟩ := g.2 (i - L.length) (by omega)
    refine ⟨s, an, m, cn, ad, d, cd, ?_, ?_, ?_, ?_⟩
    · rw [List.getElem?_append_right (by omega), show i * 3 - xs.length = (i - L.length) * 3 by omega]; exact h1
    · rw [List.getElem?_append_right (by omega), show i * 3 + 1 - xs.length = (i - L.length) * 3 + 1 by omega]; exact h2
    · rw [List.getElem?_append_right (by omega), show i * 3 + 2 - xs.length = (i - L.length) * 3 + 2 by omega]; exact h3
    · have e : (L ++ M).getD i (false, 0, 0) = M.getD (i - L.length) (false, 0, 0) := by simp [List.getD, List.getElem?_append_right (show L.length ≤ i by omega)]
      rw [e]; exact h4
theorem addr_add (b off j : Nat) : (⟨b, off, none⟩ : Addr).add j = ⟨b, off + j, none⟩ := by
  unfold Addr.add; split <;> simp_all
/-- The cells of a list that lies in memory. -/
theorem cells_of {w : World} {so : Option Addr} {n c : Nat} {L : List Tri} (h : FracsA w (.slice so n c) L) :
    ∃ xs, CellsF w xs L ∧ (∀ ad, so = some ad → ∀ j u, xs[j]? = some u → w.cell? (ad.add j) = some u) ∧ ∀ u ∈ xs, u.oneCell' = true := by
  obtain ⟨a', n', c', e, hl, -, h⟩ := h
  simp only [Value.slice.injEq] at e
  obtain ⟨rfl, rfl, rfl⟩ := e
  rcases Nat.eq_zero_or_pos n with h0 | h0
  · subst h0
    refine ⟨[], ⟨by rw [hl]; rfl, fun i hi => by omega⟩, fun ad _ j u hu => by simp at hu, fun u hu => by simp at hu⟩
  · obtain ⟨b, off, -, -, -, -, -, -, -, rfl, -⟩ := h 0 h0
    have key : ∀ j, j < n * 3 → ∃ u, w.cell? ⟨b, off + j, none⟩ = some u ∧ u.oneCell' = true := by
      intro j hj
      obtain ⟨b', off', s, an, m, cn, ad, d, cd, h1, h2, h3, h4, h5⟩ := h (j / 3) (by omega)
      simp only [Option.some.injEq, Addr.mk.injEq, and_true] at h1
      obtain ⟨rfl, rfl⟩ := h1
      have e : j % 3 = 0 ∨ j % 3 = 1 ∨ j % 3 = 2 := by omega
      rcases e with e | e | e
      · rw [show off + j = off + j / 3 * 3 by omega]; exact ⟨_, h2, rfl⟩
      · rw [show off + j = off + j / 3 * 3 + 1 by omega]; exact ⟨_, h3, rfl⟩
      · rw [show off + j = off + j / 3 * 3 + 2 by omega]; exact ⟨_, h4, rfl⟩
    have get : ∀ j, j < n * 3 → ((List.range (n * 3)).map fun j => (w.cell? ⟨b, off + j, none⟩).getD (.bool false))[j]? = w.cell? ⟨b, off + j, none⟩ := by
      intro j hj
      obtain ⟨u, hu, -⟩ := key j hj
      rw [hu]
      simp [List.getElem?_map, List.getElem?_range hj, hu]
    refine ⟨(List.range (n * 3)).map fun j => (w.cell? ⟨b, off + j, none⟩).getD (.bool false), ⟨by simp [hl], fun i hi => ?_⟩, fun ad ha j u hu => ?_, fun u hu => ?_⟩
    · obtain ⟨b', off', s, an, m, cn, ad, d, cd, h1, h2, h3, h4, h5⟩ := h i (by omega)
      simp only [Option.some.injEq, Addr.mk.injEq, and_true] at h1
      obtain ⟨rfl, rfl⟩ := h1
      refine ⟨s, an, m, cn, ad, d, cd, ?_, ?_, ?_, h5⟩
      · rw [get _ (by omega)]; exact h2
      · rw [get _ (by omega)]; exact h3
      · rw [get _ (by omega)]; exact h4
    · obtain rfl : ad = ⟨b, off, none⟩ := (Option.some.inj ha).symm
      have hj : j < n * 3 := by
        have := (List.getElem?_eq_some_iff.1 hu).1
        simpa using this
      rw [get j hj] at hu
      rw [addr_add]; exact hu
    · obtain ⟨j, hj, rfl⟩ := List.mem_map.1 hu
      obtain ⟨u, hu, h1⟩ := key j (List.mem_range.1 hj)
      rw [hu]; exact h1
/-- A row of the call's own reads as a list of fractions. -/
theorem fracs_own {w : World} {base n : Nat} {v : Value} {xs : List Value} {L : List Tri} (h : w.ownsRow base 25 3 v n xs) (hc : CellsF w xs L) (hn : L.length = n) (hb : n ≤ 100000) : FracsA w v L := by
  rcases h.2 with ⟨rfl, rfl⟩ | ⟨g, cap, cur, rfl, -⟩
  · exact ⟨none, 0, 0, rfl, hn, hb, fun i hi => by omega⟩
  · refine ⟨some ⟨g, 0, none⟩, n, cap, rfl, hn, hb, fun i hi => ?_⟩
    obtain ⟨s, an, m, cn, ad, d, cd, h1, h2, h3, h4⟩ := hc.2 i (by omega)
    have k := h.cells (g := g) rfl
    have k1 := k _ _ h1
    have k2 := k _ _ h2
    have k3 := k _ _ h3
    rw [addr_add] at k1 k2 k3
    rw [← Nat.add_assoc] at k2 k3
    exact ⟨g, 0, s, an, m, cn, ad, d, cd, rfl, k1, k2, k3, h4⟩
end Go.Proofs.YtifpfoeecnkhoaaGreatDoor

namespace Go.Proofs.YtifpfoeecnkhoaaGreatDoor
open Go.RowKit NatM Go.Proofs.YtifpfoeecnkhoaaGreatDoor.Api

/-- A list of intervals as it came in. -/
def IvsI (w : World) (v : Value) (L : List IvL) : Prop := ∃ (a : Option Addr) (n c : Nat), v = .slice a n c ∧ L.length = n ∧ n ≤ c ∧ c ≤ maxLen ∧ (a = none → n = 0 ∧ c = 0) ∧
  ∀ i, i < n → ∃ b off s an m cn ad d cd s' an' m' cn' ad' d' cd', a = some ⟨b, off, none⟩ ∧ w.cell? ⟨b, off + i * 6, none⟩ = some (.bool s) ∧ w.cell? ⟨b, off + i * 6 + 1, none⟩ = some (.slice an m cn) ∧ w.cell? ⟨b, off + i * 6 + 2, none⟩ = some (.slice ad d cd) ∧ w.cell? ⟨b, off + i * 6 + 3, none⟩ = some (.bool s') ∧ w.cell? ⟨b, off + i * 6 + 4, none⟩ = some (.slice an' m' cn') ∧ w.cell? ⟨b, off + i * 6 + 5, none⟩ = some (.slice ad' d' cd') ∧
    IvI w (.agg #[.bool s, .slice an m cn, .slice ad d cd, .bool s', .slice an' m' cn', .slice ad' d' cd']) (L.getD i ((false, [], []), (false, [], [])))
theorem IvI.reads {w : World} {s s' : Bool} {an m cn ad d cd an' m' cn' ad' d' cd'} {x : IvL} (h : IvI w (.agg #[.bool s, .slice an m cn, .slice ad d cd, .bool s', .slice an' m' cn', .slice ad' d' cd']) x) : Reads w (.slice an m cn) x.1.2.1 ∧ Reads w (.slice ad d cd) x.1.2.2 ∧ Reads w (.slice an' m' cn') x.2.2.1 ∧ Reads w (.slice ad' d' cd') x.2.2.2 := by
  obtain ⟨a1, a2, a3, a4, a5, a6, a7, a8, a9, b1, b2, b3, e, h1, h2, h3, h4⟩ := h
  simp only [Value.agg.injEq, Array.mk.injEq, List.cons.injEq, Value.bool.injEq, Value.slice.injEq, and_true] at e
  obtain ⟨rfl, ⟨rfl, rfl, rfl⟩, ⟨rfl, rfl, rfl⟩, rfl, ⟨rfl, rfl, rfl⟩, rfl, rfl, rfl⟩ := e
  exact ⟨h1, h2, h3, h4⟩
theorem IvsI.arg {w : World} {v : Value} {L : List IvL} (h : IvsI w v L) (hl : L.any longE = false) (hn : L.length ≤ 100) : IvsA w v (L.map ivOf) := by
  obtain ⟨a, n, c, rfl, he, -, -, -, h⟩ := h
  refine ⟨a, n, c, rfl, by rw [List.length_map, he], by omega, fun i hi => ?_⟩
  obtain ⟨b, off, s, an, m, cn, ad, d, cd, s', an', m', cn', ad', d', cd', h1, q0, q1, q2, q3, q4, q5, h5⟩ := h i hi
  refine ⟨b, off, s, an, m, cn, ad, d, cd, s', an', m', cn', ad', d', cd', h1, q0, q1, q2, q3, q4, q5, ?_⟩
  have hi' : i < L.length := by omega
  have e : (L.map ivOf).getD i zI = ivOf (L.getD i ((false, [], []), (false, [], []))) := by simp [List.getD, hi']
  rw [e]
  refine h5.arg ?_
  have hm : L.getD i ((false, [], []), (false, [], [])) ∈ L := by simp [List.getD, hi']
  cases hb : longE (L.getD i ((false, [], []), (false, [], [])))
  · rfl
  · have : L.any longE = true := List.any_eq_true.2 ⟨_, hm, hb⟩
    rw [hl] at this; cases this
theorem any_range {α : Type} (L : List α) (d : α) (p : α → Bool) : L.any p = (List.range L.length).any fun i => p (L.getD i d) := by
  rw [Bool.eq_iff_iff, List.any_eq_true, List.any_eq_true]
  constructor
  · rintro ⟨x, hx, h⟩
    obtain ⟨i, hi, rfl⟩ := List.mem_iff_getElem.1 hx
    exact ⟨i, List.mem_range.2 hi, by simpa [List.getD, hi] using h⟩
  · rintro ⟨i, hi, h⟩
    have hi := List.mem_range.1 hi
    exact ⟨L[i], List.getElem_mem hi, by simpa [List.getD, hi] using h⟩
/-- The guard on long lists. -/
theorem longIs (t : Bool) {v : Value} {L : List IvL} {w : World} (h : IvsI w v L) (hn : L.length ≤ 1000) (ht : L.any longE = t) :
    Calls Tryz.prog 6 #[v] w (Long2P w t) := by
  obtain ⟨a, n, c, rfl, he, -, -, -, h⟩ := h
  rcases Nat.eq_zero_or_pos n with rfl | h0
  · have e : L = [] := List.eq_nil_of_length_eq_zero he
    subst e
    have e : t = false := ht.symm
    subst e
    exact longI_is false a 0 0 0 c [] w rfl (by decide) (fun q => absurd q (by decide)) (fun i hi => absurd hi (by omega)) (fun i hi => absurd hi (by omega)) rfl
  · obtain ⟨b, off, e⟩ : ∃ b off, a = some ⟨b, off, none⟩ := by
      obtain ⟨b, off, -, -, -, -, -, -, -, -, -, -, -, -, -, -, e, -⟩ := h 0 h0
      exact ⟨b, off, e⟩
    subst e
    let g : Nat → Value := fun j => (w.cell? ⟨b, j, none⟩).getD (.bool false)
    let q : Nat → Value × Value × Value × Value := fun i => (g (off + i * 6 + 1), g (off + i * 6 + 2), g (off + i * 6 + 4), g (off + i * 6 + 5))
    have key : ∀ i, i < n → ∃ an m cn ad d cd an' m' cn' ad' d' cd', q i = (.slice an m cn, .slice ad d cd, .slice an' m' cn', .slice ad' d' cd') ∧ w.cell? ⟨b, off + i * 6 + 1, none⟩ = some (.slice an m cn) ∧ w.cell? ⟨b, off + i * 6 + 2, none⟩ = some (.slice ad d cd) ∧ w.cell? ⟨b, off + i * 6 + 4, none⟩ = some (.slice an' m' cn') ∧ w.cell? ⟨b, off + i * 6 + 5, none⟩ = some (.slice ad' d' cd') ∧
        (Reads w (.slice an m cn) (L.getD i ((false, [], []), (false, [], []))).1.2.1 ∧ Reads w (.slice ad d cd) (L.getD i ((false, [], []), (false, [], []))).1.2.2 ∧ Reads w (.slice an' m' cn') (L.getD i ((false, [], []), (false, [], []))).2.2.1 ∧ Reads w (.slice ad' d' cd') (L.getD i ((false, [], []), (false, [], []))).2.2.2) := by
      intro i hi
      obtain ⟨b', off', s, an, m, cn, ad, d, cd, s', an', m', cn', ad', d', cd', e, q0, q1, q2, q3, q4, q5, hI⟩ := h i hi
      simp only [Option.some.injEq, Addr.mk.injEq, and_true] at e
      obtain ⟨rfl, rfl⟩ := e
      refine ⟨an, m, cn, ad, d, cd, an', m', cn', ad', d', cd', ?_, q1, q2, q4, q5, hI.reads⟩
      show (g _, g _, g _, g _) = _
      simp only [g, q1, q2, q4, q5, Option.getD_some]
    have hget : ∀ i, i < n → ((List.range n).map q).getD i (.slice none 0 0, .slice none 0 0, .slice none 0 0, .slice none 0 0) = q i := by
      intro i hi
      simp [List.getD, List.getElem?_map, List.getElem?_range hi]
    refine longI_is t _ b off n c ((List.range n).map q) w (by simp) (by omega) (fun _ => rfl) ?_ ?_ ?_
    · intro i hi
      obtain ⟨an, m, cn, ad, d, cd, an', m', cn', ad', d', cd', e, q1, q2, q4, q5, -⟩ := key i hi
      rw [hget i hi, e]
      exact ⟨q1, q2, q4, q5⟩
    · intro i hi
      obtain ⟨an, m, cn, ad, d, cd, an', m', cn', ad', d', cd', e, q1, q2, q4, q5, r1, r2, r3, r4⟩ := key i hi
      rw [hget i hi, e]
      exact ⟨r1.isSlice, r2.isSlice, r3.isSlice, r4.isSlice⟩
    · rw [← ht, any_range L ((false, [], []), (false, [], [])), he, List.any_map, Bool.eq_iff_iff, List.any_eq_true, List.any_eq_true]
      have hE : ∀ i, i < n → tooLong4 (q i) = longE (L.getD i ((false, [], []), (false, [], []))) := by
        intro i hi
        obtain ⟨an, m, cn, ad, d, cd, an', m', cn', ad', d', cd', e, q1, q2, q4, q5, r1, r2, r3, r4⟩ := key i hi
        rw [e]
        unfold tooLong4 longE
        rw [r1.lenV, r2.lenV, r3.lenV, r4.lenV]
      constructor
      · rintro ⟨i, hi, h⟩; exact ⟨i, hi, (hE i (List.mem_range.1 hi)).symm.trans h⟩
      · rintro ⟨i, hi, h⟩; exact ⟨i, hi, (hE i (List.mem_range.1 hi)).trans h⟩
theorem IvsA.cutL {w : World} {a : Option Addr} {n c : Nat} {L : List Iv} (h : IvsA w (.slice a n c) L) {k : Nat} (hk : k ≤ n) (c' : Nat) : IvsA w (.slice a k c') (L.take k) := by
  obtain ⟨a', n', c2, e, hl, hn, h⟩ := h
  simp only [Value.slice.injEq] at e
  obtain ⟨rfl, rfl, rfl⟩ := e
  refine ⟨a, k, c', rfl, by rw [List.length_take]; omega, by omega, fun i hi => ?_⟩
  obtain ⟨b, off, s, an, m, cn, ad, d, cd, s', an', m', cn', ad', d', cd', h1, q0, q1, q2, q3, q4, q5, h5⟩ := h i (by omega)
  refine ⟨b, off, s, an, m, cn, ad, d, cd, s', an', m', cn', ad', d', cd', h1, q0, q1, q2, q3, q4, q5, ?_⟩
  have e : (L.take k).getD i zI = L.getD i zI := by simp [List.getD, hi]
  rw [e]; exact h5
theorem IvsA.cutR {w : World} {a a2 : Option Addr} {n c : Nat} {L : List Iv} (h : IvsA w (.slice a n c) L) {k : Nat} (hk : k ≤ n) (c' : Nat)
    (ha : k < n → ∀ b off, a = some ⟨b, off, none⟩ → a2 = some ⟨b, off + k * 6, none⟩) : IvsA w (.slice a2 (n - k) c') (L.drop k) := by
  obtain ⟨a', n', c2, e, hl, hn, h⟩ := h
  simp only [Value.slice.injEq] at e
  obtain ⟨rfl, rfl, rfl⟩ := e
  refine ⟨a2, n - k, c', rfl, by rw [List.length_drop]; omega, by omega, fun i hi => ?_⟩
  obtain ⟨b, off, s, an, m, cn, ad, d, cd, s', an', m', cn', ad', d', cd', h1, q0, q1, q2, q3, q4, q5, h5⟩ := h (k + i) (by omega)
  have e0 : off + (k + i) * 6 = off + k * 6 + i * 6 := by omega
  rw [e0] at q0 q1 q2 q3 q4 q5
  refine ⟨b, off + k * 6, s, an, m, cn, ad, d, cd, s', an', m', cn', ad', d', cd', ha (by omega) b off h1, q0, q1, q2, q3, q4, q5, ?_⟩
  have e : (L.drop k).getD i zI = L.getD (k + i) zI := by simp [List.getD, List.getElem?_drop]
  rw [e]; exact h5
theorem infoIv : (Tryz.prog.info? 27).map (fun i => (i.zero, i.size, i.bytes)) = some (some (.agg #[.bool false, .slice none 0 0, .slice none 0 0, .bool false, .slice none 0 0, .slice none 0 0]), 6, 112) := by kernel_rfl
theorem own_litI {w : World} {g base : Nat} (h : w.heap[g]? = some (.cells #[] 27 (0, 0))) (hb : base ≤ g) : w.ownsRow base 27 6 (.slice (some ⟨g, 0, none⟩) 0 0) 0 [] :=
  ⟨rfl, .inr ⟨g, 0, #[], rfl, hb, h, Nat.le_refl _, Nat.zero_le _, rfl, rfl⟩⟩
theorem Box6.grown {w w' : World} {g : Nat} {row : Option Nat} {b : Bool} {an : Option Addr} {n cn : Nat} {ad : Option Addr} {d cd : Nat} {b' : Bool} {an' : Option Addr} {n' cn' : Nat} {ad' : Option Addr} {d' cd' : Nat} (h : Box6 w g b an n cn ad d cd b' an' n' cn' ad' d' cd') (hg : w.grownBy w' row) (hne : some g ≠ row) : Box6 w' g b an n cn ad d cd b' an' n' cn' ad' d' cd' :=
  (hg.block g h.lt hne).trans h
/-- The cells of a list of intervals. -/
def CellsI (w : World) (xs : List Value) (L : List Iv) : Prop := xs.length = L.length * 6 ∧
  ∀ i, i < L.length → ∃ s an m cn ad d cd s' an' m' cn' ad' d' cd', xs[i * 6]? = some (.bool s) ∧ xs[i * 6 + 1]? = some (.slice an m cn) ∧ xs[i * 6 + 2]? = some (.slice ad d cd) ∧ xs[i * 6 + 3]? = some (.bool s') ∧ xs[i * 6 + 4]? = some (.slice an' m' cn') ∧ xs[i * 6 + 5]? = some (.slice ad' d' cd') ∧ IvA w (.agg #[.bool s, .slice an m cn, .slice ad d cd, .bool s', .slice an' m' cn', .slice ad' d' cd']) (L.getD i zI)
theorem CellsI.mono {w w' : World} {xs : List Value} {L : List Iv} (h : CellsI w xs L) (hb : Add w w') : CellsI w' xs L :=
  ⟨h.1, fun i hi => by
    obtain ⟨s, an, m, cn, ad, d, cd, s', an', m', cn', ad', d', cd', q0, q1, q2, q3, q4, q5, h4⟩ := h.2 i hi
    exact ⟨s, an, m, cn, ad, d, cd, s', an', m', cn', ad', d', cd', q0, q1, q2, q3, q4, q5, h4.mono hb⟩⟩
theorem CellsI.append {w : World} {xs ys : List Value} {L M : List Iv} (h : CellsI w xs L) (g : CellsI w ys M) : CellsI w (xs ++ ys) (L ++ M) := by
  refine ⟨by rw [List.length_append, List.length_append, h.1, g.1]; omega, fun i hi => ?_⟩
  rw [List.length_append] at hi
  have hx := h.1
  by_cases c : i < L.length
  · obtain ⟨s, an, m, cn, ad, d, cd, s', an', m', cn', ad', d', cd', q0, q1, q2, q3, q4, q5, h4⟩ := h.2 i c
    refine ⟨s, an, m, cn, ad, d, cd, s', an', m', cn', ad', d', cd', ?_, ?_, ?_, ?_, ?_, ?_, ?_⟩
    · rw [List.getElem?_append_left (by omega)]; exact q0
    · rw [List.getElem?_append_left (by omega)]; exact q1
    · rw [List.getElem?_append_left (by omega)]; exact q2
    · rw [List.getElem?_append_left (by omega)]; exact q3
    · rw [List.getElem?_append_left (by omega)]; exact q4
    · rw [List.getElem?_append_left (by omega)]; exact q5
    · have e : (L ++ M).getD i zI = L.getD i zI := by simp [List.getD, List.getElem?_append_left c]
      rw [e]; exact h4
  · obtain ⟨s, an, m, cn, ad, d, cd, s', an', m', cn', ad', d', cd', q0, q1, q2, q3, q4, q5, h4⟩ := g.2 (i - L.length) (by omega)
    refine ⟨s, an, m, cn, ad, d, cd, s', an', m', cn', ad', d', cd', ?_, ?_, ?_, ?_, ?_, ?_, ?_⟩
    · rw [List.getElem?_append_right (by omega), show i * 6 - xs.length = (i - L.length) * 6 by omega]; exact q0
    · rw [List.getElem?_append_right (by omega), show i * 6 + 1 - xs.length = (i - L.length) * 6 + 1 by omega]; exact q1
    · rw [List.getElem?_append_right (by omega), show i * 6 + 2 - xs.length = (i - L.length) * 6 + 2 by omega]; exact q2
    · rw [List.getElem?_append_right (by omega), show i * 6 + 3 - xs.length = (i - L.length) * 6 + 3 by omega]; exact q3
    · rw [List.getElem?_append_right (by omega), show i * 6 + 4 - xs.length = (i - L.length) * 6 + 4 by omega]; exact q4
    · rw [List.getElem?_append_right (by omega), show i * 6 + 5 - xs.length = (i - L.length) * 6 + 5 by omega]; exact q5
    · have e : (L ++ M).getD i zI = M.getD (i - L.length) zI := by simp [List.getD, List.getElem?_append_right (show L.length ≤ i by omega)]
      rw [e]; exact h4
/-- The cells of a list that lies in memory. -/
theorem cellsI_of {w : World} {so : Option Addr} {n c : Nat} {L : List Iv} (h : IvsA w (.slice so n c) L) :
    ∃ xs, CellsI w xs L ∧ (∀ ad, so = some ad → ∀ j u, xs[j]? = some u → w.cell? (ad.add j) = some u) ∧ ∀ u ∈ xs, u.oneCell' = true := by
  obtain ⟨a', n', c', e, hl, -, h⟩ := h
  simp only [Value.slice.injEq] at e
  obtain ⟨rfl, rfl, rfl⟩ := e
  rcases Nat.eq_zero_or_pos n with h0 | h0
  · subst h0
    refine ⟨[], ⟨by rw [hl]; rfl, fun i hi => by omega⟩, fun ad _ j u hu => by simp at hu, fun u hu => by simp at hu⟩
  · obtain ⟨b, off, e⟩ : ∃ b off, so = some ⟨b, off, none⟩ := by
      obtain ⟨b, off, -, -, -, -, -, -, -, -, -, -, -, -, -, -, e, -⟩ := h 0 h0
      exact ⟨b, off, e⟩
    subst e
    have key : ∀ j, j < n * 6 → ∃ u, w.cell? ⟨b, off + j, none⟩ = some u ∧ u.oneCell' = true := by
      intro j hj
      obtain ⟨b', off', s, an, m, cn, ad, d, cd, s', an', m', cn', ad', d', cd', h1, q0, q1, q2, q3, q4, q5, h5⟩ := h (j / 6) (by omega)
      simp only [Option.some.injEq, Addr.mk.injEq, and_true] at h1
      obtain ⟨rfl, rfl⟩ := h1
      have e : j % 6 = 0 ∨ j % 6 = 1 ∨ j % 6 = 2 ∨ j % 6 = 3 ∨ j % 6 = 4 ∨ j % 6 = 5 := by omega
      rcases e with e | e | e | e | e | e
      · rw [show off + j = off + j / 6 * 6 by omega]; exact ⟨_, q0, rfl⟩
      · rw [show off + j = off + j / 6 * 6 + 1 by omega]; exact ⟨_, q1, rfl⟩
      · rw [show off + j = off + j / 6 * 6 + 2 by omega]; exact ⟨_, q2, rfl⟩
      · rw [show off + j = off + j / 6 * 6 + 3 by omega]; exact ⟨_, q3, rfl⟩
      · rw [show off + j = off + j / 6 * 6 + 4 by omega]; exact ⟨_, q4, rfl⟩
      · rw [show off + j = off + j / 6 * 6 + 5 by omega]; exact ⟨_, q5, rfl⟩
    have get : ∀ j, j < n * 6 → ((List.range (n * 6)).map fun j => (w.cell? ⟨b, off + j, none⟩).getD (.bool false))[j]? = w.cell? ⟨b, off + j, none⟩ := by
      intro j hj
      obtain ⟨u, hu, -⟩ := key j hj
      rw [hu]
      simp [List.getElem?_map, List.getElem?_range hj, hu]
    refine ⟨(List.range (n * 6)).map fun j => (w.cell? ⟨b, off + j, none⟩).getD (.bool false), ⟨by simp [hl], fun i hi => ?_⟩, fun ad ha j u hu => ?_, fun u hu => ?_⟩
    · obtain ⟨b', off', s, an, m, cn, ad, d, cd, s', an', m', cn', ad', d', cd', h1, q0, q1, q2, q3, q4, q5, h5⟩ := h i (by omega)
      simp only [Option.some.injEq, Addr.mk.injEq, and_true] at h1
      obtain ⟨rfl, rfl⟩ := h1
      refine ⟨s, an, m, cn, ad, d, cd, s', an', m', cn', ad', d', cd', ?_, ?_, ?_, ?_, ?_, ?_, h5⟩
      · rw [get _ (by omega)]; exact q0
      · rw [get _ (by omega)]; exact q1
      · rw [get _ (by omega)]; exact q2
      · rw [get _ (by omega)]; exact q3
      · rw [get _ (by omega)]; exact q4
      · rw [get _ (by omega)]; exact q5
    · obtain rfl : ad = ⟨b, off, none⟩ := (Option.some.inj ha).symm
      have hj : j < n * 6 := by
        have := (List.getElem?_eq_some_iff.1 hu).1
        simpa using this
      rw [get j hj] at hu
      rw [addr_add]; exact hu
    · obtain ⟨j, hj, rfl⟩ := List.mem_map.1 hu
      obtain ⟨u, hu, h1⟩ := key j (List.mem_range.1 hj)
      rw [hu]; exact h1
/-- A row of the call's own reads as a list of intervals. -/
theorem ivs_own {w : World} {base n : Nat} {v : Value} {xs : List Value} {L : List Iv} (h : w.ownsRow base 27 6 v n xs) (hc : CellsI w xs L) (hn : L.length = n) (hb : n ≤ 100000) : IvsA w v L := by
  rcases h.2 with ⟨rfl, rfl⟩ | ⟨g, cap, cur, rfl, -⟩
  · exact ⟨none, 0, 0, rfl, hn, hb, fun i hi => by omega⟩
  · refine ⟨some ⟨g, 0, none⟩, n, cap, rfl, hn, hb, fun i hi => ?_⟩
    obtain ⟨s, an, m, cn, ad, d, cd, s', an', m', cn', ad', d', cd', q0, q1, q2, q3, q4, q5, h4⟩ := hc.2 i (by omega)
    have k := h.cells (g := g) rfl
    have k0 := k _ _ q0
    have k1 := k _ _ q1
    have k2 := k _ _ q2
    have k3 := k _ _ q3
    have k4 := k _ _ q4
    have k5 := k _ _ q5
    rw [addr_add] at k0 k1 k2 k3 k4 k5
    rw [← Nat.add_assoc] at k1
    rw [← Nat.add_assoc] at k2
    rw [← Nat.add_assoc] at k3
    rw [← Nat.add_assoc] at k4
    rw [← Nat.add_assoc] at k5
    exact ⟨g, 0, s, an, m, cn, ad, d, cd, s', an', m', cn', ad', d', cd', rfl, k0, k1, k2, k3, k4, k5, h4⟩
theorem put6_size {w : World} {g : Nat} (u0 u1 u2 u3 u4 u5 : Value) : (put6 w g u0 u1 u2 u3 u4 u5).heap.size = w.heap.size := by
  unfold put6; simp [World.setCell]
theorem Tab.put6 {w : World} {g : Nat} {b : Bool} {an : Option Addr} {n cn : Nat} {ad : Option Addr} {d cd : Nat} {b' : Bool} {an' : Option Addr} {n' cn' : Nat} {ad' : Option Addr} {d' cd' : Nat} (h : Tab w) (hB : Box6 w g b an n cn ad d cd b' an' n' cn' ad' d' cd') (u0 u1 u2 u3 u4 u5 : Value) : Tab (Go.Proofs.YtifpfoeecnkhoaaGreatDoor.put6 w g u0 u1 u2 u3 u4 u5) := by
  refine ⟨by rw [put6_size]; exact h.1, fun j hj => ?_⟩
  have hk : 0 ≠ g := by
    rintro rfl
    exact hB.not_int _ _ _ (h.2 j hj)
  rw [cell_other (fun k hk => put6_other u0 u1 u2 u3 u4 u5 hk) _ hk]
  exact h.2 j hj
end Go.Proofs.YtifpfoeecnkhoaaGreatDoor

namespace Go.Proofs.YtifpfoeecnkhoaaGreatDoor.IvHullL
open Go.Proofs.YtifpfoeecnkhoaaGreatDoor Go.RowKit NatM Go.Proofs.YtifpfoeecnkhoaaGreatDoor.Api

/-- An interval and an error, with all parts named. -/
def GenI (w : World) (s1 : Bool) (N1 D1 : Nat) (s2 : Bool) (N2 D2 c : Nat) (e : Ending) (w' : World) : Prop := ∃ a1 n1 k1 e1 d1 l1 a2 m2 k2 e2 d4 l2, e = .returned (.tuple #[.agg #[.bool s1, .slice a1 n1 k1, .slice e1 d1 l1, .bool s2, .slice a2 m2 k2, .slice e2 d4 l2], .int .i64 (c : Nat)]) ∧ Num w' (.slice a1 n1 k1) N1 ∧ Num w' (.slice e1 d1 l1) D1 ∧ Num w' (.slice a2 m2 k2) N2 ∧ Num w' (.slice e2 d4 l2) D2 ∧ Add w w'
theorem genI {w : World} {s1 : Bool} {N1 D1 : Nat} {s2 : Bool} {N2 D2 c : Nat} {e : Ending} {w' : World} (h : ResI w (((s1, N1, D1), (s2, N2, D2)), c) e w') : GenI w s1 N1 D1 s2 N2 D2 c e w' := by
  obtain ⟨v, rfl, ⟨a1, a2, a3, a4, a5, a6, a7, a8, a9, b1, b2, b3, rfl, g1, g2, g3, g4⟩, T⟩ := h
  exact ⟨a1, a2, a3, a4, a5, a6, a7, a8, a9, b1, b2, b3, rfl, g1, g2, g3, g4, T⟩
set_option maxRecDepth 100000 in
set_option maxHeartbeats 20000000 in
theorem hulls_wide {v : Value} {L : List IvL} {m : Nat} (w : World) (hv : IvsI w v L) (hT : Tab w) (h : 10 < L.length) : Calls Tryz.prog 5 #[v, .int .u8 (m : Nat)] w (LawP w) := by
  have hv0 := hv
  obtain ⟨a, n, c, rfl, hl, hnc, hc, ha, -⟩ := hv0
  have d1 : decide ((10 : Int) < (n : Int)) = true := by simp; omega
  clear hl hnc hc ha h hv
  have T := Below.refl w.heap.size w
  go_enter Tryz.func5, Tryz.ntmps5
  go_wp2_with fail
  refine (awake3_any _ hT).mono ?_
  rintro e wz9 ⟨rfl, hz9⟩
  replace T := Add.trans T hz9
  clear hz9 hT
  go_wp2_with fail
  go_ret
  exact ⟨rfl, T⟩
set_option maxRecDepth 100000 in
set_option maxHeartbeats 20000000 in
theorem hulls_long {v : Value} {L : List IvL} {m : Nat} (w : World) (hv : IvsI w v L) (hT : Tab w) (h : L.length ≤ 10) (hg : L.any longE = true) : Calls Tryz.prog 5 #[v, .int .u8 (m : Nat)] w (LawP w) := by
  have hv0 := hv
  obtain ⟨a, n, c, rfl, hl, hnc, hc, ha, -⟩ := hv0
  have d1 : decide ((10 : Int) < (n : Int)) = false := by simp; omega
  have CL := Lib.hid (longIs true hv (by omega) hg)
  clear hl hnc hc ha h hg hv
  have T := Below.refl w.heap.size w
  go_enter Tryz.func5, Tryz.ntmps5
  go_wp2_with fail
  refine CL.out.mono ?_
  rintro e w8 ⟨rfl, rfl⟩
  clear CL
  go_wp2_with fail
  refine (awake3_any _ hT).mono ?_
  rintro e wz9 ⟨rfl, hz9⟩
  replace T := Add.trans T hz9
  clear hz9 hT
  go_wp2_with fail
  go_ret
  exact ⟨rfl, T⟩
set_option maxRecDepth 100000 in
set_option maxHeartbeats 20000000 in
theorem hulls_ok {v : Value} {L : List IvL} {m : Nat} (w : World) (hv : IvsI w v L) (hT : Tab w) (h : L.length ≤ 10) (hg : L.any longE = false) (hm : m < 256) : Calls Tryz.prog 5 #[v, .int .u8 (m : Nat)] w (LawP w) := by
  have hv0 := hv
  obtain ⟨a, n, c, rfl, hl, hnc, hc, ha, -⟩ := hv0
  have d1 : decide ((10 : Int) < (n : Int)) = false := by simp; omega
  have CL := Lib.hid (longIs false hv (by omega) hg)
  have hl0 := hv.arg hg (by omega)
  obtain ⟨M, hM⟩ : ∃ M, L.map ivOf = M := ⟨_, rfl⟩
  rw [hM] at hl0
  have hMl : M.length = n := by rw [← hM, List.length_map]; exact hl
  obtain ⟨⟨⟨s1, N1, D1⟩, ⟨s2, N2, D2⟩⟩, c1, hp⟩ : ∃ P c, hullI M = (P, c) := ⟨_, _, rfl⟩
  have T := Below.refl w.heap.size w
  have HML := Lib.hid hMl
  have HAn := Lib.hid ha
  have hn12 : n ≤ 10 := by omega
  have hni : (n : Int) ≤ 10 := by omega
  have hnci : (n : Int) ≤ (c : Int) := by omega
  have hci : (c : Int) ≤ 9223372036854775807 := by unfold maxLen at hc; omega
  have HP := Lib.hid hp
  clear hl hnc hc ha h hg hv hM hMl hp
  go_enter Tryz.func5, Tryz.ntmps5
  go_wp2_with fail
  refine CL.out.mono ?_
  rintro e w9 ⟨rfl, rfl⟩
  have hl := hl0
  clear CL d1 hl0
  go_wp2_with fail
  refine ((hullN _ hl hT HP).mono fun _ _ g => genI g).mono ?_
  rintro e w11 ⟨aA, nA, kA, eA, dA, lA, aA', nA', kA', eA', dA', lA', rfl, xA, yA, xA', yA', h11⟩
  replace hT := hT.mono h11
  replace hl := hl.mono h11
  replace T := Add.trans T h11
  clear h11 
  obtain ⟨tt, hA⟩ := laid6 w11 s1 aA nA kA eA dA lA s2 aA' nA' kA' eA' dA' lA'
  replace hT := hT.mono tt
  replace hl := hl.mono tt
  replace xA := xA.mono tt
  replace yA := yA.mono tt
  replace xA' := xA'.mono tt
  replace yA' := yA'.mono tt
  replace T := Add.trans T tt
  clear tt
  have itA : IvT _ _ ((s1, N1, D1), (s2, N2, D2)) := ⟨_, _, _, _, _, _, _, _, _, _, _, _, rfl, xA, yA, xA', yA'⟩
  clear xA yA xA' yA'
  go_wp2_with fail
  refine ((refHullN _ hl HP).mono fun _ _ g => genI g).mono ?_
  rintro e w12 ⟨aB, nB, kB, eB, dB, lB, aB', nB', kB', eB', dB', lB', rfl, xB, yB, xB', yB', h12⟩
  replace hT := hT.mono h12
  replace hl := hl.mono h12
  replace hA := hA.mono h12
  replace itA := itA.mono h12
  replace T := Add.trans T h12
  clear h12 
  obtain ⟨tt, hB⟩ := laid6 w12 s1 aB nB kB eB dB lB s2 aB' nB' kB' eB' dB' lB'
  replace hT := hT.mono tt
  replace hl := hl.mono tt
  replace hA := hA.mono tt
  replace itA := itA.mono tt
  replace xB := xB.mono tt
  replace yB := yB.mono tt
  replace xB' := xB'.mono tt
  replace yB' := yB'.mono tt
  replace T := Add.trans T tt
  clear tt
  have itB : IvT _ _ ((s1, N1, D1), (s2, N2, D2)) := ⟨_, _, _, _, _, _, _, _, _, _, _, _, rfl, xB, yB, xB', yB'⟩
  clear xB yB xB' yB'
  have ca0 := hA.c0
  have ca1 := hA.c1
  have ca2 := hA.c2
  have ca3 := hA.c3
  have ca4 := hA.c4
  have ca5 := hA.c5
  have cb0 := hB.c0
  have cb1 := hB.c1
  have cb2 := hB.c2
  have cb3 := hB.c3
  have cb4 := hB.c4
  have cb5 := hB.c5
  go_wp2_with fail
  refine (sameIN true itA itB (selfI _)).mono ?_
  rintro e w13 ⟨rfl, h13⟩
  replace hT := hT.mono h13
  replace hl := hl.mono h13
  replace hA := hA.mono h13
  replace itA := itA.mono h13
  replace T := Add.trans T h13
  clear h13 itB hB ca0 ca1 ca2 ca3 ca4 ca5 cb0 cb1 cb2 cb3 cb4 cb5
  have hk1 : ((n : Int) + 1 == 0) = false := by rw [beq_eq_false_iff_ne]; omega
  obtain ⟨j, hj⟩ : ∃ j : Nat, (m : Int) % ((n : Int) + 1) = (j : Int) := ⟨m % (n + 1), by rw [Int.natCast_emod, Int.natCast_add]; rfl⟩
  have hjk : (j : Int) ≤ (n : Int) := by have := Int.emod_lt_of_pos (m : Int) (show (0 : Int) < (n : Int) + 1 by omega); omega
  have hj0 : (0 : Int) ≤ (j : Int) := by omega
  have hjc : (j : Int) ≤ (c : Int) := by omega
  have hjn : j ≤ n := by omega
  have hkc : n ≤ c := by omega
  have R4 : Hid (hullI (M.drop j ++ M.take j) = (((s1, N1, D1), (s2, N2, D2)), c1)) := Lib.hid (by
    rw [← HP.out]
    refine hullI_perm fun x => ?_
    rw [List.mem_append, or_comm, ← List.mem_append, List.take_append_drop])
  have h2 : IvsA _ (.slice a j c) (M.take j) := hl.cutL hjn c
  obtain ⟨so, hso⟩ : ∃ so, (if c = j then a else Option.map (fun x => x.add (j * 6)) a) = so := ⟨_, rfl⟩
  have h3 : IvsA _ (.slice so (n - j) (c - j)) (M.drop j) := hl.cutR hjn (c - j) (fun hlt b off hb => by
    subst hb
    rw [← hso, if_neg (by omega)]
    simp [addr_add])
  have hso0 : so = none → n - j = 0 ∧ c - j = 0 := by
    intro h
    rw [← hso] at h
    split at h
    · obtain ⟨g1, g2⟩ := HAn.out h; omega
    · have : a = none := by cases a with
        | none => rfl
        | some x => simp at h
      obtain ⟨g1, g2⟩ := HAn.out this; omega
  have ha0 : a = none → j = 0 ∧ c = 0 := fun h => by obtain ⟨g1, g2⟩ := HAn.out h; exact ⟨by omega, g2⟩
  have HSO := Lib.hid hso0
  have HA0 := Lib.hid ha0
  clear hso0 ha0 hl HP
  obtain ⟨W0, hW0⟩ : ∃ W0, W0 = w13 := ⟨_, rfl⟩
  rw [← hW0] at T h2 h3 hT hA itA
  obtain ⟨i0, hi, hz0, hz1, hz2⟩ := info_parts infoIv
  obtain ⟨x3, c3, m3, o3⟩ := cellsI_of h3
  obtain ⟨x2, c2, m2, o2⟩ := cellsI_of h2
  have l3 : x3.length = (n - j) * 6 := by rw [c3.1, List.length_drop, HML.out]
  have l2 : x2.length = j * 6 := by rw [c2.1, List.length_take, HML.out]; omega
  have M3 : Hid (∀ w', Add W0 w' → ∀ ad, so = some ad → ∀ j u, x3[j]? = some u → w'.cell? (ad.add j) = some u) := Lib.hid fun w' g ad h j u hu => (g.cell (World.block_lt_of_cell? W0 _ (m3 ad h j u hu))).trans (m3 ad h j u hu)
  have M2 : Hid (∀ w', Add W0 w' → ∀ ad, a = some ad → ∀ j u, x2[j]? = some u → w'.cell? (ad.add j) = some u) := Lib.hid fun w' g ad h j u hu => (g.cell (World.block_lt_of_cell? W0 _ (m2 ad h j u hu))).trans (m2 ad h j u hu)
  have O3 := Lib.hid o3
  have O2 := Lib.hid o2
  have L3 := Lib.hid l3
  have L2 := Lib.hid l2
  have CS : Hid (∀ w' v', Add W0 w' → w'.ownsRow W0.heap.size 27 6 v' (0 + (n - j) + j) ([] ++ x3 ++ x2) → Calls Tryz.prog 30 #[v'] w' (GenI w' s1 N1 D1 s2 N2 D2 c1)) := Lib.hid fun w' v' g ho => (hullN _ (ivs_own ho (by rw [List.nil_append]; exact (c3.append c2).mono g) (by rw [List.length_append, List.length_drop, List.length_take, HML.out]; omega) (by omega)) (hT.mono g) R4).mono fun _ _ q => genI q
  clear c3 m3 o3 l3 c2 m2 o2 l2 h2 h3
  have LA := Lib.hid hA.lt
  have LW : Hid (w.heap.size ≤ W0.heap.size) := Lib.hid T.size
  go_wp2_with fail
  rw [← hW0]
  clear hW0
  go_region_held3 (fun _ => True) (first | trivial | go_keep)
    (first | (refine step_fracs_append (by rfl) _ _ 45 (by rfl) W0.heap.size 27 i0 _ 6 112 Tryz.underlying45 hi hz0 hz1 hz2 (by rfl) (by decide) v1 _ _ (by rfl) ho1 _ _ _ (by rfl) HA0.out x2 L2.out (M2.out _ a2) O2.out (by unfold maxLen; omega) (by omega) a2.size ?_; intro v2 z2 ho2 hg2 hat2; have a3 : Add W0 z2 := Below.grown a2 hg2 a2.size (fun k hk => (own_block ho1 k hk).1); have bx2 := Box6.grown bx1 hg2 hne1; (try clear hat2))
           | (refine step_fracs_append (by rfl) _ _ 45 (by rfl) W0.heap.size 27 i0 _ 6 112 Tryz.underlying45 hi hz0 hz1 hz2 (by rfl) (by decide) v1 _ _ (by rfl) ho1 _ _ _ (by rfl) HA0.out x2 L2.out (M2.out _ a2) O2.out (by unfold maxLen; omega) (by omega) a2.size ?_; intro v2 z2 ho2 hg2 hat2; have a3 : Add W0 z2 := Below.grown a2 hg2 a2.size (fun k hk => (own_block ho1 k hk).1); (try clear hat2))
           | (refine step_fracs_append (by rfl) _ _ 45 (by rfl) W0.heap.size 27 i0 _ 6 112 Tryz.underlying45 hi hz0 hz1 hz2 (by rfl) (by decide) v1 _ _ (by rfl) (ho1.alloc _) _ _ _ (by rfl) HA0.out x2 L2.out (M2.out _ (Add.trans a2 (add_new z1 _))) O2.out (by unfold maxLen; omega) (by omega) (Add.trans a2 (add_new z1 (.cells #[.bool false, .slice none 0 0, .slice none 0 0, .bool false, .slice none 0 0, .slice none 0 0] 27))).size ?_; intro v2 z2 ho2 hg2 hat2; have a3 : Add W0 z2 := Below.grown (Add.trans a2 (add_new z1 (.cells #[.bool false, .slice none 0 0, .slice none 0 0, .bool false, .slice none 0 0, .slice none 0 0] 27))) hg2 (Add.trans a2 (add_new z1 (.cells #[.bool false, .slice none 0 0, .slice none 0 0, .bool false, .slice none 0 0, .slice none 0 0] 27))).size (fun k hk => (own_block ho1 k hk).1); have bx2 := Box6.grown (box6_new z1 false none 0 0 none 0 0 false none 0 0 none 0 0) hg2 (fun e => absurd (own_block ho1 _ e.symm).2 (Nat.lt_irrefl _)); (try clear hat2))
           | (refine step_fracs_append (by rfl) _ _ 45 (by rfl) W0.heap.size 27 i0 _ 6 112 Tryz.underlying45 hi hz0 hz1 hz2 (by rfl) (by decide) _ _ _ (by rfl) (own_litI (w := (World.drew (W0.alloc (.cells #[] 27)))) (heap_alloc_new W0 (.cells #[] 27)) (Nat.le_refl _)) _ _ _ (by rfl) HSO.out x3 L3.out (M3.out _ (Below.drew (add_new W0 (.cells #[] 27)))) O3.out (by unfold maxLen; omega) (by omega) ((Below.drew (add_new W0 (.cells #[] 27))) : Add W0 (World.drew (W0.alloc (.cells #[] 27)))).size ?_; intro v1 z1 ho1 hg1 hat1; have a2 : Add W0 z1 := Below.grown (Below.drew (add_new W0 (.cells #[] 27))) hg1 ((Below.drew (add_new W0 (.cells #[] 27))) : Add W0 (World.drew (W0.alloc (.cells #[] 27)))).size (fun k hk => (own_block (base := W0.heap.size) (own_litI (w := (World.drew (W0.alloc (.cells #[] 27)))) (heap_alloc_new W0 (.cells #[] 27)) (Nat.le_refl _)) k hk).1); clear hat1; (try clear hat2))
           | (refine step_fracs_append (by rfl) _ _ 45 (by rfl) W0.heap.size 27 i0 _ 6 112 Tryz.underlying45 hi hz0 hz1 hz2 (by rfl) (by decide) _ _ _ (by rfl) (own_litI (w := (World.drew ((W0.alloc (.cells #[.bool false, .slice none 0 0, .slice none 0 0, .bool false, .slice none 0 0, .slice none 0 0] 27)).alloc (.cells #[] 27)))) (g := W0.heap.size + 1) (show ((W0.alloc (.cells #[.bool false, .slice none 0 0, .slice none 0 0, .bool false, .slice none 0 0, .slice none 0 0] 27)).alloc (.cells #[] 27)).heap[W0.heap.size + 1]? = _ by have h := heap_alloc_new (W0.alloc (.cells #[.bool false, .slice none 0 0, .slice none 0 0, .bool false, .slice none 0 0, .slice none 0 0] 27)) (.cells #[] 27); simpa using h) (Nat.le_succ _)) _ _ _ (by rfl) HSO.out x3 L3.out (M3.out _ (Below.drew (Add.trans (add_new W0 (.cells #[.bool false, .slice none 0 0, .slice none 0 0, .bool false, .slice none 0 0, .slice none 0 0] 27)) (add_new _ (.cells #[] 27))))) O3.out (by unfold maxLen; omega) (by omega) ((Below.drew (Add.trans (add_new W0 (.cells #[.bool false, .slice none 0 0, .slice none 0 0, .bool false, .slice none 0 0, .slice none 0 0] 27)) (add_new _ (.cells #[] 27)))) : Add W0 (World.drew ((W0.alloc (.cells #[.bool false, .slice none 0 0, .slice none 0 0, .bool false, .slice none 0 0, .slice none 0 0] 27)).alloc (.cells #[] 27)))).size ?_; intro v1 z1 ho1 hg1 hat1; have a2 : Add W0 z1 := Below.grown (Below.drew (Add.trans (add_new W0 (.cells #[.bool false, .slice none 0 0, .slice none 0 0, .bool false, .slice none 0 0, .slice none 0 0] 27)) (add_new _ (.cells #[] 27)))) hg1 ((Below.drew (Add.trans (add_new W0 (.cells #[.bool false, .slice none 0 0, .slice none 0 0, .bool false, .slice none 0 0, .slice none 0 0] 27)) (add_new _ (.cells #[] 27)))) : Add W0 (World.drew ((W0.alloc (.cells #[.bool false, .slice none 0 0, .slice none 0 0, .bool false, .slice none 0 0, .slice none 0 0] 27)).alloc (.cells #[] 27)))).size (fun k hk => (own_block (base := W0.heap.size) (own_litI (w := (World.drew ((W0.alloc (.cells #[.bool false, .slice none 0 0, .slice none 0 0, .bool false, .slice none 0 0, .slice none 0 0] 27)).alloc (.cells #[] 27)))) (g := W0.heap.size + 1) (show ((W0.alloc (.cells #[.bool false, .slice none 0 0, .slice none 0 0, .bool false, .slice none 0 0, .slice none 0 0] 27)).alloc (.cells #[] 27)).heap[W0.heap.size + 1]? = _ by have h := heap_alloc_new (W0.alloc (.cells #[.bool false, .slice none 0 0, .slice none 0 0, .bool false, .slice none 0 0, .slice none 0 0] 27)) (.cells #[] 27); simpa using h) (Nat.le_succ _)) k hk).1); have hne1 : some W0.heap.size ≠ v1.ownBlock := hne_b hat1; have bx1 := Box6.grown (((box6_new W0 false none 0 0 none 0 0 false none 0 0 none 0 0).mono (add_new _ (.cells #[] 27))).mono (Below.drew (Below.refl _ _))) hg1 hne_b0; clear hat1; (try clear hat2))
           | (refine step_fracs_append (by rfl) _ _ 45 (by rfl) W0.heap.size 27 i0 _ 6 112 Tryz.underlying45 hi hz0 hz1 hz2 (by rfl) (by decide) _ _ _ (by rfl) (own_litI (w := (World.drew ((W0.alloc (.cells #[] 27)).alloc (.cells #[.bool false, .slice none 0 0, .slice none 0 0, .bool false, .slice none 0 0, .slice none 0 0] 27)))) (g := W0.heap.size) (show ((W0.alloc (.cells #[] 27)).alloc (.cells #[.bool false, .slice none 0 0, .slice none 0 0, .bool false, .slice none 0 0, .slice none 0 0] 27)).heap[W0.heap.size]? = _ from ((add_new (W0.alloc (.cells #[] 27)) (.cells #[.bool false, .slice none 0 0, .slice none 0 0, .bool false, .slice none 0 0, .slice none 0 0] 27)).block W0.heap.size (by simp)).trans (heap_alloc_new W0 (.cells #[] 27))) (Nat.le_refl _)) _ _ _ (by rfl) HSO.out x3 L3.out (M3.out _ (Below.drew (Add.trans (add_new W0 (.cells #[] 27)) (add_new _ (.cells #[.bool false, .slice none 0 0, .slice none 0 0, .bool false, .slice none 0 0, .slice none 0 0] 27))))) O3.out (by unfold maxLen; omega) (by omega) ((Below.drew (Add.trans (add_new W0 (.cells #[] 27)) (add_new _ (.cells #[.bool false, .slice none 0 0, .slice none 0 0, .bool false, .slice none 0 0, .slice none 0 0] 27)))) : Add W0 (World.drew ((W0.alloc (.cells #[] 27)).alloc (.cells #[.bool false, .slice none 0 0, .slice none 0 0, .bool false, .slice none 0 0, .slice none 0 0] 27)))).size ?_; intro v1 z1 ho1 hg1 hat1; have a2 : Add W0 z1 := Below.grown (Below.drew (Add.trans (add_new W0 (.cells #[] 27)) (add_new _ (.cells #[.bool false, .slice none 0 0, .slice none 0 0, .bool false, .slice none 0 0, .slice none 0 0] 27)))) hg1 ((Below.drew (Add.trans (add_new W0 (.cells #[] 27)) (add_new _ (.cells #[.bool false, .slice none 0 0, .slice none 0 0, .bool false, .slice none 0 0, .slice none 0 0] 27)))) : Add W0 (World.drew ((W0.alloc (.cells #[] 27)).alloc (.cells #[.bool false, .slice none 0 0, .slice none 0 0, .bool false, .slice none 0 0, .slice none 0 0] 27)))).size (fun k hk => (own_block (base := W0.heap.size) (own_litI (w := (World.drew ((W0.alloc (.cells #[] 27)).alloc (.cells #[.bool false, .slice none 0 0, .slice none 0 0, .bool false, .slice none 0 0, .slice none 0 0] 27)))) (g := W0.heap.size) (show ((W0.alloc (.cells #[] 27)).alloc (.cells #[.bool false, .slice none 0 0, .slice none 0 0, .bool false, .slice none 0 0, .slice none 0 0] 27)).heap[W0.heap.size]? = _ from ((add_new (W0.alloc (.cells #[] 27)) (.cells #[.bool false, .slice none 0 0, .slice none 0 0, .bool false, .slice none 0 0, .slice none 0 0] 27)).block W0.heap.size (by simp)).trans (heap_alloc_new W0 (.cells #[] 27))) (Nat.le_refl _)) k hk).1); have hne1 : some (W0.heap.size + 1) ≠ v1.ownBlock := hne_c hat1; have bx1 := Box6.grown ((Box6.cells (w := W0.alloc (.cells #[] 27)) (g := W0.heap.size + 1) (by simp)).mono (Below.drew (Below.refl _ _))) hg1 hne_c0; clear hat1; (try clear hat2))
           | (go_at_call 30; ((with_reducible refine (CS.out _ _ a3 ho2).mono ?_); rintro e z3 ⟨aE, nE, kE, eE, dE, lE, aE', nE', kE', eE', dE', lE', rfl, xE, yE, xE', yE', hq3⟩; have a4 := Add.trans a3 hq3; have bx3 := bx2.mono hq3; have g0 := bx3.c0; have g1 := bx3.c1; have g2 := bx3.c2; have g3 := bx3.c3; have g4 := bx3.c4; have g5 := bx3.c5; have g6 := bx3.fr 0; have g7 := bx3.fr 1; have g8 := bx3.fr 2; have g9 := bx3.fr 3; have g10 := bx3.fr 4; have g11 := bx3.fr 5))
           | (go_at_call 30; ((with_reducible refine (CS.out _ _ a3 ho2).mono ?_); rintro e z3 ⟨aE, nE, kE, eE, dE, lE, aE', nE', kE', eE', dE', lE', rfl, xE, yE, xE', yE', hq3⟩; have a4 := Add.trans a3 hq3))
           | (go_at_call 30; ((with_reducible refine (CS.out _ _ (Add.trans a3 (add_new z2 (.cells #[.bool false, .slice none 0 0, .slice none 0 0, .bool false, .slice none 0 0, .slice none 0 0] 27))) (ho2.alloc _)).mono ?_); rintro e z3 ⟨aE, nE, kE, eE, dE, lE, aE', nE', kE', eE', dE', lE', rfl, xE, yE, xE', yE', hq3⟩; have a4 := Add.trans (Add.trans a3 (add_new z2 (.cells #[.bool false, .slice none 0 0, .slice none 0 0, .bool false, .slice none 0 0, .slice none 0 0] 27))) hq3; have bx3 := (box6_new z2 false none 0 0 none 0 0 false none 0 0 none 0 0).mono hq3; have g0 := bx3.c0; have g1 := bx3.c1; have g2 := bx3.c2; have g3 := bx3.c3; have g4 := bx3.c4; have g5 := bx3.c5; have g6 := bx3.fr 0; have g7 := bx3.fr 1; have g8 := bx3.fr 2; have g9 := bx3.fr 3; have g10 := bx3.fr 4; have g11 := bx3.fr 5)))
  · rename_i hHeld
    clear hHeld
    obtain ⟨tt, hE⟩ := laid6 z3 s1 aE nE kE eE dE lE s2 aE' nE' kE' eE' dE' lE'
    have tw := Add.trans a4 tt
    replace hT := hT.mono tw
    replace hA := hA.mono tw
    replace itA := itA.mono tw
    replace xE := xE.mono tt
    replace yE := yE.mono tt
    replace xE' := xE'.mono tt
    replace yE' := yE'.mono tt
    replace T := Add.trans T tw
    obtain ⟨gb, hgb⟩ : ∃ gb, gb = z3.heap.size := ⟨_, rfl⟩
    clear tt tw
    rw [← hgb] at hE ⊢
    obtain ⟨w40, hW5⟩ : ∃ W5, W5 = (z3.alloc (.cells #[.bool s1, .slice aE nE kE, .slice eE dE lE, .bool s2, .slice aE' nE' kE', .slice eE' dE' lE'] 27)) := ⟨_, rfl⟩
    rw [← hW5] at hE xE yE xE' yE' T hT hA itA ⊢
    clear hW5 hgb hq3 a4 a3 a2 ho1 ho2 hg1 hg2 M2 M3 O2 O3 L2 L3 CS LA LW HSO HA0 hj hso hjk hj0 hjc hjn hkc hk1 hi hz0 hz1 hz2
    have itE : IvT _ _ ((s1, N1, D1), (s2, N2, D2)) := ⟨_, _, _, _, _, _, _, _, _, _, _, _, rfl, xE, yE, xE', yE'⟩
    clear xE yE xE' yE'
    have ca0 := hE.c0
    have ca1 := hE.c1
    have ca2 := hE.c2
    have ca3 := hE.c3
    have ca4 := hE.c4
    have ca5 := hE.c5
    have cb0 := hA.c0
    have cb1 := hA.c1
    have cb2 := hA.c2
    have cb3 := hA.c3
    have cb4 := hA.c4
    have cb5 := hA.c5
    go_wp2_with fail
    refine (sameIN true itE itA (selfI _)).mono ?_
    rintro e w41 ⟨rfl, h41⟩
    replace hT := hT.mono h41
    replace T := Add.trans T h41
    clear h41 itE itA hE hA ca0 ca1 ca2 ca3 ca4 ca5 cb0 cb1 cb2 cb3 cb4 cb5
    go_wp2_with fail
    refine (awake3_any _ hT).mono ?_
    rintro e wz9 ⟨rfl, hz9⟩
    replace T := Add.trans T hz9
    clear hz9 hT
    go_wp2_with fail
    go_ret
    exact ⟨rfl, T⟩
  · rename_i hHeld
    clear hHeld
    have hE := bx3.put s1 aE nE kE eE dE lE s2 aE' nE' kE' eE' dE' lE'
    have gle : W0.heap.size ≤ z2.heap.size := a3.size
    have lA := LA.out
    have lW := LW.out
    replace hA := Box6.other (hA.mono a4) (show w11.heap.size ≠ z2.heap.size by omega) (.bool s1) (.slice aE nE kE) (.slice eE dE lE) (.bool s2) (.slice aE' nE' kE') (.slice eE' dE' lE')
    replace hT := Tab.put6 (hT.mono a4) bx3 (.bool s1) (.slice aE nE kE) (.slice eE dE lE) (.bool s2) (.slice aE' nE' kE') (.slice eE' dE' lE')
    replace itA := IvT.put6 (itA.mono a4) bx3 (.bool s1) (.slice aE nE kE) (.slice eE dE lE) (.bool s2) (.slice aE' nE' kE') (.slice eE' dE' lE')
    replace xE := Num.put6 xE bx3 (.bool s1) (.slice aE nE kE) (.slice eE dE lE) (.bool s2) (.slice aE' nE' kE') (.slice eE' dE' lE')
    replace yE := Num.put6 yE bx3 (.bool s1) (.slice aE nE kE) (.slice eE dE lE) (.bool s2) (.slice aE' nE' kE') (.slice eE' dE' lE')
    replace xE' := Num.put6 xE' bx3 (.bool s1) (.slice aE nE kE) (.slice eE dE lE) (.bool s2) (.slice aE' nE' kE') (.slice eE' dE' lE')
    replace yE' := Num.put6 yE' bx3 (.bool s1) (.slice aE nE kE) (.slice eE dE lE) (.bool s2) (.slice aE' nE' kE') (.slice eE' dE' lE')
    replace T := put6_below (.bool s1) (.slice aE nE kE) (.slice eE dE lE) (.bool s2) (.slice aE' nE' kE') (.slice eE' dE' lE') (Add.trans T a4) (show w.heap.size ≤ z2.heap.size by omega)
    obtain ⟨gb, hgb⟩ : ∃ gb, gb = z2.heap.size := ⟨_, rfl⟩
    unfold put6 at hE xE yE xE' yE' T hT hA itA
    clear bx3 g0 g1 g2 g3 g4 g5 g6 g7 g8 g9 g10 g11 gle lA lW
    rw [← hgb] at hE xE yE xE' yE' T hT hA itA ⊢
    obtain ⟨w40, hW5⟩ : ∃ W5, W5 = ((((((z3.setCell ⟨gb, 0, none⟩ (.bool s1)).setCell ⟨gb, 1, none⟩ (.slice aE nE kE)).setCell ⟨gb, 2, none⟩ (.slice eE dE lE)).setCell ⟨gb, 3, none⟩ (.bool s2)).setCell ⟨gb, 4, none⟩ (.slice aE' nE' kE')).setCell ⟨gb, 5, none⟩ (.slice eE' dE' lE')) := ⟨_, rfl⟩
    rw [← hW5] at hE xE yE xE' yE' T hT hA itA ⊢
    clear hW5 hgb hq3 a4 a3 a2 ho1 ho2 hg1 hg2 M2 M3 O2 O3 L2 L3 CS LA LW HSO HA0 hj hso hjk hj0 hjc hjn hkc hk1 hi hz0 hz1 hz2
    have itE : IvT _ _ ((s1, N1, D1), (s2, N2, D2)) := ⟨_, _, _, _, _, _, _, _, _, _, _, _, rfl, xE, yE, xE', yE'⟩
    clear xE yE xE' yE'
    have ca0 := hE.c0
    have ca1 := hE.c1
    have ca2 := hE.c2
    have ca3 := hE.c3
    have ca4 := hE.c4
    have ca5 := hE.c5
    have cb0 := hA.c0
    have cb1 := hA.c1
    have cb2 := hA.c2
    have cb3 := hA.c3
    have cb4 := hA.c4
    have cb5 := hA.c5
    go_wp2_with fail
    refine (sameIN true itE itA (selfI _)).mono ?_
    rintro e w41 ⟨rfl, h41⟩
    replace hT := hT.mono h41
    replace T := Add.trans T h41
    clear h41 itE itA hE hA ca0 ca1 ca2 ca3 ca4 ca5 cb0 cb1 cb2 cb3 cb4 cb5
    go_wp2_with fail
    refine (awake3_any _ hT).mono ?_
    rintro e wz9 ⟨rfl, hz9⟩
    replace T := Add.trans T hz9
    clear hz9 hT
    go_wp2_with fail
    go_ret
    exact ⟨rfl, T⟩
  · rename_i hHeld
    clear hHeld
    have hE := bx3.put s1 aE nE kE eE dE lE s2 aE' nE' kE' eE' dE' lE'
    have gle : W0.heap.size ≤ z1.heap.size := a2.size
    have lA := LA.out
    have lW := LW.out
    replace hA := Box6.other (hA.mono a4) (show w11.heap.size ≠ z1.heap.size by omega) (.bool s1) (.slice aE nE kE) (.slice eE dE lE) (.bool s2) (.slice aE' nE' kE') (.slice eE' dE' lE')
    replace hT := Tab.put6 (hT.mono a4) bx3 (.bool s1) (.slice aE nE kE) (.slice eE dE lE) (.bool s2) (.slice aE' nE' kE') (.slice eE' dE' lE')
    replace itA := IvT.put6 (itA.mono a4) bx3 (.bool s1) (.slice aE nE kE) (.slice eE dE lE) (.bool s2) (.slice aE' nE' kE') (.slice eE' dE' lE')
    replace xE := Num.put6 xE bx3 (.bool s1) (.slice aE nE kE) (.slice eE dE lE) (.bool s2) (.slice aE' nE' kE') (.slice eE' dE' lE')
    replace yE := Num.put6 yE bx3 (.bool s1) (.slice aE nE kE) (.slice eE dE lE) (.bool s2) (.slice aE' nE' kE') (.slice eE' dE' lE')
    replace xE' := Num.put6 xE' bx3 (.bool s1) (.slice aE nE kE) (.slice eE dE lE) (.bool s2) (.slice aE' nE' kE') (.slice eE' dE' lE')
    replace yE' := Num.put6 yE' bx3 (.bool s1) (.slice aE nE kE) (.slice eE dE lE) (.bool s2) (.slice aE' nE' kE') (.slice eE' dE' lE')
    replace T := put6_below (.bool s1) (.slice aE nE kE) (.slice eE dE lE) (.bool s2) (.slice aE' nE' kE') (.slice eE' dE' lE') (Add.trans T a4) (show w.heap.size ≤ z1.heap.size by omega)
    obtain ⟨gb, hgb⟩ : ∃ gb, gb = z1.heap.size := ⟨_, rfl⟩
    unfold put6 at hE xE yE xE' yE' T hT hA itA
    clear bx3 g0 g1 g2 g3 g4 g5 g6 g7 g8 g9 g10 g11 gle lA lW
    rw [← hgb] at hE xE yE xE' yE' T hT hA itA ⊢
    obtain ⟨w40, hW5⟩ : ∃ W5, W5 = ((((((z3.setCell ⟨gb, 0, none⟩ (.bool s1)).setCell ⟨gb, 1, none⟩ (.slice aE nE kE)).setCell ⟨gb, 2, none⟩ (.slice eE dE lE)).setCell ⟨gb, 3, none⟩ (.bool s2)).setCell ⟨gb, 4, none⟩ (.slice aE' nE' kE')).setCell ⟨gb, 5, none⟩ (.slice eE' dE' lE')) := ⟨_, rfl⟩
    rw [← hW5] at hE xE yE xE' yE' T hT hA itA ⊢
    clear hW5 hgb hq3 a4 a3 a2 ho1 ho2 hg1 hg2 M2 M3 O2 O3 L2 L3 CS LA LW HSO HA0 hj hso hjk hj0 hjc hjn hkc hk1 hi hz0 hz1 hz2
    have itE : IvT _ _ ((s1, N1, D1), (s2, N2, D2)) := ⟨_, _, _, _, _, _, _, _, _, _, _, _, rfl, xE, yE, xE', yE'⟩
    clear xE yE xE' yE'
    have ca0 := hE.c0
    have ca1 := hE.c1
    have ca2 := hE.c2
    have ca3 := hE.c3
    have ca4 := hE.c4
    have ca5 := hE.c5
    have cb0 := hA.c0
    have cb1 := hA.c1
    have cb2 := hA.c2
    have cb3 := hA.c3
    have cb4 := hA.c4
    have cb5 := hA.c5
    go_wp2_with fail
    refine (sameIN true itE itA (selfI _)).mono ?_
    rintro e w41 ⟨rfl, h41⟩
    replace hT := hT.mono h41
    replace T := Add.trans T h41
    clear h41 itE itA hE hA ca0 ca1 ca2 ca3 ca4 ca5 cb0 cb1 cb2 cb3 cb4 cb5
    go_wp2_with fail
    refine (awake3_any _ hT).mono ?_
    rintro e wz9 ⟨rfl, hz9⟩
    replace T := Add.trans T hz9
    clear hz9 hT
    go_wp2_with fail
    go_ret
    exact ⟨rfl, T⟩
  · rename_i hHeld
    clear hHeld
    have hE := bx3.put s1 aE nE kE eE dE lE s2 aE' nE' kE' eE' dE' lE'
    have gle : W0.heap.size ≤ W0.heap.size + 1 := Nat.le_succ _
    have lA := LA.out
    have lW := LW.out
    replace hA := Box6.other (hA.mono a4) (show w11.heap.size ≠ W0.heap.size + 1 by omega) (.bool s1) (.slice aE nE kE) (.slice eE dE lE) (.bool s2) (.slice aE' nE' kE') (.slice eE' dE' lE')
    replace hT := Tab.put6 (hT.mono a4) bx3 (.bool s1) (.slice aE nE kE) (.slice eE dE lE) (.bool s2) (.slice aE' nE' kE') (.slice eE' dE' lE')
    replace itA := IvT.put6 (itA.mono a4) bx3 (.bool s1) (.slice aE nE kE) (.slice eE dE lE) (.bool s2) (.slice aE' nE' kE') (.slice eE' dE' lE')
    replace xE := Num.put6 xE bx3 (.bool s1) (.slice aE nE kE) (.slice eE dE lE) (.bool s2) (.slice aE' nE' kE') (.slice eE' dE' lE')
    replace yE := Num.put6 yE bx3 (.bool s1) (.slice aE nE kE) (.slice eE dE lE) (.bool s2) (.slice aE' nE' kE') (.slice eE' dE' lE')
    replace xE' := Num.put6 xE' bx3 (.bool s1) (.slice aE nE kE) (.slice eE dE lE) (.bool s2) (.slice aE' nE' kE') (.slice eE' dE' lE')
    replace yE' := Num.put6 yE' bx3 (.bool s1) (.slice aE nE kE) (.slice eE dE lE) (.bool s2) (.slice aE' nE' kE') (.slice eE' dE' lE')
    replace T := put6_below (.bool s1) (.slice aE nE kE) (.slice eE dE lE) (.bool s2) (.slice aE' nE' kE') (.slice eE' dE' lE') (Add.trans T a4) (show w.heap.size ≤ W0.heap.size + 1 by omega)
    obtain ⟨gb, hgb⟩ : ∃ gb, gb = W0.heap.size + 1 := ⟨_, rfl⟩
    unfold put6 at hE xE yE xE' yE' T hT hA itA
    clear bx3 g0 g1 g2 g3 g4 g5 g6 g7 g8 g9 g10 g11 gle lA lW
    rw [← hgb] at hE xE yE xE' yE' T hT hA itA ⊢
    obtain ⟨w40, hW5⟩ : ∃ W5, W5 = ((((((z3.setCell ⟨gb, 0, none⟩ (.bool s1)).setCell ⟨gb, 1, none⟩ (.slice aE nE kE)).setCell ⟨gb, 2, none⟩ (.slice eE dE lE)).setCell ⟨gb, 3, none⟩ (.bool s2)).setCell ⟨gb, 4, none⟩ (.slice aE' nE' kE')).setCell ⟨gb, 5, none⟩ (.slice eE' dE' lE')) := ⟨_, rfl⟩
    rw [← hW5] at hE xE yE xE' yE' T hT hA itA ⊢
    clear hW5 hgb hq3 a4 a3 a2 ho1 ho2 hg1 hg2 M2 M3 O2 O3 L2 L3 CS LA LW HSO HA0 hj hso hjk hj0 hjc hjn hkc hk1 hi hz0 hz1 hz2
    have itE : IvT _ _ ((s1, N1, D1), (s2, N2, D2)) := ⟨_, _, _, _, _, _, _, _, _, _, _, _, rfl, xE, yE, xE', yE'⟩
    clear xE yE xE' yE'
    have ca0 := hE.c0
    have ca1 := hE.c1
    have ca2 := hE.c2
    have ca3 := hE.c3
    have ca4 := hE.c4
    have ca5 := hE.c5
    have cb0 := hA.c0
    have cb1 := hA.c1
    have cb2 := hA.c2
    have cb3 := hA.c3
    have cb4 := hA.c4
    have cb5 := hA.c5
    go_wp2_with fail
    refine (sameIN true itE itA (selfI _)).mono ?_
    rintro e w41 ⟨rfl, h41⟩
    replace hT := hT.mono h41
    replace T := Add.trans T h41
    clear h41 itE itA hE hA ca0 ca1 ca2 ca3 ca4 ca5 cb0 cb1 cb2 cb3 cb4 cb5
    go_wp2_with fail
    refine (awake3_any _ hT).mono ?_
    rintro e wz9 ⟨rfl, hz9⟩
    replace T := Add.trans T hz9
    clear hz9 hT
    go_wp2_with fail
    go_ret
    exact ⟨rfl, T⟩
  · rename_i hHeld
    clear hHeld
    have hE := bx3.put s1 aE nE kE eE dE lE s2 aE' nE' kE' eE' dE' lE'
    have gle : W0.heap.size ≤ W0.heap.size := Nat.le_refl _
    have lA := LA.out
    have lW := LW.out
    replace hA := Box6.other (hA.mono a4) (show w11.heap.size ≠ W0.heap.size by omega) (.bool s1) (.slice aE nE kE) (.slice eE dE lE) (.bool s2) (.slice aE' nE' kE') (.slice eE' dE' lE')
    replace hT := Tab.put6 (hT.mono a4) bx3 (.bool s1) (.slice aE nE kE) (.slice eE dE lE) (.bool s2) (.slice aE' nE' kE') (.slice eE' dE' lE')
    replace itA := IvT.put6 (itA.mono a4) bx3 (.bool s1) (.slice aE nE kE) (.slice eE dE lE) (.bool s2) (.slice aE' nE' kE') (.slice eE' dE' lE')
    replace xE := Num.put6 xE bx3 (.bool s1) (.slice aE nE kE) (.slice eE dE lE) (.bool s2) (.slice aE' nE' kE') (.slice eE' dE' lE')
    replace yE := Num.put6 yE bx3 (.bool s1) (.slice aE nE kE) (.slice eE dE lE) (.bool s2) (.slice aE' nE' kE') (.slice eE' dE' lE')
    replace xE' := Num.put6 xE' bx3 (.bool s1) (.slice aE nE kE) (.slice eE dE lE) (.bool s2) (.slice aE' nE' kE') (.slice eE' dE' lE')
    replace yE' := Num.put6 yE' bx3 (.bool s1) (.slice aE nE kE) (.slice eE dE lE) (.bool s2) (.slice aE' nE' kE') (.slice eE' dE' lE')
    replace T := put6_below (.bool s1) (.slice aE nE kE) (.slice eE dE lE) (.bool s2) (.slice aE' nE' kE') (.slice eE' dE' lE') (Add.trans T a4) (show w.heap.size ≤ W0.heap.size by omega)
    obtain ⟨gb, hgb⟩ : ∃ gb, gb = W0.heap.size := ⟨_, rfl⟩
    unfold put6 at hE xE yE xE' yE' T hT hA itA
    clear bx3 g0 g1 g2 g3 g4 g5 g6 g7 g8 g9 g10 g11 gle lA lW
    rw [← hgb] at hE xE yE xE' yE' T hT hA itA ⊢
    obtain ⟨w40, hW5⟩ : ∃ W5, W5 = ((((((z3.setCell ⟨gb, 0, none⟩ (.bool s1)).setCell ⟨gb, 1, none⟩ (.slice aE nE kE)).setCell ⟨gb, 2, none⟩ (.slice eE dE lE)).setCell ⟨gb, 3, none⟩ (.bool s2)).setCell ⟨gb, 4, none⟩ (.slice aE' nE' kE')).setCell ⟨gb, 5, none⟩ (.slice eE' dE' lE')) := ⟨_, rfl⟩
    rw [← hW5] at hE xE yE xE' yE' T hT hA itA ⊢
    clear hW5 hgb hq3 a4 a3 a2 ho1 ho2 hg1 hg2 M2 M3 O2 O3 L2 L3 CS LA LW HSO HA0 hj hso hjk hj0 hjc hjn hkc hk1 hi hz0 hz1 hz2
    have itE : IvT _ _ ((s1, N1, D1), (s2, N2, D2)) := ⟨_, _, _, _, _, _, _, _, _, _, _, _, rfl, xE, yE, xE', yE'⟩
    clear xE yE xE' yE'
    have ca0 := hE.c0
    have ca1 := hE.c1
    have ca2 := hE.c2
    have ca3 := hE.c3
    have ca4 := hE.c4
    have ca5 := hE.c5
    have cb0 := hA.c0
    have cb1 := hA.c1
    have cb2 := hA.c2
    have cb3 := hA.c3
    have cb4 := hA.c4
    have cb5 := hA.c5
    go_wp2_with fail
    refine (sameIN true itE itA (selfI _)).mono ?_
    rintro e w41 ⟨rfl, h41⟩
    replace hT := hT.mono h41
    replace T := Add.trans T h41
    clear h41 itE itA hE hA ca0 ca1 ca2 ca3 ca4 ca5 cb0 cb1 cb2 cb3 cb4 cb5
    go_wp2_with fail
    refine (awake3_any _ hT).mono ?_
    rintro e wz9 ⟨rfl, hz9⟩
    replace T := Add.trans T hz9
    clear hz9 hT
    go_wp2_with fail
    go_ret
    exact ⟨rfl, T⟩
theorem hulls_any {v : Value} {L : List IvL} {m : Nat} (w : World) (hv : IvsI w v L) (hT : Tab w) (hm : m < 256) : Calls Tryz.prog 5 #[v, .int .u8 (m : Nat)] w (LawP w) := by
  by_cases h : L.length ≤ 10
  · rcases hg : L.any longE with _ | _
    · exact hulls_ok w hv hT h hg hm
    · exact hulls_long w hv hT h hg
  · exact hulls_wide w hv hT (by omega)
end Go.Proofs.YtifpfoeecnkhoaaGreatDoor.IvHullL
