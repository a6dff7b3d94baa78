/- The law IntervalExact: its walk, for all arguments.
(With the texts that are joined here: The reference of layer 3: Hull. | The reference of layer 3: span. | The reference of layer 3: Mul, Scale. | Lists of fractions that are built by append: their cells, and the append onto a list of the call's own. | Lists of intervals: as arguments, cut, built by append. | The operations of intervals for all arguments, valid or not, of at most 12 limbs.) -/
import Derived.Test.YtifpfoeecnkhoaaGreatDoorZL
import Derived.Test.YtifpfoeecnkhoaaGreatDoorZK
import Derived.Test.YtifpfoeecnkhoaaGreatDoorZG
import Derived.Test.YtifpfoeecnkhoaaGreatDoorZJ
import Derived.Maps.AppendAt
import Derived.Laws.OwnMore
import Derived.Deep.AppendLies
import Derived.Deep.Strs
import Derived.Test.YtifpfoeecnkhoaaGreatDoorZF
import Derived.Deep.RegionHeld3

namespace Go.Proofs.YtifpfoeecnkhoaaGreatDoor
open Go.RowKit NatM Go.Proofs.YtifpfoeecnkhoaaGreatDoor.Api

set_option maxRecDepth 100000 in
set_option maxHeartbeats 20000000 in
theorem refHullN (p : Iv × Nat) {v : Value} {L : List Iv} {w : World} (hl : IvsA w v L) (hp : Hid (hullI L = p)) : Calls Tryz.prog 31 #[v] w (ResI w p) := by
  obtain ⟨ao, n, c, rfl, hn, hn1, hc⟩ := hl
  obtain ⟨T, hR⟩ := laid6 w false none 0 0 none 0 0 false none 0 0 none 0 0
  rcases Nat.eq_zero_or_pos n with rfl | h0
  · have e : L = [] := List.eq_nil_of_length_eq_zero hn
    subst e
    have e : p = (zI, 1) := hp.out.symm
    subst e
    clear hc hn hp
    go_enter Tryz.func31, Tryz.ntmps31
    have hbz := iv_zero
    go_wp2_with fail
    exact bodyPost_ret (v := .tuple #[.agg #[.bool false, .slice none 0 0, .slice none 0 0, .bool false, .slice none 0 0, .slice none 0 0], .int .i64 1]) (by simp [results, Tryz.results31, go_sem, hR.c0, hR.c1, hR.c2, hR.c3, hR.c4, hR.c5]) rfl ⟨_, rfl, ivT_zero _, T⟩
  · obtain ⟨b, off, rfl⟩ : ∃ b off, ao = some ⟨b, off, none⟩ := by
      obtain ⟨b, off, -, -, -, -, -, -, -, -, -, -, -, -, -, -, e, -⟩ := hc 0 h0
      exact ⟨b, off, e⟩
    have HN := Lib.hid hn
    have H0 := Lib.hid h0
    have dn : ((n : Int) == 0) = false := by simp; omega
    have HC := Lib.hid hc
    clear hc hn h0
    go_enter Tryz.func31, Tryz.ntmps31
    go_wp2_with fail
    go_loopw [4] (fun i wr => ∃ k : Nat, k ≤ n ∧ i = .int .i64 (k : Nat) ∧ Hid ((L.take k).all okI = true) ∧ Box6 wr w.heap.size false none 0 0 none 0 0 false none 0 0 none 0 0 ∧ Add w wr) (fun i _ => n - (intOf i).toNat)
    case atStart => exact ⟨0, Nat.zero_le _, rfl, Lib.hid rfl, hR, T⟩
    case round =>
      clear hR T
      obtain ⟨k, hk, rfl, HK, hR, T⟩ := hrel
      by_cases hlt : k < n
      · obtain ⟨b', off', s, an, m, cn, ad, d, cd, s', an', m', cn', ad', d', cd', e, q0, q1, q2, q3, q4, q5, qe⟩ := HC.out k hlt
        simp only [Option.some.injEq, Addr.mk.injEq, and_true] at e
        obtain ⟨rfl, rfl⟩ := e
        obtain ⟨y, hy⟩ : ∃ y, L.getD k zI = y := ⟨_, rfl⟩
        rw [hy] at qe
        have HY := Lib.hid hy
        have kk := fun (p : Addr) (v : Value) (q : w.cell? p = some v) => (T.cell (p := p) (World.block_lt_of_cell? w _ q)).trans q
        replace q0 := kk _ _ q0
        replace q1 := kk _ _ q1
        replace q2 := kk _ _ q2
        replace q3 := kk _ _ q3
        replace q4 := kk _ _ q4
        replace q5 := kk _ _ q5
        replace qe := qe.mono T
        obtain ⟨t, ht⟩ : ∃ t, okI y = t := ⟨_, rfl⟩
        have HT := Lib.hid ht
        clear kk ht hy
        cases t with
        | false =>
          have hpe : p = (zI, 1) := by
            have hm : y ∈ L := by
              rw [← HY.out]
              have h1 : k < L.length := by rw [HN.out]; exact hlt
              simp [List.getD, h1]
            rw [← hp.out]
            cases L with
            | nil => cases hm
            | cons z s => exact hullF_all_bad hm HT.out
          subst hpe
          clear hp HY HK
          go_wp2_with fail
          refine (refValidIN false qe HT).mono ?_
          rintro e w5 ⟨rfl, h5⟩
          replace hR := hR.mono h5
          replace T := Add.trans T h5
          clear h5 qe HT q0 q1 q2 q3 q4 q5
          have hP := Box6.put hR false none 0 0 none 0 0 false none 0 0 none 0 0
          have hF := resI_put (w := w) (p := (zI, 1)) hR (ivT_zero _) T (show w.heap.size ≤ w.heap.size by omega)
          obtain ⟨W7, hW7⟩ : ∃ W7, W7 = put6 (w5) (w.heap.size) (.bool false) (.slice none 0 0) (.slice none 0 0) (.bool false) (.slice none 0 0) (.slice none 0 0) := ⟨_, rfl⟩
          rw [← hW7] at hP hF
          unfold put6 at hW7
          have HF := Lib.hid hF
          have HW := Lib.hid hW7
          have hbz := iv_zero
          have hr0 := hR.c0
          have hr1 := hR.c1
          have hr2 := hR.c2
          have hr3 := hR.c3
          have hr4 := hR.c4
          have hr5 := hR.c5
          have hr6 := hR.fr 0
          have hr7 := hR.fr 1
          have hr8 := hR.fr 2
          have hr9 := hR.fr 3
          have hr10 := hR.fr 4
          have hr11 := hR.fr 5
          clear hF hW7 hR T 
          go_wp2_with fail
          rw [← HW.out]
          exact bodyPost_ret (v := .tuple #[.agg #[.bool false, .slice none 0 0, .slice none 0 0, .bool false, .slice none 0 0, .slice none 0 0], .int .i64 1]) (by simp [results, Tryz.results31, go_sem, hP.c0, hP.c1, hP.c2, hP.c3, hP.c4, hP.c5]) rfl HF.out
        | true =>
          have HK2 : Hid ((L.take (k + 1)).all okI = true) := Lib.hid (by
            have h1 : k < L.length := by rw [HN.out]; exact hlt
            have e : L[k]? = some y := by rw [← HY.out]; simp [List.getD, h1]
            rw [List.take_add_one, List.all_append, HK.out, e]
            simp [HT.out])
          clear HK HY
          go_wp2_with fail
          refine (refValidIN true qe HT).mono ?_
          rintro e w5 ⟨rfl, h5⟩
          replace hR := hR.mono h5
          replace T := Add.trans T h5
          clear h5 qe HT q0 q1 q2 q3 q4 q5
          go_wp2_with fail
          go_roundw
          case rel => exact ⟨k + 1, by omega, by go_num, HK2, hR, T⟩
          case measure => simp only [intOf]; omega
      · obtain rfl : n = k := by omega
        have HA : Hid (L.all okI = true) := Lib.hid (by
          have h1 := HK.out
          rwa [List.take_of_length_le (by rw [HN.out]; exact Nat.le_refl _)] at h1)
        clear HK hlt
        obtain ⟨wm, rfl⟩ : ∃ wm, wm = wr := ⟨_, rfl⟩
        obtain ⟨b', off', s, an, m, cn, ad, d, cd, s', an', m', cn', ad', d', cd', e, q0, q1, q2, q3, q4, q5, qe⟩ := HC.out 0 H0.out
        simp only [Option.some.injEq, Addr.mk.injEq, and_true] at e
        obtain ⟨rfl, rfl⟩ := e
        simp only [Nat.zero_mul, Nat.add_zero] at q0 q1 q2 q3 q4 q5
        obtain ⟨y, hy⟩ : ∃ y, L.getD 0 zI = y := ⟨_, rfl⟩
        rw [hy] at qe
        have okA := List.all_eq_true.1 HA.out
        have oy : okI y = true := by
          refine okA y ?_
          rw [← hy]
          have h1 : 0 < L.length := by rw [HN.out]; exact H0.out
          simp [List.getD, h1]
        have HD : Hid (hullF (qv y.1) (qv y.2) (L.drop 1) = p) := Lib.hid (by
          have e := dropI HN.out H0.out
          rw [hy] at e
          have e2 : L.drop 0 = L := rfl
          rw [e2] at e
          rw [← hp.out]
          conv => rhs; rw [e]
          exact (hullI_cons oy).symm)
        have oyy := okI_iff.1 oy
        have OF : Hid (okF y.1 = true ∧ okF y.2 = true) := Lib.hid ⟨oyy.1, oyy.2.1⟩
        have yl := ivA_lo qe
        have yh := ivA_hi qe
        have kk := fun (p : Addr) (v : Value) (q : w.cell? p = some v) => (T.cell (p := p) (World.block_lt_of_cell? w _ q)).trans q
        replace q0 := kk _ _ q0
        replace q1 := kk _ _ q1
        replace q2 := kk _ _ q2
        replace q3 := kk _ _ q3
        replace q4 := kk _ _ q4
        replace q5 := kk _ _ q5
        have hl0 := hR.lt
        have hne0 : w.heap.size ≠ wm.heap.size ∧ w.heap.size ≤ wm.heap.size := ⟨by omega, by omega⟩
        obtain ⟨tq, hO⟩ := laid6 wm s an m cn ad d cd s' an' m' cn' ad' d' cd'
        replace hR := hR.mono tq
        replace T := Add.trans T tq
        have HNE : Hid (w.heap.size ≠ wm.heap.size ∧ w.heap.size ≤ wm.heap.size) := Lib.hid hne0
        clear tq kk okA oy oyy hp qe
        go_wp2_with fail
        go_loopw [6] (fun i wr => ∃ (k : Nat) (s1 : Bool) (a1 : Option Addr) (n1 k1 : Nat) (e1 : Option Addr) (d1 l1 : Nat) (xl : Tri) (s2 : Bool) (a2 : Option Addr) (m2 k2 : Nat) (e2 : Option Addr) (d4 l2 : Nat) (xh : Tri), k ≤ n ∧ i = .int .i64 (k : Nat) ∧ Box6 wr wm.heap.size s1 a1 n1 k1 e1 d1 l1 s2 a2 m2 k2 e2 d4 l2 ∧ FracA w (.agg #[.bool s1, .slice a1 n1 k1, .slice e1 d1 l1]) xl ∧ FracA w (.agg #[.bool s2, .slice a2 m2 k2, .slice e2 d4 l2]) xh ∧ Hid (okF xl = true ∧ okF xh = true) ∧ Hid (hullF (qv xl) (qv xh) (L.drop k) = p) ∧ Box6 wr w.heap.size false none 0 0 none 0 0 false none 0 0 none 0 0 ∧ Add w wr) (fun i _ => n - (intOf i).toNat)
        case atStart => exact ⟨1, s, an, m, cn, ad, d, cd, _, s', an', m', cn', ad', d', cd', _, H0.out, rfl, hO, yl, yh, OF, HD, hR, T⟩
        case round =>
          clear hO yl yh OF HD hR T q0 q1 q2 q3 q4 q5 hy
          obtain ⟨k, s1, a1, n1, k1, e1, d1, l1, xl, s2, a2, m2, k2, e2, d4, l2, xh, hk, rfl, hO, fl, fh, OF, HD, hR, T⟩ := hrel
          by_cases hlt : k < n
          · obtain ⟨b', off', s, an, m, cn, ad, d, cd, s', an', m', cn', ad', d', cd', e, q0, q1, q2, q3, q4, q5, qe⟩ := HC.out k hlt
            simp only [Option.some.injEq, Addr.mk.injEq, and_true] at e
            obtain ⟨rfl, rfl⟩ := e
            obtain ⟨y, hy⟩ : ∃ y, L.getD k zI = y := ⟨_, rfl⟩
            have hd := dropI HN.out hlt
            rw [hy] at qe hd
            have HG := Lib.hid hd
            have oy : okI y = true := by
              refine List.all_eq_true.1 HA.out y ?_
              rw [← hy]
              have h1 : k < L.length := by rw [HN.out]; exact hlt
              simp [List.getD, h1]
            have OY := Lib.hid oy
            have oyy := okI_iff.1 oy
            have OL : Hid (okF y.1 = true ∧ okF xl = true) := Lib.hid ⟨oyy.1, OF.out.1⟩
            have OH : Hid (okF xh = true ∧ okF y.2 = true) := Lib.hid ⟨OF.out.2, oyy.2.1⟩
            have yl := ivA_lo qe
            have yh := ivA_hi qe
            have Q := Lib.hid (And.intro q0 (And.intro q1 (And.intro q2 (And.intro q3 (And.intro q4 q5)))))
            have kk := fun (p : Addr) (v : Value) (q : w.cell? p = some v) => (T.cell (p := p) (World.block_lt_of_cell? w _ q)).trans q
            replace q0 := kk _ _ q0
            replace q1 := kk _ _ q1
            replace q2 := kk _ _ q2
            replace q3 := kk _ _ q3
            replace q4 := kk _ _ q4
            replace q5 := kk _ _ q5
            obtain ⟨t1, ht1⟩ : ∃ t, decide (qv y.1 < qv xl) = t := ⟨_, rfl⟩
            obtain ⟨t2, ht2⟩ : ∃ t, decide (qv xh < qv y.2) = t := ⟨_, rfl⟩
            have H1 := Lib.hid ht1
            have H2 := Lib.hid ht2
            clear kk hy hd oy oyy qe ht1 ht2
            have co0 := hO.c0
            have co1 := hO.c1
            have co2 := hO.c2
            have K0 : Hid (∀ w', Add wr w' → w'.cell? ⟨b, off + k * 6, none⟩ = some (.bool s) ∧ w'.cell? ⟨b, off + k * 6 + 1, none⟩ = some (.slice an m cn) ∧ w'.cell? ⟨b, off + k * 6 + 2, none⟩ = some (.slice ad d cd) ∧ w'.cell? ⟨wm.heap.size, 0, none⟩ = some (.bool s1) ∧ w'.cell? ⟨wm.heap.size, 1, none⟩ = some (.slice a1 n1 k1) ∧ w'.cell? ⟨wm.heap.size, 2, none⟩ = some (.slice e1 d1 l1)) := Lib.hid fun w' k => ⟨(k.cell (World.block_lt_of_cell? wr _ q0)).trans q0, (k.cell (World.block_lt_of_cell? wr _ q1)).trans q1, (k.cell (World.block_lt_of_cell? wr _ q2)).trans q2, (hO.mono k).c0, (hO.mono k).c1, (hO.mono k).c2⟩
            have CL : Hid (∀ w', Add wr w' → Calls Tryz.prog 46 #[.agg #[.bool s, .slice an m cn, .slice ad d cd], .agg #[.bool s1, .slice a1 n1 k1, .slice e1 d1 l1]] w' (BoolIs w' t1)) := Lib.hid fun w' k => lessN t1 (yl.mono (Add.trans T k)) (fl.mono (Add.trans T k)) OL H1
            go_wp2_with fail
            go_region_held3 (fun w' => w'.cell? ⟨b, off + k * 6, none⟩ = some (.bool s) ∧ w'.cell? ⟨b, off + k * 6 + 1, none⟩ = some (.slice an m cn) ∧ w'.cell? ⟨b, off + k * 6 + 2, none⟩ = some (.slice ad d cd) ∧ w'.cell? ⟨wm.heap.size, 0, none⟩ = some (.bool s1) ∧ w'.cell? ⟨wm.heap.size, 1, none⟩ = some (.slice a1 n1 k1) ∧ w'.cell? ⟨wm.heap.size, 2, none⟩ = some (.slice e1 d1 l1))
              (first | with_reducible exact K0.out _ t5 | with_reducible exact K0.out _ (Below.drew (Below.refl _ _)) | go_keep)
              (first | (go_at_call 46; ((with_reducible refine (CL.out _ (Below.drew (Below.refl _ _))).mono ?_); rintro e w5 ⟨rfl, hq5⟩; have t5 := Add.trans (Below.drew (Below.refl _ _) : Add wr (World.drew wr)) hq5)))
            replace hR := hR.mono t5
            replace hO := hO.mono t5
            replace T := Add.trans T t5
            clear t5 hq5 K0 CL q0 q1 q2 q3 q4 q5 co0 co1 co2
            cases t1 with
            | false =>
              obtain ⟨q0, q1, q2, q3, q4, q5⟩ := Q.out
              have kk := fun (p : Addr) (v : Value) (q : w.cell? p = some v) => (T.cell (p := p) (World.block_lt_of_cell? w _ q)).trans q
              replace q0 := kk _ _ q0
              replace q1 := kk _ _ q1
              replace q2 := kk _ _ q2
              replace q3 := kk _ _ q3
              replace q4 := kk _ _ q4
              replace q5 := kk _ _ q5
              clear kk
              have co3 := hO.c3
              have co4 := hO.c4
              have co5 := hO.c5
              have K0 : Hid (∀ w', Add w5 w' → w'.cell? ⟨wm.heap.size, 3, none⟩ = some (.bool s2) ∧ w'.cell? ⟨wm.heap.size, 4, none⟩ = some (.slice a2 m2 k2) ∧ w'.cell? ⟨wm.heap.size, 5, none⟩ = some (.slice e2 d4 l2) ∧ w'.cell? ⟨b, off + k * 6 + 3, none⟩ = some (.bool s') ∧ w'.cell? ⟨b, off + k * 6 + 4, none⟩ = some (.slice an' m' cn') ∧ w'.cell? ⟨b, off + k * 6 + 5, none⟩ = some (.slice ad' d' cd')) := Lib.hid fun w' k => ⟨(hO.mono k).c3, (hO.mono k).c4, (hO.mono k).c5, (k.cell (World.block_lt_of_cell? w5 _ q3)).trans q3, (k.cell (World.block_lt_of_cell? w5 _ q4)).trans q4, (k.cell (World.block_lt_of_cell? w5 _ q5)).trans q5⟩
              have CL : Hid (∀ w', Add w5 w' → Calls Tryz.prog 46 #[.agg #[.bool s2, .slice a2 m2 k2, .slice e2 d4 l2], .agg #[.bool s', .slice an' m' cn', .slice ad' d' cd']] w' (BoolIs w' t2)) := Lib.hid fun w' k => lessN t2 (fh.mono (Add.trans T k)) (yh.mono (Add.trans T k)) OH H2
              go_wp2_with fail
              go_region_held3 (fun w' => w'.cell? ⟨wm.heap.size, 3, none⟩ = some (.bool s2) ∧ w'.cell? ⟨wm.heap.size, 4, none⟩ = some (.slice a2 m2 k2) ∧ w'.cell? ⟨wm.heap.size, 5, none⟩ = some (.slice e2 d4 l2) ∧ w'.cell? ⟨b, off + k * 6 + 3, none⟩ = some (.bool s') ∧ w'.cell? ⟨b, off + k * 6 + 4, none⟩ = some (.slice an' m' cn') ∧ w'.cell? ⟨b, off + k * 6 + 5, none⟩ = some (.slice ad' d' cd'))
                (first | with_reducible exact K0.out _ t5 | with_reducible exact K0.out _ (Below.drew (Below.refl _ _)) | go_keep)
                (first | (go_at_call 46; ((with_reducible refine (CL.out _ (Below.drew (Below.refl _ _))).mono ?_); rintro e w8 ⟨rfl, hq5⟩; have t5 := Add.trans (Below.drew (Below.refl _ _) : Add w5 (World.drew w5)) hq5)))
              replace hR := hR.mono t5
              replace hO := hO.mono t5
              replace T := Add.trans T t5
              clear t5 hq5 K0 CL q0 q1 q2 q3 q4 q5 co3 co4 co5
              obtain ⟨q0, q1, q2, q3, q4, q5⟩ := Q.out
              have kk := fun (p : Addr) (v : Value) (q : w.cell? p = some v) => (T.cell (p := p) (World.block_lt_of_cell? w _ q)).trans q
              replace q0 := kk _ _ q0
              replace q1 := kk _ _ q1
              replace q2 := kk _ _ q2
              replace q3 := kk _ _ q3
              replace q4 := kk _ _ q4
              replace q5 := kk _ _ q5
              clear kk q0 q1 q2
              cases t2 with
              | false =>
                have ql : mn (qv xl) (qv y.1) = qv xl := by have := of_decide_eq_false H1.out; unfold mn; grind
                have qh : mx (qv xh) (qv y.2) = qv xh := by have := of_decide_eq_false H2.out; unfold mx; grind
                have HD2 : Hid (hullF (qv xl) (qv xh) (L.drop (k + 1)) = p) := Lib.hid (by rw [← ql, ← qh, ← hullF_step OY.out, ← HG.out]; exact HD.out)
                have OF2 : Hid (okF xl = true ∧ okF xh = true) := Lib.hid ⟨OL.out.2, OH.out.1⟩
                clear ql qh HD HG OF OL OH H1 H2
                go_wp2_with fail
                go_roundw
                case rel => exact ⟨k + 1, _, _, _, _, _, _, _, _, _, _, _, _, _, _, _, _, by omega, by go_num, hO, fl, fh, OF2, HD2, hR, T⟩
                case measure => simp only [intOf]; omega
              | true =>
                have ql : mn (qv xl) (qv y.1) = qv xl := by have := of_decide_eq_false H1.out; unfold mn; grind
                have qh : mx (qv xh) (qv y.2) = qv y.2 := by have := of_decide_eq_true H2.out; unfold mx; grind
                have HD2 : Hid (hullF (qv xl) (qv y.2) (L.drop (k + 1)) = p) := Lib.hid (by rw [← ql, ← qh, ← hullF_step OY.out, ← HG.out]; exact HD.out)
                have OF2 : Hid (okF xl = true ∧ okF y.2 = true) := Lib.hid ⟨OL.out.2, OH.out.2⟩
                clear ql qh HD HG OF OL OH H1 H2
                have cf3 := hO.c3
                have cg3 := hO.fr 3
                have cf4 := hO.c4
                have cg4 := hO.fr 4
                have cf5 := hO.c5
                have cg5 := hO.fr 5
                have HF := Lib.hid (And.intro (hO.put1 s' an' m' cn' ad' d' cd') (And.intro (hR.moved 3 4 5 (.bool s') (.slice an' m' cn') (.slice ad' d' cd') HNE.out.1) (set3_below 3 4 5 (.bool s') (.slice an' m' cn') (.slice ad' d' cd') T HNE.out.2)))
                clear hO hR T
                go_wp2_with fail
                obtain ⟨f3, f5, f6⟩ := HF.out
                go_roundw
                case rel => exact ⟨k + 1, _, _, _, _, _, _, _, _, _, _, _, _, _, _, _, _, by omega, by go_num, f3, fl, yh, OF2, HD2, f5, f6⟩
                case measure => simp only [intOf]; omega
            | true =>
              obtain ⟨q0, q1, q2, q3, q4, q5⟩ := Q.out
              have kk := fun (p : Addr) (v : Value) (q : w.cell? p = some v) => (T.cell (p := p) (World.block_lt_of_cell? w _ q)).trans q
              replace q0 := kk _ _ q0
              replace q1 := kk _ _ q1
              replace q2 := kk _ _ q2
              replace q3 := kk _ _ q3
              replace q4 := kk _ _ q4
              replace q5 := kk _ _ q5
              clear kk q3 q4 q5
              have cf0 := hO.c0
              have cg0 := hO.fr 0
              have cf1 := hO.c1
              have cg1 := hO.fr 1
              have cf2 := hO.c2
              have cg2 := hO.fr 2
              go_upto_region 14 with fail
              obtain ⟨W6, hW6⟩ : ∃ W6, W6 = (((w5.setCell ⟨wm.heap.size, 0, none⟩ (.bool s)).setCell ⟨wm.heap.size, 1, none⟩ (.slice an m cn)).setCell ⟨wm.heap.size, 2, none⟩ (.slice ad d cd)) := ⟨_, rfl⟩
              have hR6 : Box6 W6 w.heap.size false none 0 0 none 0 0 false none 0 0 none 0 0 := by rw [hW6]; exact hR.moved 0 1 2 (.bool s) (.slice an m cn) (.slice ad d cd) HNE.out.1
              have hO6 : Box6 W6 wm.heap.size s an m cn ad d cd s2 a2 m2 k2 e2 d4 l2 := by rw [hW6]; exact hO.put0 s an m cn ad d cd
              have T6 : Add w W6 := by rw [hW6]; exact set3_below 0 1 2 (.bool s) (.slice an m cn) (.slice ad d cd) T HNE.out.2
              rw [← hW6]
              clear hW6 hR hO T cf0 cf1 cf2 cg0 cg1 cg2
              have hR := hR6
              have hO := hO6
              have T := T6
              clear hR6 hO6 T6
              clear q0 q1 q2
              obtain ⟨q0, q1, q2, q3, q4, q5⟩ := Q.out
              have kk := fun (p : Addr) (v : Value) (q : w.cell? p = some v) => (T.cell (p := p) (World.block_lt_of_cell? w _ q)).trans q
              replace q0 := kk _ _ q0
              replace q1 := kk _ _ q1
              replace q2 := kk _ _ q2
              replace q3 := kk _ _ q3
              replace q4 := kk _ _ q4
              replace q5 := kk _ _ q5
              clear kk
              have co3 := hO.c3
              have co4 := hO.c4
              have co5 := hO.c5
              have K0 : Hid (∀ w', Add W6 w' → w'.cell? ⟨wm.heap.size, 3, none⟩ = some (.bool s2) ∧ w'.cell? ⟨wm.heap.size, 4, none⟩ = some (.slice a2 m2 k2) ∧ w'.cell? ⟨wm.heap.size, 5, none⟩ = some (.slice e2 d4 l2) ∧ w'.cell? ⟨b, off + k * 6 + 3, none⟩ = some (.bool s') ∧ w'.cell? ⟨b, off + k * 6 + 4, none⟩ = some (.slice an' m' cn') ∧ w'.cell? ⟨b, off + k * 6 + 5, none⟩ = some (.slice ad' d' cd')) := Lib.hid fun w' k => ⟨(hO.mono k).c3, (hO.mono k).c4, (hO.mono k).c5, (k.cell (World.block_lt_of_cell? W6 _ q3)).trans q3, (k.cell (World.block_lt_of_cell? W6 _ q4)).trans q4, (k.cell (World.block_lt_of_cell? W6 _ q5)).trans q5⟩
              have CL : Hid (∀ w', Add W6 w' → Calls Tryz.prog 46 #[.agg #[.bool s2, .slice a2 m2 k2, .slice e2 d4 l2], .agg #[.bool s', .slice an' m' cn', .slice ad' d' cd']] w' (BoolIs w' t2)) := Lib.hid fun w' k => lessN t2 (fh.mono (Add.trans T k)) (yh.mono (Add.trans T k)) OH H2
              go_wp2_with fail
              go_region_held3 (fun w' => w'.cell? ⟨wm.heap.size, 3, none⟩ = some (.bool s2) ∧ w'.cell? ⟨wm.heap.size, 4, none⟩ = some (.slice a2 m2 k2) ∧ w'.cell? ⟨wm.heap.size, 5, none⟩ = some (.slice e2 d4 l2) ∧ w'.cell? ⟨b, off + k * 6 + 3, none⟩ = some (.bool s') ∧ w'.cell? ⟨b, off + k * 6 + 4, none⟩ = some (.slice an' m' cn') ∧ w'.cell? ⟨b, off + k * 6 + 5, none⟩ = some (.slice ad' d' cd'))
                (first | with_reducible exact K0.out _ t5 | with_reducible exact K0.out _ (Below.drew (Below.refl _ _)) | go_keep)
                (first | (go_at_call 46; ((with_reducible refine (CL.out _ (Below.drew (Below.refl _ _))).mono ?_); rintro e w8 ⟨rfl, hq5⟩; have t5 := Add.trans (Below.drew (Below.refl _ _) : Add W6 (World.drew W6)) hq5)))
              replace hR := hR.mono t5
              replace hO := hO.mono t5
              replace T := Add.trans T t5
              clear t5 hq5 K0 CL q0 q1 q2 q3 q4 q5 co3 co4 co5
              obtain ⟨q0, q1, q2, q3, q4, q5⟩ := Q.out
              have kk := fun (p : Addr) (v : Value) (q : w.cell? p = some v) => (T.cell (p := p) (World.block_lt_of_cell? w _ q)).trans q
              replace q0 := kk _ _ q0
              replace q1 := kk _ _ q1
              replace q2 := kk _ _ q2
              replace q3 := kk _ _ q3
              replace q4 := kk _ _ q4
              replace q5 := kk _ _ q5
              clear kk q0 q1 q2
              cases t2 with
              | false =>
                have ql : mn (qv xl) (qv y.1) = qv y.1 := by have := of_decide_eq_true H1.out; unfold mn; grind
                have qh : mx (qv xh) (qv y.2) = qv xh := by have := of_decide_eq_false H2.out; unfold mx; grind
                have HD2 : Hid (hullF (qv y.1) (qv xh) (L.drop (k + 1)) = p) := Lib.hid (by rw [← ql, ← qh, ← hullF_step OY.out, ← HG.out]; exact HD.out)
                have OF2 : Hid (okF y.1 = true ∧ okF xh = true) := Lib.hid ⟨OL.out.1, OH.out.1⟩
                clear ql qh HD HG OF OL OH H1 H2
                go_wp2_with fail
                go_roundw
                case rel => exact ⟨k + 1, _, _, _, _, _, _, _, _, _, _, _, _, _, _, _, _, by omega, by go_num, hO, yl, fh, OF2, HD2, hR, T⟩
                case measure => simp only [intOf]; omega
              | true =>
                have ql : mn (qv xl) (qv y.1) = qv y.1 := by have := of_decide_eq_true H1.out; unfold mn; grind
                have qh : mx (qv xh) (qv y.2) = qv y.2 := by have := of_decide_eq_true H2.out; unfold mx; grind
                have HD2 : Hid (hullF (qv y.1) (qv y.2) (L.drop (k + 1)) = p) := Lib.hid (by rw [← ql, ← qh, ← hullF_step OY.out, ← HG.out]; exact HD.out)
                have OF2 : Hid (okF y.1 = true ∧ okF y.2 = true) := Lib.hid ⟨OL.out.1, OH.out.2⟩
                clear ql qh HD HG OF OL OH H1 H2
                have cf3 := hO.c3
                have cg3 := hO.fr 3
                have cf4 := hO.c4
                have cg4 := hO.fr 4
                have cf5 := hO.c5
                have cg5 := hO.fr 5
                have HF := Lib.hid (And.intro (hO.put1 s' an' m' cn' ad' d' cd') (And.intro (hR.moved 3 4 5 (.bool s') (.slice an' m' cn') (.slice ad' d' cd') HNE.out.1) (set3_below 3 4 5 (.bool s') (.slice an' m' cn') (.slice ad' d' cd') T HNE.out.2)))
                clear hO hR T
                go_wp2_with fail
                obtain ⟨f3, f5, f6⟩ := HF.out
                go_roundw
                case rel => exact ⟨k + 1, _, _, _, _, _, _, _, _, _, _, _, _, _, _, _, _, by omega, by go_num, f3, yl, yh, OF2, HD2, f5, f6⟩
                case measure => simp only [intOf]; omega
          · obtain rfl : n = k := by omega
            obtain ⟨⟨⟨s5, N5, D5⟩, ⟨s6, N6, D6⟩⟩, hq⟩ : ∃ q, (can (qv xl), can (qv xh)) = q := ⟨_, rfl⟩
            have hpe : p = (((s5, N5, D5), (s6, N6, D6)), 0) := by
              rw [← HD.out, List.drop_of_length_le (by rw [HN.out]; exact Nat.le_refl _), hullF_nil, ← hq]
            subst hpe
            have R1 : Hid (redF xl = ((s5, N5, D5), 0)) := Lib.hid (by rw [redF_ok OF.out.1]; exact congrArg (fun z : Iv => (z.1, 0)) hq)
            have R2 : Hid (redF xh = ((s6, N6, D6), 0)) := Lib.hid (by rw [redF_ok OF.out.2]; exact congrArg (fun z : Iv => (z.2, 0)) hq)
            have qo := iv_of_ends (fl.mono T) (fh.mono T)
            clear HD hq hlt OF
            have co0 := hO.c0
            have co1 := hO.c1
            have co2 := hO.c2
            have co3 := hO.c3
            have co4 := hO.c4
            have co5 := hO.c5
            go_wp2_with fail
            refine (refLowestIN s5 N5 D5 s6 N6 D6 qo R1 R2).mono ?_
            rintro e w9 ⟨v9, rfl, ⟨a7, n7, k7, e7, d7, l7, a8, n8, k8, e8, d8, l8, rfl, x7, y7, x8, y8⟩, h9⟩
            replace hR := hR.mono h9
            replace T := Add.trans T h9
            clear h9 qo hO fl fh R1 R2 co0 co1 co2 co3 co4 co5
            have hP := Box6.put hR s5 a7 n7 k7 e7 d7 l7 s6 a8 n8 k8 e8 d8 l8
            have hF := resI_put (w := w) (p := (((s5, N5, D5), (s6, N6, D6)), 0)) hR (⟨a7, n7, k7, e7, d7, l7, a8, n8, k8, e8, d8, l8, rfl, x7, y7, x8, y8⟩) T (show w.heap.size ≤ w.heap.size by omega)
            obtain ⟨W7, hW7⟩ : ∃ W7, W7 = put6 (w9) (w.heap.size) (.bool s5) (.slice a7 n7 k7) (.slice e7 d7 l7) (.bool s6) (.slice a8 n8 k8) (.slice e8 d8 l8) := ⟨_, rfl⟩
            rw [← hW7] at hP hF
            unfold put6 at hW7
            have HF := Lib.hid hF
            have HW := Lib.hid hW7
            have hr0 := hR.c0
            have hr1 := hR.c1
            have hr2 := hR.c2
            have hr3 := hR.c3
            have hr4 := hR.c4
            have hr5 := hR.c5
            have hr6 := hR.fr 0
            have hr7 := hR.fr 1
            have hr8 := hR.fr 2
            have hr9 := hR.fr 3
            have hr10 := hR.fr 4
            have hr11 := hR.fr 5
            clear hF hW7 hR T x7 y7 x8 y8
            go_wp2_with fail
            rw [← HW.out]
            exact bodyPost_ret (v := .tuple #[.agg #[.bool s5, .slice a7 n7 k7, .slice e7 d7 l7, .bool s6, .slice a8 n8 k8, .slice e8 d8 l8], .int .i64 0]) (by simp [results, Tryz.results31, go_sem, hP.c0, hP.c1, hP.c2, hP.c3, hP.c4, hP.c5]) rfl HF.out
end Go.Proofs.YtifpfoeecnkhoaaGreatDoor

namespace Go.Proofs.YtifpfoeecnkhoaaGreatDoor
open Go.RowKit NatM Go.Proofs.YtifpfoeecnkhoaaGreatDoor.Api

/-- The least and the greatest of the numbers 0 .. k. -/
def minQ (Q : Nat → Rat) : Nat → Rat
  | 0 => Q 0
  | k + 1 => mn (minQ Q k) (Q (k + 1))
def maxQ (Q : Nat → Rat) : Nat → Rat
  | 0 => Q 0
  | k + 1 => mx (maxQ Q k) (Q (k + 1))
theorem minQ_is (Q : Nat → Rat) : ∀ k, ∃ j, j ≤ k ∧ minQ Q k = Q j
  | 0 => ⟨0, Nat.le_refl _, rfl⟩
  | k + 1 => by
    obtain ⟨j, hj, e⟩ := minQ_is Q k
    rcases mn_or (minQ Q k) (Q (k + 1)) with h | h
    · exact ⟨j, by omega, h.trans e⟩
    · exact ⟨k + 1, Nat.le_refl _, h⟩
theorem maxQ_is (Q : Nat → Rat) : ∀ k, ∃ j, j ≤ k ∧ maxQ Q k = Q j
  | 0 => ⟨0, Nat.le_refl _, rfl⟩
  | k + 1 => by
    obtain ⟨j, hj, e⟩ := maxQ_is Q k
    rcases mx_or (maxQ Q k) (Q (k + 1)) with h | h
    · exact ⟨j, by omega, h.trans e⟩
    · exact ⟨k + 1, Nat.le_refl _, h⟩
theorem Reads.setI {w : World} {v : Value} {xs : List Nat} {g : Nat} {b : Bool} {an : Option Addr} {n cn : Nat} {ad : Option Addr} {d cd : Nat} {b' : Bool} {an' : Option Addr} {n' cn' : Nat} {ad' : Option Addr} {d' cd' : Nat} (h : Reads w v xs) (hB : Box6 w g b an n cn ad d cd b' an' n' cn' ad' d' cd') (x y z : Nat) (u0 u1 u2 : Value) : Reads (((w.setCell ⟨g, x, none⟩ u0).setCell ⟨g, y, none⟩ u1).setCell ⟨g, z, none⟩ u2) v xs := by
  obtain ⟨ao, m, c, rfl, hl, hc, hm, hx, hr⟩ := h
  refine ⟨ao, m, c, rfl, hl, hc, hm, hx, fun hn => ?_⟩
  obtain ⟨k, off, rfl, hcell⟩ := hr hn
  refine ⟨k, off, rfl, fun i hi => ?_⟩
  have hk : k ≠ g := by
    rintro rfl
    exact hB.not_int _ _ _ (hcell i hi)
  rw [cell_other (fun j hj => set3_other x y z u0 u1 u2 hj) _ hk]
  exact hcell i hi
theorem Num.setI {w : World} {v : Value} {N g : Nat} {b : Bool} {an : Option Addr} {n cn : Nat} {ad : Option Addr} {d cd : Nat} {b' : Bool} {an' : Option Addr} {n' cn' : Nat} {ad' : Option Addr} {d' cd' : Nat} (h : Num w v N) (hB : Box6 w g b an n cn ad d cd b' an' n' cn' ad' d' cd') (x y z : Nat) (u0 u1 u2 : Value) : Num (((w.setCell ⟨g, x, none⟩ u0).setCell ⟨g, y, none⟩ u1).setCell ⟨g, z, none⟩ u2) v N := by
  obtain ⟨zs, h1, h2⟩ := h; exact ⟨zs, h1.setI hB x y z u0 u1 u2, h2⟩
theorem Box.moved {w : World} {g k : Nat} {b an n cn ad d cd} (h : Box w k b an n cn ad d cd) (x y z : Nat) (u0 u1 u2 : Value) (hk : k ≠ g) : Box (((w.setCell ⟨g, x, none⟩ u0).setCell ⟨g, y, none⟩ u1).setCell ⟨g, z, none⟩ u2) k b an n cn ad d cd := (set3_other x y z u0 u1 u2 hk).trans h
set_option maxRecDepth 100000 in
set_option maxHeartbeats 20000000 in
theorem spanN (Q : Nat → Rat) (s5 : Bool) (N5 D5 : Nat) (s6 : Bool) (N6 D6 : Nat) {v v' : Value} {X Y : List Tri} {w : World} (hx : FracsA w v X) (hy : FracsA w v' Y) (hn : Hid (0 < X.length ∧ X.length = Y.length)) (hm : Hid (∀ i, i < X.length → mulF (X.getD i (false, 0, 0)) (Y.getD i (false, 0, 0)) = (can (Q i), 0) ∧ Sz 128 (can (Q i))))
    (hp : Hid ((can (minQ Q (X.length - 1)), can (maxQ Q (X.length - 1))) = ((s5, N5, D5), (s6, N6, D6)))) : Calls Tryz.prog 41 #[v, v'] w (ResI w (((s5, N5, D5), (s6, N6, D6)), 0)) := by
  obtain ⟨av, n, cv, rfl, hl1, hb1, hc1⟩ := hx
  obtain ⟨ay0, n', cy0, rfl, hl2, hb2, hc2⟩ := hy
  have hnn : n' = n := by have := hn.out.2; omega
  subst hnn
  have h0 : 0 < n' := by have := hn.out.1; omega
  have HL := Lib.hid hl1
  have H0 := Lib.hid h0
  have HX := Lib.hid hc1
  have HY := Lib.hid hc2
  rw [hl1] at hm hp
  clear hl1 hl2 hc1 hc2 hn h0 hb2
  obtain ⟨T, hR⟩ := laid6 w false none 0 0 none 0 0 false none 0 0 none 0 0
  obtain ⟨tt, hO⟩ := laid6 (w.alloc (.cells #[.bool false, .slice none 0 0, .slice none 0 0, .bool false, .slice none 0 0, .slice none 0 0] 27)) false none 0 0 none 0 0 false none 0 0 none 0 0
  have lR := hR.lt
  replace hR := hR.mono tt
  replace T := Add.trans T tt
  have ez : (w.alloc (.cells #[.bool false, .slice none 0 0, .slice none 0 0, .bool false, .slice none 0 0, .slice none 0 0] 27)).heap.size = w.heap.size + 1 := by simp
  rw [ez] at hO
  clear tt lR ez
  go_enter Tryz.func41, Tryz.ntmps41
  go_wp2_with fail
  go_loopw [7] (fun i wr => ∃ (k : Nat) (s1 : Bool) (a1 : Option Addr) (n1 k1 : Nat) (e1 : Option Addr) (d1 l1 : Nat) (s2 : Bool) (a2 : Option Addr) (m2 k2 : Nat) (e2 : Option Addr) (d4 l2 : Nat) (N1 D1 N2 D2 : Nat), k ≤ n' ∧ i = .int .i64 (k : Nat) ∧ Box6 wr (w.heap.size + 1) s1 a1 n1 k1 e1 d1 l1 s2 a2 m2 k2 e2 d4 l2 ∧ Num wr (.slice a1 n1 k1) N1 ∧ Num wr (.slice e1 d1 l1) D1 ∧ Num wr (.slice a2 m2 k2) N2 ∧ Num wr (.slice e2 d4 l2) D2 ∧ Hid (k = 0 ∨ ((s1, N1, D1) = can (minQ Q (k - 1)) ∧ (s2, N2, D2) = can (maxQ Q (k - 1)))) ∧ Box6 wr w.heap.size false none 0 0 none 0 0 false none 0 0 none 0 0 ∧ Add w wr) (fun i _ => n' - (intOf i).toNat)
  case atStart => exact ⟨0, false, none, 0, 0, none, 0, 0, false, none, 0, 0, none, 0, 0, 0, 0, 0, 0, Nat.zero_le _, rfl, hO, Num.nil _, Num.nil _, Num.nil _, Num.nil _, Lib.hid (.inl rfl), hR, T⟩
  case round =>
    clear hO hR T
    obtain ⟨k, s1, a1, n1, k1, e1, d1, l1, s2, a2, m2, k2, e2, d4, l2, N1, D1, N2, D2, hk, rfl, hO, x1, y1, x2, y2, HK, hR, T⟩ := hrel
    by_cases hlt : k < n'
    · obtain ⟨b1, o1, sx, ax, nx, cx, bx, dx, ex, rfl, q0, q1, q2, fx⟩ := HX.out k hlt
      obtain ⟨b2, o2, sy, ay, ny, cy, by_, dy, ey, rfl, q3, q4, q5, fy⟩ := HY.out k hlt
      have kk := fun (p : Addr) (v : Value) (q : w.cell? p = some v) => (T.cell (p := p) (World.block_lt_of_cell? w _ q)).trans q
      replace q0 := kk _ _ q0
      replace q1 := kk _ _ q1
      replace q2 := kk _ _ q2
      replace q3 := kk _ _ q3
      replace q4 := kk _ _ q4
      replace q5 := kk _ _ q5
      obtain ⟨gm, gz⟩ := hm.out k hlt
      obtain ⟨⟨s3, N3, D3⟩, hz⟩ : ∃ q, can (Q k) = q := ⟨_, rfl⟩
      rw [hz] at gm gz
      have HZ := Lib.hid hz
      have GM := Lib.hid gm
      have GZ := Lib.hid gz
      clear kk gm gz hz
      have K0 : Hid (∀ w', Add wr w' → w'.cell? ⟨b1, o1 + k * 3, none⟩ = some (.bool sx) ∧ w'.cell? ⟨b1, o1 + k * 3 + 1, none⟩ = some (.slice ax nx cx) ∧ w'.cell? ⟨b1, o1 + k * 3 + 2, none⟩ = some (.slice bx dx ex) ∧ w'.cell? ⟨b2, o2 + k * 3, none⟩ = some (.bool sy) ∧ w'.cell? ⟨b2, o2 + k * 3 + 1, none⟩ = some (.slice ay ny cy) ∧ w'.cell? ⟨b2, o2 + k * 3 + 2, none⟩ = some (.slice by_ dy ey)) := Lib.hid fun w' k => ⟨(k.cell (World.block_lt_of_cell? wr _ q0)).trans q0, (k.cell (World.block_lt_of_cell? wr _ q1)).trans q1, (k.cell (World.block_lt_of_cell? wr _ q2)).trans q2, (k.cell (World.block_lt_of_cell? wr _ q3)).trans q3, (k.cell (World.block_lt_of_cell? wr _ q4)).trans q4, (k.cell (World.block_lt_of_cell? wr _ q5)).trans q5⟩
      have C1 : Hid (∀ w', Add wr w' → Calls Tryz.prog 69 #[.agg #[.bool sx, .slice ax nx cx, .slice bx dx ex], .agg #[.bool sy, .slice ay ny cy, .slice by_ dy ey]] w' (ResE2 w' s3 N3 D3 0)) := Lib.hid fun w' k => (refMulN2 _ (fx.mono (Add.trans T k)) (fy.mono (Add.trans T k)) GM).mono fun _ _ h => resE2 h (Lib.hid rfl)
      go_upto_region 5 with fail
      go_cut [8, 9] from 10 to 51 (fun p e wx => ∃ g a3 n3 k3 e3 d3 l3, p = .pointer (some ⟨g, 0, none⟩) ∧ e = .int .i64 0 ∧ Box wx g s3 a3 n3 k3 e3 d3 l3 ∧ Num wx (.slice a3 n3 k3) N3 ∧ Num wx (.slice e3 d3 l3) D3 ∧ Add wr wx ∧ wr.heap.size ≤ g)
      case first =>
        go_region_held3 (fun w' => w'.cell? ⟨b1, o1 + k * 3, none⟩ = some (.bool sx) ∧ w'.cell? ⟨b1, o1 + k * 3 + 1, none⟩ = some (.slice ax nx cx) ∧ w'.cell? ⟨b1, o1 + k * 3 + 2, none⟩ = some (.slice bx dx ex) ∧ w'.cell? ⟨b2, o2 + k * 3, none⟩ = some (.bool sy) ∧ w'.cell? ⟨b2, o2 + k * 3 + 1, none⟩ = some (.slice ay ny cy) ∧ w'.cell? ⟨b2, o2 + k * 3 + 2, none⟩ = some (.slice by_ dy ey))
          (first | exact K0.out _ (Below.drew (Below.refl _ _)) | exact K0.out _ (Below.drew (add_new _ _)) | exact K0.out _ aa2 | exact K0.out _ (Add.trans aa2 (add_new _ _)) | exact K0.out _ (put3_below _ _ _ aa2 (Nat.le_refl _)) | exact K0.out _ (put3_below _ _ _ (Add.trans aa2 (add_new _ _)) (by have := aa2.size; omega)) | go_keep)
          (first | (go_at_call 69; ((with_reducible refine (C1.out _ (Below.drew (Below.refl _ _))).mono ?_); rintro e z1 ⟨a3, n3, k3, e3, d3, l3, rfl, x3, y3, h3⟩; have aa2 := Add.trans (Below.drew (Below.refl _ _) : Add wr (World.drew wr)) h3))
                 | (go_at_call 69; ((with_reducible refine (C1.out _ (Below.drew (add_new wr _))).mono ?_); rintro e z1 ⟨a3, n3, k3, e3, d3, l3, rfl, x3, y3, h3⟩; have aa2 := Add.trans (Below.drew (add_new wr _)) h3; have bx9 := ((box_new wr false none 0 0 none 0 0).mono (Below.drew (Below.refl _ _))).mono h3; have g3 := bx9.fr 0; have g4 := bx9.fr 1; have g5 := bx9.fr 2; have g0 := bx9.c0; have g1 := bx9.c1; have g2 := bx9.c2)))
        · go_wp2_with fail
          go_meet
          obtain ⟨tt, hv⟩ := laid_var z1 s3 a3 n3 k3 e3 d3 l3
          exact ⟨_, _, _, _, _, _, _, rfl, rfl, hv, x3.mono tt, y3.mono tt, Add.trans aa2 tt, aa2.size⟩
        · go_wp2_with fail
          go_meet
          exact ⟨_, _, _, _, _, _, _, rfl, rfl, bx9.put s3 a3 n3 k3 e3 d3 l3, x3.put bx9 _ _ _, y3.put bx9 _ _ _, put3_below _ _ _ aa2 (Nat.le_refl _), Nat.le_refl _⟩
      case rest =>
        obtain ⟨g, a3, n3, k3, e3, d3, l3, rfl, rfl, hV, x3, y3, tc, hg⟩ := hcut
        have lO := hO.lt
        have hgo : g ≠ w.heap.size + 1 := by omega
        have hgr : w.heap.size ≠ w.heap.size + 1 := by omega
        have HNE := Lib.hid (And.intro hgo hgr)
        clear lO hg q0 q1 q2 q3 q4 q5 K0 C1 fx fy hgo hgr GM
        replace hO := hO.mono tc
        replace hR := hR.mono tc
        replace x1 := x1.mono tc
        replace y1 := y1.mono tc
        replace x2 := x2.mono tc
        replace y2 := y2.mono tc
        replace T := Add.trans T tc
        clear tc
        by_cases k0 : k = 0
        · have dk : ((k : Int) == 0) = true := by simp [k0]
          have HK2 : Hid (k + 1 = 0 ∨ ((s3, N3, D3) = can (minQ Q (k + 1 - 1)) ∧ (s3, N3, D3) = can (maxQ Q (k + 1 - 1)))) := Lib.hid (.inr (by
            have e := HZ.out
            subst k0
            exact ⟨e.symm, e.symm⟩))
          clear HK HZ GZ hm hp k0 x1 y1 x2 y2
          have cf0 := hO.c0
          have cg0 := hO.fr 0
          have cf1 := hO.c1
          have cg1 := hO.fr 1
          have cf2 := hO.c2
          have cg2 := hO.fr 2
          have cv0 := hV.c0
          have cv1 := hV.c1
          have cv2 := hV.c2
          go_upto_region 10 with fail
          obtain ⟨W6, hW6⟩ : ∃ W6, W6 = (((wc.setCell ⟨w.heap.size + 1, 0, none⟩ (.bool s3)).setCell ⟨w.heap.size + 1, 1, none⟩ (.slice a3 n3 k3)).setCell ⟨w.heap.size + 1, 2, none⟩ (.slice e3 d3 l3)) := ⟨_, rfl⟩
          have x36 := x3.setI hO 0 1 2 (.bool s3) (.slice a3 n3 k3) (.slice e3 d3 l3)
          have y36 := y3.setI hO 0 1 2 (.bool s3) (.slice a3 n3 k3) (.slice e3 d3 l3)
          have hR6 := hR.moved 0 1 2 (.bool s3) (.slice a3 n3 k3) (.slice e3 d3 l3) HNE.out.2
          have hV6 := hV.moved 0 1 2 (.bool s3) (.slice a3 n3 k3) (.slice e3 d3 l3) HNE.out.1
          have hO6 := hO.put0 s3 a3 n3 k3 e3 d3 l3
          have T6 := set3_below 0 1 2 (.bool s3) (.slice a3 n3 k3) (.slice e3 d3 l3) T (show w.heap.size ≤ w.heap.size + 1 by omega)
          rw [← hW6] at hR6 hV6 hO6 T6 x36 y36 ⊢
          clear hW6 cf0 cg0 cf1 cg1 cf2 cg2 cv0 cv1 cv2
          clear x3 y3 hR hV hO T
          have x3 := x36
          have y3 := y36
          have hR := hR6
          have hV := hV6
          have hO := hO6
          have T := T6
          clear x36 y36 hR6 hV6 hO6 T6
          have cf3 := hO.c3
          have cg3 := hO.fr 3
          have cf4 := hO.c4
          have cg4 := hO.fr 4
          have cf5 := hO.c5
          have cg5 := hO.fr 5
          have cv0 := hV.c0
          have cv1 := hV.c1
          have cv2 := hV.c2
          have HF := Lib.hid (And.intro (hO.put1 s3 a3 n3 k3 e3 d3 l3) (And.intro (hR.moved 3 4 5 (.bool s3) (.slice a3 n3 k3) (.slice e3 d3 l3) HNE.out.2) (And.intro (set3_below 3 4 5 (.bool s3) (.slice a3 n3 k3) (.slice e3 d3 l3) T (show w.heap.size ≤ w.heap.size + 1 by omega)) (And.intro (x3.setI hO 3 4 5 (.bool s3) (.slice a3 n3 k3) (.slice e3 d3 l3)) (y3.setI hO 3 4 5 (.bool s3) (.slice a3 n3 k3) (.slice e3 d3 l3))))))
          clear hO hR T hV x3 y3
          go_wp2_with fail
          obtain ⟨f3, f5, f6, gx3, gy3⟩ := HF.out
          go_roundw
          case rel => exact ⟨k + 1, _, _, _, _, _, _, _, _, _, _, _, _, _, _, _, _, _, _, by omega, by go_num, f3, gx3, gy3, gx3, gy3, HK2, f5, f6⟩
          case measure => simp only [intOf]; omega
        · have dk : ((k : Int) == 0) = false := by simp; omega
          obtain ⟨ea, eb⟩ := HK.out.resolve_left k0
          have ek : k - 1 + 1 = k := by omega
          have em : minQ Q k = mn (qv (s1, N1, D1)) (qv (s3, N3, D3)) := by
            have e : minQ Q (k - 1 + 1) = mn (minQ Q (k - 1)) (Q (k - 1 + 1)) := rfl
            rw [ek] at e
            rw [e, ea, qv_can, ← HZ.out, qv_can]
          have ex2 : maxQ Q k = mx (qv (s2, N2, D2)) (qv (s3, N3, D3)) := by
            have e : maxQ Q (k - 1 + 1) = mx (maxQ Q (k - 1)) (Q (k - 1 + 1)) := rfl
            rw [ek] at e
            rw [e, eb, qv_can, ← HZ.out, qv_can]
          have c1 : can (qv (s1, N1, D1)) = (s1, N1, D1) := by rw [ea, qv_can]
          have c2 : can (qv (s2, N2, D2)) = (s2, N2, D2) := by rw [eb, qv_can]
          have c3' : can (qv (s3, N3, D3)) = (s3, N3, D3) := by rw [← HZ.out, qv_can]
          have z1 : Sz 128 (s1, N1, D1) := by
            obtain ⟨j, hj, e⟩ := minQ_is Q (k - 1)
            rw [ea, e]; exact (hm.out j (by omega)).2
          have z2 : Sz 128 (s2, N2, D2) := by
            obtain ⟨j, hj, e⟩ := maxQ_is Q (k - 1)
            rw [eb, e]; exact (hm.out j (by omega)).2
          have z3 := GZ.out
          have OL : Hid (okF (s3, N3, D3) = true ∧ okF (s1, N1, D1) = true) := Lib.hid ⟨z3.ok (by decide), z1.ok (by decide)⟩
          have OH : Hid (okF (s2, N2, D2) = true ∧ okF (s3, N3, D3) = true) := Lib.hid ⟨z2.ok (by decide), z3.ok (by decide)⟩
          obtain ⟨t1, ht1⟩ : ∃ t, decide (qv (s3, N3, D3) < qv (s1, N1, D1)) = t := ⟨_, rfl⟩
          obtain ⟨t2, ht2⟩ : ∃ t, decide (qv (s2, N2, D2) < qv (s3, N3, D3)) = t := ⟨_, rfl⟩
          have H1 := Lib.hid ht1
          have H2 := Lib.hid ht2
          have E1 : Hid (can (minQ Q k) = if t1 then (s3, N3, D3) else (s1, N1, D1)) := Lib.hid (by
            rw [em]
            cases t1 with
            | true =>
              have e : mn (qv (s1, N1, D1)) (qv (s3, N3, D3)) = qv (s3, N3, D3) := by have := of_decide_eq_true ht1; unfold mn; grind
              rw [e, c3']; rfl
            | false =>
              have e : mn (qv (s1, N1, D1)) (qv (s3, N3, D3)) = qv (s1, N1, D1) := by have := of_decide_eq_false ht1; unfold mn; grind
              rw [e, c1]; rfl)
          have E2 : Hid (can (maxQ Q k) = if t2 then (s3, N3, D3) else (s2, N2, D2)) := Lib.hid (by
            rw [ex2]
            cases t2 with
            | true =>
              have e : mx (qv (s2, N2, D2)) (qv (s3, N3, D3)) = qv (s3, N3, D3) := by have := of_decide_eq_true ht2; unfold mx; grind
              rw [e, c3']; rfl
            | false =>
              have e : mx (qv (s2, N2, D2)) (qv (s3, N3, D3)) = qv (s2, N2, D2) := by have := of_decide_eq_false ht2; unfold mx; grind
              rw [e, c2]; rfl)
          have Z1 := Lib.hid z1
          have Z2 := Lib.hid z2
          clear ea eb ek em ex2 c1 c2 c3' z1 z2 z3 ht1 ht2 HK HZ hm hp k0
          have fp := numT x3 y3 GZ.out (by decide)
          have fl := numT x1 y1 Z1.out (by decide)
          have co0 := hO.c0
          have co1 := hO.c1
          have co2 := hO.c2
          have cv0 := hV.c0
          have cv1 := hV.c1
          have cv2 := hV.c2
          go_wp2_with fail
          refine (lessN t1 fp fl OL H1).mono ?_
          rintro e w6 ⟨rfl, h6⟩
          replace hO := hO.mono h6
          replace hR := hR.mono h6
          replace hV := hV.mono h6
          replace x1 := x1.mono h6
          replace y1 := y1.mono h6
          replace x2 := x2.mono h6
          replace y2 := y2.mono h6
          replace x3 := x3.mono h6
          replace y3 := y3.mono h6
          replace T := Add.trans T h6
          clear h6 fp fl OL H1 co0 co1 co2 cv0 cv1 cv2
          cases t1 with
          | false =>
            have fp := numT x3 y3 GZ.out (by decide)
            have fh := numT x2 y2 Z2.out (by decide)
            have co3 := hO.c3
            have co4 := hO.c4
            have co5 := hO.c5
            have cv0 := hV.c0
            have cv1 := hV.c1
            have cv2 := hV.c2
            go_wp2_with fail
            refine (lessN t2 fh fp OH H2).mono ?_
            rintro e w7 ⟨rfl, h7⟩
            replace hO := hO.mono h7
            replace hR := hR.mono h7
            replace hV := hV.mono h7
            replace x2 := x2.mono h7
            replace y2 := y2.mono h7
            replace x3 := x3.mono h7
            replace y3 := y3.mono h7
            replace x1 := x1.mono h7
            replace y1 := y1.mono h7
            replace T := Add.trans T h7
            clear h7 fp fh OH H2 co3 co4 co5 cv0 cv1 cv2
            cases t2 with
            | false =>
              have HK2 : Hid (k + 1 = 0 ∨ ((s1, N1, D1) = can (minQ Q (k + 1 - 1)) ∧ (s2, N2, D2) = can (maxQ Q (k + 1 - 1)))) := Lib.hid (.inr ⟨E1.out.symm, E2.out.symm⟩)
              clear E1 E2 Z1 Z2 GZ
              go_wp2_with fail
              go_roundw
              case rel => exact ⟨k + 1, _, _, _, _, _, _, _, _, _, _, _, _, _, _, _, _, _, _, by omega, by go_num, hO, x1, y1, x2, y2, HK2, hR, T⟩
              case measure => simp only [intOf]; omega
            | true =>
              have HK2 : Hid (k + 1 = 0 ∨ ((s1, N1, D1) = can (minQ Q (k + 1 - 1)) ∧ (s3, N3, D3) = can (maxQ Q (k + 1 - 1)))) := Lib.hid (.inr ⟨E1.out.symm, E2.out.symm⟩)
              clear E1 E2 Z1 Z2 GZ
              clear x2 y2
              have cf3 := hO.c3
              have cg3 := hO.fr 3
              have cf4 := hO.c4
              have cg4 := hO.fr 4
              have cf5 := hO.c5
              have cg5 := hO.fr 5
              have cv0 := hV.c0
              have cv1 := hV.c1
              have cv2 := hV.c2
              have HF := Lib.hid (And.intro (hO.put1 s3 a3 n3 k3 e3 d3 l3) (And.intro (hR.moved 3 4 5 (.bool s3) (.slice a3 n3 k3) (.slice e3 d3 l3) HNE.out.2) (And.intro (set3_below 3 4 5 (.bool s3) (.slice a3 n3 k3) (.slice e3 d3 l3) T (show w.heap.size ≤ w.heap.size + 1 by omega)) (And.intro (x3.setI hO 3 4 5 (.bool s3) (.slice a3 n3 k3) (.slice e3 d3 l3)) (And.intro (y3.setI hO 3 4 5 (.bool s3) (.slice a3 n3 k3) (.slice e3 d3 l3)) (And.intro (x1.setI hO 3 4 5 (.bool s3) (.slice a3 n3 k3) (.slice e3 d3 l3)) (y1.setI hO 3 4 5 (.bool s3) (.slice a3 n3 k3) (.slice e3 d3 l3))))))))
              clear hO hR T hV x3 y3 x1 y1
              go_wp2_with fail
              obtain ⟨f3, f5, f6, gx3, gy3, gx1, gy1⟩ := HF.out
              go_roundw
              case rel => exact ⟨k + 1, _, _, _, _, _, _, _, _, _, _, _, _, _, _, _, _, _, _, by omega, by go_num, f3, gx1, gy1, gx3, gy3, HK2, f5, f6⟩
              case measure => simp only [intOf]; omega
          | true =>
            clear x1 y1
            have cf0 := hO.c0
            have cg0 := hO.fr 0
            have cf1 := hO.c1
            have cg1 := hO.fr 1
            have cf2 := hO.c2
            have cg2 := hO.fr 2
            have cv0 := hV.c0
            have cv1 := hV.c1
            have cv2 := hV.c2
            go_upto_region 10 with fail
            obtain ⟨W6, hW6⟩ : ∃ W6, W6 = (((w6.setCell ⟨w.heap.size + 1, 0, none⟩ (.bool s3)).setCell ⟨w.heap.size + 1, 1, none⟩ (.slice a3 n3 k3)).setCell ⟨w.heap.size + 1, 2, none⟩ (.slice e3 d3 l3)) := ⟨_, rfl⟩
            have x36 := x3.setI hO 0 1 2 (.bool s3) (.slice a3 n3 k3) (.slice e3 d3 l3)
            have y36 := y3.setI hO 0 1 2 (.bool s3) (.slice a3 n3 k3) (.slice e3 d3 l3)
            have x26 := x2.setI hO 0 1 2 (.bool s3) (.slice a3 n3 k3) (.slice e3 d3 l3)
            have y26 := y2.setI hO 0 1 2 (.bool s3) (.slice a3 n3 k3) (.slice e3 d3 l3)
            have hR6 := hR.moved 0 1 2 (.bool s3) (.slice a3 n3 k3) (.slice e3 d3 l3) HNE.out.2
            have hV6 := hV.moved 0 1 2 (.bool s3) (.slice a3 n3 k3) (.slice e3 d3 l3) HNE.out.1
            have hO6 := hO.put0 s3 a3 n3 k3 e3 d3 l3
            have T6 := set3_below 0 1 2 (.bool s3) (.slice a3 n3 k3) (.slice e3 d3 l3) T (show w.heap.size ≤ w.heap.size + 1 by omega)
            rw [← hW6] at hR6 hV6 hO6 T6 x36 y36 x26 y26 ⊢
            clear hW6 cf0 cg0 cf1 cg1 cf2 cg2 cv0 cv1 cv2
            clear x3 y3 x2 y2 hR hV hO T
            have x3 := x36
            have y3 := y36
            have x2 := x26
            have y2 := y26
            have hR := hR6
            have hV := hV6
            have hO := hO6
            have T := T6
            clear x36 y36 x26 y26 hR6 hV6 hO6 T6
            have fp := numT x3 y3 GZ.out (by decide)
            have fh := numT x2 y2 Z2.out (by decide)
            have co3 := hO.c3
            have co4 := hO.c4
            have co5 := hO.c5
            have cv0 := hV.c0
            have cv1 := hV.c1
            have cv2 := hV.c2
            go_wp2_with fail
            refine (lessN t2 fh fp OH H2).mono ?_
            rintro e w7 ⟨rfl, h7⟩
            replace hO := hO.mono h7
            replace hR := hR.mono h7
            replace hV := hV.mono h7
            replace x2 := x2.mono h7
            replace y2 := y2.mono h7
            replace x3 := x3.mono h7
            replace y3 := y3.mono h7
            replace T := Add.trans T h7
            clear h7 fp fh OH H2 co3 co4 co5 cv0 cv1 cv2
            cases t2 with
            | false =>
              have HK2 : Hid (k + 1 = 0 ∨ ((s3, N3, D3) = can (minQ Q (k + 1 - 1)) ∧ (s2, N2, D2) = can (maxQ Q (k + 1 - 1)))) := Lib.hid (.inr ⟨E1.out.symm, E2.out.symm⟩)
              clear E1 E2 Z1 Z2 GZ
              go_wp2_with fail
              go_roundw
              case rel => exact ⟨k + 1, _, _, _, _, _, _, _, _, _, _, _, _, _, _, _, _, _, _, by omega, by go_num, hO, x3, y3, x2, y2, HK2, hR, T⟩
              case measure => simp only [intOf]; omega
            | true =>
              have HK2 : Hid (k + 1 = 0 ∨ ((s3, N3, D3) = can (minQ Q (k + 1 - 1)) ∧ (s3, N3, D3) = can (maxQ Q (k + 1 - 1)))) := Lib.hid (.inr ⟨E1.out.symm, E2.out.symm⟩)
              clear E1 E2 Z1 Z2 GZ
              clear x2 y2
              have cf3 := hO.c3
              have cg3 := hO.fr 3
              have cf4 := hO.c4
              have cg4 := hO.fr 4
              have cf5 := hO.c5
              have cg5 := hO.fr 5
              have cv0 := hV.c0
              have cv1 := hV.c1
              have cv2 := hV.c2
              have HF := Lib.hid (And.intro (hO.put1 s3 a3 n3 k3 e3 d3 l3) (And.intro (hR.moved 3 4 5 (.bool s3) (.slice a3 n3 k3) (.slice e3 d3 l3) HNE.out.2) (And.intro (set3_below 3 4 5 (.bool s3) (.slice a3 n3 k3) (.slice e3 d3 l3) T (show w.heap.size ≤ w.heap.size + 1 by omega)) (And.intro (x3.setI hO 3 4 5 (.bool s3) (.slice a3 n3 k3) (.slice e3 d3 l3)) (y3.setI hO 3 4 5 (.bool s3) (.slice a3 n3 k3) (.slice e3 d3 l3))))))
              clear hO hR T hV x3 y3
              go_wp2_with fail
              obtain ⟨f3, f5, f6, gx3, gy3⟩ := HF.out
              go_roundw
              case rel => exact ⟨k + 1, _, _, _, _, _, _, _, _, _, _, _, _, _, _, _, _, _, _, by omega, by go_num, f3, gx3, gy3, gx3, gy3, HK2, f5, f6⟩
              case measure => simp only [intOf]; omega
    · obtain rfl : n' = k := by omega
      have e := HK.out.resolve_left (Nat.pos_iff_ne_zero.1 H0.out)
      have e5 : (s5, N5, D5) = (s1, N1, D1) := by rw [e.1]; exact (congrArg Prod.fst hp.out).symm
      have e6 : (s6, N6, D6) = (s2, N2, D2) := by rw [e.2]; exact (congrArg Prod.snd hp.out).symm
      simp only [Prod.mk.injEq] at e5 e6
      obtain ⟨rfl, rfl, rfl⟩ := e5
      obtain ⟨rfl, rfl, rfl⟩ := e6
      clear HK hp hm e hlt
      have co0 := hO.c0
      have co1 := hO.c1
      have co2 := hO.c2
      have co3 := hO.c3
      have co4 := hO.c4
      have co5 := hO.c5
      have hP := Box6.put hR s5 a1 n1 k1 e1 d1 l1 s6 a2 m2 k2 e2 d4 l2
      have hF := resI_put (w := w) (p := (((s5, N5, D5), (s6, N6, D6)), 0)) hR (⟨a1, n1, k1, e1, d1, l1, a2, m2, k2, e2, d4, l2, rfl, x1, y1, x2, y2⟩) T (show w.heap.size ≤ w.heap.size by omega)
      obtain ⟨W7, hW7⟩ : ∃ W7, W7 = put6 (wr) (w.heap.size) (.bool s5) (.slice a1 n1 k1) (.slice e1 d1 l1) (.bool s6) (.slice a2 m2 k2) (.slice e2 d4 l2) := ⟨_, rfl⟩
      rw [← hW7] at hP hF
      unfold put6 at hW7
      have HF := Lib.hid hF
      have HW := Lib.hid hW7
      have hr0 := hR.c0
      have hr1 := hR.c1
      have hr2 := hR.c2
      have hr3 := hR.c3
      have hr4 := hR.c4
      have hr5 := hR.c5
      have hr6 := hR.fr 0
      have hr7 := hR.fr 1
      have hr8 := hR.fr 2
      have hr9 := hR.fr 3
      have hr10 := hR.fr 4
      have hr11 := hR.fr 5
      clear hF hW7 hR T x1 y1 x2 y2 hO
      go_wp2_with fail
      rw [← HW.out]
      exact bodyPost_ret (v := .tuple #[.agg #[.bool s5, .slice a1 n1 k1, .slice e1 d1 l1, .bool s6, .slice a2 m2 k2, .slice e2 d4 l2], .int .i64 0]) (by simp [results, Tryz.results41, go_sem, hP.c0, hP.c1, hP.c2, hP.c3, hP.c4, hP.c5]) rfl HF.out
end Go.Proofs.YtifpfoeecnkhoaaGreatDoor

namespace Go.Proofs.YtifpfoeecnkhoaaGreatDoor
open Go.RowKit NatM Go.Proofs.YtifpfoeecnkhoaaGreatDoor.Api

theorem fracs_lit2 {w : World} {g : Nat} {s0 : Bool} {p0 : Option Addr} {m0 c0 : Nat} {q0 : Option Addr} {d0 e0 : Nat} {x0 : Tri} {s1 : Bool} {p1 : Option Addr} {m1 c1 : Nat} {q1 : Option Addr} {d1 e1 : Nat} {x1 : Tri} (h0 : FracA w (.agg #[.bool s0, .slice p0 m0 c0, .slice q0 d0 e0]) x0) (h1 : FracA w (.agg #[.bool s1, .slice p1 m1 c1, .slice q1 d1 e1]) x1) (hg : w.heap.size = g) : FracsA (w.alloc (.cells #[.bool s0, .slice p0 m0 c0, .slice q0 d0 e0, .bool s1, .slice p1 m1 c1, .slice q1 d1 e1] 25)) (.slice (some ⟨g, 0, none⟩) 2 2) [x0, x1] := by
  subst hg
  refine ⟨_, 2, 2, rfl, rfl, by decide, fun i hi => ?_⟩
  have e : i = 0 ∨ i = 1 := by omega
  rcases e with rfl | rfl
  · refine ⟨w.heap.size, 0, s0, p0, m0, c0, q0, d0, e0, rfl, ?_, ?_, ?_, h0.mono (add_new _ _)⟩ <;> rw [World.cell?_alloc_new] <;> rfl
  · refine ⟨w.heap.size, 0, s1, p1, m1, c1, q1, d1, e1, rfl, ?_, ?_, ?_, h1.mono (add_new _ _)⟩ <;> rw [World.cell?_alloc_new] <;> rfl
theorem fracs_lit4 {w : World} {g : Nat} {s0 : Bool} {p0 : Option Addr} {m0 c0 : Nat} {q0 : Option Addr} {d0 e0 : Nat} {x0 : Tri} {s1 : Bool} {p1 : Option Addr} {m1 c1 : Nat} {q1 : Option Addr} {d1 e1 : Nat} {x1 : Tri} {s2 : Bool} {p2 : Option Addr} {m2 c2 : Nat} {q2 : Option Addr} {d2 e2 : Nat} {x2 : Tri} {s3 : Bool} {p3 : Option Addr} {m3 c3 : Nat} {q3 : Option Addr} {d3 e3 : Nat} {x3 : Tri} (h0 : FracA w (.agg #[.bool s0, .slice p0 m0 c0, .slice q0 d0 e0]) x0) (h1 : FracA w (.agg #[.bool s1, .slice p1 m1 c1, .slice q1 d1 e1]) x1) (h2 : FracA w (.agg #[.bool s2, .slice p2 m2 c2, .slice q2 d2 e2]) x2) (h3 : FracA w (.agg #[.bool s3, .slice p3 m3 c3, .slice q3 d3 e3]) x3) (hg : w.heap.size = g) : FracsA (w.alloc (.cells #[.bool s0, .slice p0 m0 c0, .slice q0 d0 e0, .bool s1, .slice p1 m1 c1, .slice q1 d1 e1, .bool s2, .slice p2 m2 c2, .slice q2 d2 e2, .bool s3, .slice p3 m3 c3, .slice q3 d3 e3] 25)) (.slice (some ⟨g, 0, none⟩) 4 4) [x0, x1, x2, x3] := by
  subst hg
  refine ⟨_, 4, 4, rfl, rfl, by decide, fun i hi => ?_⟩
  have e : i = 0 ∨ i = 1 ∨ i = 2 ∨ i = 3 := by omega
  rcases e with rfl | rfl | rfl | rfl
  · refine ⟨w.heap.size, 0, s0, p0, m0, c0, q0, d0, e0, rfl, ?_, ?_, ?_, h0.mono (add_new _ _)⟩ <;> rw [World.cell?_alloc_new] <;> rfl
  · refine ⟨w.heap.size, 0, s1, p1, m1, c1, q1, d1, e1, rfl, ?_, ?_, ?_, h1.mono (add_new _ _)⟩ <;> rw [World.cell?_alloc_new] <;> rfl
  · refine ⟨w.heap.size, 0, s2, p2, m2, c2, q2, d2, e2, rfl, ?_, ?_, ?_, h2.mono (add_new _ _)⟩ <;> rw [World.cell?_alloc_new] <;> rfl
  · refine ⟨w.heap.size, 0, s3, p3, m3, c3, q3, d3, e3, rfl, ?_, ?_, ?_, h3.mono (add_new _ _)⟩ <;> rw [World.cell?_alloc_new] <;> rfl
theorem mn_assoc (p q r s : Rat) : mn (mn (mn p q) r) s = mn (mn p q) (mn r s) := by unfold mn; grind
theorem mx_assoc (p q r s : Rat) : mx (mx (mx p q) r) s = mx (mx p q) (mx r s) := by unfold mx; grind
/-- The four products in their order. -/
def fourQ (a b : Iv) : Nat → Rat
  | 0 => qv a.1 * qv b.1
  | 1 => qv a.1 * qv b.2
  | 2 => qv a.2 * qv b.1
  | _ => qv a.2 * qv b.2
def twoQ (x : Tri) (a : Iv) : Nat → Rat
  | 0 => qv x * qv a.1
  | _ => qv x * qv a.2
theorem four_lo (a b : Iv) : minQ (fourQ a b) 3 = lo4 a b := mn_assoc ..
theorem four_hi (a b : Iv) : maxQ (fourQ a b) 3 = hi4 a b := mx_assoc ..
set_option maxRecDepth 100000 in
set_option maxHeartbeats 2000000 in
theorem refMulIN_refuses {v v' : Value} {a b : Iv} {w : World} (ha : IvA w v a) (hb : IvA w v' b) (h : Hid (okI a = false ∨ okI b = false)) : Calls Tryz.prog 14 #[v, v'] w (ResI w (zI, 1)) := by
  have ha0 := ha
  have hb0 := hb
  obtain ⟨an, n, cn, ad, d, cd, an', n', cn', ad', d', cd', rfl, u1, u2, u3, u4⟩ := ha
  obtain ⟨an2, n2, cn2, ad2, d2, cd2, an3, n3, cn3, ad3, d3, cd3, rfl, q1, q2, q3, q4⟩ := hb
  have al : FracA w (.agg #[.bool a.1.1, .slice an n cn, .slice ad d cd]) a.1 := ⟨_, _, _, _, _, _, rfl, u1, u2⟩
  have ah : FracA w (.agg #[.bool a.2.1, .slice an' n' cn', .slice ad' d' cd']) a.2 := ⟨_, _, _, _, _, _, rfl, u3, u4⟩
  have bl : FracA w (.agg #[.bool b.1.1, .slice an2 n2 cn2, .slice ad2 d2 cd2]) b.1 := ⟨_, _, _, _, _, _, rfl, q1, q2⟩
  have bh : FracA w (.agg #[.bool b.2.1, .slice an3 n3 cn3, .slice ad3 d3 cd3]) b.2 := ⟨_, _, _, _, _, _, rfl, q3, q4⟩
  obtain ⟨T, hA, hB, hR⟩ := startII w a an n cn ad d cd an' n' cn' ad' d' cd' b an2 n2 cn2 ad2 d2 cd2 an3 n3 cn3 ad3 d3 cd3
  clear u1 u2 u3 u4 q1 q2 q3 q4
  replace ha0 := ha0.mono T
  replace hb0 := hb0.mono T
  replace al := al.mono T
  replace ah := ah.mono T
  replace bl := bl.mono T
  replace bh := bh.mono T
  clear al ah bl bh
  have ca0 := hA.c0
  have ca1 := hA.c1
  have ca2 := hA.c2
  have ca3 := hA.c3
  have ca4 := hA.c4
  have ca5 := hA.c5
  go_enter Tryz.func14, Tryz.ntmps14
  by_cases c : okI a = false
  · have FA := Lib.hid c
    clear c h
    go_wp2_with fail
    refine (refValidIN false ha0 FA).mono ?_
    rintro e w1 ⟨rfl, h1⟩
    replace hR := hR.mono h1
    replace T := Add.trans T h1
    clear h1 ha0 hb0 FA hA hB ca0 ca1 ca2 ca3 ca4 ca5
    have hP := Box6.put hR false none 0 0 none 0 0 false none 0 0 none 0 0
    have hF := resI_put (w := w) (p := (zI, 1)) hR (ivT_zero _) T (show w.heap.size ≤ w.heap.size + 2 by omega)
    obtain ⟨W7, hW7⟩ : ∃ W7, W7 = put6 (w1) (w.heap.size + 2) (.bool false) (.slice none 0 0) (.slice none 0 0) (.bool false) (.slice none 0 0) (.slice none 0 0) := ⟨_, rfl⟩
    rw [← hW7] at hP hF
    unfold put6 at hW7
    have HF := Lib.hid hF
    have HW := Lib.hid hW7
    have hbz := iv_zero
    have hr0 := hR.c0
    have hr1 := hR.c1
    have hr2 := hR.c2
    have hr3 := hR.c3
    have hr4 := hR.c4
    have hr5 := hR.c5
    have hr6 := hR.fr 0
    have hr7 := hR.fr 1
    have hr8 := hR.fr 2
    have hr9 := hR.fr 3
    have hr10 := hR.fr 4
    have hr11 := hR.fr 5
    clear hF hW7 hR T 
    go_wp2_with fail
    rw [← HW.out]
    exact bodyPost_ret (v := .tuple #[.agg #[.bool false, .slice none 0 0, .slice none 0 0, .bool false, .slice none 0 0, .slice none 0 0], .int .i64 1]) (by simp [results, Tryz.results14, go_sem, hP.c0, hP.c1, hP.c2, hP.c3, hP.c4, hP.c5]) rfl HF.out
  · have c2 : okI b = false := h.out.resolve_left c
    have c1 : okI a = true := by simpa using c
    have FA := Lib.hid c1
    have FB := Lib.hid c2
    clear c c1 c2 h
    go_wp2_with fail
    refine (refValidIN true ha0 FA).mono ?_
    rintro e w1 ⟨rfl, h1⟩
    replace hR := hR.mono h1
    replace hB := hB.mono h1
    replace hb0 := hb0.mono h1
    replace T := Add.trans T h1
    clear h1 ha0 FA hA ca0 ca1 ca2 ca3 ca4 ca5
    have cb0 := hB.c0
    have cb1 := hB.c1
    have cb2 := hB.c2
    have cb3 := hB.c3
    have cb4 := hB.c4
    have cb5 := hB.c5
    go_wp2_with fail
    refine (refValidIN false hb0 FB).mono ?_
    rintro e w2 ⟨rfl, h2⟩
    replace hR := hR.mono h2
    replace T := Add.trans T h2
    clear h2 hb0 FB hB cb0 cb1 cb2 cb3 cb4 cb5
    have hP := Box6.put hR false none 0 0 none 0 0 false none 0 0 none 0 0
    have hF := resI_put (w := w) (p := (zI, 1)) hR (ivT_zero _) T (show w.heap.size ≤ w.heap.size + 2 by omega)
    obtain ⟨W7, hW7⟩ : ∃ W7, W7 = put6 (w2) (w.heap.size + 2) (.bool false) (.slice none 0 0) (.slice none 0 0) (.bool false) (.slice none 0 0) (.slice none 0 0) := ⟨_, rfl⟩
    rw [← hW7] at hP hF
    unfold put6 at hW7
    have HF := Lib.hid hF
    have HW := Lib.hid hW7
    have hbz := iv_zero
    have hr0 := hR.c0
    have hr1 := hR.c1
    have hr2 := hR.c2
    have hr3 := hR.c3
    have hr4 := hR.c4
    have hr5 := hR.c5
    have hr6 := hR.fr 0
    have hr7 := hR.fr 1
    have hr8 := hR.fr 2
    have hr9 := hR.fr 3
    have hr10 := hR.fr 4
    have hr11 := hR.fr 5
    clear hF hW7 hR T 
    go_wp2_with fail
    rw [← HW.out]
    exact bodyPost_ret (v := .tuple #[.agg #[.bool false, .slice none 0 0, .slice none 0 0, .bool false, .slice none 0 0, .slice none 0 0], .int .i64 1]) (by simp [results, Tryz.results14, go_sem, hP.c0, hP.c1, hP.c2, hP.c3, hP.c4, hP.c5]) rfl HF.out
set_option maxRecDepth 100000 in
set_option maxHeartbeats 8000000 in
theorem refMulIN_works (i j : Nat) (s5 : Bool) (N5 D5 : Nat) (s6 : Bool) (N6 D6 : Nat) {v v' : Value} {a b : Iv} {w : World} (ha : IvA w v a) (hb : IvA w v' b) (h : Hid (okI a = true ∧ okI b = true)) (hs : Hid (SzI i a ∧ SzI j b ∧ i + j ≤ 128)) (hp : Hid ((can (lo4 a b), can (hi4 a b)) = ((s5, N5, D5), (s6, N6, D6)))) : Calls Tryz.prog 14 #[v, v'] w (ResI w (((s5, N5, D5), (s6, N6, D6)), 0)) := by
  have ha0 := ha
  have hb0 := hb
  obtain ⟨an, n, cn, ad, d, cd, an', n', cn', ad', d', cd', rfl, u1, u2, u3, u4⟩ := ha
  obtain ⟨an2, n2, cn2, ad2, d2, cd2, an3, n3, cn3, ad3, d3, cd3, rfl, q1, q2, q3, q4⟩ := hb
  have al : FracA w (.agg #[.bool a.1.1, .slice an n cn, .slice ad d cd]) a.1 := ⟨_, _, _, _, _, _, rfl, u1, u2⟩
  have ah : FracA w (.agg #[.bool a.2.1, .slice an' n' cn', .slice ad' d' cd']) a.2 := ⟨_, _, _, _, _, _, rfl, u3, u4⟩
  have bl : FracA w (.agg #[.bool b.1.1, .slice an2 n2 cn2, .slice ad2 d2 cd2]) b.1 := ⟨_, _, _, _, _, _, rfl, q1, q2⟩
  have bh : FracA w (.agg #[.bool b.2.1, .slice an3 n3 cn3, .slice ad3 d3 cd3]) b.2 := ⟨_, _, _, _, _, _, rfl, q3, q4⟩
  obtain ⟨T, hA, hB, hR⟩ := startII w a an n cn ad d cd an' n' cn' ad' d' cd' b an2 n2 cn2 ad2 d2 cd2 an3 n3 cn3 ad3 d3 cd3
  clear u1 u2 u3 u4 q1 q2 q3 q4
  replace ha0 := ha0.mono T
  replace hb0 := hb0.mono T
  replace al := al.mono T
  replace ah := ah.mono T
  replace bl := bl.mono T
  replace bh := bh.mono T
  have FA := Lib.hid h.out.1
  have FB := Lib.hid h.out.2
  have HL : Hid (0 < [a.1, a.1, a.2, a.2].length ∧ [a.1, a.1, a.2, a.2].length = [b.1, b.2, b.1, b.2].length) := Lib.hid ⟨by simp, rfl⟩
  have HM : Hid (∀ i, i < [a.1, a.1, a.2, a.2].length → mulF ([a.1, a.1, a.2, a.2].getD i (false, 0, 0)) ([b.1, b.2, b.1, b.2].getD i (false, 0, 0)) = (can (fourQ a b i), 0) ∧ Sz 128 (can (fourQ a b i))) := Lib.hid (by
    obtain ⟨za, zb, zk⟩ := hs.out
    intro i hi
    have e : i = 0 ∨ i = 1 ∨ i = 2 ∨ i = 3 := by simp at hi; omega
    rcases e with rfl | rfl | rfl | rfl
    · exact ⟨(mul_sz za.1 zb.1 zk).1, (mul_sz za.1 zb.1 zk).2.up zk⟩
    · exact ⟨(mul_sz za.1 zb.2 zk).1, (mul_sz za.1 zb.2 zk).2.up zk⟩
    · exact ⟨(mul_sz za.2 zb.1 zk).1, (mul_sz za.2 zb.1 zk).2.up zk⟩
    · exact ⟨(mul_sz za.2 zb.2 zk).1, (mul_sz za.2 zb.2 zk).2.up zk⟩)
  have HP : Hid ((can (minQ (fourQ a b) ([a.1, a.1, a.2, a.2].length - 1)), can (maxQ (fourQ a b) ([a.1, a.1, a.2, a.2].length - 1))) = ((s5, N5, D5), (s6, N6, D6))) := Lib.hid (by
    rw [← hp.out, ← four_lo, ← four_hi]; rfl)
  clear hs hp
  have ca0 := hA.c0
  have ca1 := hA.c1
  have ca2 := hA.c2
  have ca3 := hA.c3
  have ca4 := hA.c4
  have ca5 := hA.c5
  go_enter Tryz.func14, Tryz.ntmps14
  go_wp2_with fail
  refine (refValidIN true ha0 FA).mono ?_
  rintro e w1 ⟨rfl, h1⟩
  replace hA := hA.mono h1
  replace hB := hB.mono h1
  replace hR := hR.mono h1
  replace al := al.mono h1
  replace ah := ah.mono h1
  replace bl := bl.mono h1
  replace bh := bh.mono h1
  replace hb0 := hb0.mono h1
  replace T := Add.trans T h1
  clear h1 ha0 ca0 ca1 ca2 ca3 ca4 ca5
  have cb0 := hB.c0
  have cb1 := hB.c1
  have cb2 := hB.c2
  have cb3 := hB.c3
  have cb4 := hB.c4
  have cb5 := hB.c5
  go_wp2_with fail
  refine (refValidIN true hb0 FB).mono ?_
  rintro e w2 ⟨rfl, h2⟩
  replace hA := hA.mono h2
  replace hB := hB.mono h2
  replace hR := hR.mono h2
  replace al := al.mono h2
  replace ah := ah.mono h2
  replace bl := bl.mono h2
  replace bh := bh.mono h2
  replace T := Add.trans T h2
  clear h2 hb0 cb0 cb1 cb2 cb3 cb4 cb5
  have ca0 := hA.c0
  have ca1 := hA.c1
  have ca2 := hA.c2
  have ca3 := hA.c3
  have ca4 := hA.c4
  have ca5 := hA.c5
  have cb0 := hB.c0
  have cb1 := hB.c1
  have cb2 := hB.c2
  have cb3 := hB.c3
  have cb4 := hB.c4
  have cb5 := hB.c5
  have hB9 := hB.mono (add_new w2 (.cells #[.bool a.1.1, .slice an n cn, .slice ad d cd, .bool a.1.1, .slice an n cn, .slice ad d cd, .bool a.2.1, .slice an' n' cn', .slice ad' d' cd', .bool a.2.1, .slice an' n' cn', .slice ad' d' cd'] 25))
  have eb0 := hB9.c0
  have eb1 := hB9.c1
  have eb2 := hB9.c2
  have eb3 := hB9.c3
  have eb4 := hB9.c4
  have eb5 := hB9.c5
  clear hB9
  have fx := (fracs_lit4 al al ah ah (rfl : w2.heap.size = w2.heap.size)).mono (add_new _ (.cells #[.bool b.1.1, .slice an2 n2 cn2, .slice ad2 d2 cd2, .bool b.2.1, .slice an3 n3 cn3, .slice ad3 d3 cd3, .bool b.1.1, .slice an2 n2 cn2, .slice ad2 d2 cd2, .bool b.2.1, .slice an3 n3 cn3, .slice ad3 d3 cd3] 25))
  have fy := fracs_lit4 (w := w2.alloc (.cells #[.bool a.1.1, .slice an n cn, .slice ad d cd, .bool a.1.1, .slice an n cn, .slice ad d cd, .bool a.2.1, .slice an' n' cn', .slice ad' d' cd', .bool a.2.1, .slice an' n' cn', .slice ad' d' cd'] 25)) (g := w2.heap.size + 1) (bl.mono (add_new _ _)) (bh.mono (add_new _ _)) (bl.mono (add_new _ _)) (bh.mono (add_new _ _)) (by simp)
  have tt : Add w2 ((w2.alloc (.cells #[.bool a.1.1, .slice an n cn, .slice ad d cd, .bool a.1.1, .slice an n cn, .slice ad d cd, .bool a.2.1, .slice an' n' cn', .slice ad' d' cd', .bool a.2.1, .slice an' n' cn', .slice ad' d' cd'] 25)).alloc (.cells #[.bool b.1.1, .slice an2 n2 cn2, .slice ad2 d2 cd2, .bool b.2.1, .slice an3 n3 cn3, .slice ad3 d3 cd3, .bool b.1.1, .slice an2 n2 cn2, .slice ad2 d2 cd2, .bool b.2.1, .slice an3 n3 cn3, .slice ad3 d3 cd3] 25)) := Add.trans (add_new _ _) (add_new _ _)
  obtain ⟨W4, hW4⟩ : ∃ W4, W4 = ((w2.alloc (.cells #[.bool a.1.1, .slice an n cn, .slice ad d cd, .bool a.1.1, .slice an n cn, .slice ad d cd, .bool a.2.1, .slice an' n' cn', .slice ad' d' cd', .bool a.2.1, .slice an' n' cn', .slice ad' d' cd'] 25)).alloc (.cells #[.bool b.1.1, .slice an2 n2 cn2, .slice ad2 d2 cd2, .bool b.2.1, .slice an3 n3 cn3, .slice ad3 d3 cd3, .bool b.1.1, .slice an2 n2 cn2, .slice ad2 d2 cd2, .bool b.2.1, .slice an3 n3 cn3, .slice ad3 d3 cd3] 25)) := ⟨_, rfl⟩
  rw [← hW4] at fx fy tt
  replace hR := hR.mono tt
  replace T := Add.trans T tt
  clear tt
  go_wp2_with fail
  rw [← hW4]
  refine ((spanN (fourQ a b) s5 N5 D5 s6 N6 D6 fx fy HL HM HP).mono fun _ _ g => g.ok).mono ?_
  rintro e w3 ⟨a1, n1, k1, e1, d1, l1, a2, m2, k2, e2, d4, l2, rfl, x1, y1, x2, y2, h3⟩
  replace hR := hR.mono h3
  replace T := Add.trans T h3
  clear h3 fx fy hW4 HL HM HP hA hB al ah bl bh FA FB h ca0 ca1 ca2 ca3 ca4 ca5 cb0 cb1 cb2 cb3 cb4 cb5
  have hP := Box6.put hR s5 a1 n1 k1 e1 d1 l1 s6 a2 m2 k2 e2 d4 l2
  have hF := resI_put (w := w) (p := (((s5, N5, D5), (s6, N6, D6)), 0)) hR (⟨a1, n1, k1, e1, d1, l1, a2, m2, k2, e2, d4, l2, rfl, x1, y1, x2, y2⟩) T (show w.heap.size ≤ w.heap.size + 2 by omega)
  obtain ⟨W7, hW7⟩ : ∃ W7, W7 = put6 (w3) (w.heap.size + 2) (.bool s5) (.slice a1 n1 k1) (.slice e1 d1 l1) (.bool s6) (.slice a2 m2 k2) (.slice e2 d4 l2) := ⟨_, rfl⟩
  rw [← hW7] at hP hF
  unfold put6 at hW7
  have HF := Lib.hid hF
  have HW := Lib.hid hW7
  have hr0 := hR.c0
  have hr1 := hR.c1
  have hr2 := hR.c2
  have hr3 := hR.c3
  have hr4 := hR.c4
  have hr5 := hR.c5
  have hr6 := hR.fr 0
  have hr7 := hR.fr 1
  have hr8 := hR.fr 2
  have hr9 := hR.fr 3
  have hr10 := hR.fr 4
  have hr11 := hR.fr 5
  clear hF hW7 hR T x1 y1 x2 y2
  go_wp2_with fail
  rw [← HW.out]
  exact bodyPost_ret (v := .tuple #[.agg #[.bool s5, .slice a1 n1 k1, .slice e1 d1 l1, .bool s6, .slice a2 m2 k2, .slice e2 d4 l2], .int .i64 0]) (by simp [results, Tryz.results14, go_sem, hP.c0, hP.c1, hP.c2, hP.c3, hP.c4, hP.c5]) rfl HF.out
set_option maxRecDepth 100000 in
set_option maxHeartbeats 2000000 in
theorem refScaleN_refuses {v v' : Value} {x : Tri} {a : Iv} {w : World} (hx : FracA w v x) (ha : IvA w v' a) (h : Hid (okF x = false ∨ okI a = false)) : Calls Tryz.prog 16 #[v, v'] w (ResI w (zI, 1)) := by
  have hx0 := hx
  have ha0 := ha
  obtain ⟨an, n, cn, ad, d, cd, an', n', cn', ad', d', cd', rfl, u1, u2, u3, u4⟩ := ha
  obtain ⟨an4, n4, cn4, ad4, d4, cd4, rfl, u5, u6⟩ := hx
  obtain ⟨T, hX, hA, hR⟩ := startSc w x an4 n4 cn4 ad4 d4 cd4 a an n cn ad d cd an' n' cn' ad' d' cd'
  clear u1 u2 u3 u4 u5 u6
  replace hx0 := hx0.mono T
  replace ha0 := ha0.mono T
  have cx0 := hX.c0
  have cx1 := hX.c1
  have cx2 := hX.c2
  go_enter Tryz.func16, Tryz.ntmps16
  by_cases c : okF x = false
  · have FX := Lib.hid c
    clear c h
    go_wp2_with fail
    refine (refValidN false hx0 FX).mono ?_
    rintro e w1 ⟨rfl, h1⟩
    replace hR := hR.mono h1
    replace T := Add.trans T h1
    clear h1 hX hA hx0 ha0 FX cx0 cx1 cx2
    have hP := Box6.put hR false none 0 0 none 0 0 false none 0 0 none 0 0
    have hF := resI_put (w := w) (p := (zI, 1)) hR (ivT_zero _) T (show w.heap.size ≤ w.heap.size + 2 by omega)
    obtain ⟨W7, hW7⟩ : ∃ W7, W7 = put6 (w1) (w.heap.size + 2) (.bool false) (.slice none 0 0) (.slice none 0 0) (.bool false) (.slice none 0 0) (.slice none 0 0) := ⟨_, rfl⟩
    rw [← hW7] at hP hF
    unfold put6 at hW7
    have HF := Lib.hid hF
    have HW := Lib.hid hW7
    have hbz := iv_zero
    have hr0 := hR.c0
    have hr1 := hR.c1
    have hr2 := hR.c2
    have hr3 := hR.c3
    have hr4 := hR.c4
    have hr5 := hR.c5
    have hr6 := hR.fr 0
    have hr7 := hR.fr 1
    have hr8 := hR.fr 2
    have hr9 := hR.fr 3
    have hr10 := hR.fr 4
    have hr11 := hR.fr 5
    clear hF hW7 hR T 
    go_wp2_with fail
    rw [← HW.out]
    exact bodyPost_ret (v := .tuple #[.agg #[.bool false, .slice none 0 0, .slice none 0 0, .bool false, .slice none 0 0, .slice none 0 0], .int .i64 1]) (by simp [results, Tryz.results16, go_sem, hP.c0, hP.c1, hP.c2, hP.c3, hP.c4, hP.c5]) rfl HF.out
  · have FA := Lib.hid (h.out.resolve_left c)
    have FX : Hid (okF x = true) := Lib.hid (by simpa using c)
    clear c h
    go_wp2_with fail
    refine (refValidN true hx0 FX).mono ?_
    rintro e w1 ⟨rfl, h1⟩
    replace hR := hR.mono h1
    replace hA := hA.mono h1
    replace ha0 := ha0.mono h1
    replace T := Add.trans T h1
    clear h1 hX hx0 FX cx0 cx1 cx2
    have ca0 := hA.c0
    have ca1 := hA.c1
    have ca2 := hA.c2
    have ca3 := hA.c3
    have ca4 := hA.c4
    have ca5 := hA.c5
    go_wp2_with fail
    refine (refValidIN false ha0 FA).mono ?_
    rintro e w2 ⟨rfl, h2⟩
    replace hR := hR.mono h2
    replace T := Add.trans T h2
    clear h2 hA ha0 FA ca0 ca1 ca2 ca3 ca4 ca5
    have hP := Box6.put hR false none 0 0 none 0 0 false none 0 0 none 0 0
    have hF := resI_put (w := w) (p := (zI, 1)) hR (ivT_zero _) T (show w.heap.size ≤ w.heap.size + 2 by omega)
    obtain ⟨W7, hW7⟩ : ∃ W7, W7 = put6 (w2) (w.heap.size + 2) (.bool false) (.slice none 0 0) (.slice none 0 0) (.bool false) (.slice none 0 0) (.slice none 0 0) := ⟨_, rfl⟩
    rw [← hW7] at hP hF
    unfold put6 at hW7
    have HF := Lib.hid hF
    have HW := Lib.hid hW7
    have hbz := iv_zero
    have hr0 := hR.c0
    have hr1 := hR.c1
    have hr2 := hR.c2
    have hr3 := hR.c3
    have hr4 := hR.c4
    have hr5 := hR.c5
    have hr6 := hR.fr 0
    have hr7 := hR.fr 1
    have hr8 := hR.fr 2
    have hr9 := hR.fr 3
    have hr10 := hR.fr 4
    have hr11 := hR.fr 5
    clear hF hW7 hR T 
    go_wp2_with fail
    rw [← HW.out]
    exact bodyPost_ret (v := .tuple #[.agg #[.bool false, .slice none 0 0, .slice none 0 0, .bool false, .slice none 0 0, .slice none 0 0], .int .i64 1]) (by simp [results, Tryz.results16, go_sem, hP.c0, hP.c1, hP.c2, hP.c3, hP.c4, hP.c5]) rfl HF.out
set_option maxRecDepth 100000 in
set_option maxHeartbeats 8000000 in
theorem refScaleN_works (i j : Nat) (s5 : Bool) (N5 D5 : Nat) (s6 : Bool) (N6 D6 : Nat) {v v' : Value} {x : Tri} {a : Iv} {w : World} (hx : FracA w v x) (ha : IvA w v' a) (h : Hid (okF x = true ∧ okI a = true)) (hs : Hid (Sz i x ∧ SzI j a ∧ i + j ≤ 128)) (hp : Hid ((can (lo2 (qv x) (qv a.1) (qv a.2)), can (hi2 (qv x) (qv a.1) (qv a.2))) = ((s5, N5, D5), (s6, N6, D6)))) : Calls Tryz.prog 16 #[v, v'] w (ResI w (((s5, N5, D5), (s6, N6, D6)), 0)) := by
  have hx0 := hx
  have ha0 := ha
  obtain ⟨an, n, cn, ad, d, cd, an', n', cn', ad', d', cd', rfl, u1, u2, u3, u4⟩ := ha
  obtain ⟨an4, n4, cn4, ad4, d4, cd4, rfl, u5, u6⟩ := hx
  obtain ⟨T, hX, hA, hR⟩ := startSc w x an4 n4 cn4 ad4 d4 cd4 a an n cn ad d cd an' n' cn' ad' d' cd'
  replace hx0 := hx0.mono T
  replace ha0 := ha0.mono T
  have hl : FracA w (.agg #[.bool a.1.1, .slice an n cn, .slice ad d cd]) a.1 := ⟨_, _, _, _, _, _, rfl, u1, u2⟩
  have hh : FracA w (.agg #[.bool a.2.1, .slice an' n' cn', .slice ad' d' cd']) a.2 := ⟨_, _, _, _, _, _, rfl, u3, u4⟩
  clear u1 u2 u3 u4 u5 u6
  replace hl := hl.mono T
  replace hh := hh.mono T
  have FX := Lib.hid h.out.1
  have FA := Lib.hid h.out.2
  have HL : Hid (0 < [x, x].length ∧ [x, x].length = [a.1, a.2].length) := Lib.hid ⟨by simp, rfl⟩
  have HM : Hid (∀ i, i < [x, x].length → mulF ([x, x].getD i (false, 0, 0)) ([a.1, a.2].getD i (false, 0, 0)) = (can (twoQ x a i), 0) ∧ Sz 128 (can (twoQ x a i))) := Lib.hid (by
    obtain ⟨zx, za, zk⟩ := hs.out
    intro i hi
    have e : i = 0 ∨ i = 1 := by simp at hi; omega
    rcases e with rfl | rfl
    · exact ⟨(mul_sz zx za.1 zk).1, (mul_sz zx za.1 zk).2.up zk⟩
    · exact ⟨(mul_sz zx za.2 zk).1, (mul_sz zx za.2 zk).2.up zk⟩)
  have HP : Hid ((can (minQ (twoQ x a) ([x, x].length - 1)), can (maxQ (twoQ x a) ([x, x].length - 1))) = ((s5, N5, D5), (s6, N6, D6))) := Lib.hid hp.out
  clear hs hp
  have cx0 := hX.c0
  have cx1 := hX.c1
  have cx2 := hX.c2
  go_enter Tryz.func16, Tryz.ntmps16
  go_wp2_with fail
  refine (refValidN true hx0 FX).mono ?_
  rintro e w1 ⟨rfl, h1⟩
  replace hR := hR.mono h1
  replace hA := hA.mono h1
  replace hX := hX.mono h1
  replace hx0 := hx0.mono h1
  replace ha0 := ha0.mono h1
  replace hl := hl.mono h1
  replace hh := hh.mono h1
  replace T := Add.trans T h1
  clear h1 FX cx0 cx1 cx2
  have ca0 := hA.c0
  have ca1 := hA.c1
  have ca2 := hA.c2
  have ca3 := hA.c3
  have ca4 := hA.c4
  have ca5 := hA.c5
  go_wp2_with fail
  refine (refValidIN true ha0 FA).mono ?_
  rintro e w2 ⟨rfl, h2⟩
  replace hR := hR.mono h2
  replace hA := hA.mono h2
  replace hX := hX.mono h2
  replace hx0 := hx0.mono h2
  replace hl := hl.mono h2
  replace hh := hh.mono h2
  replace T := Add.trans T h2
  clear h2 FA ha0 ca0 ca1 ca2 ca3 ca4 ca5
  have cx0 := hX.c0
  have cx1 := hX.c1
  have cx2 := hX.c2
  have ca0 := hA.c0
  have ca1 := hA.c1
  have ca2 := hA.c2
  have ca3 := hA.c3
  have ca4 := hA.c4
  have ca5 := hA.c5
  have hB9 := hA.mono (add_new w2 (.cells #[.bool x.1, .slice an4 n4 cn4, .slice ad4 d4 cd4, .bool x.1, .slice an4 n4 cn4, .slice ad4 d4 cd4] 25))
  have eb0 := hB9.c0
  have eb1 := hB9.c1
  have eb2 := hB9.c2
  have eb3 := hB9.c3
  have eb4 := hB9.c4
  have eb5 := hB9.c5
  clear hB9
  have fx := (fracs_lit2 hx0 hx0 (rfl : w2.heap.size = w2.heap.size)).mono (add_new _ (.cells #[.bool a.1.1, .slice an n cn, .slice ad d cd, .bool a.2.1, .slice an' n' cn', .slice ad' d' cd'] 25))
  have fy := fracs_lit2 (w := w2.alloc (.cells #[.bool x.1, .slice an4 n4 cn4, .slice ad4 d4 cd4, .bool x.1, .slice an4 n4 cn4, .slice ad4 d4 cd4] 25)) (g := w2.heap.size + 1) (hl.mono (add_new _ _)) (hh.mono (add_new _ _)) (by simp)
  have tt : Add w2 ((w2.alloc (.cells #[.bool x.1, .slice an4 n4 cn4, .slice ad4 d4 cd4, .bool x.1, .slice an4 n4 cn4, .slice ad4 d4 cd4] 25)).alloc (.cells #[.bool a.1.1, .slice an n cn, .slice ad d cd, .bool a.2.1, .slice an' n' cn', .slice ad' d' cd'] 25)) := Add.trans (add_new _ _) (add_new _ _)
  obtain ⟨W4, hW4⟩ : ∃ W4, W4 = ((w2.alloc (.cells #[.bool x.1, .slice an4 n4 cn4, .slice ad4 d4 cd4, .bool x.1, .slice an4 n4 cn4, .slice ad4 d4 cd4] 25)).alloc (.cells #[.bool a.1.1, .slice an n cn, .slice ad d cd, .bool a.2.1, .slice an' n' cn', .slice ad' d' cd'] 25)) := ⟨_, rfl⟩
  rw [← hW4] at fx fy tt
  replace hR := hR.mono tt
  replace T := Add.trans T tt
  clear tt
  go_wp2_with fail
  rw [← hW4]
  refine ((spanN (twoQ x a) s5 N5 D5 s6 N6 D6 fx fy HL HM HP).mono fun _ _ g => g.ok).mono ?_
  rintro e w3 ⟨a1, n1, k1, e1, d1, l1, a2, m2, k2, e2, d4, l2, rfl, x1, y1, x2, y2, h3⟩
  replace hR := hR.mono h3
  replace T := Add.trans T h3
  clear h3 fx fy hW4 HL HM HP hx0 hl hh h hX hA cx0 cx1 cx2 ca0 ca1 ca2 ca3 ca4 ca5
  have hP := Box6.put hR s5 a1 n1 k1 e1 d1 l1 s6 a2 m2 k2 e2 d4 l2
  have hF := resI_put (w := w) (p := (((s5, N5, D5), (s6, N6, D6)), 0)) hR (⟨a1, n1, k1, e1, d1, l1, a2, m2, k2, e2, d4, l2, rfl, x1, y1, x2, y2⟩) T (show w.heap.size ≤ w.heap.size + 2 by omega)
  obtain ⟨W7, hW7⟩ : ∃ W7, W7 = put6 (w3) (w.heap.size + 2) (.bool s5) (.slice a1 n1 k1) (.slice e1 d1 l1) (.bool s6) (.slice a2 m2 k2) (.slice e2 d4 l2) := ⟨_, rfl⟩
  rw [← hW7] at hP hF
  unfold put6 at hW7
  have HF := Lib.hid hF
  have HW := Lib.hid hW7
  have hr0 := hR.c0
  have hr1 := hR.c1
  have hr2 := hR.c2
  have hr3 := hR.c3
  have hr4 := hR.c4
  have hr5 := hR.c5
  have hr6 := hR.fr 0
  have hr7 := hR.fr 1
  have hr8 := hR.fr 2
  have hr9 := hR.fr 3
  have hr10 := hR.fr 4
  have hr11 := hR.fr 5
  clear hF hW7 hR T x1 y1 x2 y2
  go_wp2_with fail
  rw [← HW.out]
  exact bodyPost_ret (v := .tuple #[.agg #[.bool s5, .slice a1 n1 k1, .slice e1 d1 l1, .bool s6, .slice a2 m2 k2, .slice e2 d4 l2], .int .i64 0]) (by simp [results, Tryz.results16, go_sem, hP.c0, hP.c1, hP.c2, hP.c3, hP.c4, hP.c5]) rfl HF.out
end Go.Proofs.YtifpfoeecnkhoaaGreatDoor

namespace Go
variable {P : Program}
/-- append onto what the call owns, from whatever source: nothing may be appended. -/
theorem fracs_append (w : World) (t ty : TypeId) (base : Nat) (e : TypeId) (i : TypeInfo) (z : Value) (size bytes : Nat) (ht : P.underlying t = some (.slice e)) (hi : P.info? e = some i) (hz : i.zero = some z)
    (hsize : i.size = size) (hby : i.bytes = bytes) (hzs : z.cells.size = size) (hsz : 0 < size)
    (v : Value) (n : Nat) (xs : List Value) (hown : w.ownsRow base e size v n xs)
    (so : Option Addr) (m c : Nat) (hso : so = none → m = 0 ∧ c = 0) (news : List Value) (hl : news.length = m * size) (hnews : ∀ ad, so = some ad → ∀ j u, news[j]? = some u → w.cell? (ad.add j) = some u) (h1 : ∀ u ∈ news, u.oneCell' = true)
    (h63 : n + m ≤ maxLen) (hbytes : (n + m) * bytes ≤ 140737488355328) (hbase : base ≤ w.heap.size) :
    ∃ v' w', (Builtin.append_ #[t, t] ty #[v, .slice so m c]).run P w = .ok v' w' ∧ w'.ownsRow base e size v' (n + m) (xs ++ news) ∧ w.grownBy w' v.ownBlock ∧ (v'.ownBlock = v.ownBlock ∨ v'.ownBlock = some w.heap.size) := by
  cases so with
  | none =>
    obtain ⟨rfl, rfl⟩ := hso rfl
    have hn : news = [] := List.eq_nil_of_length_eq_zero (by simpa using hl)
    subst hn
    refine ⟨v, w, run_append_owned_none (P := P) (w := w) base t ty e i size ht hi v n xs hown, ?_, ⟨rfl, rfl, rfl, Nat.le_refl _, fun _ _ _ => rfl⟩, .inl rfl⟩
    rw [List.append_nil]
    exact hown
  | some ad =>
    obtain ⟨v', w', hr, h2, h3, -, h5⟩ := run_append_own_at (P := P) w base t ty e i z size bytes ht hi hz hsize hby hzs hsz v n xs hown ad m c news hl (hnews ad rfl) h1 h63 hbytes hbase
    exact ⟨v', w', hr, h2, h3, h5⟩
/-- The same at a step of a region that draws its order. -/
theorem step_fracs_append {w : World} {ops : Array Oper} {o : Oper} {a : Act} {K : Act → World → Prop} {Q : Exit → Act → World → Prop} {E : Prop} (hgd : o.guard = none) (s x : Operand) (t : TypeId)
    (ho : o.op = .call { callee := .builtin .append, args := #[s, x], argTypes := #[t, t] })
    (base : Nat) (e : TypeId) (i : TypeInfo) (z : Value) (size bytes : Nat) (ht : P.underlying t = some (.slice e)) (hi : P.info? e = some i) (hz : i.zero = some z)
    (hsize : i.size = size) (hby : i.bytes = bytes) (hzs : z.cells.size = size) (hsz : 0 < size)
    (v : Value) (n : Nat) (xs : List Value) (hs : a.eval s = v) (hown : w.ownsRow base e size v n xs)
    (so : Option Addr) (m c : Nat) (hx : a.eval x = .slice so m c) (hso : so = none → m = 0 ∧ c = 0) (news : List Value) (hl : news.length = m * size) (hnews : ∀ ad, so = some ad → ∀ j u, news[j]? = some u → w.cell? (ad.add j) = some u) (h1 : ∀ u ∈ news, u.oneCell' = true)
    (h63 : n + m ≤ maxLen) (hbytes : (n + m) * bytes ≤ 140737488355328) (hbase : base ≤ w.heap.size)
    (h : ∀ v' w', w'.ownsRow base e size v' (n + m) (xs ++ news) → w.grownBy w' v.ownBlock → (v'.ownBlock = v.ownBlock ∨ v'.ownBlock = some w.heap.size) → K (a.put o.dst v') w') :
    if Region.wanted o (yielded ops a.tmps) = true then Oper.wp P o a w K Q else E := by
  have hw : Region.wanted o (yielded ops a.tmps) = true := by simp [Region.wanted, hgd]
  rw [if_pos hw]
  obtain ⟨v', w', hr, h2, h3, h5⟩ := fracs_append (P := P) w t o.type base e i z size bytes ht hi hz hsize hby hzs hsz v n xs hown so m c hso news hl hnews h1 h63 hbytes hbase
  unfold Oper.wp execOp
  simp only [ho, resolve, invoke, builtin, Sem.run_bind, Sem.run_pure, Result.andThen_ok, List.map_toArray, List.map_cons, List.map_nil, hs, hx, hr]
  exact h v' w' h2 h3 h5
end Go
namespace Go.Proofs.YtifpfoeecnkhoaaGreatDoor
open Go.RowKit NatM Go.Proofs.YtifpfoeecnkhoaaGreatDoor.Api

theorem infoFrac : (Tryz.prog.info? 25).map (fun i => (i.zero, i.size, i.bytes)) = some (some (.agg #[.bool false, .slice none 0 0, .slice none 0 0]), 3, 56) := by kernel_rfl
theorem own_lit {w : World} {g base : Nat} (h : w.heap[g]? = some (.cells #[] 25 (0, 0))) (hb : base ≤ g) : w.ownsRow base 25 3 (.slice (some ⟨g, 0, none⟩) 0 0) 0 [] :=
  ⟨rfl, .inr ⟨g, 0, #[], rfl, hb, h, Nat.le_refl _, Nat.zero_le _, rfl, rfl⟩⟩
theorem own_block {w : World} {base e size n : Nat} {v : Value} {xs : List Value} (h : w.ownsRow base e size v n xs) : ∀ k, v.ownBlock = some k → base ≤ k ∧ k < w.heap.size := by
  intro k hk
  rcases h.2 with ⟨rfl, -⟩ | ⟨g, cap, cur, rfl, hb, hg, -⟩
  · cases hk
  · have e : g = k := by simpa [Value.ownBlock] using hk
    subst e
    exact ⟨hb, (Array.getElem?_eq_some_iff.1 hg).1⟩
theorem Box.grown {w w' : World} {g : Nat} {row : Option Nat} {b an n cn ad d cd} (h : Box w g b an n cn ad d cd) (hg : w.grownBy w' row) (hne : some g ≠ row) : Box w' g b an n cn ad d cd :=
  (hg.block g h.lt hne).trans h
theorem hne_b {w : World} {o1 o2 : Obj} {t : Option Nat} (h : t = some (w.heap.size + 1) ∨ t = some (World.drew ((w.alloc o1).alloc o2)).heap.size) : some w.heap.size ≠ t := by
  have e : (World.drew ((w.alloc o1).alloc o2)).heap.size = w.heap.size + 1 + 1 := by simp
  rw [e] at h
  rintro rfl
  rcases h with h | h
  · have := Option.some.inj h; omega
  · have := Option.some.inj h; omega
theorem hne_c {w : World} {o1 o2 : Obj} {t : Option Nat} (h : t = some w.heap.size ∨ t = some (World.drew ((w.alloc o1).alloc o2)).heap.size) : some (w.heap.size + 1) ≠ t := by
  have e : (World.drew ((w.alloc o1).alloc o2)).heap.size = w.heap.size + 1 + 1 := by simp
  rw [e] at h
  rintro rfl
  rcases h with h | h
  · have := Option.some.inj h; omega
  · have := Option.some.inj h; omega
theorem hne_b0 {n : Nat} : some n ≠ (Value.slice (some ⟨n + 1, 0, none⟩) 0 0).ownBlock := by
  intro h
  have := Option.some.inj (show some n = some (n + 1) from h)
  omega
theorem hne_c0 {n : Nat} : some (n + 1) ≠ (Value.slice (some ⟨n, 0, none⟩) 0 0).ownBlock := by
  intro h
  have := Option.some.inj (show some (n + 1) = some n from h)
  omega
/-- The cells of a list of fractions. -/
def CellsF (w : World) (xs : List Value) (L : List Tri) : Prop := xs.length = L.length * 3 ∧
  ∀ i, i < L.length → ∃ s an m cn ad d cd, xs[i * 3]? = some (.bool s) ∧ xs[i * 3 + 1]? = some (.slice an m cn) ∧ xs[i * 3 + 2]? = some (.slice ad d cd) ∧ FracA w (.agg #[.bool s, .slice an m cn, .slice ad d cd]) (L.getD i (false, 0, 0))
theorem CellsF.mono {w w' : World} {xs : List Value} {L : List Tri} (h : CellsF w xs L) (hb : Add w w') : CellsF w' xs L :=
  ⟨h.1, fun i hi => by
    obtain ⟨s, an, m, cn, ad, d, cd, h1, h2, h3, h4⟩ := h.2 i hi
    exact ⟨s, an, m, cn, ad, d, cd, h1, h2, h3, h4.mono hb⟩⟩
theorem CellsF.append {w : World} {xs ys : List Value} {L M : List Tri} (h : CellsF w xs L) (g : CellsF w ys M) : CellsF w (xs ++ ys) (L ++ M) := by
  refine ⟨by rw [List.length_append, List.length_append, h.1, g.1]; omega, fun i hi => ?_⟩
  rw [List.length_append] at hi
  have hx := h.1
  by_cases c : i < L.length
  · obtain ⟨s, an, m, cn, ad, d, cd, h1, h2, h3, h4⟩ := h.2 i c
    refine ⟨s, an, m, cn, ad, d, cd, ?_, ?_, ?_, ?_⟩
    · rw [List.getElem?_append_left (by omega)]; exact h1
    · rw [List.getElem?_append_left (by omega)]; exact h2
    · rw [List.getElem?_append_left (by omega)]; exact h3
    · have e : (L ++ M).getD i (false, 0, 0) = L.getD i (false, 0, 0) := by simp [List.getD, List.getElem?_append_left c]
      rw [e]; exact h4
  · obtain ⟨s, an, m, cn, ad, d, cd, h1, h2, h3, h4⟩ := g.2 (i - L.length) (by omega)
    refine ⟨s, an, m, cn, ad, d, cd, ?_, ?_, ?_, ?_⟩
    · rw [List.getElem?_append_right (by omega), show i * 3 - xs.length = (i - L.length) * 3 by omega]; exact h1
    · rw [List.getElem?_append_right (by omega), show i * 3 + 1 - xs.length = (i - L.length) * 3 + 1 by omega]; exact h2
    · rw [List.getElem?_append_right (by omega), show i * 3 + 2 - xs.length = (i - L.length) * 3 + 2 by omega]; exact h3
    · have e : (L ++ M).getD i (false, 0, 0) = M.getD (i - L.length) (false, 0, 0) := by simp [List.getD, List.getElem?_append_right (show L.length ≤ i by omega)]
      rw [e]; exact h4
theorem addr_add (b off j : Nat) : (⟨b, off, none⟩ : Addr).add j = ⟨b, off + j, none⟩ := by
  unfold Addr.add; split <;> simp_all
/-- The cells of a list that lies in memory. -/
theorem cells_of {w : World} {so : Option Addr} {n c : Nat} {L : List Tri} (h : FracsA w (.slice so n c) L) :
    ∃ xs, CellsF w xs L ∧ (∀ ad, so = some ad → ∀ j u, xs[j]? = some u → w.cell? (ad.add j) = some u) ∧ ∀ u ∈ xs, u.oneCell' = true := by
  obtain ⟨a', n', c', e, hl, -, h⟩ := h
  simp only [Value.slice.injEq] at e
  obtain ⟨rfl, rfl, rfl⟩ := e
  rcases Nat.eq_zero_or_pos n with h0 | h0
  · subst h0
    refine ⟨[], ⟨by rw [hl]; rfl, fun i hi => by omega⟩, fun ad _ j u hu => by simp at hu, fun u hu => by simp at hu⟩
  · obtain ⟨b, off, -, -, -, -, -, -, -, rfl, -⟩ := h 0 h0
    have key : ∀ j, j < n * 3 → ∃ u, w.cell? ⟨b, off + j, none⟩ = some u ∧ u.oneCell' = true := by
      intro j hj
      obtain ⟨b', off', s, an, m, cn, ad, d, cd, h1, h2, h3, h4, h5⟩ := h (j / 3) (by omega)
      simp only [Option.some.injEq, Addr.mk.injEq, and_true] at h1
      obtain ⟨rfl, rfl⟩ := h1
      have e : j % 3 = 0 ∨ j % 3 = 1 ∨ j % 3 = 2 := by omega
      rcases e with e | e | e
      · rw [show off + j = off + j / 3 * 3 by omega]; exact ⟨_, h2, rfl⟩
      · rw [show off + j = off + j / 3 * 3 + 1 by omega]; exact ⟨_, h3, rfl⟩
      · rw [show off + j = off + j / 3 * 3 + 2 by omega]; exact ⟨_, h4, rfl⟩
    have get : ∀ j, j < n * 3 → ((List.range (n * 3)).map fun j => (w.cell? ⟨b, off + j, none⟩).getD (.bool false))[j]? = w.cell? ⟨b, off + j, none⟩ := by
      intro j hj
      obtain ⟨u, hu, -⟩ := key j hj
      rw [hu]
      simp [List.getElem?_map, List.getElem?_range hj, hu]
    refine ⟨(List.range (n * 3)).map fun j => (w.cell? ⟨b, off + j, none⟩).getD (.bool false), ⟨by simp [hl], fun i hi => ?_⟩, fun ad ha j u hu => ?_, fun u hu => ?_⟩
    · obtain ⟨b', off', s, an, m, cn, ad, d, cd, h1, h2, h3, h4, h5⟩ := h i (by omega)
      simp only [Option.some.injEq, Addr.mk.injEq, and_true] at h1
      obtain ⟨rfl, rfl⟩ := h1
      refine ⟨s, an, m, cn, ad, d, cd, ?_, ?_, ?_, h5⟩
      · rw [get _ (by omega)]; exact h2
      · rw [get _ (by omega)]; exact h3
      · rw [get _ (by omega)]; exact h4
    · obtain rfl : ad = ⟨b, off, none⟩ := (Option.some.inj ha).symm
      have hj : j < n * 3 := by
        have := (List.getElem?_eq_some_iff.1 hu).1
        simpa using this
      rw [get j hj] at hu
      rw [addr_add]; exact hu
    · obtain ⟨j, hj, rfl⟩ := List.mem_map.1 hu
      obtain ⟨u, hu, h1⟩ := key j (List.mem_range.1 hj)
      rw [hu]; exact h1
/-- A row of the call's own reads as a list of fractions. -/
theorem fracs_own {w : World} {base n : Nat} {v : Value} {xs : List Value} {L : List Tri} (h : w.ownsRow base 25 3 v n xs) (hc : CellsF w xs L) (hn : L.length = n) (hb : n ≤ 100000) : FracsA w v L := by
  rcases h.2 with ⟨rfl, rfl⟩ | ⟨g, cap, cur, rfl, -⟩
  · exact ⟨none, 0, 0, rfl, hn, hb, fun i hi => by omega⟩
  · refine ⟨some ⟨g, 0, none⟩, n, cap, rfl, hn, hb, fun i hi => ?_⟩
    obtain ⟨s, an, m, cn, ad, d, cd, h1, h2, h3, h4⟩ := hc.2 i (by omega)
    have k := h.cells (g := g) rfl
    have k1 := k _ _ h1
    have k2 := k _ _ h2
    have k3 := k _ _ h3
    rw [addr_add] at k1 k2 k3
    rw [← Nat.add_assoc] at k2 k3
    exact ⟨g, 0, s, an, m, cn, ad, d, cd, rfl, k1, k2, k3, h4⟩
end Go.Proofs.YtifpfoeecnkhoaaGreatDoor

namespace Go.Proofs.YtifpfoeecnkhoaaGreatDoor
open Go.RowKit NatM Go.Proofs.YtifpfoeecnkhoaaGreatDoor.Api

/-- A list of intervals as it came in. -/
def IvsI (w : World) (v : Value) (L : List IvL) : Prop := ∃ (a : Option Addr) (n c : Nat), v = .slice a n c ∧ L.length = n ∧ n ≤ c ∧ c ≤ maxLen ∧ (a = none → n = 0 ∧ c = 0) ∧
  ∀ i, i < n → ∃ b off s an m cn ad d cd s' an' m' cn' ad' d' cd', a = some ⟨b, off, none⟩ ∧ w.cell? ⟨b, off + i * 6, none⟩ = some (.bool s) ∧ w.cell? ⟨b, off + i * 6 + 1, none⟩ = some (.slice an m cn) ∧ w.cell? ⟨b, off + i * 6 + 2, none⟩ = some (.slice ad d cd) ∧ w.cell? ⟨b, off + i * 6 + 3, none⟩ = some (.bool s') ∧ w.cell? ⟨b, off + i * 6 + 4, none⟩ = some (.slice an' m' cn') ∧ w.cell? ⟨b, off + i * 6 + 5, none⟩ = some (.slice ad' d' cd') ∧
    IvI w (.agg #[.bool s, .slice an m cn, .slice ad d cd, .bool s', .slice an' m' cn', .slice ad' d' cd']) (L.getD i ((false, [], []), (false, [], [])))
theorem IvI.reads {w : World} {s s' : Bool} {an m cn ad d cd an' m' cn' ad' d' cd'} {x : IvL} (h : IvI w (.agg #[.bool s, .slice an m cn, .slice ad d cd, .bool s', .slice an' m' cn', .slice ad' d' cd']) x) : Reads w (.slice an m cn) x.1.2.1 ∧ Reads w (.slice ad d cd) x.1.2.2 ∧ Reads w (.slice an' m' cn') x.2.2.1 ∧ Reads w (.slice ad' d' cd') x.2.2.2 := by
  obtain ⟨a1, a2, a3, a4, a5, a6, a7, a8, a9, b1, b2, b3, e, h1, h2, h3, h4⟩ := h
  simp only [Value.agg.injEq, Array.mk.injEq, List.cons.injEq, Value.bool.injEq, Value.slice.injEq, and_true] at e
  obtain ⟨rfl, ⟨rfl, rfl, rfl⟩, ⟨rfl, rfl, rfl⟩, rfl, ⟨rfl, rfl, rfl⟩, rfl, rfl, rfl⟩ := e
  exact ⟨h1, h2, h3, h4⟩
theorem IvsI.arg {w : World} {v : Value} {L : List IvL} (h : IvsI w v L) (hl : L.any longE = false) (hn : L.length ≤ 100) : IvsA w v (L.map ivOf) := by
  obtain ⟨a, n, c, rfl, he, -, -, -, h⟩ := h
  refine ⟨a, n, c, rfl, by rw [List.length_map, he], by omega, fun i hi => ?_⟩
  obtain ⟨b, off, s, an, m, cn, ad, d, cd, s', an', m', cn', ad', d', cd', h1, q0, q1, q2, q3, q4, q5, h5⟩ := h i hi
  refine ⟨b, off, s, an, m, cn, ad, d, cd, s', an', m', cn', ad', d', cd', h1, q0, q1, q2, q3, q4, q5, ?_⟩
  have hi' : i < L.length := by omega
  have e : (L.map ivOf).getD i zI = ivOf (L.getD i ((false, [], []), (false, [], []))) := by simp [List.getD, hi']
  rw [e]
  refine h5.arg ?_
  have hm : L.getD i ((false, [], []), (false, [], [])) ∈ L := by simp [List.getD, hi']
  cases hb : longE (L.getD i ((false, [], []), (false, [], [])))
  · rfl
  · have : L.any longE = true := List.any_eq_true.2 ⟨_, hm, hb⟩
    rw [hl] at this; cases this
theorem any_range {α : Type} (L : List α) (d : α) (p : α → Bool) : L.any p = (List.range L.length).any fun i => p (L.getD i d) := by
  rw [Bool.eq_iff_iff, List.any_eq_true, List.any_eq_true]
  constructor
  · rintro ⟨x, hx, h⟩
    obtain ⟨i, hi, rfl⟩ := List.mem_iff_getElem.1 hx
    exact ⟨i, List.mem_range.2 hi, by simpa [List.getD, hi] using h⟩
  · rintro ⟨i, hi, h⟩
    have hi := List.mem_range.1 hi
    exact ⟨L[i], List.getElem_mem hi, by simpa [List.getD, hi] using h⟩
/-- The guard on long lists. -/
theorem longIs (t : Bool) {v : Value} {L : List IvL} {w : World} (h : IvsI w v L) (hn : L.length ≤ 1000) (ht : L.any longE = t) :
    Calls Tryz.prog 6 #[v] w (Long2P w t) := by
  obtain ⟨a, n, c, rfl, he, -, -, -, h⟩ := h
  rcases Nat.eq_zero_or_pos n with rfl | h0
  · have e : L = [] := List.eq_nil_of_length_eq_zero he
    subst e
    have e : t = false := ht.symm
    subst e
    exact longI_is false a 0 0 0 c [] w rfl (by decide) (fun q => absurd q (by decide)) (fun i hi => absurd hi (by omega)) (fun i hi => absurd hi (by omega)) rfl
  · obtain ⟨b, off, e⟩ : ∃ b off, a = some ⟨b, off, none⟩ := by
      obtain ⟨b, off, -, -, -, -, -, -, -, -, -, -, -, -, -, -, e, -⟩ := h 0 h0
      exact ⟨b, off, e⟩
    subst e
    let g : Nat → Value := fun j => (w.cell? ⟨b, j, none⟩).getD (.bool false)
    let q : Nat → Value × Value × Value × Value := fun i => (g (off + i * 6 + 1), g (off + i * 6 + 2), g (off + i * 6 + 4), g (off + i * 6 + 5))
    have key : ∀ i, i < n → ∃ an m cn ad d cd an' m' cn' ad' d' cd', q i = (.slice an m cn, .slice ad d cd, .slice an' m' cn', .slice ad' d' cd') ∧ w.cell? ⟨b, off + i * 6 + 1, none⟩ = some (.slice an m cn) ∧ w.cell? ⟨b, off + i * 6 + 2, none⟩ = some (.slice ad d cd) ∧ w.cell? ⟨b, off + i * 6 + 4, none⟩ = some (.slice an' m' cn') ∧ w.cell? ⟨b, off + i * 6 + 5, none⟩ = some (.slice ad' d' cd') ∧
        (Reads w (.slice an m cn) (L.getD i ((false, [], []), (false, [], []))).1.2.1 ∧ Reads w (.slice ad d cd) (L.getD i ((false, [], []), (false, [], []))).1.2.2 ∧ Reads w (.slice an' m' cn') (L.getD i ((false, [], []), (false, [], []))).2.2.1 ∧ Reads w (.slice ad' d' cd') (L.getD i ((false, [], []), (false, [], []))).2.2.2) := by
      intro i hi
      obtain ⟨b', off', s, an, m, cn, ad, d, cd, s', an', m', cn', ad', d', cd', e, q0, q1, q2, q3, q4, q5, hI⟩ := h i hi
      simp only [Option.some.injEq, Addr.mk.injEq, and_true] at e
      obtain ⟨rfl, rfl⟩ := e
      refine ⟨an, m, cn, ad, d, cd, an', m', cn', ad', d', cd', ?_, q1, q2, q4, q5, hI.reads⟩
      show (g _, g _, g _, g _) = _
      simp only [g, q1, q2, q4, q5, Option.getD_some]
    have hget : ∀ i, i < n → ((List.range n).map q).getD i (.slice none 0 0, .slice none 0 0, .slice none 0 0, .slice none 0 0) = q i := by
      intro i hi
      simp [List.getD, List.getElem?_map, List.getElem?_range hi]
    refine longI_is t _ b off n c ((List.range n).map q) w (by simp) (by omega) (fun _ => rfl) ?_ ?_ ?_
    · intro i hi
      obtain ⟨an, m, cn, ad, d, cd, an', m', cn', ad', d', cd', e, q1, q2, q4, q5, -⟩ := key i hi
      rw [hget i hi, e]
      exact ⟨q1, q2, q4, q5⟩
    · intro i hi
      obtain ⟨an, m, cn, ad, d, cd, an', m', cn', ad', d', cd', e, q1, q2, q4, q5, r1, r2, r3, r4⟩ := key i hi
      rw [hget i hi, e]
      exact ⟨r1.isSlice, r2.isSlice, r3.isSlice, r4.isSlice⟩
    · rw [← ht, any_range L ((false, [], []), (false, [], [])), he, List.any_map, Bool.eq_iff_iff, List.any_eq_true, List.any_eq_true]
      have hE : ∀ i, i < n → tooLong4 (q i) = longE (L.getD i ((false, [], []), (false, [], []))) := by
        intro i hi
        obtain ⟨an, m, cn, ad, d, cd, an', m', cn', ad', d', cd', e, q1, q2, q4, q5, r1, r2, r3, r4⟩ := key i hi
        rw [e]
        unfold tooLong4 longE
        rw [r1.lenV, r2.lenV, r3.lenV, r4.lenV]
      constructor
      · rintro ⟨i, hi, h⟩; exact ⟨i, hi, (hE i (List.mem_range.1 hi)).symm.trans h⟩
      · rintro ⟨i, hi, h⟩; exact ⟨i, hi, (hE i (List.mem_range.1 hi)).trans h⟩
theorem IvsA.cutL {w : World} {a : Option Addr} {n c : Nat} {L : List Iv} (h : IvsA w (.slice a n c) L) {k : Nat} (hk : k ≤ n) (c' : Nat) : IvsA w (.slice a k c') (L.take k) := by
  obtain ⟨a', n', c2, e, hl, hn, h⟩ := h
  simp only [Value.slice.injEq] at e
  obtain ⟨rfl, rfl, rfl⟩ := e
  refine ⟨a, k, c', rfl, by rw [List.length_take]; omega, by omega, fun i hi => ?_⟩
  obtain ⟨b, off, s, an, m, cn, ad, d, cd, s', an', m', cn', ad', d', cd', h1, q0, q1, q2, q3, q4, q5, h5⟩ := h i (by omega)
  refine ⟨b, off, s, an, m, cn, ad, d, cd, s', an', m', cn', ad', d', cd', h1, q0, q1, q2, q3, q4, q5, ?_⟩
  have e : (L.take k).getD i zI = L.getD i zI := by simp [List.getD, hi]
  rw [e]; exact h5
theorem IvsA.cutR {w : World} {a a2 : Option Addr} {n c : Nat} {L : List Iv} (h : IvsA w (.slice a n c) L) {k : Nat} (hk : k ≤ n) (c' : Nat)
    (ha : k < n → ∀ b off, a = some ⟨b, off, none⟩ → a2 = some ⟨b, off + k * 6, none⟩) : IvsA w (.slice a2 (n - k) c') (L.drop k) := by
  obtain ⟨a', n', c2, e, hl, hn, h⟩ := h
  simp only [Value.slice.injEq] at e
  obtain ⟨rfl, rfl, rfl⟩ := e
  refine ⟨a2, n - k, c', rfl, by rw [List.length_drop]; omega, by omega, fun i hi => ?_⟩
  obtain ⟨b, off, s, an, m, cn, ad, d, cd, s', an', m', cn', ad', d', cd', h1, q0, q1, q2, q3, q4, q5, h5⟩ := h (k + i) (by omega)
  have e0 : off + (k + i) * 6 = off + k * 6 + i * 6 := by omega
  rw [e0] at q0 q1 q2 q3 q4 q5
  refine ⟨b, off + k * 6, s, an, m, cn, ad, d, cd, s', an', m', cn', ad', d', cd', ha (by omega) b off h1, q0, q1, q2, q3, q4, q5, ?_⟩
  have e : (L.drop k).getD i zI = L.getD (k + i) zI := by simp [List.getD, List.getElem?_drop]
  rw [e]; exact h5
theorem infoIv : (Tryz.prog.info? 27).map (fun i => (i.zero, i.size, i.bytes)) = some (some (.agg #[.bool false, .slice none 0 0, .slice none 0 0, .bool false, .slice none 0 0, .slice none 0 0]), 6, 112) := by kernel_rfl
theorem own_litI {w : World} {g base : Nat} (h : w.heap[g]? = some (.cells #[] 27 (0, 0))) (hb : base ≤ g) : w.ownsRow base 27 6 (.slice (some ⟨g, 0, none⟩) 0 0) 0 [] :=
  ⟨rfl, .inr ⟨g, 0, #[], rfl, hb, h, Nat.le_refl _, Nat.zero_le _, rfl, rfl⟩⟩
theorem Box6.grown {w w' : World} {g : Nat} {row : Option Nat} {b : Bool} {an : Option Addr} {n cn : Nat} {ad : Option Addr} {d cd : Nat} {b' : Bool} {an' : Option Addr} {n' cn' : Nat} {ad' : Option Addr} {d' cd' : Nat} (h : Box6 w g b an n cn ad d cd b' an' n' cn' ad' d' cd') (hg : w.grownBy w' row) (hne : some g ≠ row) : Box6 w' g b an n cn ad d cd b' an' n' cn' ad' d' cd' :=
  (hg.block g h.lt hne).trans h
/-- The cells of a list of intervals. -/
def CellsI (w : World) (xs : List Value) (L : List Iv) : Prop := xs.length = L.length * 6 ∧
  ∀ i, i < L.length → ∃ s an m cn ad d cd s' an' m' cn' ad' d' cd', xs[i * 6]? = some (.bool s) ∧ xs[i * 6 + 1]? = some (.slice an m cn) ∧ xs[i * 6 + 2]? = some (.slice ad d cd) ∧ xs[i * 6 + 3]? = some (.bool s') ∧ xs[i * 6 + 4]? = some (.slice an' m' cn') ∧ xs[i * 6 + 5]? = some (.slice ad' d' cd') ∧ IvA w (.agg #[.bool s, .slice an m cn, .slice ad d cd, .bool s', .slice an' m' cn', .slice ad' d' cd']) (L.getD i zI)
theorem CellsI.mono {w w' : World} {xs : List Value} {L : List Iv} (h : CellsI w xs L) (hb : Add w w') : CellsI w' xs L :=
  ⟨h.1, fun i hi => by
    obtain ⟨s, an, m, cn, ad, d, cd, s', an', m', cn', ad', d', cd', q0, q1, q2, q3, q4, q5, h4⟩ := h.2 i hi
    exact ⟨s, an, m, cn, ad, d, cd, s', an', m', cn', ad', d', cd', q0, q1, q2, q3, q4, q5, h4.mono hb⟩⟩
theorem CellsI.append {w : World} {xs ys : List Value} {L M : List Iv} (h : CellsI w xs L) (g : CellsI w ys M) : CellsI w (xs ++ ys) (L ++ M) := by
  refine ⟨by rw [List.length_append, List.length_append, h.1, g.1]; omega, fun i hi => ?_⟩
  rw [List.length_append] at hi
  have hx := h.1
  by_cases c : i < L.length
  · obtain ⟨s, an, m, cn, ad, d, cd, s', an', m', cn', ad', d', cd', q0, q1, q2, q3, q4, q5, h4⟩ := h.2 i c
    refine ⟨s, an, m, cn, ad, d, cd, s', an', m', cn', ad', d', cd', ?_, ?_, ?_, ?_, ?_, ?_, ?_⟩
    · rw [List.getElem?_append_left (by omega)]; exact q0
    · rw [List.getElem?_append_left (by omega)]; exact q1
    · rw [List.getElem?_append_left (by omega)]; exact q2
    · rw [List.getElem?_append_left (by omega)]; exact q3
    · rw [List.getElem?_append_left (by omega)]; exact q4
    · rw [List.getElem?_append_left (by omega)]; exact q5
    · have e : (L ++ M).getD i zI = L.getD i zI := by simp [List.getD, List.getElem?_append_left c]
      rw [e]; exact h4
  · obtain ⟨s, an, m, cn, ad, d, cd, s', an', m', cn', ad', d', cd', q0, q1, q2, q3, q4, q5, h4⟩ := g.2 (i - L.length) (by omega)
    refine ⟨s, an, m, cn, ad, d, cd, s', an', m', cn', ad', d', cd', ?_, ?_, ?_, ?_, ?_, ?_, ?_⟩
    · rw [List.getElem?_append_right (by omega), show i * 6 - xs.length = (i - L.length) * 6 by omega]; exact q0
    · rw [List.getElem?_append_right (by omega), show i * 6 + 1 - xs.length = (i - L.length) * 6 + 1 by omega]; exact q1
    · rw [List.getElem?_append_right (by omega), show i * 6 + 2 - xs.length = (i - L.length) * 6 + 2 by omega]; exact q2
    · rw [List.getElem?_append_right (by omega), show i * 6 + 3 - xs.length = (i - L.length) * 6 + 3 by omega]; exact q3
    · rw [List.getElem?_append_right (by omega), show i * 6 + 4 - xs.length = (i - L.length) * 6 + 4 by omega]; exact q4
    · rw [List.getElem?_append_right (by omega), show i * 6 + 5 - xs.length = (i - L.length) * 6 + 5 by omega]; exact q5
    · have e : (L ++ M).getD i zI = M.getD (i - L.length) zI := by simp [List.getD, List.getElem?_append_right (show L.length ≤ i by omega)]
      rw [e]; exact h4
/-- The cells of a list that lies in memory. -/
theorem cellsI_of {w : World} {so : Option Addr} {n c : Nat} {L : List Iv} (h : IvsA w (.slice so n c) L) :
    ∃ xs, CellsI w xs L ∧ (∀ ad, so = some ad → ∀ j u, xs[j]? = some u → w.cell? (ad.add j) = some u) ∧ ∀ u ∈ xs, u.oneCell' = true := by
  obtain ⟨a', n', c', e, hl, -, h⟩ := h
  simp only [Value.slice.injEq] at e
  obtain ⟨rfl, rfl, rfl⟩ := e
  rcases Nat.eq_zero_or_pos n with h0 | h0
  · subst h0
    refine ⟨[], ⟨by rw [hl]; rfl, fun i hi => by omega⟩, fun ad _ j u hu => by simp at hu, fun u hu => by simp at hu⟩
  · obtain ⟨b, off, e⟩ : ∃ b off, so = some ⟨b, off, none⟩ := by
      obtain ⟨b, off, -, -, -, -, -, -, -, -, -, -, -, -, -, -, e, -⟩ := h 0 h0
      exact ⟨b, off, e⟩
    subst e
    have key : ∀ j, j < n * 6 → ∃ u, w.cell? ⟨b, off + j, none⟩ = some u ∧ u.oneCell' = true := by
      intro j hj
      obtain ⟨b', off', s, an, m, cn, ad, d, cd, s', an', m', cn', ad', d', cd', h1, q0, q1, q2, q3, q4, q5, h5⟩ := h (j / 6) (by omega)
      simp only [Option.some.injEq, Addr.mk.injEq, and_true] at h1
      obtain ⟨rfl, rfl⟩ := h1
      have e : j % 6 = 0 ∨ j % 6 = 1 ∨ j % 6 = 2 ∨ j % 6 = 3 ∨ j % 6 = 4 ∨ j % 6 = 5 := by omega
      rcases e with e | e | e | e | e | e
      · rw [show off + j = off + j / 6 * 6 by omega]; exact ⟨_, q0, rfl⟩
      · rw [show off + j = off + j / 6 * 6 + 1 by omega]; exact ⟨_, q1, rfl⟩
      · rw [show off + j = off + j / 6 * 6 + 2 by omega]; exact ⟨_, q2, rfl⟩
      · rw [show off + j = off + j / 6 * 6 + 3 by omega]; exact ⟨_, q3, rfl⟩
      · rw [show off + j = off + j / 6 * 6 + 4 by omega]; exact ⟨_, q4, rfl⟩
      · rw [show off + j = off + j / 6 * 6 + 5 by omega]; exact ⟨_, q5, rfl⟩
    have get : ∀ j, j < n * 6 → ((List.range (n * 6)).map fun j => (w.cell? ⟨b, off + j, none⟩).getD (.bool false))[j]? = w.cell? ⟨b, off + j, none⟩ := by
      intro j hj
      obtain ⟨u, hu, -⟩ := key j hj
      rw [hu]
      simp [List.getElem?_map, List.getElem?_range hj, hu]
    refine ⟨(List.range (n * 6)).map fun j => (w.cell? ⟨b, off + j, none⟩).getD (.bool false), ⟨by simp [hl], fun i hi => ?_⟩, fun ad ha j u hu => ?_, fun u hu => ?_⟩
    · obtain ⟨b', off', s, an, m, cn, ad, d, cd, s', an', m', cn', ad', d', cd', h1, q0, q1, q2, q3, q4, q5, h5⟩ := h i (by omega)
      simp only [Option.some.injEq, Addr.mk.injEq, and_true] at h1
      obtain ⟨rfl, rfl⟩ := h1
      refine ⟨s, an, m, cn, ad, d, cd, s', an', m', cn', ad', d', cd', ?_, ?_, ?_, ?_, ?_, ?_, h5⟩
      · rw [get _ (by omega)]; exact q0
      · rw [get _ (by omega)]; exact q1
      · rw [get _ (by omega)]; exact q2
      · rw [get _ (by omega)]; exact q3
      · rw [get _ (by omega)]; exact q4
      · rw [get _ (by omega)]; exact q5
    · obtain rfl : ad = ⟨b, off, none⟩ := (Option.some.inj ha).symm
      have hj : j < n * 6 := by
        have := (List.getElem?_eq_some_iff.1 hu).1
        simpa using this
      rw [get j hj] at hu
      rw [addr_add]; exact hu
    · obtain ⟨j, hj, rfl⟩ := List.mem_map.1 hu
      obtain ⟨u, hu, h1⟩ := key j (List.mem_range.1 hj)
      rw [hu]; exact h1
/-- A row of the call's own reads as a list of intervals. -/
theorem ivs_own {w : World} {base n : Nat} {v : Value} {xs : List Value} {L : List Iv} (h : w.ownsRow base 27 6 v n xs) (hc : CellsI w xs L) (hn : L.length = n) (hb : n ≤ 100000) : IvsA w v L := by
  rcases h.2 with ⟨rfl, rfl⟩ | ⟨g, cap, cur, rfl, -⟩
  · exact ⟨none, 0, 0, rfl, hn, hb, fun i hi => by omega⟩
  · refine ⟨some ⟨g, 0, none⟩, n, cap, rfl, hn, hb, fun i hi => ?_⟩
    obtain ⟨s, an, m, cn, ad, d, cd, s', an', m', cn', ad', d', cd', q0, q1, q2, q3, q4, q5, h4⟩ := hc.2 i (by omega)
    have k := h.cells (g := g) rfl
    have k0 := k _ _ q0
    have k1 := k _ _ q1
    have k2 := k _ _ q2
    have k3 := k _ _ q3
    have k4 := k _ _ q4
    have k5 := k _ _ q5
    rw [addr_add] at k0 k1 k2 k3 k4 k5
    rw [← Nat.add_assoc] at k1
    rw [← Nat.add_assoc] at k2
    rw [← Nat.add_assoc] at k3
    rw [← Nat.add_assoc] at k4
    rw [← Nat.add_assoc] at k5
    exact ⟨g, 0, s, an, m, cn, ad, d, cd, s', an', m', cn', ad', d', cd', rfl, k0, k1, k2, k3, k4, k5, h4⟩
theorem put6_size {w : World} {g : Nat} (u0 u1 u2 u3 u4 u5 : Value) : (put6 w g u0 u1 u2 u3 u4 u5).heap.size = w.heap.size := by
  unfold put6; simp [World.setCell]
theorem Tab.put6 {w : World} {g : Nat} {b : Bool} {an : Option Addr} {n cn : Nat} {ad : Option Addr} {d cd : Nat} {b' : Bool} {an' : Option Addr} {n' cn' : Nat} {ad' : Option Addr} {d' cd' : Nat} (h : Tab w) (hB : Box6 w g b an n cn ad d cd b' an' n' cn' ad' d' cd') (u0 u1 u2 u3 u4 u5 : Value) : Tab (Go.Proofs.YtifpfoeecnkhoaaGreatDoor.put6 w g u0 u1 u2 u3 u4 u5) := by
  refine ⟨by rw [put6_size]; exact h.1, fun j hj => ?_⟩
  have hk : 0 ≠ g := by
    rintro rfl
    exact hB.not_int _ _ _ (h.2 j hj)
  rw [cell_other (fun k hk => put6_other u0 u1 u2 u3 u4 u5 hk) _ hk]
  exact h.2 j hj
end Go.Proofs.YtifpfoeecnkhoaaGreatDoor

namespace Go.Proofs.YtifpfoeecnkhoaaGreatDoor
open Go.RowKit NatM Go.Proofs.YtifpfoeecnkhoaaGreatDoor.Api

section
variable {w : World} {g : Nat} {b : Bool} {an : Option Addr} {n cn : Nat} {ad : Option Addr} {d cd : Nat} {b' : Bool} {an' : Option Addr} {n' cn' : Nat} {ad' : Option Addr} {d' cd' : Nat}
theorem Nv.put6 {v : Value} {N : Nat} (h : Nv w v N) (hB : Box6 w g b an n cn ad d cd b' an' n' cn' ad' d' cd') (u0 u1 u2 u3 u4 u5 : Value) : Nv (Go.Proofs.YtifpfoeecnkhoaaGreatDoor.put6 w g u0 u1 u2 u3 u4 u5) v N := by
  obtain ⟨zs, h1, h2⟩ := h; exact ⟨zs, Reads.put6 h1 hB u0 u1 u2 u3 u4 u5, h2⟩
theorem FracA.put6 {v : Value} {x : Tri} (h : FracA w v x) (hB : Box6 w g b an n cn ad d cd b' an' n' cn' ad' d' cd') (u0 u1 u2 u3 u4 u5 : Value) : FracA (Go.Proofs.YtifpfoeecnkhoaaGreatDoor.put6 w g u0 u1 u2 u3 u4 u5) v x := by
  obtain ⟨a1, l1, k1, a2, l2, k2, h1, h2, h3⟩ := h; exact ⟨a1, l1, k1, a2, l2, k2, h1, Nv.put6 h2 hB u0 u1 u2 u3 u4 u5, Nv.put6 h3 hB u0 u1 u2 u3 u4 u5⟩
theorem IvA.put6 {v : Value} {x : Iv} (h : IvA w v x) (hB : Box6 w g b an n cn ad d cd b' an' n' cn' ad' d' cd') (u0 u1 u2 u3 u4 u5 : Value) : IvA (Go.Proofs.YtifpfoeecnkhoaaGreatDoor.put6 w g u0 u1 u2 u3 u4 u5) v x := by
  obtain ⟨a1, a2, a3, a4, a5, a6, a7, a8, a9, b1, b2, b3, h0, h1, h2, h3, h4⟩ := h
  exact ⟨a1, a2, a3, a4, a5, a6, a7, a8, a9, b1, b2, b3, h0, Nv.put6 h1 hB u0 u1 u2 u3 u4 u5, Nv.put6 h2 hB u0 u1 u2 u3 u4 u5, Nv.put6 h3 hB u0 u1 u2 u3 u4 u5, Nv.put6 h4 hB u0 u1 u2 u3 u4 u5⟩
theorem Box.other6 {k : Nat} {s : Bool} {p : Option Addr} {m c : Nat} {q : Option Addr} {m2 c2 : Nat} (h : Box w k s p m c q m2 c2) (hk : k ≠ g) (u0 u1 u2 u3 u4 u5 : Value) : Box (Go.Proofs.YtifpfoeecnkhoaaGreatDoor.put6 w g u0 u1 u2 u3 u4 u5) k s p m c q m2 c2 := (put6_other u0 u1 u2 u3 u4 u5 hk).trans h
end
theorem not_both {a b : Bool} (c : ¬ (a = true ∧ b = true)) : a = false ∨ b = false := by
  cases a <;> cases b <;> simp_all
theorem addAll (p : Iv × Nat) {v v' : Value} {a b : Iv} {w : World} (ha : IvA w v a) (hb : IvA w v' b) (hT : Tab w) (l : Hid (LimI a ∧ LimI b)) (hp : Hid (addI a b = p)) : Calls Tryz.prog 8 #[v, v'] w (ResI w p) := by
  have e := hp.out
  by_cases c : okI a = true ∧ okI b = true
  · have za := l.out.1.sz c.1
    have zb := l.out.2.sz c.2
    have g := addI_sz za zb c.1 c.2 (by decide)
    rw [g.1] at e
    subst e
    exact addIN_works (can (qv a.1 + qv b.1)).1 (can (qv a.1 + qv b.1)).2.1 (can (qv a.1 + qv b.1)).2.2 (can (qv a.2 + qv b.2)).1 (can (qv a.2 + qv b.2)).2.1 (can (qv a.2 + qv b.2)).2.2 ha hb hT (Lib.hid c) (Lib.hid (add_sz za.1 zb.1 (by decide)).1) (Lib.hid (add_sz za.2 zb.2 (by decide)).1)
  · have e2 : addI a b = (zI, 1) := by unfold addI; rw [if_neg c]
    rw [e2] at e
    subst e
    exact addIN_refuses ha hb (Lib.hid (not_both c))
theorem subAll (p : Iv × Nat) {v v' : Value} {a b : Iv} {w : World} (ha : IvA w v a) (hb : IvA w v' b) (hT : Tab w) (l : Hid (LimI a ∧ LimI b)) (hp : Hid (subI a b = p)) : Calls Tryz.prog 11 #[v, v'] w (ResI w p) := by
  have e := hp.out
  by_cases c : okI a = true ∧ okI b = true
  · have za := l.out.1.sz c.1
    have zb := l.out.2.sz c.2
    have g := subI_sz za zb c.1 c.2 (by decide)
    rw [g.1] at e
    subst e
    exact subIN_works (can (qv a.1 - qv b.2)).1 (can (qv a.1 - qv b.2)).2.1 (can (qv a.1 - qv b.2)).2.2 (can (qv a.2 - qv b.1)).1 (can (qv a.2 - qv b.1)).2.1 (can (qv a.2 - qv b.1)).2.2 ha hb hT (Lib.hid c) (Lib.hid (sub_sz za.1 zb.2 (by decide)).1) (Lib.hid (sub_sz za.2 zb.1 (by decide)).1)
  · have e2 : subI a b = (zI, 1) := by unfold subI; rw [if_neg c]
    rw [e2] at e
    subst e
    exact subIN_refuses ha hb (Lib.hid (not_both c))
theorem mulAll (p : Iv × Nat) {v v' : Value} {a b : Iv} {w : World} (ha : IvA w v a) (hb : IvA w v' b) (hT : Tab w) (l : Hid (LimI a ∧ LimI b)) (hp : Hid (mulI a b = p)) : Calls Tryz.prog 13 #[v, v'] w (ResI w p) := by
  have e := hp.out
  by_cases c : okI a = true ∧ okI b = true
  · have za := l.out.1.sz c.1
    have zb := l.out.2.sz c.2
    have e2 : mulI a b = ((can (lo4 a b), can (hi4 a b)), 0) := by unfold mulI; rw [if_pos c]
    rw [e2] at e
    subst e
    exact mulIN_works 12 12 _ ha hb hT (Lib.hid c) (Lib.hid ⟨za, zb, by decide⟩) (Lib.hid rfl)
  · have e2 : mulI a b = (zI, 1) := by unfold mulI; rw [if_neg c]
    rw [e2] at e
    subst e
    exact mulIN_refuses ha hb (Lib.hid (not_both c))
theorem scaAll (p : Iv × Nat) {v v' : Value} {x : Tri} {a : Iv} {w : World} (hx : FracA w v x) (ha : IvA w v' a) (hT : Tab w) (l : Hid ((x.2.1 < pw 12 ∧ x.2.2 < pw 12) ∧ LimI a)) (hp : Hid (scaI x a = p)) : Calls Tryz.prog 15 #[v, v'] w (ResI w p) := by
  have e := hp.out
  by_cases c : okF x = true ∧ okI a = true
  · have zx := ok_sz c.1 l.out.1.1 l.out.1.2
    have za := l.out.2.sz c.2
    have e2 : scaI x a = ((can (lo2 (qv x) (qv a.1) (qv a.2)), can (hi2 (qv x) (qv a.1) (qv a.2))), 0) := by unfold scaI; rw [if_pos c]
    rw [e2] at e
    subst e
    exact scaleN_works (can (lo2 (qv x) (qv a.1) (qv a.2))).1 (can (lo2 (qv x) (qv a.1) (qv a.2))).2.1 (can (lo2 (qv x) (qv a.1) (qv a.2))).2.2 (can (hi2 (qv x) (qv a.1) (qv a.2))).1 (can (hi2 (qv x) (qv a.1) (qv a.2))).2.1 (can (hi2 (qv x) (qv a.1) (qv a.2))).2.2 hx ha hT (Lib.hid c) (Lib.hid (mul_sz zx za.1 (by decide)).1) (Lib.hid (mul_sz zx za.2 (by decide)).1) (Lib.hid rfl)
  · have e2 : scaI x a = (zI, 1) := by unfold scaI; rw [if_neg c]
    rw [e2] at e
    subst e
    exact scaleN_refuses hx ha (Lib.hid (not_both c))
theorem meetAll (p : Iv × Bool) {v v' : Value} {a b : Iv} {w : World} (ha : IvA w v a) (hb : IvA w v' b) (hT : Tab w) (hp : Hid (meetI a b = p)) : Calls Tryz.prog 17 #[v, v'] w (ResB w p) := by
  by_cases c : okI a = true ∧ okI b = true
  · exact meet_region ha hb hT (Lib.hid c) p hp
  · have e := hp.out
    have e2 : meetI a b = (zI, false) := by unfold meetI; rw [if_neg (fun g => c ⟨g.1, g.2.1⟩)]
    rw [e2] at e
    subst e
    exact meetIN_refuses ha hb (Lib.hid (not_both c))
theorem widAll (p : Tri × Nat) {v : Value} {a : Iv} {w : World} (ha : IvA w v a) (hT : Tab w) (hp : Hid (widI a = p)) : Calls Tryz.prog 19 #[v] w (ResF w p) := by
  have e := hp.out
  by_cases c : okI a = true
  · have e2 : widI a = subF a.2 a.1 := by unfold widI; rw [if_pos c]
    rw [e2] at e
    exact widIN_works p ha hT (Lib.hid c) (Lib.hid e)
  · have e2 : widI a = ((false, 0, 0), 1) := by unfold widI; rw [if_neg c]
    rw [e2] at e
    subst e
    exact widIN_refuses ha (Lib.hid (by simpa using c))
theorem ptAll (p : Iv × Nat) {v : Value} {x : Tri} {w : World} (hx : FracA w v x) (hT : Tab w) (hp : Hid (ptI x = p)) : Calls Tryz.prog 21 #[v] w (ResI w p) := by
  have e := hp.out
  by_cases c : okF x = true
  · have e2 : ptI x = ((can (qv x), can (qv x)), 0) := by unfold ptI; rw [if_pos c]
    rw [e2] at e
    subst e
    exact pointN_works (can (qv x)).1 (can (qv x)).2.1 (can (qv x)).2.2 hx hT (Lib.hid c) (Lib.hid rfl)
  · have e2 : ptI x = (zI, 1) := by unfold ptI; rw [if_neg c]
    rw [e2] at e
    subst e
    exact pointN_refuses hx (Lib.hid (by simpa using c))
theorem refAddAll (p : Iv × Nat) {v v' : Value} {a b : Iv} {w : World} (ha : IvA w v a) (hb : IvA w v' b) (l : Hid (LimI a ∧ LimI b)) (hp : Hid (addI a b = p)) : Calls Tryz.prog 9 #[v, v'] w (ResI w p) := by
  have e := hp.out
  by_cases c : okI a = true ∧ okI b = true
  · have za := l.out.1.sz c.1
    have zb := l.out.2.sz c.2
    have g := addI_sz za zb c.1 c.2 (by decide)
    rw [g.1] at e
    subst e
    exact refAddIN_works (can (qv a.1 + qv b.1)).1 (can (qv a.1 + qv b.1)).2.1 (can (qv a.1 + qv b.1)).2.2 (can (qv a.2 + qv b.2)).1 (can (qv a.2 + qv b.2)).2.1 (can (qv a.2 + qv b.2)).2.2 ha hb (Lib.hid c) (Lib.hid (add_sz za.1 zb.1 (by decide)).1) (Lib.hid (add_sz za.2 zb.2 (by decide)).1)
  · have e2 : addI a b = (zI, 1) := by unfold addI; rw [if_neg c]
    rw [e2] at e
    subst e
    exact refAddIN_refuses ha hb (Lib.hid (not_both c))
theorem refSubAll (p : Iv × Nat) {v v' : Value} {a b : Iv} {w : World} (ha : IvA w v a) (hb : IvA w v' b) (l : Hid (LimI a ∧ LimI b)) (hp : Hid (subI a b = p)) : Calls Tryz.prog 12 #[v, v'] w (ResI w p) := by
  have e := hp.out
  by_cases c : okI a = true ∧ okI b = true
  · have za := l.out.1.sz c.1
    have zb := l.out.2.sz c.2
    have g := subI_sz za zb c.1 c.2 (by decide)
    rw [g.1] at e
    subst e
    exact refSubIN_works (can (qv a.1 - qv b.2)).1 (can (qv a.1 - qv b.2)).2.1 (can (qv a.1 - qv b.2)).2.2 (can (qv a.2 - qv b.1)).1 (can (qv a.2 - qv b.1)).2.1 (can (qv a.2 - qv b.1)).2.2 ha hb (Lib.hid c) (Lib.hid (sub_sz za.1 zb.2 (by decide)).1) (Lib.hid (sub_sz za.2 zb.1 (by decide)).1)
  · have e2 : subI a b = (zI, 1) := by unfold subI; rw [if_neg c]
    rw [e2] at e
    subst e
    exact refSubIN_refuses ha hb (Lib.hid (not_both c))
theorem refMulAll (p : Iv × Nat) {v v' : Value} {a b : Iv} {w : World} (ha : IvA w v a) (hb : IvA w v' b) (l : Hid (LimI a ∧ LimI b)) (hp : Hid (mulI a b = p)) : Calls Tryz.prog 14 #[v, v'] w (ResI w p) := by
  have e := hp.out
  by_cases c : okI a = true ∧ okI b = true
  · have za := l.out.1.sz c.1
    have zb := l.out.2.sz c.2
    have e2 : mulI a b = ((can (lo4 a b), can (hi4 a b)), 0) := by unfold mulI; rw [if_pos c]
    rw [e2] at e
    subst e
    exact refMulIN_works 12 12 (can (lo4 a b)).1 (can (lo4 a b)).2.1 (can (lo4 a b)).2.2 (can (hi4 a b)).1 (can (hi4 a b)).2.1 (can (hi4 a b)).2.2 ha hb (Lib.hid c) (Lib.hid ⟨za, zb, by decide⟩) (Lib.hid rfl)
  · have e2 : mulI a b = (zI, 1) := by unfold mulI; rw [if_neg c]
    rw [e2] at e
    subst e
    exact refMulIN_refuses ha hb (Lib.hid (not_both c))
theorem refScaAll (p : Iv × Nat) {v v' : Value} {x : Tri} {a : Iv} {w : World} (hx : FracA w v x) (ha : IvA w v' a) (l : Hid ((x.2.1 < pw 12 ∧ x.2.2 < pw 12) ∧ LimI a)) (hp : Hid (scaI x a = p)) : Calls Tryz.prog 16 #[v, v'] w (ResI w p) := by
  have e := hp.out
  by_cases c : okF x = true ∧ okI a = true
  · have zx := ok_sz c.1 l.out.1.1 l.out.1.2
    have za := l.out.2.sz c.2
    have e2 : scaI x a = ((can (lo2 (qv x) (qv a.1) (qv a.2)), can (hi2 (qv x) (qv a.1) (qv a.2))), 0) := by unfold scaI; rw [if_pos c]
    rw [e2] at e
    subst e
    exact refScaleN_works 12 12 (can (lo2 (qv x) (qv a.1) (qv a.2))).1 (can (lo2 (qv x) (qv a.1) (qv a.2))).2.1 (can (lo2 (qv x) (qv a.1) (qv a.2))).2.2 (can (hi2 (qv x) (qv a.1) (qv a.2))).1 (can (hi2 (qv x) (qv a.1) (qv a.2))).2.1 (can (hi2 (qv x) (qv a.1) (qv a.2))).2.2 hx ha (Lib.hid c) (Lib.hid ⟨zx, za, by decide⟩) (Lib.hid rfl)
  · have e2 : scaI x a = (zI, 1) := by unfold scaI; rw [if_neg c]
    rw [e2] at e
    subst e
    exact refScaleN_refuses hx ha (Lib.hid (not_both c))
theorem refMeetAll (p : Iv × Bool) {v v' : Value} {a b : Iv} {w : World} (ha : IvA w v a) (hb : IvA w v' b) (hp : Hid (meetI a b = p)) : Calls Tryz.prog 18 #[v, v'] w (ResB w p) := by
  by_cases c : okI a = true ∧ okI b = true
  · exact refMeetIN_works p ha hb (Lib.hid c) hp
  · have e := hp.out
    have e2 : meetI a b = (zI, false) := by unfold meetI; rw [if_neg (fun g => c ⟨g.1, g.2.1⟩)]
    rw [e2] at e
    subst e
    exact refMeetIN_refuses ha hb (Lib.hid (not_both c))
theorem refWidAll (p : Tri × Nat) {v : Value} {a : Iv} {w : World} (ha : IvA w v a) (hp : Hid (widI a = p)) : Calls Tryz.prog 20 #[v] w (ResF w p) := by
  have e := hp.out
  by_cases c : okI a = true
  · have e2 : widI a = subF a.2 a.1 := by unfold widI; rw [if_pos c]
    rw [e2] at e
    exact refWidIN_works p ha (Lib.hid c) (Lib.hid e)
  · have e2 : widI a = ((false, 0, 0), 1) := by unfold widI; rw [if_neg c]
    rw [e2] at e
    subst e
    exact refWidIN_refuses ha (Lib.hid (by simpa using c))
theorem refPtAll (p : Iv × Nat) {v : Value} {x : Tri} {w : World} (hx : FracA w v x) (hp : Hid (ptI x = p)) : Calls Tryz.prog 22 #[v] w (ResI w p) := by
  have e := hp.out
  by_cases c : okF x = true
  · have e2 : ptI x = ((can (qv x), can (qv x)), 0) := by unfold ptI; rw [if_pos c]
    rw [e2] at e
    subst e
    exact refPointN_works (can (qv x)).1 (can (qv x)).2.1 (can (qv x)).2.2 hx (Lib.hid (redF_ok c))
  · have e2 : ptI x = (zI, 1) := by unfold ptI; rw [if_neg c]
    rw [e2] at e
    subst e
    exact refPointN_refuses hx (Lib.hid (by unfold redF; rw [if_neg c]))
end Go.Proofs.YtifpfoeecnkhoaaGreatDoor

namespace Go.Proofs.YtifpfoeecnkhoaaGreatDoor.IvExaL
open Go.Proofs.YtifpfoeecnkhoaaGreatDoor Go.RowKit NatM Go.Proofs.YtifpfoeecnkhoaaGreatDoor.Api

theorem startXYZ (w : World) (b : Bool) (an : Option Addr) (n cn : Nat) (ad : Option Addr) (d cd : Nat) (b' : Bool) (an' : Option Addr) (n' cn' : Nat) (ad' : Option Addr) (d' cd' : Nat) (b2 : Bool) (an2 : Option Addr) (n2 cn2 : Nat) (ad2 : Option Addr) (d2 cd2 : Nat) (b3 : Bool) (an3 : Option Addr) (n3 cn3 : Nat) (ad3 : Option Addr) (d3 cd3 : Nat) (b4 : Bool) (an4 : Option Addr) (n4 cn4 : Nat) (ad4 : Option Addr) (d4 cd4 : Nat) :
    Add w (((w.alloc (.cells #[.bool b, .slice an n cn, .slice ad d cd, .bool b', .slice an' n' cn', .slice ad' d' cd'] 27)).alloc (.cells #[.bool b2, .slice an2 n2 cn2, .slice ad2 d2 cd2, .bool b3, .slice an3 n3 cn3, .slice ad3 d3 cd3] 27)).alloc (.cells #[.bool b4, .slice an4 n4 cn4, .slice ad4 d4 cd4] 25)) ∧ Box6 (((w.alloc (.cells #[.bool b, .slice an n cn, .slice ad d cd, .bool b', .slice an' n' cn', .slice ad' d' cd'] 27)).alloc (.cells #[.bool b2, .slice an2 n2 cn2, .slice ad2 d2 cd2, .bool b3, .slice an3 n3 cn3, .slice ad3 d3 cd3] 27)).alloc (.cells #[.bool b4, .slice an4 n4 cn4, .slice ad4 d4 cd4] 25)) w.heap.size b an n cn ad d cd b' an' n' cn' ad' d' cd' ∧ Box6 (((w.alloc (.cells #[.bool b, .slice an n cn, .slice ad d cd, .bool b', .slice an' n' cn', .slice ad' d' cd'] 27)).alloc (.cells #[.bool b2, .slice an2 n2 cn2, .slice ad2 d2 cd2, .bool b3, .slice an3 n3 cn3, .slice ad3 d3 cd3] 27)).alloc (.cells #[.bool b4, .slice an4 n4 cn4, .slice ad4 d4 cd4] 25)) (w.heap.size + 1) b2 an2 n2 cn2 ad2 d2 cd2 b3 an3 n3 cn3 ad3 d3 cd3 ∧ Box (((w.alloc (.cells #[.bool b, .slice an n cn, .slice ad d cd, .bool b', .slice an' n' cn', .slice ad' d' cd'] 27)).alloc (.cells #[.bool b2, .slice an2 n2 cn2, .slice ad2 d2 cd2, .bool b3, .slice an3 n3 cn3, .slice ad3 d3 cd3] 27)).alloc (.cells #[.bool b4, .slice an4 n4 cn4, .slice ad4 d4 cd4] 25)) (w.heap.size + 1 + 1) b4 an4 n4 cn4 ad4 d4 cd4 :=
  ⟨Add.trans (Add.trans (add_new _ _) (add_new _ _)) (add_new _ _), ((box6_new ..).mono (add_new _ _)).mono (add_new _ _), (Box6.cells (by simp)).mono (add_new _ _), Box.cells (by simp)⟩
theorem ivsTwo {w : World} {g : Nat} {i j : Iv} {b : Bool} {an : Option Addr} {n cn : Nat} {ad : Option Addr} {d cd : Nat} {b' : Bool} {an' : Option Addr} {n' cn' : Nat} {ad' : Option Addr} {d' cd' : Nat} {b2 : Bool} {an2 : Option Addr} {n2 cn2 : Nat} {ad2 : Option Addr} {d2 cd2 : Nat} {b3 : Bool} {an3 : Option Addr} {n3 cn3 : Nat} {ad3 : Option Addr} {d3 cd3 : Nat} (hi : IvA w (.agg #[.bool b, .slice an n cn, .slice ad d cd, .bool b', .slice an' n' cn', .slice ad' d' cd']) i) (hj : IvA w (.agg #[.bool b2, .slice an2 n2 cn2, .slice ad2 d2 cd2, .bool b3, .slice an3 n3 cn3, .slice ad3 d3 cd3]) j) (hg : w.heap.size = g) :
    IvsA (w.alloc (.cells #[.bool b, .slice an n cn, .slice ad d cd, .bool b', .slice an' n' cn', .slice ad' d' cd', .bool b2, .slice an2 n2 cn2, .slice ad2 d2 cd2, .bool b3, .slice an3 n3 cn3, .slice ad3 d3 cd3] 27)) (.slice (some ⟨g, 0, none⟩) 2 2) [i, j] := by
  subst hg
  refine ⟨_, 2, 2, rfl, rfl, by decide, fun k hk => ?_⟩
  have e : k = 0 ∨ k = 1 := by omega
  rcases e with rfl | rfl
  · refine ⟨w.heap.size, 0, b, an, n, cn, ad, d, cd, b', an', n', cn', ad', d', cd', rfl, ?_, ?_, ?_, ?_, ?_, ?_, hi.mono (add_new _ _)⟩ <;> rw [World.cell?_alloc_new] <;> rfl
  · refine ⟨w.heap.size, 0, b2, an2, n2, cn2, ad2, d2, cd2, b3, an3, n3, cn3, ad3, d3, cd3, rfl, ?_, ?_, ?_, ?_, ?_, ?_, hj.mono (add_new _ _)⟩ <;> rw [World.cell?_alloc_new] <;> rfl
theorem frac12 {w : World} {v : Value} {z : FrL} (h : FracI w v z.1 z.2.1 z.2.2) (h1 : ¬ 12 < z.2.1.length) (h2 : ¬ 12 < z.2.2.length) : FracA w v (triOf z) := by
  obtain ⟨a1, l1, k1, a2, l2, k2, rfl, r1, r2⟩ := h
  exact ⟨a1, l1, k1, a2, l2, k2, rfl, ⟨_, r1, rfl, by omega⟩, ⟨_, r2, rfl, by omega⟩⟩
theorem frac12_lim {w : World} {v : Value} {z : FrL} (h : FracI w v z.1 z.2.1 z.2.2) (h1 : ¬ 12 < z.2.1.length) (h2 : ¬ 12 < z.2.2.length) : (triOf z).2.1 < pw 12 ∧ (triOf z).2.2 < pw 12 := by
  obtain ⟨a1, l1, k1, a2, l2, k2, rfl, r1, r2⟩ := h
  exact ⟨Nat.lt_of_lt_of_le (val_lt r1.limbs) (pw_le (by omega)), Nat.lt_of_lt_of_le (val_lt r2.limbs) (pw_le (by omega))⟩

/-- Results of which all parts have names. -/
def GenI (w : World) (s1 : Bool) (N1 D1 : Nat) (s2 : Bool) (N2 D2 c : Nat) (e : Ending) (w' : World) : Prop := ∃ a1 n1 k1 e1 d1 l1 a2 m2 k2 e2 d4 l2, e = .returned (.tuple #[.agg #[.bool s1, .slice a1 n1 k1, .slice e1 d1 l1, .bool s2, .slice a2 m2 k2, .slice e2 d4 l2], .int .i64 (c : Nat)]) ∧ Num w' (.slice a1 n1 k1) N1 ∧ Num w' (.slice e1 d1 l1) D1 ∧ Num w' (.slice a2 m2 k2) N2 ∧ Num w' (.slice e2 d4 l2) D2 ∧ Add w w'
theorem genI {w : World} {s1 : Bool} {N1 D1 : Nat} {s2 : Bool} {N2 D2 c : Nat} {e : Ending} {w' : World} (h : ResI w (((s1, N1, D1), (s2, N2, D2)), c) e w') : GenI w s1 N1 D1 s2 N2 D2 c e w' := by
  obtain ⟨v, rfl, ⟨a1, a2, a3, a4, a5, a6, a7, a8, a9, b1, b2, b3, rfl, g1, g2, g3, g4⟩, T⟩ := h
  exact ⟨a1, a2, a3, a4, a5, a6, a7, a8, a9, b1, b2, b3, rfl, g1, g2, g3, g4, T⟩
def GenB (w : World) (s1 : Bool) (N1 D1 : Nat) (s2 : Bool) (N2 D2 : Nat) (c : Bool) (e : Ending) (w' : World) : Prop := ∃ a1 n1 k1 e1 d1 l1 a2 m2 k2 e2 d4 l2, e = .returned (.tuple #[.agg #[.bool s1, .slice a1 n1 k1, .slice e1 d1 l1, .bool s2, .slice a2 m2 k2, .slice e2 d4 l2], .bool c]) ∧ Num w' (.slice a1 n1 k1) N1 ∧ Num w' (.slice e1 d1 l1) D1 ∧ Num w' (.slice a2 m2 k2) N2 ∧ Num w' (.slice e2 d4 l2) D2 ∧ Add w w'
theorem genB {w : World} {s1 : Bool} {N1 D1 : Nat} {s2 : Bool} {N2 D2 : Nat} {c : Bool} {e : Ending} {w' : World} (h : ResB w (((s1, N1, D1), (s2, N2, D2)), c) e w') : GenB w s1 N1 D1 s2 N2 D2 c e w' := by
  obtain ⟨v, rfl, ⟨a1, a2, a3, a4, a5, a6, a7, a8, a9, b1, b2, b3, rfl, g1, g2, g3, g4⟩, T⟩ := h
  exact ⟨a1, a2, a3, a4, a5, a6, a7, a8, a9, b1, b2, b3, rfl, g1, g2, g3, g4, T⟩
def GenF (w : World) (s : Bool) (N D c : Nat) (e : Ending) (w' : World) : Prop := ∃ a n k a' n' k', e = .returned (.tuple #[.agg #[.bool s, .slice a n k, .slice a' n' k'], .int .i64 (c : Nat)]) ∧ Num w' (.slice a n k) N ∧ Num w' (.slice a' n' k') D ∧ Add w w'
theorem genF {w : World} {s : Bool} {N D c : Nat} {e : Ending} {w' : World} (g : ResF w ((s, N, D), c) e w') : GenF w s N D c e w' := by
  obtain ⟨v, rfl, ⟨a, n, k, a', n', k', rfl, h1, h2⟩, h3⟩ := g
  exact ⟨a, n, k, a', n', k', rfl, h1, h2, h3⟩
set_option maxRecDepth 100000 in
set_option maxHeartbeats 20000000 in
theorem long_case {v v' u : Value} {x y : IvL} {z : FrL} (w : World) (hx : IvI w v x) (hy : IvI w v' y) (hu : FracI w u z.1 z.2.1 z.2.2) (hT : Tab w) (hl : (longE x || longE y) = true) : Calls Tryz.prog 3 #[v, v', u] w (LawP w) := by
  have hu0 := hu
  obtain ⟨an, n, cn, ad, d, cd, an', n', cn', ad', d', cd', rfl, i1, i2, i3, i4⟩ := hx
  obtain ⟨an2, n2, cn2, ad2, d2, cd2, an3, n3, cn3, ad3, d3, cd3, rfl, j1, j2, j3, j4⟩ := hy
  obtain ⟨an4, n4, cn4, ad4, d4, cd4, rfl, u1, u2⟩ := hu
  obtain ⟨T, hA, hB, hX⟩ := startXYZ w x.1.1 an n cn ad d cd x.2.1 an' n' cn' ad' d' cd' y.1.1 an2 n2 cn2 ad2 d2 cd2 y.2.1 an3 n3 cn3 ad3 d3 cd3 z.1 an4 n4 cn4 ad4 d4 cd4
  obtain ⟨W0, hW0⟩ : ∃ W0, W0 = (((w.alloc (.cells #[.bool x.1.1, .slice an n cn, .slice ad d cd, .bool x.2.1, .slice an' n' cn', .slice ad' d' cd'] 27)).alloc (.cells #[.bool y.1.1, .slice an2 n2 cn2, .slice ad2 d2 cd2, .bool y.2.1, .slice an3 n3 cn3, .slice ad3 d3 cd3] 27)).alloc (.cells #[.bool z.1, .slice an4 n4 cn4, .slice ad4 d4 cd4] 25)) := ⟨_, rfl⟩
  rw [← hW0] at T hA hB hX
  have CL := Lib.hid (longI2 true (w := W0) (b := x.1.1) (b' := x.2.1) (b2 := y.1.1) (b3 := y.2.1) (w.heap.size + 1 + 1 + 1) (i1.mono T) (i2.mono T) (i3.mono T) (i4.mono T) (j1.mono T) (j2.mono T) (j3.mono T) (j4.mono T) (by rw [hW0]; simp) (Lib.hid hl))
  have TL : Add W0 (W0.alloc (.cells #[.bool x.1.1, .slice an n cn, .slice ad d cd, .bool x.2.1, .slice an' n' cn', .slice ad' d' cd', .bool y.1.1, .slice an2 n2 cn2, .slice ad2 d2 cd2, .bool y.2.1, .slice an3 n3 cn3, .slice ad3 d3 cd3] 27)) := add_new _ _
  have hA0 := hA
  have hB0 := hB
  replace hA := hA.mono TL
  replace hB := hB.mono TL
  replace hX := hX.mono TL
  replace hT := (hT.mono T).mono TL
  replace T := Add.trans T TL
  have e1 : n4 = z.2.1.length := u1.lenV
  have e2 : d4 = z.2.2.length := u2.lenV
  have ca0 := hA0.c0
  have ca1 := hA0.c1
  have ca2 := hA0.c2
  have ca3 := hA0.c3
  have ca4 := hA0.c4
  have ca5 := hA0.c5
  have cb0 := hB0.c0
  have cb1 := hB0.c1
  have cb2 := hB0.c2
  have cb3 := hB0.c3
  have cb4 := hB0.c4
  have cb5 := hB0.c5
  rw [hW0] at ca0 ca1 ca2 ca3 ca4 ca5 cb0 cb1 cb2 cb3 cb4 cb5
  clear e1 e2
  go_enter Tryz.func3, Tryz.ntmps3
  go_wp2_with fail
  rw [← hW0]
  refine CL.out.mono ?_
  rintro e w9 ⟨rfl, rfl⟩
  clear CL TL hW0 hl hA0 hB0 ca0 ca1 ca2 ca3 ca4 ca5 cb0 cb1 cb2 cb3 cb4 cb5 hA hB hX hu0 i1 i2 i3 i4 j1 j2 j3 j4 u1 u2
  go_wp2_with fail
  refine (awake3_any _ hT).mono ?_
  rintro e wz9 ⟨rfl, hz9⟩
  replace T := Add.trans T hz9
  clear hz9 hT
  go_wp2_with fail
  go_ret
  exact ⟨rfl, T⟩
set_option maxRecDepth 100000 in
set_option maxHeartbeats 20000000 in
theorem longN {v v' u : Value} {x y : IvL} {z : FrL} (w : World) (hx : IvI w v x) (hy : IvI w v' y) (hu : FracI w u z.1 z.2.1 z.2.2) (hT : Tab w) (hl : (longE x || longE y) = false) (h12 : 12 < z.2.1.length) : Calls Tryz.prog 3 #[v, v', u] w (LawP w) := by
  have hu0 := hu
  obtain ⟨an, n, cn, ad, d, cd, an', n', cn', ad', d', cd', rfl, i1, i2, i3, i4⟩ := hx
  obtain ⟨an2, n2, cn2, ad2, d2, cd2, an3, n3, cn3, ad3, d3, cd3, rfl, j1, j2, j3, j4⟩ := hy
  obtain ⟨an4, n4, cn4, ad4, d4, cd4, rfl, u1, u2⟩ := hu
  obtain ⟨T, hA, hB, hX⟩ := startXYZ w x.1.1 an n cn ad d cd x.2.1 an' n' cn' ad' d' cd' y.1.1 an2 n2 cn2 ad2 d2 cd2 y.2.1 an3 n3 cn3 ad3 d3 cd3 z.1 an4 n4 cn4 ad4 d4 cd4
  obtain ⟨W0, hW0⟩ : ∃ W0, W0 = (((w.alloc (.cells #[.bool x.1.1, .slice an n cn, .slice ad d cd, .bool x.2.1, .slice an' n' cn', .slice ad' d' cd'] 27)).alloc (.cells #[.bool y.1.1, .slice an2 n2 cn2, .slice ad2 d2 cd2, .bool y.2.1, .slice an3 n3 cn3, .slice ad3 d3 cd3] 27)).alloc (.cells #[.bool z.1, .slice an4 n4 cn4, .slice ad4 d4 cd4] 25)) := ⟨_, rfl⟩
  rw [← hW0] at T hA hB hX
  have CL := Lib.hid (longI2 false (w := W0) (b := x.1.1) (b' := x.2.1) (b2 := y.1.1) (b3 := y.2.1) (w.heap.size + 1 + 1 + 1) (i1.mono T) (i2.mono T) (i3.mono T) (i4.mono T) (j1.mono T) (j2.mono T) (j3.mono T) (j4.mono T) (by rw [hW0]; simp) (Lib.hid hl))
  have TL : Add W0 (W0.alloc (.cells #[.bool x.1.1, .slice an n cn, .slice ad d cd, .bool x.2.1, .slice an' n' cn', .slice ad' d' cd', .bool y.1.1, .slice an2 n2 cn2, .slice ad2 d2 cd2, .bool y.2.1, .slice an3 n3 cn3, .slice ad3 d3 cd3] 27)) := add_new _ _
  have hA0 := hA
  have hB0 := hB
  replace hA := hA.mono TL
  replace hB := hB.mono TL
  replace hX := hX.mono TL
  replace hT := (hT.mono T).mono TL
  replace T := Add.trans T TL
  have e1 : n4 = z.2.1.length := u1.lenV
  have e2 : d4 = z.2.2.length := u2.lenV
  have ca0 := hA0.c0
  have ca1 := hA0.c1
  have ca2 := hA0.c2
  have ca3 := hA0.c3
  have ca4 := hA0.c4
  have ca5 := hA0.c5
  have cb0 := hB0.c0
  have cb1 := hB0.c1
  have cb2 := hB0.c2
  have cb3 := hB0.c3
  have cb4 := hB0.c4
  have cb5 := hB0.c5
  rw [hW0] at ca0 ca1 ca2 ca3 ca4 ca5 cb0 cb1 cb2 cb3 cb4 cb5
  have dk1 : decide ((12 : Int) < (n4 : Int)) = true := by simp; omega
  clear e1 e2
  go_enter Tryz.func3, Tryz.ntmps3
  go_wp2_with fail
  rw [← hW0]
  refine CL.out.mono ?_
  rintro e w9 ⟨rfl, rfl⟩
  clear CL TL hW0 hl hA0 hB0 ca0 ca1 ca2 ca3 ca4 ca5 cb0 cb1 cb2 cb3 cb4 cb5 hA hB hu0 i1 i2 i3 i4 j1 j2 j3 j4 u1 u2 h12
  have cx1 := hX.c1
  go_wp2_with fail
  refine (awake3_any _ hT).mono ?_
  rintro e wz9 ⟨rfl, hz9⟩
  replace T := Add.trans T hz9
  clear hz9 hT
  go_wp2_with fail
  go_ret
  exact ⟨rfl, T⟩
set_option maxRecDepth 100000 in
set_option maxHeartbeats 20000000 in
theorem longD {v v' u : Value} {x y : IvL} {z : FrL} (w : World) (hx : IvI w v x) (hy : IvI w v' y) (hu : FracI w u z.1 z.2.1 z.2.2) (hT : Tab w) (hl : (longE x || longE y) = false) (h12 : ¬ 12 < z.2.1.length) (h13 : 12 < z.2.2.length) : Calls Tryz.prog 3 #[v, v', u] w (LawP w) := by
  have hu0 := hu
  obtain ⟨an, n, cn, ad, d, cd, an', n', cn', ad', d', cd', rfl, i1, i2, i3, i4⟩ := hx
  obtain ⟨an2, n2, cn2, ad2, d2, cd2, an3, n3, cn3, ad3, d3, cd3, rfl, j1, j2, j3, j4⟩ := hy
  obtain ⟨an4, n4, cn4, ad4, d4, cd4, rfl, u1, u2⟩ := hu
  obtain ⟨T, hA, hB, hX⟩ := startXYZ w x.1.1 an n cn ad d cd x.2.1 an' n' cn' ad' d' cd' y.1.1 an2 n2 cn2 ad2 d2 cd2 y.2.1 an3 n3 cn3 ad3 d3 cd3 z.1 an4 n4 cn4 ad4 d4 cd4
  obtain ⟨W0, hW0⟩ : ∃ W0, W0 = (((w.alloc (.cells #[.bool x.1.1, .slice an n cn, .slice ad d cd, .bool x.2.1, .slice an' n' cn', .slice ad' d' cd'] 27)).alloc (.cells #[.bool y.1.1, .slice an2 n2 cn2, .slice ad2 d2 cd2, .bool y.2.1, .slice an3 n3 cn3, .slice ad3 d3 cd3] 27)).alloc (.cells #[.bool z.1, .slice an4 n4 cn4, .slice ad4 d4 cd4] 25)) := ⟨_, rfl⟩
  rw [← hW0] at T hA hB hX
  have CL := Lib.hid (longI2 false (w := W0) (b := x.1.1) (b' := x.2.1) (b2 := y.1.1) (b3 := y.2.1) (w.heap.size + 1 + 1 + 1) (i1.mono T) (i2.mono T) (i3.mono T) (i4.mono T) (j1.mono T) (j2.mono T) (j3.mono T) (j4.mono T) (by rw [hW0]; simp) (Lib.hid hl))
  have TL : Add W0 (W0.alloc (.cells #[.bool x.1.1, .slice an n cn, .slice ad d cd, .bool x.2.1, .slice an' n' cn', .slice ad' d' cd', .bool y.1.1, .slice an2 n2 cn2, .slice ad2 d2 cd2, .bool y.2.1, .slice an3 n3 cn3, .slice ad3 d3 cd3] 27)) := add_new _ _
  have hA0 := hA
  have hB0 := hB
  replace hA := hA.mono TL
  replace hB := hB.mono TL
  replace hX := hX.mono TL
  replace hT := (hT.mono T).mono TL
  replace T := Add.trans T TL
  have e1 : n4 = z.2.1.length := u1.lenV
  have e2 : d4 = z.2.2.length := u2.lenV
  have ca0 := hA0.c0
  have ca1 := hA0.c1
  have ca2 := hA0.c2
  have ca3 := hA0.c3
  have ca4 := hA0.c4
  have ca5 := hA0.c5
  have cb0 := hB0.c0
  have cb1 := hB0.c1
  have cb2 := hB0.c2
  have cb3 := hB0.c3
  have cb4 := hB0.c4
  have cb5 := hB0.c5
  rw [hW0] at ca0 ca1 ca2 ca3 ca4 ca5 cb0 cb1 cb2 cb3 cb4 cb5
  have dk1 : decide ((12 : Int) < (n4 : Int)) = false := by simp; omega
  have dk2 : decide ((12 : Int) < (d4 : Int)) = true := by simp; omega
  clear e1 e2
  go_enter Tryz.func3, Tryz.ntmps3
  go_wp2_with fail
  rw [← hW0]
  refine CL.out.mono ?_
  rintro e w9 ⟨rfl, rfl⟩
  clear CL TL hW0 hl hA0 hB0 ca0 ca1 ca2 ca3 ca4 ca5 cb0 cb1 cb2 cb3 cb4 cb5 hA hB hu0 i1 i2 i3 i4 j1 j2 j3 j4 u1 u2 h12 h13
  have cx1 := hX.c1
  have cx2 := hX.c2
  go_wp2_with fail
  refine (awake3_any _ hT).mono ?_
  rintro e wz9 ⟨rfl, hz9⟩
  replace T := Add.trans T hz9
  clear hz9 hT
  go_wp2_with fail
  go_ret
  exact ⟨rfl, T⟩
set_option maxRecDepth 100000 in
set_option maxHeartbeats 40000000 in
theorem ok_case {v v' u : Value} {x y : IvL} {z : FrL} (w : World) (hx : IvI w v x) (hy : IvI w v' y) (hu : FracI w u z.1 z.2.1 z.2.2) (hT : Tab w) (hl : (longE x || longE y) = false) (h12 : ¬ 12 < z.2.1.length) (h13 : ¬ 12 < z.2.2.length) : Calls Tryz.prog 3 #[v, v', u] w (LawP w) := by
  have hl0 := hl
  have hu0 := hu
  obtain ⟨an, n, cn, ad, d, cd, an', n', cn', ad', d', cd', rfl, i1, i2, i3, i4⟩ := hx
  obtain ⟨an2, n2, cn2, ad2, d2, cd2, an3, n3, cn3, ad3, d3, cd3, rfl, j1, j2, j3, j4⟩ := hy
  obtain ⟨an4, n4, cn4, ad4, d4, cd4, rfl, u1, u2⟩ := hu
  obtain ⟨T, hA, hB, hX⟩ := startXYZ w x.1.1 an n cn ad d cd x.2.1 an' n' cn' ad' d' cd' y.1.1 an2 n2 cn2 ad2 d2 cd2 y.2.1 an3 n3 cn3 ad3 d3 cd3 z.1 an4 n4 cn4 ad4 d4 cd4
  obtain ⟨W0, hW0⟩ : ∃ W0, W0 = (((w.alloc (.cells #[.bool x.1.1, .slice an n cn, .slice ad d cd, .bool x.2.1, .slice an' n' cn', .slice ad' d' cd'] 27)).alloc (.cells #[.bool y.1.1, .slice an2 n2 cn2, .slice ad2 d2 cd2, .bool y.2.1, .slice an3 n3 cn3, .slice ad3 d3 cd3] 27)).alloc (.cells #[.bool z.1, .slice an4 n4 cn4, .slice ad4 d4 cd4] 25)) := ⟨_, rfl⟩
  rw [← hW0] at T hA hB hX
  have CL := Lib.hid (longI2 false (w := W0) (b := x.1.1) (b' := x.2.1) (b2 := y.1.1) (b3 := y.2.1) (w.heap.size + 1 + 1 + 1) (i1.mono T) (i2.mono T) (i3.mono T) (i4.mono T) (j1.mono T) (j2.mono T) (j3.mono T) (j4.mono T) (by rw [hW0]; simp) (Lib.hid hl))
  have TL : Add W0 (W0.alloc (.cells #[.bool x.1.1, .slice an n cn, .slice ad d cd, .bool x.2.1, .slice an' n' cn', .slice ad' d' cd', .bool y.1.1, .slice an2 n2 cn2, .slice ad2 d2 cd2, .bool y.2.1, .slice an3 n3 cn3, .slice ad3 d3 cd3] 27)) := add_new _ _
  have hA0 := hA
  have hB0 := hB
  replace hA := hA.mono TL
  replace hB := hB.mono TL
  replace hX := hX.mono TL
  replace hT := (hT.mono T).mono TL
  replace T := Add.trans T TL
  have e1 : n4 = z.2.1.length := u1.lenV
  have e2 : d4 = z.2.2.length := u2.lenV
  have ca0 := hA0.c0
  have ca1 := hA0.c1
  have ca2 := hA0.c2
  have ca3 := hA0.c3
  have ca4 := hA0.c4
  have ca5 := hA0.c5
  have cb0 := hB0.c0
  have cb1 := hB0.c1
  have cb2 := hB0.c2
  have cb3 := hB0.c3
  have cb4 := hB0.c4
  have cb5 := hB0.c5
  rw [hW0] at ca0 ca1 ca2 ca3 ca4 ca5 cb0 cb1 cb2 cb3 cb4 cb5
  have dk1 : decide ((12 : Int) < (n4 : Int)) = false := by simp; omega
  have dk2 : decide ((12 : Int) < (d4 : Int)) = false := by simp; omega
  clear e1 e2
  simp only [Bool.or_eq_false_iff] at hl0
  have qa := (IvI.arg (w := w) ⟨an, n, cn, ad, d, cd, an', n', cn', ad', d', cd', rfl, i1, i2, i3, i4⟩ hl0.1).mono T
  have qb := (IvI.arg (w := w) ⟨an2, n2, cn2, ad2, d2, cd2, an3, n3, cn3, ad3, d3, cd3, rfl, j1, j2, j3, j4⟩ hl0.2).mono T
  have la := IvI.lim (w := w) ⟨an, n, cn, ad, d, cd, an', n', cn', ad', d', cd', rfl, i1, i2, i3, i4⟩ hl0.1
  have lb := IvI.lim (w := w) ⟨an2, n2, cn2, ad2, d2, cd2, an3, n3, cn3, ad3, d3, cd3, rfl, j1, j2, j3, j4⟩ hl0.2
  have qx := (frac12 hu0 h12 h13).mono T
  have lx := frac12_lim hu0 h12 h13
  obtain ⟨a, ea⟩ : ∃ a : Iv, ivOf x = a := ⟨_, rfl⟩
  obtain ⟨b, eb⟩ : ∃ a : Iv, ivOf y = a := ⟨_, rfl⟩
  obtain ⟨c, ec⟩ : ∃ c : Tri, triOf z = c := ⟨_, rfl⟩
  rw [ea] at qa la
  rw [eb] at qb lb
  rw [ec] at qx lx
  obtain ⟨s1x, N1x, D1x, s1y, N1y, D1y, c1x, g1⟩ : ∃ s N D s2 N2 D2 c0, addI a b = (((s, N, D), (s2, N2, D2)), c0) := ⟨_, _, _, _, _, _, _, rfl⟩
  have R1 := Lib.hid g1
  obtain ⟨s2x, N2x, D2x, s2y, N2y, D2y, c2x, g2⟩ : ∃ s N D s2 N2 D2 c0, subI a b = (((s, N, D), (s2, N2, D2)), c0) := ⟨_, _, _, _, _, _, _, rfl⟩
  have R2 := Lib.hid g2
  obtain ⟨s3x, N3x, D3x, s3y, N3y, D3y, c3x, g3⟩ : ∃ s N D s2 N2 D2 c0, mulI a b = (((s, N, D), (s2, N2, D2)), c0) := ⟨_, _, _, _, _, _, _, rfl⟩
  have R3 := Lib.hid g3
  obtain ⟨s4x, N4x, D4x, s4y, N4y, D4y, c4x, g4⟩ : ∃ s N D s2 N2 D2 c0, scaI c a = (((s, N, D), (s2, N2, D2)), c0) := ⟨_, _, _, _, _, _, _, rfl⟩
  have R4 := Lib.hid g4
  obtain ⟨s7x, N7x, D7x, s7y, N7y, D7y, c7x, g7⟩ : ∃ s N D s2 N2 D2 c0, ptI c = (((s, N, D), (s2, N2, D2)), c0) := ⟨_, _, _, _, _, _, _, rfl⟩
  have R7 := Lib.hid g7
  obtain ⟨s5x, N5x, D5x, s5y, N5y, D5y, c5x, g5⟩ : ∃ s N D s2 N2 D2 c, meetI a b = (((s, N, D), (s2, N2, D2)), c) := ⟨_, _, _, _, _, _, _, rfl⟩
  have R5 := Lib.hid g5
  obtain ⟨s6x, N6x, D6x, c6x, g6⟩ : ∃ s N D c, widI a = ((s, N, D), c) := ⟨_, _, _, _, rfl⟩
  have R6 := Lib.hid g6
  obtain ⟨ov, gv⟩ : ∃ t, okI a = t := ⟨_, rfl⟩
  have RV := Lib.hid gv
  obtain ⟨oc, gc⟩ : ∃ t, inI a c = t := ⟨_, rfl⟩
  have RC := Lib.hid gc
  obtain ⟨oi, gi⟩ : ∃ t, subsI a b = t := ⟨_, rfl⟩
  have RI := Lib.hid gi
  have LAB := Lib.hid (And.intro la lb)
  have LXA := Lib.hid (And.intro lx la)
  clear la lb lx gv gc gi g1 g2 g3 g4 g5 g6 g7
  clear ea eb ec hl0 hu0 h12 h13 i1 i2 i3 i4 j1 j2 j3 j4 u1 u2
  go_enter Tryz.func3, Tryz.ntmps3
  go_wp2_with fail
  rw [← hW0]
  refine CL.out.mono ?_
  rintro e w9 ⟨rfl, rfl⟩
  clear CL TL hW0 hl hA0 hB0 ca0 ca1 ca2 ca3 ca4 ca5 cb0 cb1 cb2 cb3 cb4 cb5 
  obtain ⟨WL, hWL⟩ : ∃ WL, WL = W0.alloc (.cells #[.bool x.1.1, .slice an n cn, .slice ad d cd, .bool x.2.1, .slice an' n' cn', .slice ad' d' cd', .bool y.1.1, .slice an2 n2 cn2, .slice ad2 d2 cd2, .bool y.2.1, .slice an3 n3 cn3, .slice ad3 d3 cd3] 27) := ⟨_, rfl⟩
  rw [← hWL] at T hT hA hB hX qa qb qx ⊢
  clear hWL
  have cx1 := hX.c1
  have cx2 := hX.c2
  have ca0 := hA.c0
  have ca1 := hA.c1
  have ca2 := hA.c2
  have ca3 := hA.c3
  have ca4 := hA.c4
  have ca5 := hA.c5
  have cb0 := hB.c0
  have cb1 := hB.c1
  have cb2 := hB.c2
  have cb3 := hB.c3
  have cb4 := hB.c4
  have cb5 := hB.c5
  go_wp2_with fail
  refine ((addAll _ qa qb hT LAB R1).mono fun _ _ g => genI g).mono ?_
  rintro e w11 ⟨pC11_, mC11_, kC11_, qC11_, dC11_, eC11_, pC11_', mC11_', kC11_', qC11_', dC11_', eC11_', rfl, x1, y1, x2, y2, h11⟩
  replace hT := hT.mono h11
  replace hA := hA.mono h11
  replace hB := hB.mono h11
  replace hX := hX.mono h11
  replace qa := qa.mono h11
  replace qb := qb.mono h11
  replace qx := qx.mono h11
  replace T := Add.trans T h11
  clear h11  ca0 ca1 ca2 ca3 ca4 ca5 cb0 cb1 cb2 cb3 cb4 cb5 
  have itC : IvT _ (.agg #[.bool s1x, .slice pC11_ mC11_ kC11_, .slice qC11_ dC11_ eC11_, .bool s1y, .slice pC11_' mC11_' kC11_', .slice qC11_' dC11_' eC11_']) ((s1x, N1x, D1x), (s1y, N1y, D1y)) := ⟨_, _, _, _, _, _, _, _, _, _, _, _, rfl, x1, y1, x2, y2⟩
  clear x1 y1 x2 y2
  have lAC := Lib.hid hA.lt
  have lBC := Lib.hid hB.lt
  have lXC := Lib.hid hX.lt
  obtain ⟨tt, hC⟩ := laid6 w11 s1x pC11_ mC11_ kC11_ qC11_ dC11_ eC11_ s1y pC11_' mC11_' kC11_' qC11_' dC11_' eC11_'
  replace hT := hT.mono tt
  replace hA := hA.mono tt
  replace hB := hB.mono tt
  replace hX := hX.mono tt
  replace qa := qa.mono tt
  replace qb := qb.mono tt
  replace qx := qx.mono tt
  replace itC := itC.mono tt
  replace T := Add.trans T tt
  clear tt
  have ca0 := hA.c0
  have ca1 := hA.c1
  have ca2 := hA.c2
  have ca3 := hA.c3
  have ca4 := hA.c4
  have ca5 := hA.c5
  have cb0 := hB.c0
  have cb1 := hB.c1
  have cb2 := hB.c2
  have cb3 := hB.c3
  have cb4 := hB.c4
  have cb5 := hB.c5
  go_wp2_with fail
  refine ((refAddAll _ qa qb LAB R1).mono fun _ _ g => genI g).mono ?_
  rintro e w12 ⟨pD12_, mD12_, kD12_, qD12_, dD12_, eD12_, pD12_', mD12_', kD12_', qD12_', dD12_', eD12_', rfl, x1, y1, x2, y2, h12⟩
  replace hT := hT.mono h12
  replace hA := hA.mono h12
  replace hB := hB.mono h12
  replace hX := hX.mono h12
  replace qa := qa.mono h12
  replace qb := qb.mono h12
  replace qx := qx.mono h12
  replace hC := hC.mono h12
  replace itC := itC.mono h12
  replace T := Add.trans T h12
  clear h12  ca0 ca1 ca2 ca3 ca4 ca5 cb0 cb1 cb2 cb3 cb4 cb5 
  have itD : IvT _ (.agg #[.bool s1x, .slice pD12_ mD12_ kD12_, .slice qD12_ dD12_ eD12_, .bool s1y, .slice pD12_' mD12_' kD12_', .slice qD12_' dD12_' eD12_']) ((s1x, N1x, D1x), (s1y, N1y, D1y)) := ⟨_, _, _, _, _, _, _, _, _, _, _, _, rfl, x1, y1, x2, y2⟩
  clear x1 y1 x2 y2
  have lAD := Lib.hid hA.lt
  have lBD := Lib.hid hB.lt
  have lXD := Lib.hid hX.lt
  have lCD := Lib.hid hC.lt
  obtain ⟨tt, hD⟩ := laid6 w12 s1x pD12_ mD12_ kD12_ qD12_ dD12_ eD12_ s1y pD12_' mD12_' kD12_' qD12_' dD12_' eD12_'
  replace hT := hT.mono tt
  replace hA := hA.mono tt
  replace hB := hB.mono tt
  replace hX := hX.mono tt
  replace qa := qa.mono tt
  replace qb := qb.mono tt
  replace qx := qx.mono tt
  replace hC := hC.mono tt
  replace itC := itC.mono tt
  replace itD := itD.mono tt
  replace T := Add.trans T tt
  clear tt
  have cg0 := hC.c0
  have cg1 := hC.c1
  have cg2 := hC.c2
  have cg3 := hC.c3
  have cg4 := hC.c4
  have cg5 := hC.c5
  have ch0 := hD.c0
  have ch1 := hD.c1
  have ch2 := hD.c2
  have ch3 := hD.c3
  have ch4 := hD.c4
  have ch5 := hD.c5
  go_wp2_with fail
  refine (sameIN true itC itD (selfI _)).mono ?_
  rintro e w13 ⟨rfl, h13⟩
  replace hT := hT.mono h13
  replace hA := hA.mono h13
  replace hB := hB.mono h13
  replace hX := hX.mono h13
  replace qa := qa.mono h13
  replace qb := qb.mono h13
  replace qx := qx.mono h13
  replace hC := hC.mono h13
  replace hD := hD.mono h13
  replace T := Add.trans T h13
  clear h13 itC itD cg0 cg1 cg2 cg3 cg4 cg5 ch0 ch1 ch2 ch3 ch4 ch5 
  have ca0 := hA.c0
  have ca1 := hA.c1
  have ca2 := hA.c2
  have ca3 := hA.c3
  have ca4 := hA.c4
  have ca5 := hA.c5
  have cb0 := hB.c0
  have cb1 := hB.c1
  have cb2 := hB.c2
  have cb3 := hB.c3
  have cb4 := hB.c4
  have cb5 := hB.c5
  go_wp2_with fail
  refine ((subAll _ qa qb hT LAB R2).mono fun _ _ g => genI g).mono ?_
  rintro e w14 ⟨pC14_, mC14_, kC14_, qC14_, dC14_, eC14_, pC14_', mC14_', kC14_', qC14_', dC14_', eC14_', rfl, x1, y1, x2, y2, h14⟩
  replace hT := hT.mono h14
  replace hA := hA.mono h14
  replace hB := hB.mono h14
  replace hX := hX.mono h14
  replace qa := qa.mono h14
  replace qb := qb.mono h14
  replace qx := qx.mono h14
  replace hC := hC.mono h14
  replace hD := hD.mono h14
  replace T := Add.trans T h14
  clear h14  ca0 ca1 ca2 ca3 ca4 ca5 cb0 cb1 cb2 cb3 cb4 cb5 
  have itC : IvT _ (.agg #[.bool s2x, .slice pC14_ mC14_ kC14_, .slice qC14_ dC14_ eC14_, .bool s2y, .slice pC14_' mC14_' kC14_', .slice qC14_' dC14_' eC14_']) ((s2x, N2x, D2x), (s2y, N2y, D2y)) := ⟨_, _, _, _, _, _, _, _, _, _, _, _, rfl, x1, y1, x2, y2⟩
  clear x1 y1 x2 y2
  have hold := hC
  have sx0 := hold.c0
  have sy0 := hold.fr 0
  have sx1 := hold.c1
  have sy1 := hold.fr 1
  have sx2 := hold.c2
  have sy2 := hold.fr 2
  have sx3 := hold.c3
  have sy3 := hold.fr 3
  have sx4 := hold.c4
  have sy4 := hold.fr 4
  have sx5 := hold.c5
  have sy5 := hold.fr 5
  replace hT := Tab.put6 hT hold (.bool s2x) (.slice pC14_ mC14_ kC14_) (.slice qC14_ dC14_ eC14_) (.bool s2y) (.slice pC14_' mC14_' kC14_') (.slice qC14_' dC14_' eC14_')
  replace hA := Box6.other hA (show w.heap.size ≠ w11.heap.size by have := lAC.out; omega) (.bool s2x) (.slice pC14_ mC14_ kC14_) (.slice qC14_ dC14_ eC14_) (.bool s2y) (.slice pC14_' mC14_' kC14_') (.slice qC14_' dC14_' eC14_')
  replace hB := Box6.other hB (show w.heap.size + 1 ≠ w11.heap.size by have := lBC.out; omega) (.bool s2x) (.slice pC14_ mC14_ kC14_) (.slice qC14_ dC14_ eC14_) (.bool s2y) (.slice pC14_' mC14_' kC14_') (.slice qC14_' dC14_' eC14_')
  replace hX := Box.other6 hX (show w.heap.size + 1 + 1 ≠ w11.heap.size by have := lXC.out; omega) (.bool s2x) (.slice pC14_ mC14_ kC14_) (.slice qC14_ dC14_ eC14_) (.bool s2y) (.slice pC14_' mC14_' kC14_') (.slice qC14_' dC14_' eC14_')
  replace qa := IvA.put6 qa hold (.bool s2x) (.slice pC14_ mC14_ kC14_) (.slice qC14_ dC14_ eC14_) (.bool s2y) (.slice pC14_' mC14_' kC14_') (.slice qC14_' dC14_' eC14_')
  replace qb := IvA.put6 qb hold (.bool s2x) (.slice pC14_ mC14_ kC14_) (.slice qC14_ dC14_ eC14_) (.bool s2y) (.slice pC14_' mC14_' kC14_') (.slice qC14_' dC14_' eC14_')
  replace qx := FracA.put6 qx hold (.bool s2x) (.slice pC14_ mC14_ kC14_) (.slice qC14_ dC14_ eC14_) (.bool s2y) (.slice pC14_' mC14_' kC14_') (.slice qC14_' dC14_' eC14_')
  replace hC := hold.put s2x pC14_ mC14_ kC14_ qC14_ dC14_ eC14_ s2y pC14_' mC14_' kC14_' qC14_' dC14_' eC14_'
  replace hD := Box6.other hD (show w12.heap.size ≠ w11.heap.size by have := lCD.out; omega) (.bool s2x) (.slice pC14_ mC14_ kC14_) (.slice qC14_ dC14_ eC14_) (.bool s2y) (.slice pC14_' mC14_' kC14_') (.slice qC14_' dC14_' eC14_')
  replace itC := IvT.put6 itC hold (.bool s2x) (.slice pC14_ mC14_ kC14_) (.slice qC14_ dC14_ eC14_) (.bool s2y) (.slice pC14_' mC14_' kC14_') (.slice qC14_' dC14_' eC14_')
  replace T := put6_below (.bool s2x) (.slice pC14_ mC14_ kC14_) (.slice qC14_ dC14_ eC14_) (.bool s2y) (.slice pC14_' mC14_' kC14_') (.slice qC14_' dC14_' eC14_') T (show w.heap.size ≤ w11.heap.size by have := lAC.out; omega)
  clear hold
  unfold put6 at T hT hA hB hX qa qb qx hC hD itC
  have ca0 := hA.c0
  have ca1 := hA.c1
  have ca2 := hA.c2
  have ca3 := hA.c3
  have ca4 := hA.c4
  have ca5 := hA.c5
  have cb0 := hB.c0
  have cb1 := hB.c1
  have cb2 := hB.c2
  have cb3 := hB.c3
  have cb4 := hB.c4
  have cb5 := hB.c5
  go_wp2_with fail
  refine ((refSubAll _ qa qb LAB R2).mono fun _ _ g => genI g).mono ?_
  rintro e w15 ⟨pD15_, mD15_, kD15_, qD15_, dD15_, eD15_, pD15_', mD15_', kD15_', qD15_', dD15_', eD15_', rfl, x1, y1, x2, y2, h15⟩
  replace hT := hT.mono h15
  replace hA := hA.mono h15
  replace hB := hB.mono h15
  replace hX := hX.mono h15
  replace qa := qa.mono h15
  replace qb := qb.mono h15
  replace qx := qx.mono h15
  replace hC := hC.mono h15
  replace hD := hD.mono h15
  replace itC := itC.mono h15
  replace T := Add.trans T h15
  clear h15  ca0 ca1 ca2 ca3 ca4 ca5 cb0 cb1 cb2 cb3 cb4 cb5 sx0 sy0 sx1 sy1 sx2 sy2 sx3 sy3 sx4 sy4 sx5 sy5
  have itD : IvT _ (.agg #[.bool s2x, .slice pD15_ mD15_ kD15_, .slice qD15_ dD15_ eD15_, .bool s2y, .slice pD15_' mD15_' kD15_', .slice qD15_' dD15_' eD15_']) ((s2x, N2x, D2x), (s2y, N2y, D2y)) := ⟨_, _, _, _, _, _, _, _, _, _, _, _, rfl, x1, y1, x2, y2⟩
  clear x1 y1 x2 y2
  have hold := hD
  have sx0 := hold.c0
  have sy0 := hold.fr 0
  have sx1 := hold.c1
  have sy1 := hold.fr 1
  have sx2 := hold.c2
  have sy2 := hold.fr 2
  have sx3 := hold.c3
  have sy3 := hold.fr 3
  have sx4 := hold.c4
  have sy4 := hold.fr 4
  have sx5 := hold.c5
  have sy5 := hold.fr 5
  replace hT := Tab.put6 hT hold (.bool s2x) (.slice pD15_ mD15_ kD15_) (.slice qD15_ dD15_ eD15_) (.bool s2y) (.slice pD15_' mD15_' kD15_') (.slice qD15_' dD15_' eD15_')
  replace hA := Box6.other hA (show w.heap.size ≠ w12.heap.size by have := lAD.out; omega) (.bool s2x) (.slice pD15_ mD15_ kD15_) (.slice qD15_ dD15_ eD15_) (.bool s2y) (.slice pD15_' mD15_' kD15_') (.slice qD15_' dD15_' eD15_')
  replace hB := Box6.other hB (show w.heap.size + 1 ≠ w12.heap.size by have := lBD.out; omega) (.bool s2x) (.slice pD15_ mD15_ kD15_) (.slice qD15_ dD15_ eD15_) (.bool s2y) (.slice pD15_' mD15_' kD15_') (.slice qD15_' dD15_' eD15_')
  replace hX := Box.other6 hX (show w.heap.size + 1 + 1 ≠ w12.heap.size by have := lXD.out; omega) (.bool s2x) (.slice pD15_ mD15_ kD15_) (.slice qD15_ dD15_ eD15_) (.bool s2y) (.slice pD15_' mD15_' kD15_') (.slice qD15_' dD15_' eD15_')
  replace qa := IvA.put6 qa hold (.bool s2x) (.slice pD15_ mD15_ kD15_) (.slice qD15_ dD15_ eD15_) (.bool s2y) (.slice pD15_' mD15_' kD15_') (.slice qD15_' dD15_' eD15_')
  replace qb := IvA.put6 qb hold (.bool s2x) (.slice pD15_ mD15_ kD15_) (.slice qD15_ dD15_ eD15_) (.bool s2y) (.slice pD15_' mD15_' kD15_') (.slice qD15_' dD15_' eD15_')
  replace qx := FracA.put6 qx hold (.bool s2x) (.slice pD15_ mD15_ kD15_) (.slice qD15_ dD15_ eD15_) (.bool s2y) (.slice pD15_' mD15_' kD15_') (.slice qD15_' dD15_' eD15_')
  replace hC := Box6.other hC (show w11.heap.size ≠ w12.heap.size by have := lCD.out; omega) (.bool s2x) (.slice pD15_ mD15_ kD15_) (.slice qD15_ dD15_ eD15_) (.bool s2y) (.slice pD15_' mD15_' kD15_') (.slice qD15_' dD15_' eD15_')
  replace hD := hold.put s2x pD15_ mD15_ kD15_ qD15_ dD15_ eD15_ s2y pD15_' mD15_' kD15_' qD15_' dD15_' eD15_'
  replace itC := IvT.put6 itC hold (.bool s2x) (.slice pD15_ mD15_ kD15_) (.slice qD15_ dD15_ eD15_) (.bool s2y) (.slice pD15_' mD15_' kD15_') (.slice qD15_' dD15_' eD15_')
  replace itD := IvT.put6 itD hold (.bool s2x) (.slice pD15_ mD15_ kD15_) (.slice qD15_ dD15_ eD15_) (.bool s2y) (.slice pD15_' mD15_' kD15_') (.slice qD15_' dD15_' eD15_')
  replace T := put6_below (.bool s2x) (.slice pD15_ mD15_ kD15_) (.slice qD15_ dD15_ eD15_) (.bool s2y) (.slice pD15_' mD15_' kD15_') (.slice qD15_' dD15_' eD15_') T (show w.heap.size ≤ w12.heap.size by have := lAD.out; omega)
  clear hold
  unfold put6 at T hT hA hB hX qa qb qx hC hD itC itD
  have cg0 := hC.c0
  have cg1 := hC.c1
  have cg2 := hC.c2
  have cg3 := hC.c3
  have cg4 := hC.c4
  have cg5 := hC.c5
  have ch0 := hD.c0
  have ch1 := hD.c1
  have ch2 := hD.c2
  have ch3 := hD.c3
  have ch4 := hD.c4
  have ch5 := hD.c5
  go_wp2_with fail
  refine (sameIN true itC itD (selfI _)).mono ?_
  rintro e w16 ⟨rfl, h16⟩
  replace hT := hT.mono h16
  replace hA := hA.mono h16
  replace hB := hB.mono h16
  replace hX := hX.mono h16
  replace qa := qa.mono h16
  replace qb := qb.mono h16
  replace qx := qx.mono h16
  replace hC := hC.mono h16
  replace hD := hD.mono h16
  replace T := Add.trans T h16
  clear h16 itC itD cg0 cg1 cg2 cg3 cg4 cg5 ch0 ch1 ch2 ch3 ch4 ch5 sx0 sy0 sx1 sy1 sx2 sy2 sx3 sy3 sx4 sy4 sx5 sy5
  have ca0 := hA.c0
  have ca1 := hA.c1
  have ca2 := hA.c2
  have ca3 := hA.c3
  have ca4 := hA.c4
  have ca5 := hA.c5
  have cb0 := hB.c0
  have cb1 := hB.c1
  have cb2 := hB.c2
  have cb3 := hB.c3
  have cb4 := hB.c4
  have cb5 := hB.c5
  go_wp2_with fail
  refine ((mulAll _ qa qb hT LAB R3).mono fun _ _ g => genI g).mono ?_
  rintro e w17 ⟨pC17_, mC17_, kC17_, qC17_, dC17_, eC17_, pC17_', mC17_', kC17_', qC17_', dC17_', eC17_', rfl, x1, y1, x2, y2, h17⟩
  replace hT := hT.mono h17
  replace hA := hA.mono h17
  replace hB := hB.mono h17
  replace hX := hX.mono h17
  replace qa := qa.mono h17
  replace qb := qb.mono h17
  replace qx := qx.mono h17
  replace hC := hC.mono h17
  replace hD := hD.mono h17
  replace T := Add.trans T h17
  clear h17  ca0 ca1 ca2 ca3 ca4 ca5 cb0 cb1 cb2 cb3 cb4 cb5 
  have itC : IvT _ (.agg #[.bool s3x, .slice pC17_ mC17_ kC17_, .slice qC17_ dC17_ eC17_, .bool s3y, .slice pC17_' mC17_' kC17_', .slice qC17_' dC17_' eC17_']) ((s3x, N3x, D3x), (s3y, N3y, D3y)) := ⟨_, _, _, _, _, _, _, _, _, _, _, _, rfl, x1, y1, x2, y2⟩
  clear x1 y1 x2 y2
  have hold := hC
  have sx0 := hold.c0
  have sy0 := hold.fr 0
  have sx1 := hold.c1
  have sy1 := hold.fr 1
  have sx2 := hold.c2
  have sy2 := hold.fr 2
  have sx3 := hold.c3
  have sy3 := hold.fr 3
  have sx4 := hold.c4
  have sy4 := hold.fr 4
  have sx5 := hold.c5
  have sy5 := hold.fr 5
  replace hT := Tab.put6 hT hold (.bool s3x) (.slice pC17_ mC17_ kC17_) (.slice qC17_ dC17_ eC17_) (.bool s3y) (.slice pC17_' mC17_' kC17_') (.slice qC17_' dC17_' eC17_')
  replace hA := Box6.other hA (show w.heap.size ≠ w11.heap.size by have := lAC.out; omega) (.bool s3x) (.slice pC17_ mC17_ kC17_) (.slice qC17_ dC17_ eC17_) (.bool s3y) (.slice pC17_' mC17_' kC17_') (.slice qC17_' dC17_' eC17_')
  replace hB := Box6.other hB (show w.heap.size + 1 ≠ w11.heap.size by have := lBC.out; omega) (.bool s3x) (.slice pC17_ mC17_ kC17_) (.slice qC17_ dC17_ eC17_) (.bool s3y) (.slice pC17_' mC17_' kC17_') (.slice qC17_' dC17_' eC17_')
  replace hX := Box.other6 hX (show w.heap.size + 1 + 1 ≠ w11.heap.size by have := lXC.out; omega) (.bool s3x) (.slice pC17_ mC17_ kC17_) (.slice qC17_ dC17_ eC17_) (.bool s3y) (.slice pC17_' mC17_' kC17_') (.slice qC17_' dC17_' eC17_')
  replace qa := IvA.put6 qa hold (.bool s3x) (.slice pC17_ mC17_ kC17_) (.slice qC17_ dC17_ eC17_) (.bool s3y) (.slice pC17_' mC17_' kC17_') (.slice qC17_' dC17_' eC17_')
  replace qb := IvA.put6 qb hold (.bool s3x) (.slice pC17_ mC17_ kC17_) (.slice qC17_ dC17_ eC17_) (.bool s3y) (.slice pC17_' mC17_' kC17_') (.slice qC17_' dC17_' eC17_')
  replace qx := FracA.put6 qx hold (.bool s3x) (.slice pC17_ mC17_ kC17_) (.slice qC17_ dC17_ eC17_) (.bool s3y) (.slice pC17_' mC17_' kC17_') (.slice qC17_' dC17_' eC17_')
  replace hC := hold.put s3x pC17_ mC17_ kC17_ qC17_ dC17_ eC17_ s3y pC17_' mC17_' kC17_' qC17_' dC17_' eC17_'
  replace hD := Box6.other hD (show w12.heap.size ≠ w11.heap.size by have := lCD.out; omega) (.bool s3x) (.slice pC17_ mC17_ kC17_) (.slice qC17_ dC17_ eC17_) (.bool s3y) (.slice pC17_' mC17_' kC17_') (.slice qC17_' dC17_' eC17_')
  replace itC := IvT.put6 itC hold (.bool s3x) (.slice pC17_ mC17_ kC17_) (.slice qC17_ dC17_ eC17_) (.bool s3y) (.slice pC17_' mC17_' kC17_') (.slice qC17_' dC17_' eC17_')
  replace T := put6_below (.bool s3x) (.slice pC17_ mC17_ kC17_) (.slice qC17_ dC17_ eC17_) (.bool s3y) (.slice pC17_' mC17_' kC17_') (.slice qC17_' dC17_' eC17_') T (show w.heap.size ≤ w11.heap.size by have := lAC.out; omega)
  clear hold
  unfold put6 at T hT hA hB hX qa qb qx hC hD itC
  have ca0 := hA.c0
  have ca1 := hA.c1
  have ca2 := hA.c2
  have ca3 := hA.c3
  have ca4 := hA.c4
  have ca5 := hA.c5
  have cb0 := hB.c0
  have cb1 := hB.c1
  have cb2 := hB.c2
  have cb3 := hB.c3
  have cb4 := hB.c4
  have cb5 := hB.c5
  go_wp2_with fail
  refine ((refMulAll _ qa qb LAB R3).mono fun _ _ g => genI g).mono ?_
  rintro e w18 ⟨pD18_, mD18_, kD18_, qD18_, dD18_, eD18_, pD18_', mD18_', kD18_', qD18_', dD18_', eD18_', rfl, x1, y1, x2, y2, h18⟩
  replace hT := hT.mono h18
  replace hA := hA.mono h18
  replace hB := hB.mono h18
  replace hX := hX.mono h18
  replace qa := qa.mono h18
  replace qb := qb.mono h18
  replace qx := qx.mono h18
  replace hC := hC.mono h18
  replace hD := hD.mono h18
  replace itC := itC.mono h18
  replace T := Add.trans T h18
  clear h18  ca0 ca1 ca2 ca3 ca4 ca5 cb0 cb1 cb2 cb3 cb4 cb5 sx0 sy0 sx1 sy1 sx2 sy2 sx3 sy3 sx4 sy4 sx5 sy5
  have itD : IvT _ (.agg #[.bool s3x, .slice pD18_ mD18_ kD18_, .slice qD18_ dD18_ eD18_, .bool s3y, .slice pD18_' mD18_' kD18_', .slice qD18_' dD18_' eD18_']) ((s3x, N3x, D3x), (s3y, N3y, D3y)) := ⟨_, _, _, _, _, _, _, _, _, _, _, _, rfl, x1, y1, x2, y2⟩
  clear x1 y1 x2 y2
  have hold := hD
  have sx0 := hold.c0
  have sy0 := hold.fr 0
  have sx1 := hold.c1
  have sy1 := hold.fr 1
  have sx2 := hold.c2
  have sy2 := hold.fr 2
  have sx3 := hold.c3
  have sy3 := hold.fr 3
  have sx4 := hold.c4
  have sy4 := hold.fr 4
  have sx5 := hold.c5
  have sy5 := hold.fr 5
  replace hT := Tab.put6 hT hold (.bool s3x) (.slice pD18_ mD18_ kD18_) (.slice qD18_ dD18_ eD18_) (.bool s3y) (.slice pD18_' mD18_' kD18_') (.slice qD18_' dD18_' eD18_')
  replace hA := Box6.other hA (show w.heap.size ≠ w12.heap.size by have := lAD.out; omega) (.bool s3x) (.slice pD18_ mD18_ kD18_) (.slice qD18_ dD18_ eD18_) (.bool s3y) (.slice pD18_' mD18_' kD18_') (.slice qD18_' dD18_' eD18_')
  replace hB := Box6.other hB (show w.heap.size + 1 ≠ w12.heap.size by have := lBD.out; omega) (.bool s3x) (.slice pD18_ mD18_ kD18_) (.slice qD18_ dD18_ eD18_) (.bool s3y) (.slice pD18_' mD18_' kD18_') (.slice qD18_' dD18_' eD18_')
  replace hX := Box.other6 hX (show w.heap.size + 1 + 1 ≠ w12.heap.size by have := lXD.out; omega) (.bool s3x) (.slice pD18_ mD18_ kD18_) (.slice qD18_ dD18_ eD18_) (.bool s3y) (.slice pD18_' mD18_' kD18_') (.slice qD18_' dD18_' eD18_')
  replace qa := IvA.put6 qa hold (.bool s3x) (.slice pD18_ mD18_ kD18_) (.slice qD18_ dD18_ eD18_) (.bool s3y) (.slice pD18_' mD18_' kD18_') (.slice qD18_' dD18_' eD18_')
  replace qb := IvA.put6 qb hold (.bool s3x) (.slice pD18_ mD18_ kD18_) (.slice qD18_ dD18_ eD18_) (.bool s3y) (.slice pD18_' mD18_' kD18_') (.slice qD18_' dD18_' eD18_')
  replace qx := FracA.put6 qx hold (.bool s3x) (.slice pD18_ mD18_ kD18_) (.slice qD18_ dD18_ eD18_) (.bool s3y) (.slice pD18_' mD18_' kD18_') (.slice qD18_' dD18_' eD18_')
  replace hC := Box6.other hC (show w11.heap.size ≠ w12.heap.size by have := lCD.out; omega) (.bool s3x) (.slice pD18_ mD18_ kD18_) (.slice qD18_ dD18_ eD18_) (.bool s3y) (.slice pD18_' mD18_' kD18_') (.slice qD18_' dD18_' eD18_')
  replace hD := hold.put s3x pD18_ mD18_ kD18_ qD18_ dD18_ eD18_ s3y pD18_' mD18_' kD18_' qD18_' dD18_' eD18_'
  replace itC := IvT.put6 itC hold (.bool s3x) (.slice pD18_ mD18_ kD18_) (.slice qD18_ dD18_ eD18_) (.bool s3y) (.slice pD18_' mD18_' kD18_') (.slice qD18_' dD18_' eD18_')
  replace itD := IvT.put6 itD hold (.bool s3x) (.slice pD18_ mD18_ kD18_) (.slice qD18_ dD18_ eD18_) (.bool s3y) (.slice pD18_' mD18_' kD18_') (.slice qD18_' dD18_' eD18_')
  replace T := put6_below (.bool s3x) (.slice pD18_ mD18_ kD18_) (.slice qD18_ dD18_ eD18_) (.bool s3y) (.slice pD18_' mD18_' kD18_') (.slice qD18_' dD18_' eD18_') T (show w.heap.size ≤ w12.heap.size by have := lAD.out; omega)
  clear hold
  unfold put6 at T hT hA hB hX qa qb qx hC hD itC itD
  have cg0 := hC.c0
  have cg1 := hC.c1
  have cg2 := hC.c2
  have cg3 := hC.c3
  have cg4 := hC.c4
  have cg5 := hC.c5
  have ch0 := hD.c0
  have ch1 := hD.c1
  have ch2 := hD.c2
  have ch3 := hD.c3
  have ch4 := hD.c4
  have ch5 := hD.c5
  go_wp2_with fail
  refine (sameIN true itC itD (selfI _)).mono ?_
  rintro e w19 ⟨rfl, h19⟩
  replace hT := hT.mono h19
  replace hA := hA.mono h19
  replace hB := hB.mono h19
  replace hX := hX.mono h19
  replace qa := qa.mono h19
  replace qb := qb.mono h19
  replace qx := qx.mono h19
  replace hC := hC.mono h19
  replace hD := hD.mono h19
  replace T := Add.trans T h19
  clear h19 itC itD cg0 cg1 cg2 cg3 cg4 cg5 ch0 ch1 ch2 ch3 ch4 ch5 sx0 sy0 sx1 sy1 sx2 sy2 sx3 sy3 sx4 sy4 sx5 sy5
  have cx0 := hX.c0
  have cx1 := hX.c1
  have cx2 := hX.c2
  have ca0 := hA.c0
  have ca1 := hA.c1
  have ca2 := hA.c2
  have ca3 := hA.c3
  have ca4 := hA.c4
  have ca5 := hA.c5
  go_wp2_with fail
  refine ((scaAll _ qx qa hT LXA R4).mono fun _ _ g => genI g).mono ?_
  rintro e w20 ⟨pC20_, mC20_, kC20_, qC20_, dC20_, eC20_, pC20_', mC20_', kC20_', qC20_', dC20_', eC20_', rfl, x1, y1, x2, y2, h20⟩
  replace hT := hT.mono h20
  replace hA := hA.mono h20
  replace hB := hB.mono h20
  replace hX := hX.mono h20
  replace qa := qa.mono h20
  replace qb := qb.mono h20
  replace qx := qx.mono h20
  replace hC := hC.mono h20
  replace hD := hD.mono h20
  replace T := Add.trans T h20
  clear h20  cx0 cx1 cx2 ca0 ca1 ca2 ca3 ca4 ca5 
  have itC : IvT _ (.agg #[.bool s4x, .slice pC20_ mC20_ kC20_, .slice qC20_ dC20_ eC20_, .bool s4y, .slice pC20_' mC20_' kC20_', .slice qC20_' dC20_' eC20_']) ((s4x, N4x, D4x), (s4y, N4y, D4y)) := ⟨_, _, _, _, _, _, _, _, _, _, _, _, rfl, x1, y1, x2, y2⟩
  clear x1 y1 x2 y2
  have hold := hC
  have sx0 := hold.c0
  have sy0 := hold.fr 0
  have sx1 := hold.c1
  have sy1 := hold.fr 1
  have sx2 := hold.c2
  have sy2 := hold.fr 2
  have sx3 := hold.c3
  have sy3 := hold.fr 3
  have sx4 := hold.c4
  have sy4 := hold.fr 4
  have sx5 := hold.c5
  have sy5 := hold.fr 5
  replace hT := Tab.put6 hT hold (.bool s4x) (.slice pC20_ mC20_ kC20_) (.slice qC20_ dC20_ eC20_) (.bool s4y) (.slice pC20_' mC20_' kC20_') (.slice qC20_' dC20_' eC20_')
  replace hA := Box6.other hA (show w.heap.size ≠ w11.heap.size by have := lAC.out; omega) (.bool s4x) (.slice pC20_ mC20_ kC20_) (.slice qC20_ dC20_ eC20_) (.bool s4y) (.slice pC20_' mC20_' kC20_') (.slice qC20_' dC20_' eC20_')
  replace hB := Box6.other hB (show w.heap.size + 1 ≠ w11.heap.size by have := lBC.out; omega) (.bool s4x) (.slice pC20_ mC20_ kC20_) (.slice qC20_ dC20_ eC20_) (.bool s4y) (.slice pC20_' mC20_' kC20_') (.slice qC20_' dC20_' eC20_')
  replace hX := Box.other6 hX (show w.heap.size + 1 + 1 ≠ w11.heap.size by have := lXC.out; omega) (.bool s4x) (.slice pC20_ mC20_ kC20_) (.slice qC20_ dC20_ eC20_) (.bool s4y) (.slice pC20_' mC20_' kC20_') (.slice qC20_' dC20_' eC20_')
  replace qa := IvA.put6 qa hold (.bool s4x) (.slice pC20_ mC20_ kC20_) (.slice qC20_ dC20_ eC20_) (.bool s4y) (.slice pC20_' mC20_' kC20_') (.slice qC20_' dC20_' eC20_')
  replace qb := IvA.put6 qb hold (.bool s4x) (.slice pC20_ mC20_ kC20_) (.slice qC20_ dC20_ eC20_) (.bool s4y) (.slice pC20_' mC20_' kC20_') (.slice qC20_' dC20_' eC20_')
  replace qx := FracA.put6 qx hold (.bool s4x) (.slice pC20_ mC20_ kC20_) (.slice qC20_ dC20_ eC20_) (.bool s4y) (.slice pC20_' mC20_' kC20_') (.slice qC20_' dC20_' eC20_')
  replace hC := hold.put s4x pC20_ mC20_ kC20_ qC20_ dC20_ eC20_ s4y pC20_' mC20_' kC20_' qC20_' dC20_' eC20_'
  replace hD := Box6.other hD (show w12.heap.size ≠ w11.heap.size by have := lCD.out; omega) (.bool s4x) (.slice pC20_ mC20_ kC20_) (.slice qC20_ dC20_ eC20_) (.bool s4y) (.slice pC20_' mC20_' kC20_') (.slice qC20_' dC20_' eC20_')
  replace itC := IvT.put6 itC hold (.bool s4x) (.slice pC20_ mC20_ kC20_) (.slice qC20_ dC20_ eC20_) (.bool s4y) (.slice pC20_' mC20_' kC20_') (.slice qC20_' dC20_' eC20_')
  replace T := put6_below (.bool s4x) (.slice pC20_ mC20_ kC20_) (.slice qC20_ dC20_ eC20_) (.bool s4y) (.slice pC20_' mC20_' kC20_') (.slice qC20_' dC20_' eC20_') T (show w.heap.size ≤ w11.heap.size by have := lAC.out; omega)
  clear hold
  unfold put6 at T hT hA hB hX qa qb qx hC hD itC
  have cx0 := hX.c0
  have cx1 := hX.c1
  have cx2 := hX.c2
  have ca0 := hA.c0
  have ca1 := hA.c1
  have ca2 := hA.c2
  have ca3 := hA.c3
  have ca4 := hA.c4
  have ca5 := hA.c5
  go_wp2_with fail
  refine ((refScaAll _ qx qa LXA R4).mono fun _ _ g => genI g).mono ?_
  rintro e w21 ⟨pD21_, mD21_, kD21_, qD21_, dD21_, eD21_, pD21_', mD21_', kD21_', qD21_', dD21_', eD21_', rfl, x1, y1, x2, y2, h21⟩
  replace hT := hT.mono h21
  replace hA := hA.mono h21
  replace hB := hB.mono h21
  replace hX := hX.mono h21
  replace qa := qa.mono h21
  replace qb := qb.mono h21
  replace qx := qx.mono h21
  replace hC := hC.mono h21
  replace hD := hD.mono h21
  replace itC := itC.mono h21
  replace T := Add.trans T h21
  clear h21  cx0 cx1 cx2 ca0 ca1 ca2 ca3 ca4 ca5 sx0 sy0 sx1 sy1 sx2 sy2 sx3 sy3 sx4 sy4 sx5 sy5
  have itD : IvT _ (.agg #[.bool s4x, .slice pD21_ mD21_ kD21_, .slice qD21_ dD21_ eD21_, .bool s4y, .slice pD21_' mD21_' kD21_', .slice qD21_' dD21_' eD21_']) ((s4x, N4x, D4x), (s4y, N4y, D4y)) := ⟨_, _, _, _, _, _, _, _, _, _, _, _, rfl, x1, y1, x2, y2⟩
  clear x1 y1 x2 y2
  have hold := hD
  have sx0 := hold.c0
  have sy0 := hold.fr 0
  have sx1 := hold.c1
  have sy1 := hold.fr 1
  have sx2 := hold.c2
  have sy2 := hold.fr 2
  have sx3 := hold.c3
  have sy3 := hold.fr 3
  have sx4 := hold.c4
  have sy4 := hold.fr 4
  have sx5 := hold.c5
  have sy5 := hold.fr 5
  replace hT := Tab.put6 hT hold (.bool s4x) (.slice pD21_ mD21_ kD21_) (.slice qD21_ dD21_ eD21_) (.bool s4y) (.slice pD21_' mD21_' kD21_') (.slice qD21_' dD21_' eD21_')
  replace hA := Box6.other hA (show w.heap.size ≠ w12.heap.size by have := lAD.out; omega) (.bool s4x) (.slice pD21_ mD21_ kD21_) (.slice qD21_ dD21_ eD21_) (.bool s4y) (.slice pD21_' mD21_' kD21_') (.slice qD21_' dD21_' eD21_')
  replace hB := Box6.other hB (show w.heap.size + 1 ≠ w12.heap.size by have := lBD.out; omega) (.bool s4x) (.slice pD21_ mD21_ kD21_) (.slice qD21_ dD21_ eD21_) (.bool s4y) (.slice pD21_' mD21_' kD21_') (.slice qD21_' dD21_' eD21_')
  replace hX := Box.other6 hX (show w.heap.size + 1 + 1 ≠ w12.heap.size by have := lXD.out; omega) (.bool s4x) (.slice pD21_ mD21_ kD21_) (.slice qD21_ dD21_ eD21_) (.bool s4y) (.slice pD21_' mD21_' kD21_') (.slice qD21_' dD21_' eD21_')
  replace qa := IvA.put6 qa hold (.bool s4x) (.slice pD21_ mD21_ kD21_) (.slice qD21_ dD21_ eD21_) (.bool s4y) (.slice pD21_' mD21_' kD21_') (.slice qD21_' dD21_' eD21_')
  replace qb := IvA.put6 qb hold (.bool s4x) (.slice pD21_ mD21_ kD21_) (.slice qD21_ dD21_ eD21_) (.bool s4y) (.slice pD21_' mD21_' kD21_') (.slice qD21_' dD21_' eD21_')
  replace qx := FracA.put6 qx hold (.bool s4x) (.slice pD21_ mD21_ kD21_) (.slice qD21_ dD21_ eD21_) (.bool s4y) (.slice pD21_' mD21_' kD21_') (.slice qD21_' dD21_' eD21_')
  replace hC := Box6.other hC (show w11.heap.size ≠ w12.heap.size by have := lCD.out; omega) (.bool s4x) (.slice pD21_ mD21_ kD21_) (.slice qD21_ dD21_ eD21_) (.bool s4y) (.slice pD21_' mD21_' kD21_') (.slice qD21_' dD21_' eD21_')
  replace hD := hold.put s4x pD21_ mD21_ kD21_ qD21_ dD21_ eD21_ s4y pD21_' mD21_' kD21_' qD21_' dD21_' eD21_'
  replace itC := IvT.put6 itC hold (.bool s4x) (.slice pD21_ mD21_ kD21_) (.slice qD21_ dD21_ eD21_) (.bool s4y) (.slice pD21_' mD21_' kD21_') (.slice qD21_' dD21_' eD21_')
  replace itD := IvT.put6 itD hold (.bool s4x) (.slice pD21_ mD21_ kD21_) (.slice qD21_ dD21_ eD21_) (.bool s4y) (.slice pD21_' mD21_' kD21_') (.slice qD21_' dD21_' eD21_')
  replace T := put6_below (.bool s4x) (.slice pD21_ mD21_ kD21_) (.slice qD21_ dD21_ eD21_) (.bool s4y) (.slice pD21_' mD21_' kD21_') (.slice qD21_' dD21_' eD21_') T (show w.heap.size ≤ w12.heap.size by have := lAD.out; omega)
  clear hold
  unfold put6 at T hT hA hB hX qa qb qx hC hD itC itD
  have cg0 := hC.c0
  have cg1 := hC.c1
  have cg2 := hC.c2
  have cg3 := hC.c3
  have cg4 := hC.c4
  have cg5 := hC.c5
  have ch0 := hD.c0
  have ch1 := hD.c1
  have ch2 := hD.c2
  have ch3 := hD.c3
  have ch4 := hD.c4
  have ch5 := hD.c5
  go_wp2_with fail
  refine (sameIN true itC itD (selfI _)).mono ?_
  rintro e w22 ⟨rfl, h22⟩
  replace hT := hT.mono h22
  replace hA := hA.mono h22
  replace hB := hB.mono h22
  replace hX := hX.mono h22
  replace qa := qa.mono h22
  replace qb := qb.mono h22
  replace qx := qx.mono h22
  replace hC := hC.mono h22
  replace hD := hD.mono h22
  replace T := Add.trans T h22
  clear h22 itC itD cg0 cg1 cg2 cg3 cg4 cg5 ch0 ch1 ch2 ch3 ch4 ch5 sx0 sy0 sx1 sy1 sx2 sy2 sx3 sy3 sx4 sy4 sx5 sy5
  clear R1 R2 R3 R4 LAB LXA
  have ca0 := hA.c0
  have ca1 := hA.c1
  have ca2 := hA.c2
  have ca3 := hA.c3
  have ca4 := hA.c4
  have ca5 := hA.c5
  have cb0 := hB.c0
  have cb1 := hB.c1
  have cb2 := hB.c2
  have cb3 := hB.c3
  have cb4 := hB.c4
  have cb5 := hB.c5
  go_wp2_with fail
  refine ((meetAll _ qa qb hT R5).mono fun _ _ g => genB g).mono ?_
  rintro e w23 ⟨pC23_, mC23_, kC23_, qC23_, dC23_, eC23_, pC23_', mC23_', kC23_', qC23_', dC23_', eC23_', rfl, x1, y1, x2, y2, h23⟩
  replace hT := hT.mono h23
  replace hA := hA.mono h23
  replace hB := hB.mono h23
  replace hX := hX.mono h23
  replace qa := qa.mono h23
  replace qb := qb.mono h23
  replace qx := qx.mono h23
  replace hC := hC.mono h23
  replace hD := hD.mono h23
  replace T := Add.trans T h23
  clear h23  ca0 ca1 ca2 ca3 ca4 ca5 cb0 cb1 cb2 cb3 cb4 cb5 
  have itC : IvT _ (.agg #[.bool s5x, .slice pC23_ mC23_ kC23_, .slice qC23_ dC23_ eC23_, .bool s5y, .slice pC23_' mC23_' kC23_', .slice qC23_' dC23_' eC23_']) ((s5x, N5x, D5x), (s5y, N5y, D5y)) := ⟨_, _, _, _, _, _, _, _, _, _, _, _, rfl, x1, y1, x2, y2⟩
  clear x1 y1 x2 y2
  have hold := hC
  have sx0 := hold.c0
  have sy0 := hold.fr 0
  have sx1 := hold.c1
  have sy1 := hold.fr 1
  have sx2 := hold.c2
  have sy2 := hold.fr 2
  have sx3 := hold.c3
  have sy3 := hold.fr 3
  have sx4 := hold.c4
  have sy4 := hold.fr 4
  have sx5 := hold.c5
  have sy5 := hold.fr 5
  replace hT := Tab.put6 hT hold (.bool s5x) (.slice pC23_ mC23_ kC23_) (.slice qC23_ dC23_ eC23_) (.bool s5y) (.slice pC23_' mC23_' kC23_') (.slice qC23_' dC23_' eC23_')
  replace hA := Box6.other hA (show w.heap.size ≠ w11.heap.size by have := lAC.out; omega) (.bool s5x) (.slice pC23_ mC23_ kC23_) (.slice qC23_ dC23_ eC23_) (.bool s5y) (.slice pC23_' mC23_' kC23_') (.slice qC23_' dC23_' eC23_')
  replace hB := Box6.other hB (show w.heap.size + 1 ≠ w11.heap.size by have := lBC.out; omega) (.bool s5x) (.slice pC23_ mC23_ kC23_) (.slice qC23_ dC23_ eC23_) (.bool s5y) (.slice pC23_' mC23_' kC23_') (.slice qC23_' dC23_' eC23_')
  replace hX := Box.other6 hX (show w.heap.size + 1 + 1 ≠ w11.heap.size by have := lXC.out; omega) (.bool s5x) (.slice pC23_ mC23_ kC23_) (.slice qC23_ dC23_ eC23_) (.bool s5y) (.slice pC23_' mC23_' kC23_') (.slice qC23_' dC23_' eC23_')
  replace qa := IvA.put6 qa hold (.bool s5x) (.slice pC23_ mC23_ kC23_) (.slice qC23_ dC23_ eC23_) (.bool s5y) (.slice pC23_' mC23_' kC23_') (.slice qC23_' dC23_' eC23_')
  replace qb := IvA.put6 qb hold (.bool s5x) (.slice pC23_ mC23_ kC23_) (.slice qC23_ dC23_ eC23_) (.bool s5y) (.slice pC23_' mC23_' kC23_') (.slice qC23_' dC23_' eC23_')
  replace qx := FracA.put6 qx hold (.bool s5x) (.slice pC23_ mC23_ kC23_) (.slice qC23_ dC23_ eC23_) (.bool s5y) (.slice pC23_' mC23_' kC23_') (.slice qC23_' dC23_' eC23_')
  replace hC := hold.put s5x pC23_ mC23_ kC23_ qC23_ dC23_ eC23_ s5y pC23_' mC23_' kC23_' qC23_' dC23_' eC23_'
  replace hD := Box6.other hD (show w12.heap.size ≠ w11.heap.size by have := lCD.out; omega) (.bool s5x) (.slice pC23_ mC23_ kC23_) (.slice qC23_ dC23_ eC23_) (.bool s5y) (.slice pC23_' mC23_' kC23_') (.slice qC23_' dC23_' eC23_')
  replace itC := IvT.put6 itC hold (.bool s5x) (.slice pC23_ mC23_ kC23_) (.slice qC23_ dC23_ eC23_) (.bool s5y) (.slice pC23_' mC23_' kC23_') (.slice qC23_' dC23_' eC23_')
  replace T := put6_below (.bool s5x) (.slice pC23_ mC23_ kC23_) (.slice qC23_ dC23_ eC23_) (.bool s5y) (.slice pC23_' mC23_' kC23_') (.slice qC23_' dC23_' eC23_') T (show w.heap.size ≤ w11.heap.size by have := lAC.out; omega)
  clear hold
  unfold put6 at T hT hA hB hX qa qb qx hC hD itC
  have ca0 := hA.c0
  have ca1 := hA.c1
  have ca2 := hA.c2
  have ca3 := hA.c3
  have ca4 := hA.c4
  have ca5 := hA.c5
  have cb0 := hB.c0
  have cb1 := hB.c1
  have cb2 := hB.c2
  have cb3 := hB.c3
  have cb4 := hB.c4
  have cb5 := hB.c5
  go_wp2_with fail
  refine ((refMeetAll _ qa qb R5).mono fun _ _ g => genB g).mono ?_
  rintro e w24 ⟨pD24_, mD24_, kD24_, qD24_, dD24_, eD24_, pD24_', mD24_', kD24_', qD24_', dD24_', eD24_', rfl, x1, y1, x2, y2, h24⟩
  replace hT := hT.mono h24
  replace hA := hA.mono h24
  replace hB := hB.mono h24
  replace hX := hX.mono h24
  replace qa := qa.mono h24
  replace qb := qb.mono h24
  replace qx := qx.mono h24
  replace hC := hC.mono h24
  replace hD := hD.mono h24
  replace itC := itC.mono h24
  replace T := Add.trans T h24
  clear h24  ca0 ca1 ca2 ca3 ca4 ca5 cb0 cb1 cb2 cb3 cb4 cb5 sx0 sy0 sx1 sy1 sx2 sy2 sx3 sy3 sx4 sy4 sx5 sy5
  have itD : IvT _ (.agg #[.bool s5x, .slice pD24_ mD24_ kD24_, .slice qD24_ dD24_ eD24_, .bool s5y, .slice pD24_' mD24_' kD24_', .slice qD24_' dD24_' eD24_']) ((s5x, N5x, D5x), (s5y, N5y, D5y)) := ⟨_, _, _, _, _, _, _, _, _, _, _, _, rfl, x1, y1, x2, y2⟩
  clear x1 y1 x2 y2
  have hold := hD
  have sx0 := hold.c0
  have sy0 := hold.fr 0
  have sx1 := hold.c1
  have sy1 := hold.fr 1
  have sx2 := hold.c2
  have sy2 := hold.fr 2
  have sx3 := hold.c3
  have sy3 := hold.fr 3
  have sx4 := hold.c4
  have sy4 := hold.fr 4
  have sx5 := hold.c5
  have sy5 := hold.fr 5
  replace hT := Tab.put6 hT hold (.bool s5x) (.slice pD24_ mD24_ kD24_) (.slice qD24_ dD24_ eD24_) (.bool s5y) (.slice pD24_' mD24_' kD24_') (.slice qD24_' dD24_' eD24_')
  replace hA := Box6.other hA (show w.heap.size ≠ w12.heap.size by have := lAD.out; omega) (.bool s5x) (.slice pD24_ mD24_ kD24_) (.slice qD24_ dD24_ eD24_) (.bool s5y) (.slice pD24_' mD24_' kD24_') (.slice qD24_' dD24_' eD24_')
  replace hB := Box6.other hB (show w.heap.size + 1 ≠ w12.heap.size by have := lBD.out; omega) (.bool s5x) (.slice pD24_ mD24_ kD24_) (.slice qD24_ dD24_ eD24_) (.bool s5y) (.slice pD24_' mD24_' kD24_') (.slice qD24_' dD24_' eD24_')
  replace hX := Box.other6 hX (show w.heap.size + 1 + 1 ≠ w12.heap.size by have := lXD.out; omega) (.bool s5x) (.slice pD24_ mD24_ kD24_) (.slice qD24_ dD24_ eD24_) (.bool s5y) (.slice pD24_' mD24_' kD24_') (.slice qD24_' dD24_' eD24_')
  replace qa := IvA.put6 qa hold (.bool s5x) (.slice pD24_ mD24_ kD24_) (.slice qD24_ dD24_ eD24_) (.bool s5y) (.slice pD24_' mD24_' kD24_') (.slice qD24_' dD24_' eD24_')
  replace qb := IvA.put6 qb hold (.bool s5x) (.slice pD24_ mD24_ kD24_) (.slice qD24_ dD24_ eD24_) (.bool s5y) (.slice pD24_' mD24_' kD24_') (.slice qD24_' dD24_' eD24_')
  replace qx := FracA.put6 qx hold (.bool s5x) (.slice pD24_ mD24_ kD24_) (.slice qD24_ dD24_ eD24_) (.bool s5y) (.slice pD24_' mD24_' kD24_') (.slice qD24_' dD24_' eD24_')
  replace hC := Box6.other hC (show w11.heap.size ≠ w12.heap.size by have := lCD.out; omega) (.bool s5x) (.slice pD24_ mD24_ kD24_) (.slice qD24_ dD24_ eD24_) (.bool s5y) (.slice pD24_' mD24_' kD24_') (.slice qD24_' dD24_' eD24_')
  replace hD := hold.put s5x pD24_ mD24_ kD24_ qD24_ dD24_ eD24_ s5y pD24_' mD24_' kD24_' qD24_' dD24_' eD24_'
  replace itC := IvT.put6 itC hold (.bool s5x) (.slice pD24_ mD24_ kD24_) (.slice qD24_ dD24_ eD24_) (.bool s5y) (.slice pD24_' mD24_' kD24_') (.slice qD24_' dD24_' eD24_')
  replace itD := IvT.put6 itD hold (.bool s5x) (.slice pD24_ mD24_ kD24_) (.slice qD24_ dD24_ eD24_) (.bool s5y) (.slice pD24_' mD24_' kD24_') (.slice qD24_' dD24_' eD24_')
  replace T := put6_below (.bool s5x) (.slice pD24_ mD24_ kD24_) (.slice qD24_ dD24_ eD24_) (.bool s5y) (.slice pD24_' mD24_' kD24_') (.slice qD24_' dD24_' eD24_') T (show w.heap.size ≤ w12.heap.size by have := lAD.out; omega)
  clear hold
  unfold put6 at T hT hA hB hX qa qb qx hC hD itC itD
  have ca0 := hA.c0
  have ca1 := hA.c1
  have ca2 := hA.c2
  have ca3 := hA.c3
  have ca4 := hA.c4
  have ca5 := hA.c5
  go_wp2_with fail
  refine ((widAll _ qa hT R6).mono fun _ _ g => genF g).mono ?_
  rintro e w25 ⟨pV25_, mV25_, kV25_, qV25_, dV25_, eV25_, rfl, x1, y1, h25⟩
  replace hT := hT.mono h25
  replace hA := hA.mono h25
  replace hB := hB.mono h25
  replace hX := hX.mono h25
  replace qa := qa.mono h25
  replace qb := qb.mono h25
  replace qx := qx.mono h25
  replace hC := hC.mono h25
  replace hD := hD.mono h25
  replace itC := itC.mono h25
  replace itD := itD.mono h25
  replace T := Add.trans T h25
  clear h25  ca0 ca1 ca2 ca3 ca4 ca5 sx0 sy0 sx1 sy1 sx2 sy2 sx3 sy3 sx4 sy4 sx5 sy5
  have itV : FracT _ (.agg #[.bool s6x, .slice pV25_ mV25_ kV25_, .slice qV25_ dV25_ eV25_]) (s6x, N6x, D6x) := ⟨_, _, _, _, _, _, rfl, x1, y1⟩
  clear x1 y1
  have lAV := Lib.hid hA.lt
  have lBV := Lib.hid hB.lt
  have lXV := Lib.hid hX.lt
  have lCV := Lib.hid hC.lt
  have lDV := Lib.hid hD.lt
  obtain ⟨tt, hV⟩ := laid_var w25 s6x pV25_ mV25_ kV25_ qV25_ dV25_ eV25_
  replace hT := hT.mono tt
  replace hA := hA.mono tt
  replace hB := hB.mono tt
  replace hX := hX.mono tt
  replace qa := qa.mono tt
  replace qb := qb.mono tt
  replace qx := qx.mono tt
  replace hC := hC.mono tt
  replace hD := hD.mono tt
  replace itC := itC.mono tt
  replace itD := itD.mono tt
  replace itV := itV.mono tt
  replace T := Add.trans T tt
  clear tt
  have ca0 := hA.c0
  have ca1 := hA.c1
  have ca2 := hA.c2
  have ca3 := hA.c3
  have ca4 := hA.c4
  have ca5 := hA.c5
  go_wp2_with fail
  refine ((refWidAll _ qa R6).mono fun _ _ g => genF g).mono ?_
  rintro e w26 ⟨pW26_, mW26_, kW26_, qW26_, dW26_, eW26_, rfl, x1, y1, h26⟩
  replace hT := hT.mono h26
  replace hA := hA.mono h26
  replace hB := hB.mono h26
  replace hX := hX.mono h26
  replace qa := qa.mono h26
  replace qb := qb.mono h26
  replace qx := qx.mono h26
  replace hC := hC.mono h26
  replace hD := hD.mono h26
  replace itC := itC.mono h26
  replace itD := itD.mono h26
  replace hV := hV.mono h26
  replace itV := itV.mono h26
  replace T := Add.trans T h26
  clear h26  ca0 ca1 ca2 ca3 ca4 ca5 
  have itW : FracT _ (.agg #[.bool s6x, .slice pW26_ mW26_ kW26_, .slice qW26_ dW26_ eW26_]) (s6x, N6x, D6x) := ⟨_, _, _, _, _, _, rfl, x1, y1⟩
  clear x1 y1
  have lAW := Lib.hid hA.lt
  have lBW := Lib.hid hB.lt
  have lXW := Lib.hid hX.lt
  have lCW := Lib.hid hC.lt
  have lDW := Lib.hid hD.lt
  have lVW := Lib.hid hV.lt
  obtain ⟨tt, hW⟩ := laid_var w26 s6x pW26_ mW26_ kW26_ qW26_ dW26_ eW26_
  replace hT := hT.mono tt
  replace hA := hA.mono tt
  replace hB := hB.mono tt
  replace hX := hX.mono tt
  replace qa := qa.mono tt
  replace qb := qb.mono tt
  replace qx := qx.mono tt
  replace hC := hC.mono tt
  replace hD := hD.mono tt
  replace itC := itC.mono tt
  replace itD := itD.mono tt
  replace hV := hV.mono tt
  replace itV := itV.mono tt
  replace itW := itW.mono tt
  replace T := Add.trans T tt
  clear tt
  have cx0 := hX.c0
  have cx1 := hX.c1
  have cx2 := hX.c2
  go_wp2_with fail
  refine ((ptAll _ qx hT R7).mono fun _ _ g => genI g).mono ?_
  rintro e w27 ⟨pP27_, mP27_, kP27_, qP27_, dP27_, eP27_, pP27_', mP27_', kP27_', qP27_', dP27_', eP27_', rfl, x1, y1, x2, y2, h27⟩
  replace hT := hT.mono h27
  replace hA := hA.mono h27
  replace hB := hB.mono h27
  replace hX := hX.mono h27
  replace qa := qa.mono h27
  replace qb := qb.mono h27
  replace qx := qx.mono h27
  replace hC := hC.mono h27
  replace hD := hD.mono h27
  replace itC := itC.mono h27
  replace itD := itD.mono h27
  replace hV := hV.mono h27
  replace itV := itV.mono h27
  replace hW := hW.mono h27
  replace itW := itW.mono h27
  replace T := Add.trans T h27
  clear h27  cx0 cx1 cx2 
  have itP : IvT _ (.agg #[.bool s7x, .slice pP27_ mP27_ kP27_, .slice qP27_ dP27_ eP27_, .bool s7y, .slice pP27_' mP27_' kP27_', .slice qP27_' dP27_' eP27_']) ((s7x, N7x, D7x), (s7y, N7y, D7y)) := ⟨_, _, _, _, _, _, _, _, _, _, _, _, rfl, x1, y1, x2, y2⟩
  clear x1 y1 x2 y2
  have lAP := Lib.hid hA.lt
  have lBP := Lib.hid hB.lt
  have lXP := Lib.hid hX.lt
  have lCP := Lib.hid hC.lt
  have lDP := Lib.hid hD.lt
  have lVP := Lib.hid hV.lt
  have lWP := Lib.hid hW.lt
  obtain ⟨tt, hP⟩ := laid6 w27 s7x pP27_ mP27_ kP27_ qP27_ dP27_ eP27_ s7y pP27_' mP27_' kP27_' qP27_' dP27_' eP27_'
  replace hT := hT.mono tt
  replace hA := hA.mono tt
  replace hB := hB.mono tt
  replace hX := hX.mono tt
  replace qa := qa.mono tt
  replace qb := qb.mono tt
  replace qx := qx.mono tt
  replace hC := hC.mono tt
  replace hD := hD.mono tt
  replace itC := itC.mono tt
  replace itD := itD.mono tt
  replace hV := hV.mono tt
  replace itV := itV.mono tt
  replace hW := hW.mono tt
  replace itW := itW.mono tt
  replace itP := itP.mono tt
  replace T := Add.trans T tt
  clear tt
  have cx0 := hX.c0
  have cx1 := hX.c1
  have cx2 := hX.c2
  go_wp2_with fail
  refine ((refPtAll _ qx R7).mono fun _ _ g => genI g).mono ?_
  rintro e w28 ⟨pQ28_, mQ28_, kQ28_, qQ28_, dQ28_, eQ28_, pQ28_', mQ28_', kQ28_', qQ28_', dQ28_', eQ28_', rfl, x1, y1, x2, y2, h28⟩
  replace hT := hT.mono h28
  replace hA := hA.mono h28
  replace hB := hB.mono h28
  replace hX := hX.mono h28
  replace qa := qa.mono h28
  replace qb := qb.mono h28
  replace qx := qx.mono h28
  replace hC := hC.mono h28
  replace hD := hD.mono h28
  replace itC := itC.mono h28
  replace itD := itD.mono h28
  replace hV := hV.mono h28
  replace itV := itV.mono h28
  replace hW := hW.mono h28
  replace itW := itW.mono h28
  replace hP := hP.mono h28
  replace itP := itP.mono h28
  replace T := Add.trans T h28
  clear h28  cx0 cx1 cx2 
  have itQ : IvT _ (.agg #[.bool s7x, .slice pQ28_ mQ28_ kQ28_, .slice qQ28_ dQ28_ eQ28_, .bool s7y, .slice pQ28_' mQ28_' kQ28_', .slice qQ28_' dQ28_' eQ28_']) ((s7x, N7x, D7x), (s7y, N7y, D7y)) := ⟨_, _, _, _, _, _, _, _, _, _, _, _, rfl, x1, y1, x2, y2⟩
  clear x1 y1 x2 y2
  have lAQ := Lib.hid hA.lt
  have lBQ := Lib.hid hB.lt
  have lXQ := Lib.hid hX.lt
  have lCQ := Lib.hid hC.lt
  have lDQ := Lib.hid hD.lt
  have lVQ := Lib.hid hV.lt
  have lWQ := Lib.hid hW.lt
  have lPQ := Lib.hid hP.lt
  obtain ⟨tt, hQ⟩ := laid6 w28 s7x pQ28_ mQ28_ kQ28_ qQ28_ dQ28_ eQ28_ s7y pQ28_' mQ28_' kQ28_' qQ28_' dQ28_' eQ28_'
  replace hT := hT.mono tt
  replace hA := hA.mono tt
  replace hB := hB.mono tt
  replace hX := hX.mono tt
  replace qa := qa.mono tt
  replace qb := qb.mono tt
  replace qx := qx.mono tt
  replace hC := hC.mono tt
  replace hD := hD.mono tt
  replace itC := itC.mono tt
  replace itD := itD.mono tt
  replace hV := hV.mono tt
  replace itV := itV.mono tt
  replace hW := hW.mono tt
  replace itW := itW.mono tt
  replace hP := hP.mono tt
  replace itP := itP.mono tt
  replace itQ := itQ.mono tt
  replace T := Add.trans T tt
  clear tt
  go_wp2_with fail
  obtain ⟨W5, hW5⟩ : ∃ W5, W5 = w28.alloc (.cells #[.bool s7x, .slice pQ28_ mQ28_ kQ28_, .slice qQ28_ dQ28_ eQ28_, .bool s7y, .slice pQ28_' mQ28_' kQ28_', .slice qQ28_' dQ28_' eQ28_'] 27) := ⟨_, rfl⟩
  rw [← hW5] at T hT hA hB hX qa qb qx hC hD itC itD hV itV hW itW hP itP hQ itQ ⊢
  clear hW5
  have K0 : Hid (∀ w', Add W5 w' → w'.cell? ⟨w11.heap.size, 0, none⟩ = some (.bool s5x) ∧ w'.cell? ⟨w11.heap.size, 1, none⟩ = some (.slice pC23_ mC23_ kC23_) ∧ w'.cell? ⟨w11.heap.size, 2, none⟩ = some (.slice qC23_ dC23_ eC23_) ∧ w'.cell? ⟨w11.heap.size, 3, none⟩ = some (.bool s5y) ∧ w'.cell? ⟨w11.heap.size, 4, none⟩ = some (.slice pC23_' mC23_' kC23_') ∧ w'.cell? ⟨w11.heap.size, 5, none⟩ = some (.slice qC23_' dC23_' eC23_') ∧ w'.cell? ⟨w12.heap.size, 0, none⟩ = some (.bool s5x) ∧ w'.cell? ⟨w12.heap.size, 1, none⟩ = some (.slice pD24_ mD24_ kD24_) ∧ w'.cell? ⟨w12.heap.size, 2, none⟩ = some (.slice qD24_ dD24_ eD24_) ∧ w'.cell? ⟨w12.heap.size, 3, none⟩ = some (.bool s5y) ∧ w'.cell? ⟨w12.heap.size, 4, none⟩ = some (.slice pD24_' mD24_' kD24_') ∧ w'.cell? ⟨w12.heap.size, 5, none⟩ = some (.slice qD24_' dD24_' eD24_') ∧ w'.cell? ⟨w25.heap.size, 0, none⟩ = some (.bool s6x) ∧ w'.cell? ⟨w25.heap.size, 1, none⟩ = some (.slice pV25_ mV25_ kV25_) ∧ w'.cell? ⟨w25.heap.size, 2, none⟩ = some (.slice qV25_ dV25_ eV25_) ∧ w'.cell? ⟨w26.heap.size, 0, none⟩ = some (.bool s6x) ∧ w'.cell? ⟨w26.heap.size, 1, none⟩ = some (.slice pW26_ mW26_ kW26_) ∧ w'.cell? ⟨w26.heap.size, 2, none⟩ = some (.slice qW26_ dW26_ eW26_) ∧ w'.cell? ⟨w27.heap.size, 0, none⟩ = some (.bool s7x) ∧ w'.cell? ⟨w27.heap.size, 1, none⟩ = some (.slice pP27_ mP27_ kP27_) ∧ w'.cell? ⟨w27.heap.size, 2, none⟩ = some (.slice qP27_ dP27_ eP27_) ∧ w'.cell? ⟨w27.heap.size, 3, none⟩ = some (.bool s7y) ∧ w'.cell? ⟨w27.heap.size, 4, none⟩ = some (.slice pP27_' mP27_' kP27_') ∧ w'.cell? ⟨w27.heap.size, 5, none⟩ = some (.slice qP27_' dP27_' eP27_') ∧ w'.cell? ⟨w28.heap.size, 0, none⟩ = some (.bool s7x) ∧ w'.cell? ⟨w28.heap.size, 1, none⟩ = some (.slice pQ28_ mQ28_ kQ28_) ∧ w'.cell? ⟨w28.heap.size, 2, none⟩ = some (.slice qQ28_ dQ28_ eQ28_) ∧ w'.cell? ⟨w28.heap.size, 3, none⟩ = some (.bool s7y) ∧ w'.cell? ⟨w28.heap.size, 4, none⟩ = some (.slice pQ28_' mQ28_' kQ28_') ∧ w'.cell? ⟨w28.heap.size, 5, none⟩ = some (.slice qQ28_' dQ28_' eQ28_') ∧ w'.cell? ⟨w.heap.size, 0, none⟩ = some (.bool x.1.1) ∧ w'.cell? ⟨w.heap.size, 1, none⟩ = some (.slice an n cn) ∧ w'.cell? ⟨w.heap.size, 2, none⟩ = some (.slice ad d cd) ∧ w'.cell? ⟨w.heap.size, 3, none⟩ = some (.bool x.2.1) ∧ w'.cell? ⟨w.heap.size, 4, none⟩ = some (.slice an' n' cn') ∧ w'.cell? ⟨w.heap.size, 5, none⟩ = some (.slice ad' d' cd') ∧ w'.cell? ⟨w.heap.size + 1, 0, none⟩ = some (.bool y.1.1) ∧ w'.cell? ⟨w.heap.size + 1, 1, none⟩ = some (.slice an2 n2 cn2) ∧ w'.cell? ⟨w.heap.size + 1, 2, none⟩ = some (.slice ad2 d2 cd2) ∧ w'.cell? ⟨w.heap.size + 1, 3, none⟩ = some (.bool y.2.1) ∧ w'.cell? ⟨w.heap.size + 1, 4, none⟩ = some (.slice an3 n3 cn3) ∧ w'.cell? ⟨w.heap.size + 1, 5, none⟩ = some (.slice ad3 d3 cd3) ∧ w'.cell? ⟨w.heap.size + 1 + 1, 0, none⟩ = some (.bool z.1) ∧ w'.cell? ⟨w.heap.size + 1 + 1, 1, none⟩ = some (.slice an4 n4 cn4) ∧ w'.cell? ⟨w.heap.size + 1 + 1, 2, none⟩ = some (.slice ad4 d4 cd4)) := Lib.hid fun w' g => ⟨(hC.mono g).c0, (hC.mono g).c1, (hC.mono g).c2, (hC.mono g).c3, (hC.mono g).c4, (hC.mono g).c5, (hD.mono g).c0, (hD.mono g).c1, (hD.mono g).c2, (hD.mono g).c3, (hD.mono g).c4, (hD.mono g).c5, (hV.mono g).c0, (hV.mono g).c1, (hV.mono g).c2, (hW.mono g).c0, (hW.mono g).c1, (hW.mono g).c2, (hP.mono g).c0, (hP.mono g).c1, (hP.mono g).c2, (hP.mono g).c3, (hP.mono g).c4, (hP.mono g).c5, (hQ.mono g).c0, (hQ.mono g).c1, (hQ.mono g).c2, (hQ.mono g).c3, (hQ.mono g).c4, (hQ.mono g).c5, (hA.mono g).c0, (hA.mono g).c1, (hA.mono g).c2, (hA.mono g).c3, (hA.mono g).c4, (hA.mono g).c5, (hB.mono g).c0, (hB.mono g).c1, (hB.mono g).c2, (hB.mono g).c3, (hB.mono g).c4, (hB.mono g).c5, (hX.mono g).c0, (hX.mono g).c1, (hX.mono g).c2⟩
  have C1 : Hid (∀ w', Add W5 w' → Calls Tryz.prog 10 #[.agg #[.bool s5x, .slice pC23_ mC23_ kC23_, .slice qC23_ dC23_ eC23_, .bool s5y, .slice pC23_' mC23_' kC23_', .slice qC23_' dC23_' eC23_'], .agg #[.bool s5x, .slice pD24_ mD24_ kD24_, .slice qD24_ dD24_ eD24_, .bool s5y, .slice pD24_' mD24_' kD24_', .slice qD24_' dD24_' eD24_']] w' (BoolIs w' true)) := Lib.hid fun w' g => sameIN true (itC.mono g) (itD.mono g) (selfI _)
  have C2 : Hid (∀ w', Add W5 w' → Calls Tryz.prog 23 #[.agg #[.bool s6x, .slice pV25_ mV25_ kV25_, .slice qV25_ dV25_ eV25_], .agg #[.bool s6x, .slice pW26_ mW26_ kW26_, .slice qW26_ dW26_ eW26_]] w' (BoolIs w' true)) := Lib.hid fun w' g => sameF true (itV.mono g) (itW.mono g) (Lib.hid (decide_eq_true rfl))
  have C3 : Hid (∀ w', Add W5 w' → Calls Tryz.prog 10 #[.agg #[.bool s7x, .slice pP27_ mP27_ kP27_, .slice qP27_ dP27_ eP27_, .bool s7y, .slice pP27_' mP27_' kP27_', .slice qP27_' dP27_' eP27_'], .agg #[.bool s7x, .slice pQ28_ mQ28_ kQ28_, .slice qQ28_ dQ28_ eQ28_, .bool s7y, .slice pQ28_' mQ28_' kQ28_', .slice qQ28_' dQ28_' eQ28_']] w' (BoolIs w' true)) := Lib.hid fun w' g => sameIN true (itP.mono g) (itQ.mono g) (selfI _)
  have C4 : Hid (∀ w', Add W5 w' → Calls Tryz.prog 24 #[.agg #[.bool x.1.1, .slice an n cn, .slice ad d cd, .bool x.2.1, .slice an' n' cn', .slice ad' d' cd']] w' (BoolIs w' ov)) := Lib.hid fun w' g => validIN ov (qa.mono g) RV
  have C5 : Hid (∀ w', Add W5 w' → Calls Tryz.prog 25 #[.agg #[.bool x.1.1, .slice an n cn, .slice ad d cd, .bool x.2.1, .slice an' n' cn', .slice ad' d' cd']] w' (BoolIs w' ov)) := Lib.hid fun w' g => refValidIN ov (qa.mono g) RV
  have C6 : Hid (∀ w', Add W5 w' → Calls Tryz.prog 26 #[.agg #[.bool x.1.1, .slice an n cn, .slice ad d cd, .bool x.2.1, .slice an' n' cn', .slice ad' d' cd'], .agg #[.bool z.1, .slice an4 n4 cn4, .slice ad4 d4 cd4]] w' (BoolIs w' oc)) := Lib.hid fun w' g => containsN oc (qa.mono g) (qx.mono g) RC
  have C7 : Hid (∀ w', Add W5 w' → Calls Tryz.prog 27 #[.agg #[.bool x.1.1, .slice an n cn, .slice ad d cd, .bool x.2.1, .slice an' n' cn', .slice ad' d' cd'], .agg #[.bool z.1, .slice an4 n4 cn4, .slice ad4 d4 cd4]] w' (BoolIs w' oc)) := Lib.hid fun w' g => refContainsN oc (qa.mono g) (qx.mono g) RC
  have C8 : Hid (∀ w', Add W5 w' → Calls Tryz.prog 28 #[.agg #[.bool x.1.1, .slice an n cn, .slice ad d cd, .bool x.2.1, .slice an' n' cn', .slice ad' d' cd'], .agg #[.bool y.1.1, .slice an2 n2 cn2, .slice ad2 d2 cd2, .bool y.2.1, .slice an3 n3 cn3, .slice ad3 d3 cd3]] w' (BoolIs w' oi)) := Lib.hid fun w' g => insideN oi (qa.mono g) (qb.mono g) RI
  have C9 : Hid (∀ w', Add W5 w' → Calls Tryz.prog 29 #[.agg #[.bool x.1.1, .slice an n cn, .slice ad d cd, .bool x.2.1, .slice an' n' cn', .slice ad' d' cd'], .agg #[.bool y.1.1, .slice an2 n2 cn2, .slice ad2 d2 cd2, .bool y.2.1, .slice an3 n3 cn3, .slice ad3 d3 cd3]] w' (BoolIs w' oi)) := Lib.hid fun w' g => refInsideN oi (qa.mono g) (qb.mono g) RI
  have C10 : Hid (∀ w', Add W5 w' → Calls Tryz.prog 7 #[] w' (BoolIs w' true)) := Lib.hid fun w' g => awake3_any _ (hT.mono g)
  have fC0 := hC.c0
  have fC1 := hC.c1
  have fC2 := hC.c2
  have fC3 := hC.c3
  have fC4 := hC.c4
  have fC5 := hC.c5
  have fD0 := hD.c0
  have fD1 := hD.c1
  have fD2 := hD.c2
  have fD3 := hD.c3
  have fD4 := hD.c4
  have fD5 := hD.c5
  have fV0 := hV.c0
  have fV1 := hV.c1
  have fV2 := hV.c2
  have fW0 := hW.c0
  have fW1 := hW.c1
  have fW2 := hW.c2
  have fP0 := hP.c0
  have fP1 := hP.c1
  have fP2 := hP.c2
  have fP3 := hP.c3
  have fP4 := hP.c4
  have fP5 := hP.c5
  have fQ0 := hQ.c0
  have fQ1 := hQ.c1
  have fQ2 := hQ.c2
  have fQ3 := hQ.c3
  have fQ4 := hQ.c4
  have fQ5 := hQ.c5
  have fA0 := hA.c0
  have fA1 := hA.c1
  have fA2 := hA.c2
  have fA3 := hA.c3
  have fA4 := hA.c4
  have fA5 := hA.c5
  have fB0 := hB.c0
  have fB1 := hB.c1
  have fB2 := hB.c2
  have fB3 := hB.c3
  have fB4 := hB.c4
  have fB5 := hB.c5
  have fX0 := hX.c0
  have fX1 := hX.c1
  have fX2 := hX.c2
  clear hT hA hB hX qa qb qx hC hD itC itD hV itV hW itW hP itP hQ itQ R5 R6 R7 RV RC RI lAC lBC lXC lAD lBD lXD lCD lAV lBV lXV lCV lDV lAW lBW lXW lCW lDW lVW lAP lBP lXP lCP lDP lVP lWP lAQ lBQ lXQ lCQ lDQ lVQ lWQ lPQ
  go_region_held3 (fun w' => w'.cell? ⟨w11.heap.size, 0, none⟩ = some (.bool s5x) ∧ w'.cell? ⟨w11.heap.size, 1, none⟩ = some (.slice pC23_ mC23_ kC23_) ∧ w'.cell? ⟨w11.heap.size, 2, none⟩ = some (.slice qC23_ dC23_ eC23_) ∧ w'.cell? ⟨w11.heap.size, 3, none⟩ = some (.bool s5y) ∧ w'.cell? ⟨w11.heap.size, 4, none⟩ = some (.slice pC23_' mC23_' kC23_') ∧ w'.cell? ⟨w11.heap.size, 5, none⟩ = some (.slice qC23_' dC23_' eC23_') ∧ w'.cell? ⟨w12.heap.size, 0, none⟩ = some (.bool s5x) ∧ w'.cell? ⟨w12.heap.size, 1, none⟩ = some (.slice pD24_ mD24_ kD24_) ∧ w'.cell? ⟨w12.heap.size, 2, none⟩ = some (.slice qD24_ dD24_ eD24_) ∧ w'.cell? ⟨w12.heap.size, 3, none⟩ = some (.bool s5y) ∧ w'.cell? ⟨w12.heap.size, 4, none⟩ = some (.slice pD24_' mD24_' kD24_') ∧ w'.cell? ⟨w12.heap.size, 5, none⟩ = some (.slice qD24_' dD24_' eD24_') ∧ w'.cell? ⟨w25.heap.size, 0, none⟩ = some (.bool s6x) ∧ w'.cell? ⟨w25.heap.size, 1, none⟩ = some (.slice pV25_ mV25_ kV25_) ∧ w'.cell? ⟨w25.heap.size, 2, none⟩ = some (.slice qV25_ dV25_ eV25_) ∧ w'.cell? ⟨w26.heap.size, 0, none⟩ = some (.bool s6x) ∧ w'.cell? ⟨w26.heap.size, 1, none⟩ = some (.slice pW26_ mW26_ kW26_) ∧ w'.cell? ⟨w26.heap.size, 2, none⟩ = some (.slice qW26_ dW26_ eW26_) ∧ w'.cell? ⟨w27.heap.size, 0, none⟩ = some (.bool s7x) ∧ w'.cell? ⟨w27.heap.size, 1, none⟩ = some (.slice pP27_ mP27_ kP27_) ∧ w'.cell? ⟨w27.heap.size, 2, none⟩ = some (.slice qP27_ dP27_ eP27_) ∧ w'.cell? ⟨w27.heap.size, 3, none⟩ = some (.bool s7y) ∧ w'.cell? ⟨w27.heap.size, 4, none⟩ = some (.slice pP27_' mP27_' kP27_') ∧ w'.cell? ⟨w27.heap.size, 5, none⟩ = some (.slice qP27_' dP27_' eP27_') ∧ w'.cell? ⟨w28.heap.size, 0, none⟩ = some (.bool s7x) ∧ w'.cell? ⟨w28.heap.size, 1, none⟩ = some (.slice pQ28_ mQ28_ kQ28_) ∧ w'.cell? ⟨w28.heap.size, 2, none⟩ = some (.slice qQ28_ dQ28_ eQ28_) ∧ w'.cell? ⟨w28.heap.size, 3, none⟩ = some (.bool s7y) ∧ w'.cell? ⟨w28.heap.size, 4, none⟩ = some (.slice pQ28_' mQ28_' kQ28_') ∧ w'.cell? ⟨w28.heap.size, 5, none⟩ = some (.slice qQ28_' dQ28_' eQ28_') ∧ w'.cell? ⟨w.heap.size, 0, none⟩ = some (.bool x.1.1) ∧ w'.cell? ⟨w.heap.size, 1, none⟩ = some (.slice an n cn) ∧ w'.cell? ⟨w.heap.size, 2, none⟩ = some (.slice ad d cd) ∧ w'.cell? ⟨w.heap.size, 3, none⟩ = some (.bool x.2.1) ∧ w'.cell? ⟨w.heap.size, 4, none⟩ = some (.slice an' n' cn') ∧ w'.cell? ⟨w.heap.size, 5, none⟩ = some (.slice ad' d' cd') ∧ w'.cell? ⟨w.heap.size + 1, 0, none⟩ = some (.bool y.1.1) ∧ w'.cell? ⟨w.heap.size + 1, 1, none⟩ = some (.slice an2 n2 cn2) ∧ w'.cell? ⟨w.heap.size + 1, 2, none⟩ = some (.slice ad2 d2 cd2) ∧ w'.cell? ⟨w.heap.size + 1, 3, none⟩ = some (.bool y.2.1) ∧ w'.cell? ⟨w.heap.size + 1, 4, none⟩ = some (.slice an3 n3 cn3) ∧ w'.cell? ⟨w.heap.size + 1, 5, none⟩ = some (.slice ad3 d3 cd3) ∧ w'.cell? ⟨w.heap.size + 1 + 1, 0, none⟩ = some (.bool z.1) ∧ w'.cell? ⟨w.heap.size + 1 + 1, 1, none⟩ = some (.slice an4 n4 cn4) ∧ w'.cell? ⟨w.heap.size + 1 + 1, 2, none⟩ = some (.slice ad4 d4 cd4))
    (first | with_reducible exact K0.out _ t10 | with_reducible exact K0.out _ t9 | with_reducible exact K0.out _ t8 | with_reducible exact K0.out _ t7 | with_reducible exact K0.out _ t6 | with_reducible exact K0.out _ t5 | with_reducible exact K0.out _ t4 | with_reducible exact K0.out _ t3 | with_reducible exact K0.out _ t2 | with_reducible exact K0.out _ t1 | with_reducible exact K0.out _ (Below.drew (Below.refl _ _)) | go_keep)
    (first | (go_at_call 10; ((with_reducible refine (C1.out _ (Below.drew (Below.refl _ _))).mono ?_); rintro e z1 ⟨rfl, hq1⟩; have t1 := Add.trans (Below.drew (Below.refl _ _) : Add W5 (World.drew W5)) hq1))
           | (go_at_call 23; ((with_reducible refine (C2.out _ t1).mono ?_); rintro e z2 ⟨rfl, hq2⟩; have t2 := Add.trans t1 hq2))
           | (go_at_call 10; ((with_reducible refine (C3.out _ t2).mono ?_); rintro e z3 ⟨rfl, hq3⟩; have t3 := Add.trans t2 hq3))
           | (go_at_call 24; ((with_reducible refine (C4.out _ t3).mono ?_); rintro e z4 ⟨rfl, hq4⟩; have t4 := Add.trans t3 hq4))
           | (go_at_call 25; ((with_reducible refine (C5.out _ t4).mono ?_); rintro e z5 ⟨rfl, hq5⟩; have t5 := Add.trans t4 hq5))
           | (go_at_call 26; ((with_reducible refine (C6.out _ t5).mono ?_); rintro e z6 ⟨rfl, hq6⟩; have t6 := Add.trans t5 hq6))
           | (go_at_call 27; ((with_reducible refine (C7.out _ t6).mono ?_); rintro e z7 ⟨rfl, hq7⟩; have t7 := Add.trans t6 hq7))
           | (go_at_call 28; ((with_reducible refine (C8.out _ t7).mono ?_); rintro e z8 ⟨rfl, hq8⟩; have t8 := Add.trans t7 hq8))
           | (go_at_call 29; ((with_reducible refine (C9.out _ t8).mono ?_); rintro e z9 ⟨rfl, hq9⟩; have t9 := Add.trans t8 hq9))
           | (go_at_call 7; ((with_reducible refine (C10.out _ t9).mono ?_); rintro e z10 ⟨rfl, hq10⟩; have t10 := Add.trans t9 hq10)))
  have T9 := Add.trans T t10
  clear K0 C1 C2 C3 C4 C5 C6 C7 C8 C9 C10
  go_wp2_with fail
  go_ret
  exact ⟨rfl, T9⟩
theorem exact3_any {v v' u : Value} {x y : IvL} {z : FrL} (w : World) (hx : IvI w v x) (hy : IvI w v' y) (hu : FracI w u z.1 z.2.1 z.2.2) (hT : Tab w) : Calls Tryz.prog 3 #[v, v', u] w (LawP w) := by
  rcases hl : (longE x || longE y) with _ | _
  · by_cases h12 : 12 < z.2.1.length
    · exact longN w hx hy hu hT hl h12
    · by_cases h13 : 12 < z.2.2.length
      · exact longD w hx hy hu hT hl h12 h13
      · exact ok_case w hx hy hu hT hl h12 h13
  · exact long_case w hx hy hu hT hl
end Go.Proofs.YtifpfoeecnkhoaaGreatDoor.IvExaL
