import Derived.Test.YtbeoeackahmpbaaGreatDoorJV2
import Derived.Test.YtbeoeackahmpbaaGreatDoorJN
import Derived.Deep.RegionHeld3
import Derived.Deep.Cut
import Derived.Test.YtbeoeackahmpbaaGreatDoorJV7
import Derived.Test.YtbeoeackahmpbaaGreatDoorJV5
import Derived.Test.YtbeoeackahmpbaaGreatDoorF15
namespace Go.Proofs.YtbeoeackahmpbaaGreatDoor
open Go.RowKit NatM Go.Proofs.YtbeoeackahmpbaaGreatDoor.Api
set_option maxRecDepth 100000 in
set_option maxHeartbeats 1000000 in
theorem refVectorN (t : Bool) {w : World} {v : Value} {m n : Nat} {x : Nat → Tri} (h : RowP false w v m x) (hn : n ≤ 9223372036854775807) (ht : Hid (vecOk x m n = t)) :
 Calls Tryz.prog 43 #[v, .int .i64 (n : Nat)] w (BoolIs w t) := by
 have HR := Lib.hid h
 obtain ⟨ao, c, rfl, h1, h2, -⟩ := h
 unfold maxLen at h2
 have hm : m ≤ 9223372036854775807 := by omega
 clear h1 h2
 by_cases hmn : m = n
 · have HO : Hid (okR x m = t) := Lib.hid (by have := ht.out; unfold vecOk at this; rwa [decide_eq_true hmn, Bool.true_and] at this)
   subst hmn
   clear ht
   go_enter Tryz.func43, Tryz.ntmps43
   go_wp2_with fail
   go_loopw [5] (fun i wr => ∃ k : Nat, k ≤ m ∧ i = .int .i64 (k : Nat) ∧ okR x k = true ∧ Add w wr) (fun i _ => m - (intOf i).toNat)
   case atStart => exact ⟨0, Nat.zero_le _, rfl, rfl, Below.refl _ _⟩
   case round =>
    obtain ⟨k, hk, rfl, hrel, T⟩ := hrel
    have HREL := Lib.hid hrel
    clear hrel
    by_cases h0 : k = m
    · have HF : Hid (t = true) := Lib.hid (by rw [← HO.out, ← h0]; exact HREL.out)
      have TT := Lib.hid T
      clear T HREL HO
      subst h0
      go_wp2_with fail
      go_ret
      rw [HF.out]; exact ⟨rfl, TT.out⟩
    · have hlt : k < m := by omega
      obtain ⟨b, off, s, an, q, cn, ad, d, cd, rfl, -, c0, c1, c2, hx⟩ := (HR.out.add T).get hlt
      cases hb : okF (x k) with
      | true =>
       have C := Lib.hid (refValidN true hx (Lib.hid hb))
       have HN : Hid (okR x (k + 1) = true) := Lib.hid (by rw [okR, HREL.out, hb]; rfl)
       have TF := Lib.hid T
       clear hx hb HREL h0 T
       go_wp2_with fail
       refine C.out.mono ?_
       rintro e w4 ⟨rfl, h4⟩
       have TG := Lib.hid (Add.trans TF.out h4)
       clear h4 TF C c0 c1 c2
       go_wp2_with fail
       go_roundw
       case rel => exact ⟨k + 1, by omega, by go_num, HN.out, TG.out⟩
       case measure => simp [intOf]; omega
      | false =>
       have C := Lib.hid (refValidN false hx (Lib.hid hb))
       have HF : Hid (t = false) := Lib.hid (by rw [← HO.out]; exact okR_not hlt hb)
       have TF := Lib.hid T
       clear hx hb HREL h0 T
       go_wp2_with fail
       refine C.out.mono ?_
       rintro e w4 ⟨rfl, h4⟩
       have TG := Lib.hid (Add.trans TF.out h4)
       clear h4 TF C c0 c1 c2
       go_wp2_with fail
       go_ret
       rw [HF.out]; exact ⟨rfl, TG.out⟩
 · have HF : Hid (t = false) := Lib.hid (by rw [← ht.out]; unfold vecOk; rw [decide_eq_false hmn]; rfl)
   have hne : ((m : Int) != (n : Int)) = true := by simp; omega
   clear ht hmn HR
   go_enter Tryz.func43, Tryz.ntmps43
   go_wp2_with fail
   go_ret
   rw [HF.out]; exact ⟨rfl, Below.refl _ _⟩
set_option maxRecDepth 100000 in
set_option maxHeartbeats 2000000 in
theorem refShape_no {w : World} {v : Value} {n : Nat} {m : Nat → Nat} {X : Nat → Nat → Tri} (h : MatP false w v n m X) (hb : shapeOk X m n = false) :
 Calls Tryz.prog 14 #[v] w (ShP w 0 0 false) := by
 obtain ⟨ao, c, rfl, hm⟩ := h.isSlice
 unfold maxLen at hm
 have HR := Lib.hid h
 have HB := Lib.hid hb
 clear h hb
 by_cases c1 : n < 1
 · have h0 : n = 0 := by omega
   subst h0
   clear HR HB hm c1
   go_enter Tryz.func14, Tryz.ntmps14
   go_wp2_with fail
   go_ret3
   exact ⟨rfl, Below.refl _ _⟩
 · have f1 : ¬ ((n : Int) < 1) := by omega
   have d1 : decide ((n : Int) < 1) = false := by simp; omega
   by_cases c2 : 24 < n
   · have f2 : (24 : Int) < (n : Int) := by omega
     have d2 : decide ((24 : Int) < (n : Int)) = true := by simp; omega
     clear HR HB c1 c2
     go_enter Tryz.func14, Tryz.ntmps14
     go_wp2_with fail
     go_ret3
     exact ⟨rfl, Below.refl _ _⟩
   · have f2 : ¬ ((24 : Int) < (n : Int)) := by omega
     have d2 : decide ((24 : Int) < (n : Int)) = false := by simp; omega
     obtain ⟨b, off, a, l, rfl, hm63, hcell, hrow⟩ := HR.out.row (show 0 < n by omega)
     rw [Nat.add_zero] at hcell
     obtain ⟨q, hq⟩ : ∃ q, m 0 = q := ⟨_, rfl⟩
     rw [hq] at hcell hrow hm63
     clear hrow
     by_cases c3 : q < 1
     · have h0 : q = 0 := by omega
       subst h0
       clear HR HB c3 c2 c1 hq
       go_enter Tryz.func14, Tryz.ntmps14
       go_wp2_with fail
       go_ret3
       exact ⟨rfl, Below.refl _ _⟩
     · have f3 : ¬ ((q : Int) < 1) := by omega
       have d3 : decide ((q : Int) < 1) = false := by simp; omega
       by_cases c4 : 24 < q
       · have f4 : (24 : Int) < (q : Int) := by omega
         have d4 : decide ((24 : Int) < (q : Int)) = true := by simp; omega
         clear HR HB c1 c2 c3 c4 hq
         go_enter Tryz.func14, Tryz.ntmps14
         go_wp2_with fail
         go_ret3
         exact ⟨rfl, Below.refl _ _⟩
       · have f4 : ¬ ((24 : Int) < (q : Int)) := by omega
         have d4 : decide ((24 : Int) < (q : Int)) = false := by simp; omega
         have HB2 : Hid (rowsOk X m q n = false) := Lib.hid (by have := HB.out; unfold shapeOk ordOk at this; rwa [hq, decide_eq_true (show 1 ≤ n ∧ n ≤ 24 by omega), decide_eq_true (show 1 ≤ q ∧ q ≤ 24 by omega), Bool.true_and, Bool.true_and] at this)
         clear HB
         go_enter Tryz.func14, Tryz.ntmps14
         go_wp2_with fail
         clear f1 d1 f2 d2 f3 d3 f4 d4
         go_loopw [5] (fun i wr => ∃ k : Nat, k ≤ n ∧ i = .int .i64 (k : Nat) ∧ rowsOk X m q k = true ∧ Add w wr) (fun i _ => n - (intOf i).toNat)
         case atStart => exact ⟨0, Nat.zero_le _, rfl, rfl, Below.refl _ _⟩
         case round =>
          clear hcell
          obtain ⟨k, hk, rfl, hrel, T⟩ := hrel
          have HREL := Lib.hid hrel
          clear hrel
          by_cases h0 : k = n
          · exfalso
            have := HREL.out
            rw [h0, HB2.out] at this
            cases this
          · have hlt : k < n := by omega
            obtain ⟨b3, off3, a3, l3, e3, hm3, hcell3, hrow3⟩ := (HR.out.add T).row hlt
            simp only [Option.some.injEq, Addr.mk.injEq, and_true] at e3
            obtain ⟨rfl, rfl⟩ := e3
            obtain ⟨b4, off4, a4, l4, e4, hm4, hcell4, hrow4⟩ := (HR.out.add T).row (show 0 < n by omega)
            simp only [Option.some.injEq, Addr.mk.injEq, and_true] at e4
            obtain ⟨rfl, rfl⟩ := e4
            obtain ⟨mk, hmk⟩ : ∃ mk, m k = mk := ⟨_, rfl⟩
            rw [Nat.add_zero, hq] at hcell4
            rw [hmk] at hcell3 hrow3 hm3
            have TT := Lib.hid T
            have HN : Hid (vecOk (X k) mk q = true → rowsOk X m q (k + 1) = true) := Lib.hid fun hv => (by rw [rowsOk, HREL.out, hmk, hv]; rfl)
            cases hv : vecOk (X k) mk q with
            | true =>
             have C3 : Hid (∀ w', Add wr w' → Calls Tryz.prog 43 #[.slice a3 mk l3, .int .i64 (q : Nat)] w' (BoolIs w' true)) := Lib.hid fun w' ha => refVectorN true (hrow3.add ha) hm63 (Lib.hid hv)
             have HK := Lib.hid (HN.out hv)
             clear hv hmk HN
             have hn0 : (0 : Int) < (n : Int) := by omega
             have hn1 : ¬ (n : Int) = 0 := by omega
             have hn3 : 0 < n := by omega
             have hn4 : ¬ n = 0 := by omega
             clear hrow3 hrow4 T h0 HREL
             go_upto_region 6 with fail
             go_region_held3 (fun w' => w'.cell? ⟨b, off + k, none⟩ = some (.slice a3 mk l3) ∧ w'.cell? ⟨b, off, none⟩ = some (.slice a4 q l4))
              (first | exact ⟨hcell3, hcell4⟩ | exact ⟨cell_addL hcell3 aa2, cell_addL hcell4 aa2⟩)
              (first | (go_at_call 43; ((with_reducible refine (C3.out _ (Below.drew (Below.refl _ _))).mono ?_); rintro e z1 ⟨rfl, h3⟩; have aa2 := Add.trans (Below.drew (Below.refl _ _) : Add wr (World.drew wr)) h3; have HTT := Lib.hid (Add.trans TT.out aa2))))
             all_goals
              go_wp2_with fail
              go_roundw
              case rel => exact ⟨k + 1, by omega, by go_num, HK.out, HTT.out⟩
              case measure => simp [intOf]; omega
            | false =>
             have C3 : Hid (∀ w', Add wr w' → Calls Tryz.prog 43 #[.slice a3 mk l3, .int .i64 (q : Nat)] w' (BoolIs w' false)) := Lib.hid fun w' ha => refVectorN false (hrow3.add ha) hm63 (Lib.hid hv)
             clear hv hmk HN
             have hn0 : (0 : Int) < (n : Int) := by omega
             have hn1 : ¬ (n : Int) = 0 := by omega
             have hn3 : 0 < n := by omega
             have hn4 : ¬ n = 0 := by omega
             clear hrow3 hrow4 T h0 HREL
             go_upto_region 6 with fail
             go_region_held3 (fun w' => w'.cell? ⟨b, off + k, none⟩ = some (.slice a3 mk l3) ∧ w'.cell? ⟨b, off, none⟩ = some (.slice a4 q l4))
              (first | exact ⟨hcell3, hcell4⟩ | exact ⟨cell_addL hcell3 aa2, cell_addL hcell4 aa2⟩)
              (first | (go_at_call 43; ((with_reducible refine (C3.out _ (Below.drew (Below.refl _ _))).mono ?_); rintro e z1 ⟨rfl, h3⟩; have aa2 := Add.trans (Below.drew (Below.refl _ _) : Add wr (World.drew wr)) h3; have HTT := Lib.hid (Add.trans TT.out aa2))))
             all_goals
              go_wp2_with fail
              go_ret3
              exact ⟨rfl, HTT.out⟩
set_option maxRecDepth 100000 in
set_option maxHeartbeats 2000000 in
theorem refShape_yes {w : World} {v : Value} {n q : Nat} {m : Nat → Nat} {X : Nat → Nat → Tri} (h : MatP false w v n m X) (hb : shapeOk X m n = true) (hq : m 0 = q) :
 Calls Tryz.prog 14 #[v] w (ShP w n q true) := by
 obtain ⟨ao, c, rfl, hm⟩ := h.isSlice
 unfold maxLen at hm
 have HR := Lib.hid h
 unfold shapeOk at hb
 rw [hq, Bool.and_eq_true, Bool.and_eq_true] at hb
 obtain ⟨⟨ho, ho2⟩, hb2⟩ := hb
 have hn2 : 1 ≤ n ∧ n ≤ 24 := of_decide_eq_true ho
 have hq2 : 1 ≤ q ∧ q ≤ 24 := of_decide_eq_true ho2
 have HB2 := Lib.hid hb2
 obtain ⟨b, off, a, l, rfl, hm63, hcell, -⟩ := HR.out.row (show 0 < n by omega)
 rw [Nat.add_zero] at hcell
 rw [hq] at hcell hm63
 have f1 : ¬ ((n : Int) < 1) := by omega
 have d1 : decide ((n : Int) < 1) = false := by simp; omega
 have f2 : ¬ ((24 : Int) < (n : Int)) := by omega
 have d2 : decide ((24 : Int) < (n : Int)) = false := by simp; omega
 have f3 : ¬ ((q : Int) < 1) := by omega
 have d3 : decide ((q : Int) < 1) = false := by simp; omega
 have f4 : ¬ ((24 : Int) < (q : Int)) := by omega
 have d4 : decide ((24 : Int) < (q : Int)) = false := by simp; omega
 clear h hb2 ho ho2
 go_enter Tryz.func14, Tryz.ntmps14
 go_wp2_with fail
 clear f1 d1 f2 d2 f3 d3 f4 d4
 go_loopw [5] (fun i wr => ∃ k : Nat, k ≤ n ∧ i = .int .i64 (k : Nat) ∧ rowsOk X m q k = true ∧ Add w wr) (fun i _ => n - (intOf i).toNat)
 case atStart => exact ⟨0, Nat.zero_le _, rfl, rfl, Below.refl _ _⟩
 case round =>
  clear hcell
  obtain ⟨k, hk, rfl, hrel, T⟩ := hrel
  have HREL := Lib.hid hrel
  clear hrel
  by_cases h0 : k = n
  · obtain ⟨b4, off4, a4, l4, e4, hm4, hcell4, -⟩ := (HR.out.add T).row (show 0 < n by omega)
    simp only [Option.some.injEq, Addr.mk.injEq, and_true] at e4
    obtain ⟨rfl, rfl⟩ := e4
    rw [Nat.add_zero, hq] at hcell4
    have TT := Lib.hid T
    clear T HREL
    have hn0 : (0 : Int) < (n : Int) := by omega
    subst h0
    go_upto_region 8 with fail
    go_region
    all_goals
     go_wp2_with fail
     go_ret3
     exact ⟨rfl, Below.drew TT.out⟩
  · have hlt : k < n := by omega
    obtain ⟨b3, off3, a3, l3, e3, hm3, hcell3, hrow3⟩ := (HR.out.add T).row hlt
    simp only [Option.some.injEq, Addr.mk.injEq, and_true] at e3
    obtain ⟨rfl, rfl⟩ := e3
    obtain ⟨b4, off4, a4, l4, e4, hm4, hcell4, hrow4⟩ := (HR.out.add T).row (show 0 < n by omega)
    simp only [Option.some.injEq, Addr.mk.injEq, and_true] at e4
    obtain ⟨rfl, rfl⟩ := e4
    obtain ⟨mk, hmk⟩ : ∃ mk, m k = mk := ⟨_, rfl⟩
    rw [Nat.add_zero, hq] at hcell4
    rw [hmk] at hcell3 hrow3 hm3
    have TT := Lib.hid T
    have HN : Hid (vecOk (X k) mk q = true → rowsOk X m q (k + 1) = true) := Lib.hid fun hv => (by rw [rowsOk, HREL.out, hmk, hv]; rfl)
    have hv := rowsOk_iff.1 HB2.out k hlt
    rw [hmk] at hv
    have C3 : Hid (∀ w', Add wr w' → Calls Tryz.prog 43 #[.slice a3 mk l3, .int .i64 (q : Nat)] w' (BoolIs w' true)) := Lib.hid fun w' ha => refVectorN true (hrow3.add ha) hm63 (Lib.hid hv)
    have HK := Lib.hid (HN.out hv)
    clear hv hmk HN
    have hn0 : (0 : Int) < (n : Int) := by omega
    have hn1 : ¬ (n : Int) = 0 := by omega
    have hn3 : 0 < n := by omega
    have hn4 : ¬ n = 0 := by omega
    clear hrow3 hrow4 T h0 HREL
    go_upto_region 6 with fail
    go_region_held3 (fun w' => w'.cell? ⟨b, off + k, none⟩ = some (.slice a3 mk l3) ∧ w'.cell? ⟨b, off, none⟩ = some (.slice a4 q l4))
     (first | exact ⟨hcell3, hcell4⟩ | exact ⟨cell_addL hcell3 aa2, cell_addL hcell4 aa2⟩)
     (first | (go_at_call 43; ((with_reducible refine (C3.out _ (Below.drew (Below.refl _ _))).mono ?_); rintro e z1 ⟨rfl, h3⟩; have aa2 := Add.trans (Below.drew (Below.refl _ _) : Add wr (World.drew wr)) h3; have HTT := Lib.hid (Add.trans TT.out aa2))))
    all_goals
     go_wp2_with fail
     go_roundw
     case rel => exact ⟨k + 1, by omega, by go_num, HK.out, HTT.out⟩
     case measure => simp [intOf]; omega
theorem refShapeN (p : Nat × Nat × Bool) {w : World} {v : Value} {n : Nat} {m : Nat → Nat} {X : Nat → Nat → Tri} (h : MatP false w v n m X) (hp : Hid (shN X m n = p)) :
 Calls Tryz.prog 14 #[v] w (ShP w p.1 p.2.1 p.2.2) := by
 rw [← hp.out]
 unfold shN
 by_cases hb : shapeOk X m n = true
 · rw [if_pos hb]; exact refShape_yes h hb rfl
 · rw [if_neg hb]; exact refShape_no h (by simpa using hb)
end Go.Proofs.YtbeoeackahmpbaaGreatDoor
namespace Go.Proofs.YtbeoeackahmpbaaGreatDoor
open Go.RowKit NatM Go.Proofs.YtbeoeackahmpbaaGreatDoor.Api LinM
theorem red_all {x : Tri} (h : okF x = true) : redF x = (can (qv x), 0) := by
 unfold redF
 obtain ⟨h1, h2, h3⟩ := okF_iff.1 h
 rw [if_pos h, show fitQ (qv x) = (can (qv x), 0) from fitQ_small h2 h3 h1]
theorem num_den {w : World} {v : Value} {D : Nat} (h : Num w v D) (h0 : D ≠ 0) : ∃ b off n c, v = .slice (some ⟨b, off, none⟩) n c ∧ 1 ≤ n ∧ n ≤ 9223372036854775807 ∧ (1 < n → D ≠ 1) ∧ (n = 1 → w.cell? ⟨b, off, none⟩ = some (.int .u32 (D : Nat)) ∧ D < 4294967296) := by
 obtain ⟨zs, ⟨ao, n, c, rfl, hl, hc, hm, hx, hr⟩, cz, hval⟩ := h
 have hz : tlen zs = zs.length := cz
 unfold maxLen at hm
 have hn : n ≠ 0 := fun e => by
  subst e
  have : zs = [] := List.length_eq_zero_iff.1 hl
  subst this
  exact h0 hval.symm
 obtain ⟨b, off, rfl, g⟩ := hr (by omega)
 refine ⟨b, off, n, c, rfl, by omega, by omega, fun h1 e => ?_, fun h1 => ?_⟩
 · have h2 := tlen_le_of_val (xs := zs) 1 (by rw [hval, e]; decide)
   omega
 · subst h1
   obtain ⟨x, rfl⟩ : ∃ x, zs = [x] := List.length_eq_one_iff.1 hl
   have e : x = D := by rw [← hval]; simp [val]
   have hlt := hx x (by simp)
   have := g 0 (by omega)
   rw [Nat.add_zero] at this
   subst e
   exact ⟨this, hlt⟩
set_option maxRecDepth 100000 in
set_option maxHeartbeats 2000000 in
theorem refWeightN {w : World} {v : Value} {m : Nat} {x : Nat → Tri} (h : RowP false w v m x) (hok : ∀ j, j < m → okF (x j) = true) (hm : m ≤ 1000) :
 Calls Tryz.prog 51 #[v] w (IntIs w (wtR (fun j => can (qr x j)) m : Nat)) := by
 obtain ⟨ao, c, rfl, -, -, -⟩ := id h
 have HR := Lib.hid h
 have HOK := Lib.hid hok
 have HLE : Hid (∀ k, k ≤ m → wtR (fun j => can (qr x j)) k ≤ 8192000) := Lib.hid fun k hk => wtR_le (m := m) (fun j hj => (fit_red (hok j hj)).sm) hm hk
 clear h hok
 go_enter Tryz.func51, Tryz.ntmps51
 go_wp2_with fail
 go_loopw [3, 4] (fun s i wr => ∃ k : Nat, k ≤ m ∧ i = .int .i64 (k : Nat) ∧ s = .int .i64 (wtR (fun j => can (qr x j)) k : Nat) ∧ Add w wr) (fun _ i _ => m - (intOf i).toNat)
 case atStart => exact ⟨0, Nat.zero_le _, rfl, rfl, Below.refl _ _⟩
 case round =>
  obtain ⟨k, hk, rfl, rfl, T⟩ := hrel
  obtain ⟨S, hS⟩ : ∃ S, S = wtR (fun j => can (qr x j)) k := ⟨_, rfl⟩
  have hS1 : S ≤ 8192000 := by rw [hS]; exact HLE.out k hk
  rw [← hS]
  have HSS := Lib.hid hS
  clear hS
  by_cases h0 : k = m
  · subst h0
    have TT := Lib.hid T
    clear T
    go_wp2_with fail
    go_ret
    rw [HSS.out]
    exact ⟨rfl, TT.out⟩
  · have hlt : k < m := by omega
    obtain ⟨b, off, s, an, q, cn, ad, d, cd, rfl, -, c0, c1, c2, hx⟩ := (HR.out.add T).get hlt
    have hok := HOK.out k hlt
    have CR := Lib.hid (refReduceN _ hx (Lib.hid (red_all hok)))
    obtain ⟨q0, hq0⟩ : ∃ q0, q0 = qv (x k) := ⟨_, rfl⟩
    have HQ : Hid (wtR (fun j => can (qr x j)) (k + 1) = S + wtF (can q0)) := Lib.hid (by
     rw [HSS.out, hq0]; rfl)
    have hsm := (fit_red hok).sm
    rw [← hq0] at CR hsm
    have b1 : nb (can q0).2.1 ≤ 4096 := nb_lt_pw.1 hsm.1
    have b2 : nb (can q0).2.2 ≤ 4096 := nb_lt_pw.1 hsm.2
    have HSM := Lib.hid hsm
    have TT := Lib.hid T
    clear hx hok T h0 hq0 hsm
    go_wp2_with fail
    refine CR.out.mono ?_
    rintro e w1 ⟨v1, rfl, hv1, h1⟩
    obtain ⟨a1, n1, c1', e1, d1, f1, rfl, u1, u2⟩ := id hv1
    obtain ⟨y1, hy1⟩ : ∃ y, y = (can q0).1 := ⟨_, rfl⟩
    dsimp only at hv1 u1 u2 ⊢
    rw [← hy1] at hv1 ⊢
    obtain ⟨tt, hB⟩ := laid_var w1 y1 a1 n1 c1' e1 d1 f1
    have T1 := Add.trans TT.out (Add.trans h1 tt)
    have p0 := hB.c0
    have p1 := hB.c1
    have p2 := hB.c2
    have un : ∀ w', Add (w1.alloc (.cells #[.bool y1, .slice a1 n1 c1', .slice e1 d1 f1] 37)) w' → Nv w' (.slice a1 n1 c1') (can q0).2.1 := fun w' g => num_nv ((u1.mono tt).mono g) (lt_up HSM.out.1 (by decide))
    have ud : ∀ w', Add (w1.alloc (.cells #[.bool y1, .slice a1 n1 c1', .slice e1 d1 f1] 37)) w' → Nv w' (.slice e1 d1 f1) (can q0).2.2 := fun w' g => num_nv ((u2.mono tt).mono g) (lt_up HSM.out.2 (by decide))
    obtain ⟨N1, hN1⟩ : ∃ q, nb (can q0).2.1 = q := ⟨_, rfl⟩
    obtain ⟨N2, hN2⟩ : ∃ q, nb (can q0).2.2 = q := ⟨_, rfl⟩
    have CB1 := Lib.hid (refBitsX N1 (un _ (Below.refl _ _)) (Lib.hid hN1))
    have CB2 := Lib.hid (fun w' g => refBitsX N2 (ud w' g) (Lib.hid hN2))
    obtain ⟨bd, od, nd, cdd, eD, hd1, hd2, hdm, hdo⟩ := num_den (u2.mono tt) (show (can q0).2.2 ≠ 0 from q0.den_nz)
    simp only [Value.slice.injEq] at eD
    obtain ⟨rfl, rfl, rfl⟩ := eD
    obtain ⟨an1, nn1, cn1, en1, hz1, -⟩ := num_size (u1.mono tt)
    simp only [Value.slice.injEq] at en1
    obtain ⟨rfl, rfl, rfl⟩ := en1
    have HW1 := Lib.hid (And.intro T1 hB)
    rw [hN1] at b1
    rw [hN2] at b2
    by_cases cz : n1 = 0
    · have hN0 := hz1.1 cz
      have hNN : N1 = 0 := by rw [← hN1, hN0]; rfl
      have hq : q0 = 0 := zero_can.1 hN0
      have HF : Hid (S + 0 = wtR (fun j => can (qr x j)) (k + 1)) := Lib.hid (by rw [HQ.out, hq]; rfl)
      subst cz
      rw [hNN] at CB1
      clear hv1 u1 u2 tt hB T1 un ud hz1 hN0 hq hN1 hN2 CB2 hdo hdm hd1 hd2 h1 TT CR hy1
      go_wp2_with fail
      refine CB1.out.mono ?_
      rintro e w2 ⟨rfl, h2⟩
      have TG := Lib.hid (Add.trans HW1.out.1 h2)
      have q1 := (HW1.out.2.mono h2).c1
      clear h2 CB1 p0 p1 p2 HW1
      go_wp2_with fail
      go_roundw
      case rel => exact ⟨k + 1, by omega, by go_num, by rw [← HF.out]; go_num, TG.out⟩
      case measure => simp [intOf]; omega
    · have dz : decide ((0 : Int) < (n1 : Int)) = true := by simp; omega
      have hz2 : (0 : Int) < (n1 : Int) := by omega
      by_cases cw : 1 < d1
      · have dw : decide ((1 : Int) < (d1 : Int)) = true := by simp; omega
        have hw2 : (1 : Int) < (d1 : Int) := by omega
        have HF : Hid (S + N1 + N2 = wtR (fun j => can (qr x j)) (k + 1)) := Lib.hid (by
         rw [HQ.out]; unfold wtF; rw [if_neg (hdm cw), hN1, hN2]; omega)
        clear hv1 u1 u2 tt hB T1 un ud hz1 hN1 hN2 hdo hdm h1 TT CR hy1
        go_wp2_with fail
        refine CB1.out.mono ?_
        rintro e w2 ⟨rfl, h2⟩
        have q1 := (HW1.out.2.mono h2).c1
        have q2 := (HW1.out.2.mono h2).c2
        have D3 := CB2.out w2 h2
        have TG := Lib.hid (Add.trans HW1.out.1 h2)
        clear h2 CB1 p0 p1 p2 HW1 CB2
        go_wp2_with fail
        refine D3.mono ?_
        rintro e w3 ⟨rfl, h3⟩
        have TH := Lib.hid (Add.trans TG.out h3)
        clear h3 TG D3 q1 q2
        go_wp2_with fail
        go_roundw
        case rel => exact ⟨k + 1, by omega, by go_num, by rw [← HF.out]; go_num, TH.out⟩
        case measure => simp [intOf]; omega
      · have ed : d1 = 1 := by omega
        obtain ⟨hcell, hDl⟩ := hdo ed
        subst ed
        by_cases c1D : (can q0).2.2 = 1
        · have HF : Hid (S + N1 = wtR (fun j => can (qr x j)) (k + 1)) := Lib.hid (by
           rw [HQ.out]; unfold wtF; rw [if_pos c1D, hN1]; omega)
          rw [c1D] at hcell
          have HC := Lib.hid (fun w' (g : Add (w1.alloc (.cells #[.bool y1, .slice a1 n1 c1', .slice (some ⟨bd, od, none⟩) 1 f1] 37)) w') => cell_addL hcell g)
          clear hv1 u1 u2 tt hB T1 un ud hz1 hN1 hN2 hdo hdm h1 TT CR hy1 CB2 hcell hDl
          go_wp2_with fail
          refine CB1.out.mono ?_
          rintro e w2 ⟨rfl, h2⟩
          have q1 := (HW1.out.2.mono h2).c1
          have q2 := (HW1.out.2.mono h2).c2
          have q3 := HC.out w2 h2
          have TG := Lib.hid (Add.trans HW1.out.1 h2)
          clear h2 CB1 p0 p1 p2 HW1 HC
          go_wp2_with fail
          go_roundw
          case rel => exact ⟨k + 1, by omega, by go_num, by rw [← HF.out]; go_num, TG.out⟩
          case measure => simp [intOf]; omega
        · have HF : Hid (S + N1 + N2 = wtR (fun j => can (qr x j)) (k + 1)) := Lib.hid (by
           rw [HQ.out]; unfold wtF; rw [if_neg c1D, hN1, hN2]; omega)
          obtain ⟨D, hD⟩ : ∃ D, D = (can q0).2.2 := ⟨_, rfl⟩
          rw [← hD] at hcell hDl c1D
          have hD0 : D ≠ 0 := by rw [hD]; exact q0.den_nz
          have dD : decide ((1 : Int) < (D : Int)) = true := by simp; omega
          have hD2 : (1 : Int) < (D : Int) := by omega
          have HC := Lib.hid (fun w' (g : Add (w1.alloc (.cells #[.bool y1, .slice a1 n1 c1', .slice (some ⟨bd, od, none⟩) 1 f1] 37)) w') => cell_addL hcell g)
          clear hv1 u1 u2 tt hB T1 un ud hz1 hN1 hN2 hdo hdm h1 TT CR hy1 hcell hD
          go_wp2_with fail
          refine CB1.out.mono ?_
          rintro e w2 ⟨rfl, h2⟩
          have q1 := (HW1.out.2.mono h2).c1
          have q2 := (HW1.out.2.mono h2).c2
          have q3 := HC.out w2 h2
          have D3 := CB2.out w2 h2
          have TG := Lib.hid (Add.trans HW1.out.1 h2)
          clear h2 CB1 p0 p1 p2 HW1 HC CB2
          go_wp2_with fail
          refine D3.mono ?_
          rintro e w3 ⟨rfl, h3⟩
          have TH := Lib.hid (Add.trans TG.out h3)
          clear h3 TG D3 q1 q2 q3
          go_wp2_with fail
          go_roundw
          case rel => exact ⟨k + 1, by omega, by go_num, by rw [← HF.out]; go_num, TH.out⟩
          case measure => simp [intOf]; omega
set_option maxRecDepth 100000 in
set_option maxHeartbeats 1000000 in
theorem refWeightsN {w : World} {v : Value} {n : Nat} {m : Nat → Nat} {X : Nat → Nat → Tri} (h : MatP false w v n m X) (hok : ∀ i j, i < n → j < m i → okF (X i j) = true) (hn : n ≤ 1000) (hm : ∀ i, i < n → m i ≤ 1000) :
 Calls Tryz.prog 50 #[v] w (IntIs w (wtM (fun i j => can (qm X i j)) m n : Nat)) := by
 obtain ⟨ao, c, rfl, -⟩ := h.isSlice
 have HR := Lib.hid h
 have HOK := Lib.hid hok
 have HM := Lib.hid hm
 have HLE : Hid (∀ k, k ≤ n → wtM (fun i j => can (qm X i j)) m k ≤ 8192000000) := Lib.hid fun k hk => wtM_le (n := n) (fun i j hi hj => (fit_red (hok i j hi hj)).sm) hm hn hk
 clear h hok hm
 go_enter Tryz.func50, Tryz.ntmps50
 go_wp2_with fail
 go_loopw [3, 4] (fun s i wr => ∃ k : Nat, k ≤ n ∧ i = .int .i64 (k : Nat) ∧ s = .int .i64 (wtM (fun i j => can (qm X i j)) m k : Nat) ∧ Add w wr) (fun _ i _ => n - (intOf i).toNat)
 case atStart => exact ⟨0, Nat.zero_le _, rfl, rfl, Below.refl _ _⟩
 case round =>
  obtain ⟨k, hk, rfl, rfl, T⟩ := hrel
  obtain ⟨S, hS⟩ : ∃ S, S = wtM (fun i j => can (qm X i j)) m k := ⟨_, rfl⟩
  have hS1 : S ≤ 8192000000 := by rw [hS]; exact HLE.out k hk
  rw [← hS]
  have HSS := Lib.hid hS
  clear hS
  by_cases h0 : k = n
  · subst h0
    have TT := Lib.hid T
    clear T
    go_wp2_with fail
    go_ret
    rw [HSS.out]
    exact ⟨rfl, TT.out⟩
  · have hlt : k < n := by omega
    obtain ⟨b, off, a, l, rfl, -, c0, r0⟩ := (HR.out.add T).row hlt
    have CW := Lib.hid (refWeightN r0 (fun j hj => HOK.out k j hlt hj) (HM.out k hlt))
    have hle : wtR (fun j => can (qr (X k) j)) (m k) ≤ 8192000 := wtR_le (m := m k) (fun j hj => (fit_red (HOK.out k j hlt hj)).sm) (HM.out k hlt) (Nat.le_refl _)
    obtain ⟨Q, hQ⟩ : ∃ Q, Q = wtR (fun j => can (qr (X k) j)) (m k) := ⟨_, rfl⟩
    have HF : Hid (S + Q = wtM (fun i j => can (qm X i j)) m (k + 1)) := Lib.hid (by rw [HSS.out, hQ]; rfl)
    rw [← hQ] at CW hle
    obtain ⟨mk, hmk⟩ : ∃ q, q = m k := ⟨_, rfl⟩
    rw [← hmk] at c0 CW
    have TT := Lib.hid T
    clear r0 T h0 hQ hmk
    go_wp2_with fail
    refine CW.out.mono ?_
    rintro e w1 ⟨rfl, h1⟩
    have TG := Lib.hid (Add.trans TT.out h1)
    clear h1 TT CW
    go_wp2_with fail
    go_roundw
    case rel => exact ⟨k + 1, by omega, by go_num, by rw [← HF.out]; go_num, TG.out⟩
    case measure => simp [intOf]; omega
end Go.Proofs.YtbeoeackahmpbaaGreatDoor
