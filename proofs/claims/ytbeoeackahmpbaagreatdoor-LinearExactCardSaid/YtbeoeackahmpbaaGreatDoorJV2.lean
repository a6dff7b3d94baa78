import Derived.Test.YtbeoeackahmpbaaGreatDoorJV1
import Derived.Laws.MakeOwn
import Derived.Deep.RegionHeld3
import Derived.Deep.Cut
namespace Go.Proofs.YtbeoeackahmpbaaGreatDoor
open Go.RowKit NatM Go.Proofs.YtbeoeackahmpbaaGreatDoor.Api
def RetBs (w : World) (b : Bool) (e : Ending) (w' : World) : Prop := e = .returned (.bool b) ∧ w = w'
def ordOk (n : Nat) : Bool := decide (1 ≤ n ∧ n ≤ 24)
theorem isOrderN (t : Bool) {n : Nat} {w : World} (hn : n ≤ 9223372036854775807) (h : Hid (ordOk n = t)) : Calls Tryz.prog 41 #[.int .i64 (n : Nat)] w (RetBs w t) := by
 by_cases h1 : 1 ≤ n
 · by_cases h2 : n ≤ 24
   · have HF : Hid (t = true) := Lib.hid (by rw [← h.out]; exact decide_eq_true ⟨h1, h2⟩)
     have d2 : decide ((n : Int) ≤ 24) = true := by simp; omega
     clear h
     go_enter Tryz.func41, Tryz.ntmps41
     go_wp2_with fail
     go_ret
     rw [HF.out]; exact ⟨rfl, rfl⟩
   · have HF : Hid (t = false) := Lib.hid (by rw [← h.out]; exact decide_eq_false fun h => h2 h.2)
     have d2 : decide ((n : Int) ≤ 24) = false := by simp; omega
     clear h
     go_enter Tryz.func41, Tryz.ntmps41
     go_wp2_with fail
     go_ret
     rw [HF.out]; exact ⟨rfl, rfl⟩
 · have HF : Hid (t = false) := Lib.hid (by rw [← h.out]; exact decide_eq_false fun h => h1 h.1)
   have h0 : n = 0 := by omega
   subst h0
   clear h
   go_enter Tryz.func41, Tryz.ntmps41
   go_wp2_with fail
   go_ret
   rw [HF.out]; exact ⟨rfl, rfl⟩
def okR (x : Nat → Tri) : Nat → Bool
 | 0 => true
 | k + 1 => okR x k && okF (x k)
theorem okR_iff {x : Nat → Tri} {n : Nat} : okR x n = true ↔ ∀ i, i < n → okF (x i) = true := by
 induction n with
 | zero => simp [okR]
 | succ n ih =>
  rw [okR, Bool.and_eq_true, ih]
  constructor
  · rintro ⟨h1, h2⟩ i hi
    by_cases e : i = n
    · rw [e]; exact h2
    · exact h1 i (by omega)
  · intro h; exact ⟨fun i hi => h i (by omega), h n (by omega)⟩
theorem okR_not {x : Nat → Tri} {n k : Nat} (hk : k < n) (h : okF (x k) = false) : okR x n = false := by
 cases hr : okR x n with
 | false => rfl
 | true => rw [okR_iff.1 hr k hk] at h; cases h
def vecOk (x : Nat → Tri) (m n : Nat) : Bool := decide (m = n) && okR x m
set_option maxRecDepth 100000 in
set_option maxHeartbeats 1000000 in
theorem isVectorN (t : Bool) {w : World} {v : Value} {m n : Nat} {x : Nat → Tri} (h : RowP false w v m x) (hn : n ≤ 9223372036854775807) (ht : Hid (vecOk x m n = t)) :
 Calls Tryz.prog 42 #[v, .int .i64 (n : Nat)] w (BoolIs w t) := by
 have HR := Lib.hid h
 obtain ⟨ao, c, rfl, h1, h2, -⟩ := h
 unfold maxLen at h2
 have hm : m ≤ 9223372036854775807 := by omega
 clear h1 h2
 by_cases hmn : m = n
 · have HO : Hid (okR x m = t) := Lib.hid (by have := ht.out; unfold vecOk at this; rwa [decide_eq_true hmn, Bool.true_and] at this)
   subst hmn
   clear ht
   go_enter Tryz.func42, Tryz.ntmps42
   go_wp2_with fail
   go_loopw [13] (fun i wr => ∃ k : Nat, k ≤ m ∧ i = .int .i64 (k : Nat) ∧ okR x k = true ∧ Add w wr) (fun i _ => m - (intOf i).toNat)
   case atStart => exact ⟨0, Nat.zero_le _, rfl, rfl, Below.refl _ _⟩
   case round =>
    obtain ⟨k, hk, rfl, hrel, T⟩ := hrel
    have HREL := Lib.hid hrel
    clear hrel
    by_cases h0 : k = m
    · have HF : Hid (t = true) := Lib.hid (by rw [← HO.out, ← h0]; exact HREL.out)
      have TT := Lib.hid T
      clear T HREL HO
      subst h0
      go_wp2_with fail
      go_ret
      rw [HF.out]; exact ⟨rfl, TT.out⟩
    · have hlt : k < m := by omega
      obtain ⟨b, off, s, an, q, cn, ad, d, cd, rfl, -, c0, c1, c2, hx⟩ := (HR.out.add T).get hlt
      obtain ⟨T3, hO⟩ := laid_var wr s an q cn ad d cd
      have o0 := hO.c0
      have o1 := hO.c1
      have o2 := hO.c2
      have hxx : FracA (wr.alloc (.cells #[.bool s, .slice an q cn, .slice ad d cd] 37)) (.agg #[.bool s, .slice an q cn, .slice ad d cd]) (x k) := FracA.mono hx T3
      have T4 := Add.trans T T3
      cases hb : okF (x k) with
      | true =>
       have C := Lib.hid (validN true hxx (Lib.hid hb))
       have HN : Hid (okR x (k + 1) = true) := Lib.hid (by rw [okR, HREL.out, hb]; rfl)
       have TF := Lib.hid T4
       clear hx hxx T3 hO T4 hb HREL h0 T
       go_wp2_with fail
       refine C.out.mono ?_
       rintro e w4 ⟨rfl, h4⟩
       have TG := Lib.hid (Add.trans TF.out h4)
       clear h4 TF C c0 c1 c2 o0 o1 o2
       go_wp2_with fail
       go_roundw
       case rel => exact ⟨k + 1, by omega, by go_num, HN.out, TG.out⟩
       case measure => simp [intOf]; omega
      | false =>
       have C := Lib.hid (validN false hxx (Lib.hid hb))
       have HF : Hid (t = false) := Lib.hid (by rw [← HO.out]; exact okR_not hlt hb)
       have TF := Lib.hid T4
       clear hx hxx T3 hO T4 hb HREL h0 T
       go_wp2_with fail
       refine C.out.mono ?_
       rintro e w4 ⟨rfl, h4⟩
       have TG := Lib.hid (Add.trans TF.out h4)
       clear h4 TF C c0 c1 c2 o0 o1 o2
       go_wp2_with fail
       go_ret
       rw [HF.out]; exact ⟨rfl, TG.out⟩
 · have HF : Hid (t = false) := Lib.hid (by rw [← ht.out]; unfold vecOk; rw [decide_eq_false hmn]; rfl)
   have hne : ((m : Int) != (n : Int)) = true := by simp; omega
   clear ht hmn HR
   go_enter Tryz.func42, Tryz.ntmps42
   go_wp2_with fail
   go_ret
   rw [HF.out]; exact ⟨rfl, Below.refl _ _⟩
def rowsOk (X : Nat → Nat → Tri) (m : Nat → Nat) (q : Nat) : Nat → Bool
 | 0 => true
 | k + 1 => rowsOk X m q k && vecOk (X k) (m k) q
theorem rowsOk_iff {X : Nat → Nat → Tri} {m : Nat → Nat} {q n : Nat} : rowsOk X m q n = true ↔ ∀ i, i < n → vecOk (X i) (m i) q = true := by
 induction n with
 | zero => simp [rowsOk]
 | succ n ih =>
  rw [rowsOk, Bool.and_eq_true, ih]
  constructor
  · rintro ⟨h1, h2⟩ i hi
    by_cases e : i = n
    · rw [e]; exact h2
    · exact h1 i (by omega)
  · intro h; exact ⟨fun i hi => h i (by omega), h n (by omega)⟩
def shapeOk (X : Nat → Nat → Tri) (m : Nat → Nat) (n : Nat) : Bool := ordOk n && ordOk (m 0) && rowsOk X m (m 0) n
def ShP (w : World) (n m : Nat) (b : Bool) (e : Ending) (w' : World) : Prop := e = .returned (.tuple #[.int .i64 (n : Nat), .int .i64 (m : Nat), .bool b]) ∧ Add w w'
set_option maxRecDepth 100000 in
set_option maxHeartbeats 1000000 in
theorem shape_no {w : World} {v : Value} {n : Nat} {m : Nat → Nat} {X : Nat → Nat → Tri} (h : MatP false w v n m X) (hb : shapeOk X m n = false) :
 Calls Tryz.prog 13 #[v] w (ShP w 0 0 false) := by
 obtain ⟨ao, c, rfl, hm⟩ := h.isSlice
 unfold maxLen at hm
 have hn : n ≤ 9223372036854775807 := by omega
 have HR := Lib.hid h
 have HB := Lib.hid hb
 clear h hm hb
 cases ho : ordOk n with
 | false =>
  have C1 := Lib.hid (isOrderN (w := w) false hn (Lib.hid ho))
  clear HR HB ho
  go_enter Tryz.func13, Tryz.ntmps13
  go_wp2_with fail
  refine C1.out.mono ?_
  rintro e w1 ⟨rfl, rfl⟩
  clear C1
  go_wp2_with fail
  go_ret3
  exact ⟨rfl, Below.refl _ _⟩
 | true =>
  have hn2 : 1 ≤ n ∧ n ≤ 24 := of_decide_eq_true ho
  have C1 := Lib.hid (isOrderN (w := w) true hn (Lib.hid ho))
  obtain ⟨b, off, a, l, rfl, hm63, hcell, hrow⟩ := HR.out.row (show 0 < n by omega)
  rw [Nat.add_zero] at hcell
  obtain ⟨q, hq⟩ : ∃ q, m 0 = q := ⟨_, rfl⟩
  rw [hq] at hcell hrow hm63
  have HQ := Lib.hid hq
  cases ho2 : ordOk q with
  | false =>
   have C2 := Lib.hid (isOrderN (w := w) false hm63 (Lib.hid ho2))
   clear HB ho ho2 hrow hq HR
   go_enter Tryz.func13, Tryz.ntmps13
   go_wp2_with fail
   refine C1.out.mono ?_
   rintro e w1 ⟨rfl, rfl⟩
   clear C1
   go_wp2_with fail
   refine C2.out.mono ?_
   rintro e w1 ⟨rfl, rfl⟩
   clear C2
   go_wp2_with fail
   go_ret3
   exact ⟨rfl, Below.refl _ _⟩
  | true =>
   have C2 := Lib.hid (isOrderN (w := w) true hm63 (Lib.hid ho2))
   have HB2 : Hid (rowsOk X m q n = false) := Lib.hid (by have := HB.out; unfold shapeOk at this; rwa [hq, ho, ho2, Bool.true_and, Bool.true_and] at this)
   clear HB ho ho2 hrow hq
   go_enter Tryz.func13, Tryz.ntmps13
   go_wp2_with fail
   refine C1.out.mono ?_
   rintro e w1 ⟨rfl, rfl⟩
   clear C1
   go_wp2_with fail
   refine C2.out.mono ?_
   rintro e w1 ⟨rfl, rfl⟩
   clear C2
   go_wp2_with fail
   go_loopw [26] (fun i wr => ∃ k : Nat, k ≤ n ∧ i = .int .i64 (k : Nat) ∧ rowsOk X m q k = true ∧ Add w wr) (fun i _ => n - (intOf i).toNat)
   case atStart => exact ⟨0, Nat.zero_le _, rfl, rfl, Below.refl _ _⟩
   case round =>
    obtain ⟨k, hk, rfl, hrel, T⟩ := hrel
    have HREL := Lib.hid hrel
    clear hrel
    by_cases h0 : k = n
    · exfalso
      have := HREL.out
      rw [h0, HB2.out] at this
      cases this
    · have hlt : k < n := by omega
      obtain ⟨b3, off3, a3, l3, e3, hm3, hcell3, hrow3⟩ := (HR.out.add T).row hlt
      simp only [Option.some.injEq, Addr.mk.injEq, and_true] at e3
      obtain ⟨rfl, rfl⟩ := e3
      obtain ⟨mk, hmk⟩ : ∃ mk, m k = mk := ⟨_, rfl⟩
      rw [hmk] at hcell3 hrow3 hm3
      have TT := Lib.hid T
      cases hv : vecOk (X k) mk q with
      | true =>
       have C3 := Lib.hid (isVectorN true hrow3 hm63 (Lib.hid hv))
       have HN : Hid (rowsOk X m q (k + 1) = true) := Lib.hid (by rw [rowsOk, HREL.out, hmk, hv]; rfl)
       clear hrow3 hv hmk T h0 HREL
       go_wp2_with fail
       refine C3.out.mono ?_
       rintro e w4 ⟨rfl, h4⟩
       have TG := Lib.hid (Add.trans TT.out h4)
       clear h4 TT C3 hcell3
       go_wp2_with fail
       go_roundw
       case rel => exact ⟨k + 1, by omega, by go_num, HN.out, TG.out⟩
       case measure => simp [intOf]; omega
      | false =>
       have C3 := Lib.hid (isVectorN false hrow3 hm63 (Lib.hid hv))
       clear hrow3 hv hmk T h0 HREL
       go_wp2_with fail
       refine C3.out.mono ?_
       rintro e w4 ⟨rfl, h4⟩
       have TG := Lib.hid (Add.trans TT.out h4)
       clear h4 TT C3 hcell3
       go_wp2_with fail
       go_ret3
       exact ⟨rfl, TG.out⟩
end Go.Proofs.YtbeoeackahmpbaaGreatDoor
namespace Go.Proofs.YtbeoeackahmpbaaGreatDoor
open Go.RowKit NatM Go.Proofs.YtbeoeackahmpbaaGreatDoor.Api
theorem shapeOk_iff {X : Nat → Nat → Tri} {m : Nat → Nat} {n : Nat} : shapeOk X m n = true ↔ (1 ≤ n ∧ n ≤ 24) ∧ (1 ≤ m 0 ∧ m 0 ≤ 24) ∧ ∀ i, i < n → m i = m 0 ∧ ∀ j, j < m i → okF (X i j) = true := by
 unfold shapeOk ordOk
 rw [Bool.and_eq_true, Bool.and_eq_true, decide_eq_true_eq, decide_eq_true_eq, rowsOk_iff, and_assoc]
 refine and_congr Iff.rfl (and_congr Iff.rfl (forall_congr' fun i => forall_congr' fun hi => ?_))
 unfold vecOk
 rw [Bool.and_eq_true, decide_eq_true_eq, okR_iff]
set_option maxRecDepth 100000 in
set_option maxHeartbeats 1000000 in
theorem shape_yes {w : World} {v : Value} {n q : Nat} {m : Nat → Nat} {X : Nat → Nat → Tri} (h : MatP false w v n m X) (hb : shapeOk X m n = true) (hq : m 0 = q) :
 Calls Tryz.prog 13 #[v] w (ShP w n q true) := by
 obtain ⟨ao, c, rfl, hm⟩ := h.isSlice
 unfold maxLen at hm
 have hn : n ≤ 9223372036854775807 := by omega
 have HR := Lib.hid h
 unfold shapeOk at hb
 rw [hq, Bool.and_eq_true, Bool.and_eq_true] at hb
 obtain ⟨⟨ho, ho2⟩, hb2⟩ := hb
 have hn2 : 1 ≤ n ∧ n ≤ 24 := of_decide_eq_true ho
 have hq2 : 1 ≤ q ∧ q ≤ 24 := of_decide_eq_true ho2
 have HB2 := Lib.hid hb2
 clear h hm hb2
 have C1 := Lib.hid (isOrderN (w := w) true hn (Lib.hid ho))
 obtain ⟨b, off, a, l, rfl, hm63, hcell, hrow⟩ := HR.out.row (show 0 < n by omega)
 rw [Nat.add_zero] at hcell
 rw [hq] at hcell hrow hm63
 have C2 := Lib.hid (isOrderN (w := w) true hm63 (Lib.hid ho2))
 clear ho ho2 hrow hq
 go_enter Tryz.func13, Tryz.ntmps13
 go_wp2_with fail
 refine C1.out.mono ?_
 rintro e w1 ⟨rfl, rfl⟩
 clear C1
 go_wp2_with fail
 refine C2.out.mono ?_
 rintro e w1 ⟨rfl, rfl⟩
 clear C2
 go_wp2_with fail
 go_loopw [26] (fun i wr => ∃ k : Nat, k ≤ n ∧ i = .int .i64 (k : Nat) ∧ Add w wr) (fun i _ => n - (intOf i).toNat)
 case atStart => exact ⟨0, Nat.zero_le _, rfl, Below.refl _ _⟩
 case round =>
  obtain ⟨k, hk, rfl, T⟩ := hrel
  by_cases h0 : k = n
  · have TT := Lib.hid T
    clear T
    subst h0
    go_wp2_with fail
    go_ret3
    exact ⟨rfl, TT.out⟩
  · have hlt : k < n := by omega
    obtain ⟨b3, off3, a3, l3, e3, hm3, hcell3, hrow3⟩ := (HR.out.add T).row hlt
    simp only [Option.some.injEq, Addr.mk.injEq, and_true] at e3
    obtain ⟨rfl, rfl⟩ := e3
    have hv := rowsOk_iff.1 HB2.out k hlt
    obtain ⟨mk, hmk⟩ : ∃ mk, m k = mk := ⟨_, rfl⟩
    rw [hmk] at hcell3 hrow3 hm3 hv
    have TT := Lib.hid T
    have C3 := Lib.hid (isVectorN true hrow3 hm63 (Lib.hid hv))
    clear hrow3 hv hmk T h0
    go_wp2_with fail
    refine C3.out.mono ?_
    rintro e w4 ⟨rfl, h4⟩
    have TG := Lib.hid (Add.trans TT.out h4)
    clear h4 TT C3 hcell3
    go_wp2_with fail
    go_roundw
    case rel => exact ⟨k + 1, by omega, by go_num, TG.out⟩
    case measure => simp [intOf]; omega
def shN (X : Nat → Nat → Tri) (m : Nat → Nat) (n : Nat) : Nat × Nat × Bool := if shapeOk X m n = true then (n, m 0, true) else (0, 0, false)
theorem shapeN (p : Nat × Nat × Bool) {w : World} {v : Value} {n : Nat} {m : Nat → Nat} {X : Nat → Nat → Tri} (h : MatP false w v n m X) (hp : Hid (shN X m n = p)) :
 Calls Tryz.prog 13 #[v] w (ShP w p.1 p.2.1 p.2.2) := by
 rw [← hp.out]
 unfold shN
 by_cases hb : shapeOk X m n = true
 · rw [if_pos hb]; exact shape_yes h hb rfl
 · rw [if_neg hb]; exact shape_no h (by simpa using hb)
def sqOkL (X : Nat → Nat → Tri) (m : Nat → Nat) (n : Nat) : Bool := shapeOk X m n && decide (n = m 0)
set_option maxRecDepth 100000 in
theorem isSquareN (t : Bool) {w : World} {v : Value} {n : Nat} {m : Nat → Nat} {X : Nat → Nat → Tri} (h : MatP false w v n m X) (ht : Hid (sqOkL X m n = t)) :
 Calls Tryz.prog 44 #[v] w (BoolIs w t) := by
 obtain ⟨p, q, b, hp⟩ : ∃ p q b, shN X m n = (p, q, b) := ⟨_, _, _, rfl⟩
 have C := Lib.hid (shapeN (p, q, b) h (Lib.hid hp))
 obtain ⟨ao, c, rfl, -⟩ := h.isSlice
 have ht2 : (b && decide (p = q)) = t := by
  rw [← ht.out]
  unfold shN at hp
  unfold sqOkL
  by_cases hb : shapeOk X m n = true
  · rw [if_pos hb] at hp
    obtain ⟨rfl, rfl, rfl⟩ : n = p ∧ m 0 = q ∧ true = b := by simpa using hp
    rw [hb]
  · rw [if_neg hb] at hp
    obtain ⟨rfl, rfl, rfl⟩ : 0 = p ∧ 0 = q ∧ false = b := by simpa using hp
    rw [Bool.not_eq_true] at hb
    rw [hb]; rfl
 have HT := Lib.hid ht2
 clear h hp ht ht2
 cases b with
 | false =>
  go_enter Tryz.func44, Tryz.ntmps44
  go_wp2_with fail
  refine C.out.mono ?_
  rintro e w1 ⟨rfl, h1⟩
  clear C
  go_wp2_with fail
  go_ret
  rw [← HT.out]; exact ⟨rfl, h1⟩
 | true =>
  by_cases hpq : p = q
  · have d : ((p : Int) == (q : Int)) = true := by simp [hpq]
    have HF : Hid (t = true) := Lib.hid (by rw [← HT.out, decide_eq_true hpq]; rfl)
    clear hpq HT
    go_enter Tryz.func44, Tryz.ntmps44
    go_wp2_with fail
    refine C.out.mono ?_
    rintro e w1 ⟨rfl, h1⟩
    clear C
    go_wp2_with fail
    go_ret
    rw [HF.out]; exact ⟨rfl, h1⟩
  · have d : ((p : Int) == (q : Int)) = false := by simp; omega
    have HF : Hid (t = false) := Lib.hid (by rw [← HT.out, decide_eq_false hpq]; rfl)
    clear hpq HT
    go_enter Tryz.func44, Tryz.ntmps44
    go_wp2_with fail
    refine C.out.mono ?_
    rintro e w1 ⟨rfl, h1⟩
    clear C
    go_wp2_with fail
    go_ret
    rw [HF.out]; exact ⟨rfl, h1⟩
end Go.Proofs.YtbeoeackahmpbaaGreatDoor
namespace Go.Proofs.YtbeoeackahmpbaaGreatDoor
open Go.RowKit NatM Go.Proofs.YtbeoeackahmpbaaGreatDoor.Api
theorem infoFracs : (Tryz.prog.info? 23).map (fun i => (i.zero, i.size, i.bytes)) = some (some (.slice none 0 0), 1, 24) := by kernel_rfl
theorem infoFracL : (Tryz.prog.info? 37).map (fun i => (i.zero, i.size, i.bytes)) = some (some (.agg #[.bool false, .slice none 0 0, .slice none 0 0]), 3, 56) := by kernel_rfl
theorem made_heap {w : World} {base g n size N : Nat} {T : TypeId} {cs : Array Value} (h : w.ownsRow base T size (.slice (some ⟨g, 0, none⟩) n n) n (madeCells cs N).toList) (hN : N = n * size) :
 w.heap[g]? = some (.cells (madeCells cs N) T (0, 0)) ∧ base ≤ g := by
 subst hN
 rcases h.2 with ⟨e, _⟩ | ⟨g', cap, cur, e, hg, hgg, hn, hm, hs, ht⟩
 · simp at e
 · simp only [Value.slice.injEq, Option.some.injEq, Addr.mk.injEq, and_true, true_and] at e
   obtain ⟨rfl, rfl⟩ := e
   have : cur = madeCells cs (n * size) := by
    apply Array.ext'
    rw [← ht, List.take_of_length_le (by simp; omega)]
   rw [hgg, this]
   exact ⟨rfl, hg⟩
theorem madeCells_get {cs : Array Value} {n j : Nat} (hj : j < n) : (madeCells cs n)[j]? = some cs[j % cs.size]! := by
 unfold madeCells
 rw [Array.getElem?_map]
 simp [hj]
theorem FBlk.made {w : World} {base g n : Nat} (h : w.ownsRow base 37 3 (.slice (some ⟨g, 0, none⟩) n n) n (madeCells #[Value.bool false, .slice none 0 0, .slice none 0 0] (n * 3)).toList) : FBlk w g n (fun _ => (false, 0, 0)) := by
 obtain ⟨hh, -⟩ := made_heap h rfl
 refine ⟨_, hh, by simp [madeCells], fun i hi => ⟨false, none, 0, 0, none, 0, 0, ?_, ?_, ?_, fracT_zero w⟩⟩
 · rw [cell_of_row w g _ _ _ _ hh, Nat.zero_add, madeCells_get (by omega)]
   show some (#[Value.bool false, .slice none 0 0, .slice none 0 0][i * 3 % 3]!) = _
   rw [show i * 3 % 3 = 0 by omega]; rfl
 · rw [cell_of_row w g _ _ _ _ hh, Nat.zero_add, madeCells_get (by omega)]
   show some (#[Value.bool false, .slice none 0 0, .slice none 0 0][(i * 3 + 1) % 3]!) = _
   rw [show (i * 3 + 1) % 3 = 1 by omega]; rfl
 · rw [cell_of_row w g _ _ _ _ hh, Nat.zero_add, madeCells_get (by omega)]
   show some (#[Value.bool false, .slice none 0 0, .slice none 0 0][(i * 3 + 2) % 3]!) = _
   rw [show (i * 3 + 2) % 3 = 2 by omega]; rfl
def HB (w : World) (G n : Nat) (hv : Nat → Value) : Prop := ∃ cur : Array Value, w.heap[G]? = some (.cells cur 23 (0, 0)) ∧ n ≤ cur.size ∧ ∀ i, i < n → cur[i]? = some (hv i) ∧ ∃ a m c, hv i = .slice a m c
theorem HB.lt {w : World} {G n : Nat} {hv : Nat → Value} (h : HB w G n hv) : G < w.heap.size := by
 obtain ⟨cur, h1, -⟩ := h; exact (Array.getElem?_eq_some_iff.1 h1).1
theorem HB.free {w : World} {G n : Nat} {hv : Nat → Value} (h : HB w G n hv) (i : Nat) : w.frozen? ⟨G, i, none⟩ = false := by
 obtain ⟨cur, h1, -⟩ := h; exact frozen_of_row w G i cur _ h1
theorem HB.cell {w : World} {G n : Nat} {hv : Nat → Value} (h : HB w G n hv) {i : Nat} (hi : i < n) : w.cell? ⟨G, i, none⟩ = some (hv i) := by
 obtain ⟨cur, h1, -, h3⟩ := h
 rw [cell_of_row w G i cur _ (0, 0) h1]; exact (h3 i hi).1
theorem HB.chg {S : Nat → Prop} {w w' : World} {G n : Nat} {hv : Nat → Value} (h : HB w G n hv) (hb : Chg S w w') (hn : ¬ S G) : HB w' G n hv := by
 have hl := h.lt
 obtain ⟨cur, h1, h2⟩ := h
 exact ⟨cur, (hb.block G hl hn).trans h1, h2⟩
theorem HB.add {w w' : World} {G n : Nat} {hv : Nat → Value} (h : HB w G n hv) (hb : Add w w') : HB w' G n hv := h.chg (Chg.of_add (fun _ => False) hb) id
theorem HB.congr {w : World} {G n : Nat} {hv hv' : Nat → Value} (h : HB w G n hv) (he : ∀ i, i < n → hv i = hv' i) : HB w G n hv' := by
 obtain ⟨cur, h1, h2, h3⟩ := h
 exact ⟨cur, h1, h2, fun i hi => by rw [← he i hi]; exact h3 i hi⟩
theorem HB.chgS {S : Nat → Prop} {w : World} {G n : Nat} {hv : Nat → Value} (h : HB w G n hv) (hS : S G) {i : Nat} (hi : i < n) (u : Value) : Chg S w (w.setCell ⟨G, i, none⟩ u) := by
 obtain ⟨cur, h1, -, h3⟩ := id h
 obtain ⟨-, a, m, c, e⟩ := h3 i hi
 refine Chg.set u hS (h.cell hi) fun k z _ => ?_
 rw [e]; simp
theorem HB.put {w : World} {G n : Nat} {hv : Nat → Value} (h : HB w G n hv) {i : Nat} (hi : i < n) (a : Option Addr) (m c : Nat) : HB (w.setCell ⟨G, i, none⟩ (.slice a m c)) G n (fun j => if j = i then .slice a m c else hv j) := by
 obtain ⟨cur, h1, h2, h3⟩ := h
 refine ⟨_, heap_setCell_same w G i cur _ _ h1, by simpa using h2, fun j hj => ?_⟩
 by_cases e : j = i
 · subst e
   dsimp only
   rw [if_pos rfl]
   exact ⟨by rw [Array.getElem?_setIfInBounds_self_of_lt (by omega)], a, m, c, rfl⟩
 · dsimp only
   rw [if_neg e, Array.getElem?_setIfInBounds_ne (fun q => e q.symm)]
   exact h3 j hj
theorem HB.made {w : World} {base G n : Nat} (h : w.ownsRow base 23 1 (.slice (some ⟨G, 0, none⟩) n n) n (madeCells #[Value.slice none 0 0] n).toList) : HB w G n (fun _ => .slice none 0 0) := by
 obtain ⟨hh, -⟩ := made_heap h (by omega)
 refine ⟨_, hh, by simp [madeCells], fun i hi => ⟨?_, none, 0, 0, rfl⟩⟩
 rw [madeCells_get hi]
 show some (#[Value.slice none 0 0][i % 1]!) = _
 rw [Nat.mod_one]; rfl
theorem hb_ne {w : World} {G n g k : Nat} {hv : Nat → Value} {t : Nat → Tri} (h : HB w G n hv) (hf : FBlk w g k t) : g ≠ G := by
 rintro rfl
 obtain ⟨cur, h1, -⟩ := h
 obtain ⟨cur', h1', -⟩ := hf
 rw [h1] at h1'
 simp only [Option.some.injEq, Obj.cells.injEq] at h1'
 exact absurd h1'.2.1 (by decide)
structure EM (w : World) (base G n k : Nat) (gs m : Nat → Nat) (X : Nat → Nat → Tri) : Prop where
 head : HB w G n (fun i => if i < k then .slice (some ⟨gs i, 0, none⟩) (m i) (m i) else .slice none 0 0)
 rows : ∀ i, i < k → FBlk w (gs i) (m i) (X i)
 inj : ∀ i j, i < k → j < k → gs i = gs j → i = j
 low : base ≤ G ∧ ∀ i, i < k → base ≤ gs i
theorem EM.add {w w' : World} {base G n k : Nat} {gs m : Nat → Nat} {X : Nat → Nat → Tri} (h : EM w base G n k gs m X) (hb : Add w w') : EM w' base G n k gs m X :=
 ⟨h.head.add hb, fun i hi => (h.rows i hi).add hb, h.inj, h.low⟩
theorem EM.congr {w : World} {base G n k : Nat} {gs m : Nat → Nat} {X X' : Nat → Nat → Tri} (h : EM w base G n k gs m X) (he : ∀ i j, i < k → j < m i → X i j = X' i j) : EM w base G n k gs m X' :=
 ⟨h.head, fun i hi => (h.rows i hi).congr fun j hj => he i j hi hj, h.inj, h.low⟩
theorem EM.start {w : World} {base G n : Nat} (gs m : Nat → Nat) (X : Nat → Nat → Tri) (h : HB w G n (fun _ => .slice none 0 0)) (hb : base ≤ G) : EM w base G n 0 gs m X :=
 ⟨h.congr fun i _ => by rw [if_neg (by omega)], fun i hi => by omega, fun i j hi => by omega, hb, fun i hi => by omega⟩
theorem EM.push {w w1 : World} {base G n k g : Nat} {gs m : Nat → Nat} {X : Nat → Nat → Tri} {t : Nat → Tri} (h : EM w base G n k gs m X) (hk : k < n) (ha : Add w w1) (hg : FBlk w1 g (m k) t) (hnew : w.heap.size ≤ g) (hb : base ≤ g) :
 EM (w1.setCell ⟨G, k, none⟩ (.slice (some ⟨g, 0, none⟩) (m k) (m k))) base G n (k + 1) (fun i => if i = k then g else gs i) m (fun i => if i = k then t else X i) := by
 have h1 := h.add ha
 have hc := h1.head.chgS (S := fun b => b = G) rfl hk (.slice (some ⟨g, 0, none⟩) (m k) (m k))
 have old : ∀ i, i < k → gs i < w.heap.size := fun i hi => (h.rows i hi).lt
 refine ⟨(h1.head.put hk _ _ _).congr fun i hi => ?_, fun i hi => ?_, fun i j hi hj e => ?_, h.low.1, fun i hi => ?_⟩
 · by_cases e : i = k
   · rw [if_pos e, if_pos (by omega), if_pos e, e]
   · rw [if_neg e]
     by_cases c : i < k
     · rw [if_pos c, if_pos (by omega), if_neg e]
     · rw [if_neg c, if_neg (by omega)]
 · by_cases e : i = k
   · subst e
     rw [if_pos rfl]
     show FBlk _ _ _ (if i = i then t else X i)
     rw [if_pos rfl]
     exact hg.chg hc (hb_ne h1.head hg)
   · rw [if_neg e]
     show FBlk _ _ _ (if i = k then t else X i)
     rw [if_neg e]
     have h2 := h1.rows i (by omega)
     exact h2.chg hc (hb_ne h1.head h2)
 · by_cases c1 : i = k
   · by_cases c2 : j = k
     · omega
     · rw [if_pos c1, if_neg c2] at e
       have := old j (by omega); omega
   · by_cases c2 : j = k
     · rw [if_neg c1, if_pos c2] at e
       have := old i (by omega); omega
     · rw [if_neg c1, if_neg c2] at e
       exact h.inj i j (by omega) (by omega) e
 · split
   · exact hb
   · exact h.low.2 i (by omega)
theorem EM.put {w : World} {base G n k : Nat} {gs m : Nat → Nat} {X : Nat → Nat → Tri} (h : EM w base G n k gs m X) {i j : Nat} (hi : i < k) (hj : j < m i) {b : Bool} {an : Option Addr} {l cn : Nat} {ad : Option Addr} {d cd : Nat} {x : Tri} (hx : FracT w (.agg #[.bool b, .slice an l cn, .slice ad d cd]) x) :
 EM (putF w (gs i) j (.bool b) (.slice an l cn) (.slice ad d cd)) base G n k gs m (fun a c => if a = i ∧ c = j then x else X a c) := by
 have hr := h.rows i hi
 have hc := hr.chgF (S := fun b => b = gs i) rfl j b an l cn ad d cd
 refine ⟨h.head.chg hc (fun e => hb_ne h.head hr e.symm), fun a ha => ?_, h.inj, h.low⟩
 by_cases e : a = i
 · subst e
   refine (hr.put hj hx).congr fun c _ => ?_
   by_cases e2 : c = j
   · rw [if_pos e2, if_pos ⟨rfl, e2⟩]
   · rw [if_neg e2, if_neg fun q => e2 q.2]
 · refine ((h.rows a ha).chg hc fun q => e (h.inj a i ha hi q)).congr fun c _ => ?_
   rw [if_neg fun q => e q.1]
theorem EM.chgF {S : Nat → Prop} {w : World} {base G n k : Nat} {gs m : Nat → Nat} {X : Nat → Nat → Tri} (h : EM w base G n k gs m X) {i : Nat} (hi : i < k) (hS : S (gs i)) (j : Nat) (b : Bool) (an : Option Addr) (l cn : Nat) (ad : Option Addr) (d cd : Nat) :
 Chg S w (putF w (gs i) j (.bool b) (.slice an l cn) (.slice ad d cd)) := (h.rows i hi).chgF hS j b an l cn ad d cd
theorem EM.mat {w : World} {base G n : Nat} {gs m : Nat → Nat} {X : Nat → Nat → Tri} (h : EM w base G n n gs m X) (hn : n ≤ maxLen) (hm : ∀ i, i < n → m i ≤ maxLen) : MatP true w (.slice (some ⟨G, 0, none⟩) n n) n m X := by
 refine ⟨_, n, rfl, Nat.le_refl _, hn, fun _ => ⟨G, 0, rfl, fun i hi => ⟨_, ?_, (h.rows i hi).row (hm i hi)⟩⟩⟩
 have := h.head.cell hi
 rw [if_pos hi] at this
 rw [Nat.zero_add]; exact this
theorem putF_below {w0 w : World} {g base i : Nat} (u0 u1 u2 : Value) (h : Below base w0 w) (hg : base ≤ g) : Below base w0 (putF w g i u0 u1 u2) :=
 ((h.setCell hg u0).setCell hg u1).setCell hg u2
theorem cell_putF {w : World} {g b i o : Nat} (u0 u1 u2 : Value) (h : b ≠ g) : (putF w g i u0 u1 u2).cell? ⟨b, o, none⟩ = w.cell? ⟨b, o, none⟩ := by
 unfold putF
 rw [cell_set_other rfl (fun e => h (congrArg Addr.block e)), cell_set_other rfl (fun e => h (congrArg Addr.block e)), cell_set_other rfl (fun e => h (congrArg Addr.block e))]
theorem setL {w0 w : World} {g base i : Nat} (u : Value) (h : Below base w0 w) (hg : base ≤ g) : Below base w0 (w.setCell ⟨g, i, none⟩ u) := h.setCell hg u
end Go.Proofs.YtbeoeackahmpbaaGreatDoor
namespace Go.Proofs.YtbeoeackahmpbaaGreatDoor
open Go.RowKit NatM Go.Proofs.YtbeoeackahmpbaaGreatDoor.Api
def redX (X : Nat → Nat → Tri) : Nat → Nat → Tri := fun i j => (redF (X i j)).1
def RetM (w : World) (n : Nat) (m : Nat → Nat) (X : Nat → Nat → Tri) (e : Ending) (w' : World) : Prop := ∃ G gs, e = .returned (.slice (some ⟨G, 0, none⟩) n n) ∧ EM w' w.heap.size G n n gs m X ∧ Add w w'
theorem cell_addL {w w' : World} {g i : Nat} {u : Value} (h : w.cell? ⟨g, i, none⟩ = some u) (hb : Add w w') : w'.cell? ⟨g, i, none⟩ = some u := by
 have hlt := World.block_lt_of_cell? w _ h
 rw [hb.cell hlt]; exact h
def filled (k j : Nat) (R : Nat → Nat → Tri) : Nat → Nat → Tri := fun a b => if a = k then (if b < j then R k b else (false, 0, 0)) else R a b
set_option maxRecDepth 100000 in
set_option maxHeartbeats 2000000 in
theorem reducedN {w : World} {v : Value} {n : Nat} {m : Nat → Nat} {X : Nat → Nat → Tri} (h : MatP false w v n m X) (hT : Tab w) (hn : n ≤ 1000) (hm : ∀ i, i < n → m i ≤ 1000) :
 Calls Tryz.prog 45 #[v] w (RetM w n m (redX X)) := by
 obtain ⟨i0, hi, hz0, hz1, hz2⟩ := info_parts infoFracL
 obtain ⟨i1, hi1, hy0, hy1, hy2⟩ := info_parts infoFracs
 obtain ⟨ao, c, rfl, -⟩ := h.isSlice
 have HX := Lib.hid h
 have HM := Lib.hid hm
 clear h hm
 go_enter Tryz.func45, Tryz.ntmps45
 go_wp2_with (at_make; refine wpList_make_full _ rfl _ _ 22 rfl w.heap.size 23 i1 (.slice none 0 0) 1 Tryz.underlying22 hi1 hy0 hy1 _ _ _ _ n rfl rfl (by omega) (by omega) (by rw [hy2]; omega) (by unfold maxLen; omega) (Nat.le_refl _) ?_)
 intro w1 hown hgr
 obtain ⟨G, hG⟩ : ∃ G, G = w.heap.size := ⟨_, rfl⟩
 have hB := HB.made hown
 rw [← hG] at hB ⊢
 have A1 : Add w w1 := (Below.refl _ _).grown hgr (Nat.le_refl _) (by simp)
 have hE := EM.start (base := w.heap.size) (fun _ => 0) m (redX X) hB (by omega)
 have HG := Lib.hid hG
 clear hown hgr hB hG
 go_wp2_with fail
 go_loopw [13] (fun i wr => ∃ (k : Nat) (gs : Nat → Nat), k ≤ n ∧ i = .int .i64 (k : Nat) ∧ EM wr w.heap.size G n k gs m (redX X) ∧ Add w wr) (fun i _ => n - (intOf i).toNat)
 case atStart => exact ⟨0, _, Nat.zero_le _, rfl, hE, A1⟩
 case round =>
  clear hE A1
  obtain ⟨k, gs, hk, rfl, hE, T⟩ := hrel
  by_cases h0 : k = n
  · have HF := Lib.hid hE
    have TT := Lib.hid T
    clear hE T
    subst h0
    go_wp2_with fail
    go_ret
    exact ⟨G, gs, rfl, HF.out, TT.out⟩
  · have hlt : k < n := by omega
    obtain ⟨b, off, a, l, rfl, hm63, hcell0, hrow⟩ := HX.out.row hlt
    have hcell := cell_addL hcell0 T
    obtain ⟨mk, hmk⟩ : ∃ q, q = m k := ⟨_, rfl⟩
    have hm1 : mk ≤ 1000 := by rw [hmk]; exact HM.out k hlt
    rw [← hmk] at hcell hrow
    have HR := Lib.hid hrow
    have HMK := Lib.hid hmk
    have HE := Lib.hid hE
    have TT := Lib.hid T
    have HGL : Hid (G < wr.heap.size ∧ w.heap.size ≤ wr.heap.size) := Lib.hid ⟨hE.head.lt, T.size⟩
    clear hrow hm63 hmk T h0 hE hcell0
    rename World => wm
    go_wp2_with (at_make; refine wpList_make_full _ rfl _ _ 23 rfl wm.heap.size 37 i0 (.agg #[.bool false, .slice none 0 0, .slice none 0 0]) 3 Tryz.underlying23 hi hz0 hz1 _ _ _ _ mk rfl rfl (by omega) (by omega) (by rw [hz2]; omega) (by unfold maxLen; omega) (Nat.le_refl _) ?_)
    intro w1 hown hgr
    have A2 : Add wm w1 := (Below.refl _ _).grown hgr (Nat.le_refl _) (by simp)
    have hFB := FBlk.made hown
    obtain ⟨g, eg⟩ : ∃ g, g = wm.heap.size := ⟨_, rfl⟩
    have hh := (HE.out.head.add A2).cell hlt
    rw [if_neg (by omega)] at hh
    have hf := (HE.out.head.add A2).free k
    have hGl := (HE.out.head.add A2).lt
    rw [HMK.out] at hFB
    have hE2 := HE.out.push hlt A2 hFB (Nat.le_refl _) HGL.out.2
    rw [← HMK.out, ← eg] at hE2
    have T2 : Add w (w1.setCell ⟨G, k, none⟩ (.slice (some ⟨g, 0, none⟩) mk mk)) := setL _ (Add.trans TT.out A2) (by rw [HG.out]; exact Nat.le_refl _)
    have HE2 := Lib.hid (And.intro (hE2.congr (X' := filled k 0 (redX X)) fun i j hi hj => by
     unfold filled
     by_cases e : i = k
     · rw [if_pos e, if_pos e, if_neg (by omega)]
     · rw [if_neg e, if_neg e]) T2)
    rw [← eg]
    clear hown hgr A2 hFB hE2 T2 eg
    go_wp2_with fail
    clear hh hf hGl hcell
    go_loopw [26] (fun i wq => ∃ j : Nat, j ≤ mk ∧ i = .int .i64 (j : Nat) ∧ EM wq w.heap.size G n (k + 1) (fun i => if i = k then g else gs i) m (filled k j (redX X)) ∧ Add w wq) (fun i _ => mk - (intOf i).toNat)
    case atStart => exact ⟨0, Nat.zero_le _, rfl, HE2.out.1, HE2.out.2⟩
    case round =>
     clear HE2
     obtain ⟨j, hj, rfl, hE, T⟩ := hrel
     by_cases h1 : j = mk
     · have HF := Lib.hid (hE.congr (X' := redX X) fun i j' hi hj' => by
        unfold filled
        by_cases e : i = k
        · rw [if_pos e, e, if_pos (by rw [h1, HMK.out, ← e]; exact hj')]
        · rw [if_neg e])
       have TF := Lib.hid T
       clear hE T
       subst h1
       go_wp2_with fail
       go_roundw
       case rel => exact ⟨k + 1, _, by omega, by go_num, HF.out, TF.out⟩
       case measure => simp [intOf]; omega
     · have hlt2 : j < mk := by omega
       obtain ⟨b2, off2, s, an, q, cn, ad, d, cd, rfl, -, c0, c1, c2, hx⟩ := (HR.out.add T).get hlt2
       obtain ⟨T3, hO⟩ := laid_var wr s an q cn ad d cd
       have hx3 : FracA (wr.alloc (.cells #[.bool s, .slice an q cn, .slice ad d cd] 37)) (.agg #[.bool s, .slice an q cn, .slice ad d cd]) (X k j) := FracA.mono hx T3
       obtain ⟨s3, N3, D3, e3, hred⟩ : ∃ s3 N3 D3 e3, redF (X k j) = ((s3, N3, D3), e3) := ⟨_, _, _, _, rfl⟩
       have HD := Lib.hid hred
       have TW := Add.trans T T3
       have hEW := hE.add T3
       obtain ⟨W3, hW3⟩ : ∃ W3, W3 = wr.alloc (.cells #[.bool s, .slice an q cn, .slice ad d cd] 37) := ⟨_, rfl⟩
       have HW3 : Hid ((wr.alloc (.cells #[.bool s, .slice an q cn, .slice ad d cd] 37)) = W3) := Lib.hid hW3.symm
       rw [← hW3] at hx3 TW hEW hO
       have hc := hEW.head.cell hlt
       rw [if_pos (by omega), if_pos rfl, ← HMK.out] at hc
       have HS : Hid (∀ w', Add W3 w' → w'.cell? ⟨G, k, none⟩ = some (.slice (some ⟨g, 0, none⟩) mk mk) ∧ w'.cell? ⟨wr.heap.size, 0, none⟩ = some (.bool s) ∧ w'.cell? ⟨wr.heap.size, 1, none⟩ = some (.slice an q cn) ∧ w'.cell? ⟨wr.heap.size, 2, none⟩ = some (.slice ad d cd)) := Lib.hid fun w' g => ⟨cell_addL hc g, (hO.mono g).c0, (hO.mono g).c1, (hO.mono g).c2⟩
       have hgn : G ≠ g ∧ wr.heap.size ≠ g := by
        have hr := hE.rows k (by omega)
        rw [if_pos rfl] at hr
        exact ⟨fun e => hb_ne hE.head hr e.symm, by have := hr.lt; omega⟩
       have HS2 : Hid (∀ w' u0 u1 u2, Add W3 w' → (putF w' g j u0 u1 u2).cell? ⟨G, k, none⟩ = some (.slice (some ⟨g, 0, none⟩) mk mk) ∧ (putF w' g j u0 u1 u2).cell? ⟨wr.heap.size, 0, none⟩ = some (.bool s) ∧ (putF w' g j u0 u1 u2).cell? ⟨wr.heap.size, 1, none⟩ = some (.slice an q cn) ∧ (putF w' g j u0 u1 u2).cell? ⟨wr.heap.size, 2, none⟩ = some (.slice ad d cd)) := Lib.hid fun w' u0 u1 u2 ha => by
        rw [cell_putF _ _ _ hgn.1, cell_putF _ _ _ hgn.2, cell_putF _ _ _ hgn.2, cell_putF _ _ _ hgn.2]
        exact HS.out w' ha
       have HK : Hid (∀ w', Add W3 w' → ∃ s an m cn ad d cd, w'.cell? ⟨g, j * 3, none⟩ = some (.bool s) ∧ w'.cell? ⟨g, j * 3 + 1, none⟩ = some (.slice an m cn) ∧ w'.cell? ⟨g, j * 3 + 2, none⟩ = some (.slice ad d cd) ∧ w'.frozen? ⟨g, j * 3, none⟩ = false ∧ w'.frozen? ⟨g, j * 3 + 1, none⟩ = false ∧ w'.frozen? ⟨g, j * 3 + 2, none⟩ = false ∧ g < w'.heap.size) := Lib.hid fun w' ha => by
        have hr := (hEW.add ha).rows k (by omega)
        rw [if_pos rfl] at hr
        obtain ⟨s, an, m, cn, ad, d, cd, k0, k1, k2, -⟩ := hr.get (i := j) (by rw [← HMK.out]; exact hlt2)
        exact ⟨s, an, m, cn, ad, d, cd, k0, k1, k2, hr.free _, hr.free _, hr.free _, hr.lt⟩
       have HC : Hid (∀ w', Add W3 w' → Calls Tryz.prog 75 #[.agg #[.bool s, .slice an q cn, .slice ad d cd]] w' (ResE2 w' s3 N3 D3 e3)) := Lib.hid fun w' ha => (reduceN' _ (hx3.mono ha) ((hT.mono TW).mono ha) (Lib.hid rfl)).mono fun _ _ h => resE2 h HD
       have HN : Hid (∀ w' a4 n4 k4 e4 d4 l4, Add W3 w' → Num w' (.slice a4 n4 k4) N3 → Num w' (.slice e4 d4 l4) D3 → EM (putF w' g j (.bool s3) (.slice a4 n4 k4) (.slice e4 d4 l4)) w.heap.size G n (k + 1) (fun i => if i = k then g else gs i) m (filled k (j + 1) (redX X)) ∧ Add w (putF w' g j (.bool s3) (.slice a4 n4 k4) (.slice e4 d4 l4))) := Lib.hid fun w' a4 n4 k4 e4 d4 l4 ha x1 y1 => by
        have hE3 := hEW.add ha
        have hp := hE3.put (i := k) (j := j) (by omega) (by rw [← HMK.out]; exact hlt2) (show FracT w' (.agg #[.bool s3, .slice a4 n4 k4, .slice e4 d4 l4]) (s3, N3, D3) from ⟨_, _, _, _, _, _, rfl, x1, y1⟩)
        rw [if_pos rfl] at hp
        refine ⟨hp.congr fun i j' hi hj' => ?_, putF_below _ _ _ (Add.trans TW ha) ?_⟩
        · unfold filled
          by_cases e : i = k
          · by_cases e2 : j' = j
            · rw [if_pos ⟨e, e2⟩, if_pos e, if_pos (by omega), e2]; unfold redX; rw [hred]
            · rw [if_neg fun q => e2 q.2, if_pos e, if_pos e]
              by_cases e4 : j' < j
              · rw [if_pos e4, if_pos (by omega)]
              · rw [if_neg e4, if_neg (by omega)]
          · rw [if_neg fun q => e q.1, if_neg e, if_neg e]
        · have := hE3.low.2 k (by omega)
          rwa [if_pos rfl] at this
       obtain ⟨p0, p1, p2, p3⟩ := HS.out W3 (Below.refl _ _)
       clear hx hx3 T3 hO TW hEW hW3 hred hE hc HD h1 hgn
       go_upto_region 9 with fail
       rw [HW3.out]
       clear HW3 c0 c1 c2
       go_region_held3 (fun w' => w'.cell? ⟨G, k, none⟩ = some (.slice (some ⟨g, 0, none⟩) mk mk) ∧ w'.cell? ⟨wr.heap.size, 0, none⟩ = some (.bool s) ∧ w'.cell? ⟨wr.heap.size, 1, none⟩ = some (.slice an q cn) ∧ w'.cell? ⟨wr.heap.size, 2, none⟩ = some (.slice ad d cd))
        (first | exact HS.out _ (Below.drew (Below.refl _ _)) | exact HS.out _ (Below.refl _ _) | exact HS.out _ aa2 | exact HS2.out _ _ _ _ aa2)
        (first | (go_at_call 75; ((with_reducible refine (HC.out _ (Below.drew (Below.refl _ _))).mono ?_); rintro e z1 ⟨a4, n4, k4, e4, d4, l4, rfl, x1, y1, h3⟩; have aa2 := Add.trans (Below.drew (Below.refl _ _) : Add W3 (World.drew W3)) h3; have hN := Lib.hid (HN.out _ _ _ _ _ _ _ aa2 x1 y1); obtain ⟨_, _, _, _, _, _, _, f0, f1, f2, f3, f4, f5, f6⟩ := HK.out _ aa2)))
       all_goals
        go_wp2_with fail
        go_roundw
        case rel => exact ⟨j + 1, by omega, by go_num, hN.out.1, hN.out.2⟩
        case measure => simp [intOf]; omega
end Go.Proofs.YtbeoeackahmpbaaGreatDoor
