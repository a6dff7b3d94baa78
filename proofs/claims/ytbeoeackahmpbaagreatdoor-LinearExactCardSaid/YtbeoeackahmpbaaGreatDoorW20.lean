/- leap: Euclid's algorithm on the leading digits. -/
import Derived.Test.YtbeoeackahmpbaaGreatDoorJF
import Derived.Test.YtbeoeackahmpbaaGreatDoorJA
namespace Go.Proofs.YtbeoeackahmpbaaGreatDoor
open Go.RowKit NatM

theorem Two.free {w : World} {g : Nat} {a b : Int} (h : Two w g a b) (i : Nat) : w.frozen? ⟨g, i, none⟩ = false := frozen_of_row w g i _ 124 h
theorem Two.store {w : World} {g : Nat} {a b : Int} (h : Two w g a b) (c d : Int) : Two ((w.setCell ⟨g, 0, none⟩ (.int .i64 c)).setCell ⟨g, 1, none⟩ (.int .i64 d)) g c d := by
  unfold Two
  have h1 := heap_setCell_same w g 0 _ 124 (.int .i64 c) h
  rw [heap_setCell_same _ g 1 _ 124 (.int .i64 d) h1]
  rfl
theorem Two.put2 {w : World} {g g2 : Nat} {a b : Int} (h : Two w g a b) (hne : g2 ≠ g) (u v : Value) : Two ((w.setCell ⟨g2, 0, none⟩ u).setCell ⟨g2, 1, none⟩ v) g a b := (h.put hne 0 u).put hne 1 v
theorem below_put2 {b g : Nat} {w w' : World} (h : Below b w w') (hg : b ≤ g) (u v : Value) : Below b w ((w'.setCell ⟨g, 0, none⟩ u).setCell ⟨g, 1, none⟩ v) := (h.setCell hg _).setCell hg _
/-- The two combinations stand for two numbers that follow A and B in Euclid's algorithm. -/
def Took (A B : Nat) (a b c d : Int) : Prop :=
  Fac a b ∧ Fac c d ∧ ∃ U V : Nat, (U : Int) = a * A + b * B ∧ (V : Int) = c * A + d * B ∧ V < U ∧ U ≤ B ∧ Nat.gcd U V = Nat.gcd A B
def LeapP (w : World) (A B : Nat) (e : Ending) (w' : World) : Prop :=
  ∃ (a b c d : Int) (ok : Bool), e = .returned (.tuple #[.agg #[.int .i64 a, .int .i64 b], .agg #[.int .i64 c, .int .i64 d], .bool ok]) ∧ (ok = true → Took A B a b c d) ∧ Add w w'

/-- The factors, with their signs. -/
def St (e : Bool) (p q r t : Nat) (na nb ma mb : Int) : Prop := na = sg e * p ∧ nb = -(sg e * q) ∧ ma = -(sg e * r) ∧ mb = sg e * t
theorem st_start : St true 1 0 0 1 1 0 0 1 := by simp [St, sg]
theorem st_step {e : Bool} {p q r t k : Nat} {na nb ma mb : Int} (h : St e p q r t na nb ma mb) : St (!e) r t (p + k * r) (q + k * t) ma mb (na - k * ma) (nb - k * mb) := by
  obtain ⟨rfl, rfl, rfl, rfl⟩ := h
  unfold St
  rw [sg_not]
  simp only [Int.natCast_add, Int.natCast_mul]
  refine ⟨by grind, by grind, by grind, by grind⟩
theorem st_abs {e : Bool} {p q r t : Nat} {na nb ma mb : Int} (h : St e p q r t na nb ma mb) : na.natAbs = p ∧ nb.natAbs = q ∧ ma.natAbs = r ∧ mb.natAbs = t := by
  obtain ⟨rfl, rfl, rfl, rfl⟩ := h
  cases e <;> simp [sg]
theorem st_took {A B X0 Y0 : Nat} {e : Bool} {p q r t x y U V : Nat} {na nb ma mb : Int} (h : Leap A B X0 Y0 e p q r t x y U V) (s : St e p q r t na nb ma mb) (hq : q ≤ t) (hp : p ≤ q) (ht : t < 2147483648) (hV : V < U) (hU : U ≤ B) : Took A B na nb ma mb := by
  obtain ⟨rfl, rfl, rfl, rfl⟩ := s
  have h1 := h.rt
  have hu := h.hU
  have hv := h.hV
  refine ⟨?_, ?_, U, V, ?_, ?_, hV, hU, h.gcd⟩
  · unfold Fac; cases e <;> simp only [sg, if_true, if_false, Bool.false_eq_true] <;> omega
  · unfold Fac; cases e <;> simp only [sg, if_true, if_false, Bool.false_eq_true] <;> omega
  · rw [hu]; grind
  · rw [hv]; grind

set_option maxRecDepth 100000 in
set_option maxHeartbeats 8000000 in
theorem leap_any (X0 Y0 A B S α β : Nat) (w : World) (hord : Y0 ≤ X0) (hX : X0 < 4611686018427387904) (hA : Hid (A = X0 * S + α)) (hB : Hid (B = Y0 * S + β)) (hα : Hid (α < S)) (hβ : Hid (β < S)) :
    Calls Tryz.prog 144 #[.int .i64 (X0 : Nat), .int .i64 (Y0 : Nat)] w (LeapP w A B) := by
  go_enter Tryz.func144, Tryz.ntmps144
  go_wp2_with fail
  obtain ⟨w1, hw1⟩ : ∃ w1, w1 = w.alloc (.cells #[.int .i64 0, .int .i64 0] 124) := ⟨_, rfl⟩
  have sw1 : w1.heap.size = w.heap.size + 1 := by rw [hw1]; simp
  have aw1 : Add w w1 := by rw [hw1]; exact (Below.refl _ _).alloc (Nat.le_refl _) _
  have t0 : Two w1 w.heap.size 0 0 := by rw [hw1]; exact two_new _ _ _
  rw [← hw1]
  rw [← sw1]
  clear hw1
  obtain ⟨w2, hw2⟩ : ∃ w2, w2 = w1.alloc (.cells #[.int .i64 0, .int .i64 0] 124) := ⟨_, rfl⟩
  have sw2 : w2.heap.size = w1.heap.size + 1 := by rw [hw2]; simp
  have aw2 : Add w1 w2 := by rw [hw2]; exact (Below.refl _ _).alloc (Nat.le_refl _) _
  have t1 : Two w2 w1.heap.size 0 0 := by rw [hw2]; exact two_new _ _ _
  rw [← hw2]
  rw [← sw2]
  clear hw2
  obtain ⟨w3, hw3⟩ : ∃ w3, w3 = w2.alloc (.cells #[.int .i64 0, .int .i64 0] 124) := ⟨_, rfl⟩
  have sw3 : w3.heap.size = w2.heap.size + 1 := by rw [hw3]; simp
  have aw3 : Add w2 w3 := by rw [hw3]; exact (Below.refl _ _).alloc (Nat.le_refl _) _
  have t2 : Two w3 w2.heap.size 0 0 := by rw [hw3]; exact two_new _ _ _
  rw [← hw3]
  rw [← sw3]
  clear hw3
  obtain ⟨w4, hw4⟩ : ∃ w4, w4 = w3.alloc (.cells #[.int .i64 0, .int .i64 0] 124) := ⟨_, rfl⟩
  have sw4 : w4.heap.size = w3.heap.size + 1 := by rw [hw4]; simp
  have aw4 : Add w3 w4 := by rw [hw4]; exact (Below.refl _ _).alloc (Nat.le_refl _) _
  have t3 : Two w4 w3.heap.size 0 0 := by rw [hw4]; exact two_new _ _ _
  rw [← hw4]
  rw [← sw4]
  clear hw4
  obtain ⟨w5, hw5⟩ : ∃ w5, w5 = w4.alloc (.cells #[.int .i64 1, .int .i64 0] 124) := ⟨_, rfl⟩
  have sw5 : w5.heap.size = w4.heap.size + 1 := by rw [hw5]; simp
  have aw5 : Add w4 w5 := by rw [hw5]; exact (Below.refl _ _).alloc (Nat.le_refl _) _
  have t4 : Two w5 w4.heap.size 1 0 := by rw [hw5]; exact two_new _ _ _
  rw [← hw5]
  rw [← sw5]
  clear hw5
  obtain ⟨w6, hw6⟩ : ∃ w6, w6 = w5.alloc (.cells #[.int .i64 0, .int .i64 1] 124) := ⟨_, rfl⟩
  have sw6 : w6.heap.size = w5.heap.size + 1 := by rw [hw6]; simp
  have aw6 : Add w5 w6 := by rw [hw6]; exact (Below.refl _ _).alloc (Nat.le_refl _) _
  have t5 : Two w6 w5.heap.size 0 1 := by rw [hw6]; exact two_new _ _ _
  rw [← hw6]
  clear hw6
  have A56 := aw6
  have A46 := Add.trans aw5 A56
  have A36 := Add.trans aw4 A46
  have A26 := Add.trans aw3 A36
  have A16 := Add.trans aw2 A26
  have A06 := Add.trans aw1 A16
  replace t0 := t0.below A16
  replace t1 := t1.below A26
  replace t2 := t2.below A36
  replace t3 := t3.below A46
  replace t4 := t4.below A56
  obtain ⟨g0, hg0⟩ : ∃ g0, g0 = w.heap.size := ⟨_, rfl⟩
  obtain ⟨g1, hg1⟩ : ∃ g1, g1 = w1.heap.size := ⟨_, rfl⟩
  obtain ⟨g2, hg2⟩ : ∃ g2, g2 = w2.heap.size := ⟨_, rfl⟩
  obtain ⟨g3, hg3⟩ : ∃ g3, g3 = w3.heap.size := ⟨_, rfl⟩
  obtain ⟨g4, hg4⟩ : ∃ g4, g4 = w4.heap.size := ⟨_, rfl⟩
  obtain ⟨g5, hg5⟩ : ∃ g5, g5 = w5.heap.size := ⟨_, rfl⟩
  rw [← hg0, ← hg1, ← hg2, ← hg3, ← hg4, ← hg5]
  rw [← hg0] at t0
  rw [← hg1] at t1
  rw [← hg2] at t2
  rw [← hg3] at t3
  rw [← hg4] at t4
  rw [← hg5] at t5
  have d1 : g1 = g0 + 1 := by omega
  have d2 : g2 = g0 + 2 := by omega
  have d3 : g3 = g0 + 3 := by omega
  have d4 : g4 = g0 + 4 := by omega
  have d5 : g5 = g0 + 5 := by omega
  have hb : g0 ≤ w6.heap.size := by omega
  clear aw1 aw2 aw3 aw4 aw5 aw6 A56 A46 A36 A26 A16 sw1 sw2 sw3 sw4 sw5 sw6 hg1 hg2 hg3 hg4 hg5
  clear w1 w2 w3 w4 w5
  have HG := Lib.hid hg0
  have n01 : g0 ≠ g1 := by omega
  have n02 : g0 ≠ g2 := by omega
  have n03 : g0 ≠ g3 := by omega
  have n12 : g1 ≠ g2 := by omega
  have n13 : g1 ≠ g3 := by omega
  have n23 : g2 ≠ g3 := by omega
  have n24 : g2 ≠ g4 := by omega
  have n25 : g2 ≠ g5 := by omega
  have n34 : g3 ≠ g4 := by omega
  have n35 : g3 ≠ g5 := by omega
  have n45 : g4 ≠ g5 := by omega
  have n04 : g4 ≠ g0 := by omega
  have n05 : g5 ≠ g0 := by omega
  have n14 : g4 ≠ g1 := by omega
  have n15 : g5 ≠ g1 := by omega
  have m01 : g1 ≠ g0 := by omega
  have m23 : g3 ≠ g2 := by omega
  have m45 : g5 ≠ g4 := by omega
  have o1 : g0 ≤ g1 := by omega
  have o2 : g0 ≤ g2 := by omega
  have o3 : g0 ≤ g3 := by omega
  have o4 : g0 ≤ g4 := by omega
  have o5 : g0 ≤ g5 := by omega
  clear d1 d2 d3 d4 d5
  go_loopw [0, 1, 9] (fun xv yv kv wr => ∃ (e : Bool) (p q r t x y U V : Nat) (na nb ma mb fa fb sa sb : Int) (ok : Bool), xv = .int .i64 (x : Nat) ∧ yv = .int .i64 (y : Nat) ∧ kv = .bool ok ∧ Hid (Leap A B X0 Y0 e p q r t x y U V) ∧ Hid (St e p q r t na nb ma mb) ∧ Hid (ok = true → Took A B fa fb sa sb) ∧
      Two wr g0 0 0 ∧ Two wr g1 0 0 ∧ Two wr g2 fa fb ∧ Two wr g3 sa sb ∧ Two wr g4 na nb ∧ Two wr g5 ma mb ∧ Below g0 w wr) (fun _ yv _ _ => (intOf yv).toNat)
  case atStart => exact ⟨true, 1, 0, 0, 1, X0, Y0, A, B, 1, 0, 0, 1, 0, 0, 0, 0, false, rfl, rfl, rfl, Lib.hid (Leap.start hord), Lib.hid st_start, Lib.hid (by simp), t0, t1, t2, t3, t4, t5, by rw [HG.out]; exact A06⟩
  case round =>
    clear t0 t1 t2 t3 t4 t5 A06 hb hg0
    clear w6
    obtain ⟨e, p, q, r, t, x, y, U, V, na, nb, ma, mb, fa, fb, sa, sb, ok, rfl, rfl, rfl, hl, hst, hok, t0, t1, t2, t3, t4, t5, hbw⟩ := hrel
    by_cases h0 : y = 0
    · subst h0
      have c1 := t2.fst
      have c2 := t2.snd
      have c3 := t3.fst
      have c4 := t3.snd
      have c5 := t0.fst
      have c6 := t0.snd
      have c7 := t1.fst
      have c8 := t1.snd
      have f0 := t0.free 0
      have f1 := t0.free 1
      have f2 := t1.free 0
      have f3 := t1.free 1
      go_wp2_with fail
      go_region
      have z0 := (t0.store fa fb).put2 m01 (.int .i64 sa) (.int .i64 sb)
      have z1 := (t1.put2 n01 (.int .i64 fa) (.int .i64 fb)).store sa sb
      have z2 : Below g0 w ((((wr.setCell ⟨g0, 0, none⟩ (.int .i64 fa)).setCell ⟨g0, 1, none⟩ (.int .i64 fb)).setCell ⟨g1, 0, none⟩ (.int .i64 sa)).setCell ⟨g1, 1, none⟩ (.int .i64 sb)) := below_put2 (below_put2 hbw (Nat.le_refl _) _ _) o1 _ _
      have y1 := z0.fst
      have y2 := z0.snd
      have y3 := z1.fst
      have y4 := z1.snd
      have hF : LeapP w A B (.returned (.tuple #[.agg #[.int .i64 fa, .int .i64 fb], .agg #[.int .i64 sa, .int .i64 sb], .bool ok])) _ := ⟨fa, fb, sa, sb, ok, rfl, hok.out, Below.drew (Below.mono z2 (Nat.le_of_eq HG.out.symm))⟩
      go_wp2_with fail
      exact bodyPost_ret (v := .tuple #[.agg #[.int .i64 fa, .int .i64 fb], .agg #[.int .i64 sa, .int .i64 sb], .bool ok]) (by simp [results, Tryz.results144, go_sem, y1, y2, y3, y4]) rfl hF
    · have hy0 : 0 < y := by omega
      have hyp : ((y : Int) == 0) = false := by simp; omega
      have hyq : ((y : Int) != 0) = true := by simp; omega
      have LB := hl.out.bound hy0
      have LF := hl.out.fac hy0
      have lrt := hl.out.rt
      have ltp := hl.out.tp
      have lord := hl.out.ord
      have lpq := hl.out.pq
      have hxX : x ≤ X0 := by
        have h1 := hl.out.size
        have h2 : 1 * x ≤ t * x := Nat.mul_le_mul_right _ ltp
        omega
      have hstep := st_step (k := x / y) hst.out
      have habs := st_abs hst.out
      have habs' := st_abs hstep
      have HSS := Lib.hid hstep
      obtain ⟨k, hk⟩ : ∃ k, k = x / y := ⟨_, rfl⟩
      obtain ⟨m, hm⟩ : ∃ m, m = x % y := ⟨_, rfl⟩
      have hki : (x : Int) / (y : Int) = (k : Int) := by rw [hk]; exact (Int.natCast_ediv _ _).symm
      have hmi : (x : Int) % (y : Int) = (m : Int) := by rw [hm]; exact (Int.natCast_emod _ _).symm
      have hmy : m < y := by rw [hm]; exact Nat.mod_lt _ hy0
      have hkx : k ≤ x := by rw [hk]; exact Nat.div_le_self _ _
      rw [← hk] at LB LF habs'
      have HK := Lib.hid hk
      have HM := Lib.hid hm
      obtain ⟨t', ht'⟩ : ∃ t', t' = q + k * t := ⟨_, rfl⟩
      obtain ⟨r', hr'⟩ : ∃ r', r' = p + k * r := ⟨_, rfl⟩
      rw [← ht'] at LB LF habs'
      rw [← hr'] at LF habs'
      obtain ⟨km, hkm⟩ : ∃ km, (k : Int) * ma = km := ⟨_, rfl⟩
      obtain ⟨kn, hkn⟩ : ∃ kn, (k : Int) * mb = kn := ⟨_, rfl⟩
      obtain ⟨ra, hra⟩ : ∃ ra, na - km = ra := ⟨_, rfl⟩
      obtain ⟨rb, hrb⟩ : ∃ rb, nb - kn = rb := ⟨_, rfl⟩
      rw [hkm, hkn, hra, hrb] at habs'
      obtain ⟨-, -, ab3, ab4⟩ := habs
      obtain ⟨-, ab2, ab5, ab6⟩ := habs'
      have bq : q ≤ t' := by rw [ht']; exact Nat.le_add_right _ _
      have bp : p ≤ r' := by rw [hr']; exact Nat.le_add_right _ _
      have bt : t ≤ t' := LF.2.2
      have br : r' ≤ t' := LF.1
      have bn : na.natAbs = p ∧ nb.natAbs = q := ⟨(st_abs hst.out).1, (st_abs hst.out).2.1⟩
      have b1 : -4611686018427387904 ≤ ma ∧ ma ≤ 4611686018427387904 ∧ -4611686018427387904 ≤ mb ∧ mb ≤ 4611686018427387904 := by omega
      have b2 : -4611686018427387904 ≤ na ∧ na ≤ 4611686018427387904 ∧ -4611686018427387904 ≤ nb ∧ nb ≤ 4611686018427387904 := by omega
      have b3 : -4611686018427387904 ≤ ra ∧ ra ≤ 4611686018427387904 ∧ -4611686018427387904 ≤ rb ∧ rb ≤ 4611686018427387904 := by omega
      have b4 : -9223372036854775808 ≤ km ∧ km < 9223372036854775808 ∧ -9223372036854775808 ≤ kn ∧ kn < 9223372036854775808 := by omega
      obtain ⟨b1a, b1b, b1c, b1d⟩ := b1
      obtain ⟨b2a, b2b, b2c, b2d⟩ := b2
      obtain ⟨b3a, b3b, b3c, b3d⟩ := b3
      obtain ⟨b4a, b4b, b4c, b4d⟩ := b4
      have hyb : y < 4611686018427387904 := by omega
      have hxb : x < 4611686018427387904 := by omega
      have hpos : decide ((0 : Int) < (y : Int)) = true := decide_eq_true (by omega)
      have ia : (rb.natAbs : Int) = (t' : Int) := by rw [ab6]
      have ib : (mb.natAbs : Int) = (t : Int) := by rw [ab4]
      have HT := Lib.hid ht'
      have HR := Lib.hid hr'
      have HRA := Lib.hid hra
      have HRB := Lib.hid hrb
      rw [← hk, ← ht', ← hr', hkm, hkn, hra, hrb] at hstep
      have HS2 := Lib.hid hstep
      have c1 := t4.fst
      have c2 := t4.snd
      have c3 := t5.fst
      have c4 := t5.snd
      have f0 := t4.free 0
      have f1 := t4.free 1
      have f2 := t5.free 0
      have f3 := t5.free 1
      clear ht' hr' hk hm hstep HSS HRA HRB
      go_wp2_with fail
      go_quiet (fail)
      go_wp2_with fail
      go_region
      go_wp2_with fail
      obtain ⟨w7, hw7⟩ : ∃ w7, w7 = (((((wr.drewN (nq + 1)).setCell ⟨g4, 0, none⟩ (.int .i64 ma)).setCell ⟨g4, 1, none⟩ (.int .i64 mb)).setCell ⟨g5, 0, none⟩ (.int .i64 ra)).setCell ⟨g5, 1, none⟩ (.int .i64 rb)) := ⟨_, rfl⟩
      have p4 : Two w7 g4 ma mb := by rw [hw7]; exact (Two.store (w := wr.drewN (nq + 1)) t4 ma mb).put2 m45 _ _
      have p5 : Two w7 g5 ra rb := by rw [hw7]; exact (Two.put2 (w := wr.drewN (nq + 1)) t5 n45 _ _).store ra rb
      have p0 : Two w7 g0 0 0 := by rw [hw7]; exact (Two.put2 (w := wr.drewN (nq + 1)) t0 n04 _ _).put2 n05 _ _
      have p1 : Two w7 g1 0 0 := by rw [hw7]; exact (Two.put2 (w := wr.drewN (nq + 1)) t1 n14 _ _).put2 n15 _ _
      have p2 : Two w7 g2 fa fb := by rw [hw7]; exact (Two.put2 (w := wr.drewN (nq + 1)) t2 n24.symm _ _).put2 n25.symm _ _
      have p3 : Two w7 g3 sa sb := by rw [hw7]; exact (Two.put2 (w := wr.drewN (nq + 1)) t3 n34.symm _ _).put2 n35.symm _ _
      have pb : Below g0 w w7 := by rw [hw7]; exact below_put2 (below_put2 (below_drewN hbw _) o4 _ _) o5 _ _
      rw [← hw7]
      simp only [hmi]
      clear hw7 t0 t1 t2 t3 t4 t5 c1 c2 c3 c4 f0 f1 f2 f3 hbw b1a b1b b2a b2b b2c b2d b3a b3b b4a b4b b4c b4d hkm hkn hra hrb hki hmi hyp hyq hpos
      have c1 := p4.snd
      have c2 := p5.snd
      by_cases hc1 : m < t'
      · have g1' : decide (m < t') = true := decide_eq_true hc1
        go_quiet ((go_at_call 153; exact Calls.quiet_of_same (size_any _ _ (by omega) (by omega))))
        go_wp2_with fail
        obtain ⟨w8, hw8⟩ : ∃ w8, w8 = w7.drewN nq := ⟨_, rfl⟩
        have x0 : Two w8 g0 0 0 := by rw [hw8]; exact p0
        have x1 : Two w8 g1 0 0 := by rw [hw8]; exact p1
        have x2 : Two w8 g2 fa fb := by rw [hw8]; exact p2
        have x3 : Two w8 g3 sa sb := by rw [hw8]; exact p3
        have xb : Below g0 w w8 := by rw [hw8]; exact below_drewN pb _
        rw [← hw8]
        clear hw8 p0 p1 p2 p3 p4 p5 pb c1 c2
        have c1 := x2.fst
        have c2 := x2.snd
        have c3 := x3.fst
        have c4 := x3.snd
        have c5 := x0.fst
        have c6 := x0.snd
        have c7 := x1.fst
        have c8 := x1.snd
        have f0 := x0.free 0
        have f1 := x0.free 1
        have f2 := x1.free 0
        have f3 := x1.free 1
        go_region
        have z0 := (x0.store fa fb).put2 m01 (.int .i64 sa) (.int .i64 sb)
        have z1 := (x1.put2 n01 (.int .i64 fa) (.int .i64 fb)).store sa sb
        have z2 : Below g0 w ((((w8.setCell ⟨g0, 0, none⟩ (.int .i64 fa)).setCell ⟨g0, 1, none⟩ (.int .i64 fb)).setCell ⟨g1, 0, none⟩ (.int .i64 sa)).setCell ⟨g1, 1, none⟩ (.int .i64 sb)) := below_put2 (below_put2 xb (Nat.le_refl _) _ _) o1 _ _
        have y1 := z0.fst
        have y2 := z0.snd
        have y3 := z1.fst
        have y4 := z1.snd
        have hF : LeapP w A B (.returned (.tuple #[.agg #[.int .i64 fa, .int .i64 fb], .agg #[.int .i64 sa, .int .i64 sb], .bool ok])) _ := ⟨fa, fb, sa, sb, ok, rfl, hok.out, Below.drew (Below.mono z2 (Nat.le_of_eq HG.out.symm))⟩
        go_wp2_with fail
        exact bodyPost_ret (v := .tuple #[.agg #[.int .i64 fa, .int .i64 fb], .agg #[.int .i64 sa, .int .i64 sb], .bool ok]) (by simp [results, Tryz.results144, go_sem, y1, y2, y3, y4]) rfl hF
      · have g1' : decide (m < t') = false := decide_eq_false hc1
        obtain ⟨dd, hdd⟩ : ∃ dd, dd = y - m := ⟨_, rfl⟩
        obtain ⟨tt, htt⟩ : ∃ tt, tt = t + t' := ⟨_, rfl⟩
        have i1 : (y : Int) - (m : Int) = (dd : Int) := by omega
        have i2 : (t : Int) + (t' : Int) = (tt : Int) := by omega
        have ddb : dd < 4611686018427387904 := by omega
        have ttb : tt < 9223372036854775808 := by omega
        have HD := Lib.hid hdd
        have HTT := Lib.hid htt
        clear hdd htt
        by_cases hc2 : dd < tt
        · have g2' : decide (dd < tt) = true := decide_eq_true hc2
          go_quiet ((go_at_call 153; exact Calls.quiet_of_same (size_any _ _ (by omega) (by omega))))
          go_wp2_with fail
          obtain ⟨w8, hw8⟩ : ∃ w8, w8 = w7.drewN nq := ⟨_, rfl⟩
          have x0 : Two w8 g0 0 0 := by rw [hw8]; exact p0
          have x1 : Two w8 g1 0 0 := by rw [hw8]; exact p1
          have x2 : Two w8 g2 fa fb := by rw [hw8]; exact p2
          have x3 : Two w8 g3 sa sb := by rw [hw8]; exact p3
          have xb : Below g0 w w8 := by rw [hw8]; exact below_drewN pb _
          rw [← hw8]
          clear hw8 p0 p1 p2 p3 p4 p5 pb c1 c2
          have c1 := x2.fst
          have c2 := x2.snd
          have c3 := x3.fst
          have c4 := x3.snd
          have c5 := x0.fst
          have c6 := x0.snd
          have c7 := x1.fst
          have c8 := x1.snd
          have f0 := x0.free 0
          have f1 := x0.free 1
          have f2 := x1.free 0
          have f3 := x1.free 1
          go_region
          have z0 := (x0.store fa fb).put2 m01 (.int .i64 sa) (.int .i64 sb)
          have z1 := (x1.put2 n01 (.int .i64 fa) (.int .i64 fb)).store sa sb
          have z2 : Below g0 w ((((w8.setCell ⟨g0, 0, none⟩ (.int .i64 fa)).setCell ⟨g0, 1, none⟩ (.int .i64 fb)).setCell ⟨g1, 0, none⟩ (.int .i64 sa)).setCell ⟨g1, 1, none⟩ (.int .i64 sb)) := below_put2 (below_put2 xb (Nat.le_refl _) _ _) o1 _ _
          have y1 := z0.fst
          have y2 := z0.snd
          have y3 := z1.fst
          have y4 := z1.snd
          have hF : LeapP w A B (.returned (.tuple #[.agg #[.int .i64 fa, .int .i64 fb], .agg #[.int .i64 sa, .int .i64 sb], .bool ok])) _ := ⟨fa, fb, sa, sb, ok, rfl, hok.out, Below.drew (Below.mono z2 (Nat.le_of_eq HG.out.symm))⟩
          go_wp2_with fail
          exact bodyPost_ret (v := .tuple #[.agg #[.int .i64 fa, .int .i64 fb], .agg #[.int .i64 sa, .int .i64 sb], .bool ok]) (by simp [results, Tryz.results144, go_sem, y1, y2, y3, y4]) rfl hF
        · have g2' : decide (dd < tt) = false := decide_eq_false hc2
          have hcc1 : t' ≤ m := by omega
          have hcc2 : t + t' ≤ y - m := by have := HD.out; have := HTT.out; omega
          have hs2 := hl.out.step hA.out hB.out hα.out hβ.out hy0 (by rw [← HK.out, ← HM.out, ← HT.out]; exact hcc1) (by rw [← HK.out, ← HM.out, ← HT.out]; exact hcc2)
          rw [← HK.out, ← HM.out, ← HT.out, ← HR.out] at hs2
          obtain ⟨V', hV', hnew⟩ := hs2
          have htook := st_took hnew HS2.out bt lrt (hnew.short (by omega) hcc1) hV' hl.out.le
          have HNEW := Lib.hid hnew
          have HTK := Lib.hid htook
          have c3 := p4.fst
          have c4 := p5.fst
          have c5 := p2.fst
          have c6 := p2.snd
          have c7 := p3.fst
          have c8 := p3.snd
          have f0 := p2.free 0
          have f1 := p2.free 1
          have f2 := p3.free 0
          have f3 := p3.free 1
          clear hnew htook
          go_quiet ((go_at_call 153; exact Calls.quiet_of_same (size_any _ _ (by omega) (by omega))))
          go_wp2_with fail
          go_region
          go_wp2_with fail
          go_roundw
          case rel =>
            exact ⟨!e, r, t, r', t', y, m, V, V', ma, mb, ra, rb, ma, mb, ra, rb, true, rfl, rfl, rfl, HNEW, HS2, Lib.hid (fun _ => HTK.out),
              (Two.put2 (w := w7.drewN (nq + 1)) p0 n02.symm _ _).put2 n03.symm _ _, (Two.put2 (w := w7.drewN (nq + 1)) p1 n12.symm _ _).put2 n13.symm _ _,
              (Two.store (w := w7.drewN (nq + 1)) p2 ma mb).put2 n23.symm _ _, (Two.put2 (w := w7.drewN (nq + 1)) p3 n23 _ _).store ra rb,
              (Two.put2 (w := w7.drewN (nq + 1)) p4 n24 _ _).put2 n34 _ _, (Two.put2 (w := w7.drewN (nq + 1)) p5 n25 _ _).put2 n35 _ _,
              below_put2 (below_put2 (below_drewN pb _) o2 _ _) o3 _ _⟩
          case measure => simp [intOf]; omega
end Go.Proofs.YtbeoeackahmpbaaGreatDoor
