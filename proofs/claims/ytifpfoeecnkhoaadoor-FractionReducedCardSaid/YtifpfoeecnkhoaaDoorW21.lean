/- apply: two rows replaced by combinations of them. -/
import Derived.Test.YtifpfoeecnkhoaaDoorW19
namespace Go.Proofs.YtifpfoeecnkhoaaDoor
open Go.RowKit NatM

theorem comb_last {xs ys zs : List Nat} {a b x : Int} {n m U : Nat} (h : Comb xs ys a b n zs x) (hzl : Limbs zs) (hz : n ≤ zs.length) (hm : n ≤ m) (_hx : m ≤ xs.length) (_hy : n ≤ ys.length) (hU : (U : Int) = a * val (xs.take m) + b * val (ys.take n)) (hb : U < pw n) : val (zs.take n) = U := by
  unfold Comb at h
  have hv : val (zs.take n) < pw n := by
    have := val_lt (hzl.take n)
    rwa [List.length_take, Nat.min_eq_left hz] at this
  have hA := val_take_drop (xs.take m) n (by rw [List.length_take]; omega)
  rw [List.take_take, Nat.min_eq_left hm] at hA
  have e : (U : Int) = val (zs.take n) + pw n * (x + a * val ((xs.take m).drop n)) := by
    rw [hU, hA]
    simp only [Int.natCast_add, Int.natCast_mul]
    have : a * (val (xs.take n) + pw n * (val ((xs.take m).drop n) : Int)) + b * val (ys.take n) = (a * val (xs.take n) + b * val (ys.take n)) + pw n * (a * val ((xs.take m).drop n)) := by grind
    rw [this, h]; grind
  obtain ⟨t, ht⟩ : ∃ t, t = x + a * val ((xs.take m).drop n) := ⟨_, rfl⟩
  rw [← ht] at e
  have e1 : (U : Int) % pw n = (val (zs.take n) : Int) % pw n := by rw [e, Int.add_mul_emod_self_left]
  rw [Int.emod_eq_of_lt (by omega) (by omega), Int.emod_eq_of_lt (by omega) (by omega)] at e1
  omega
/-- What apply does: the first n limbs of the row of a are those of U, the row of b is that of V. -/
def ApplyQ (w : World) (base ga gb n U V : Nat) (la lb : Nat) (e : Ending) (w' : World) : Prop :=
  ∃ zs us, e = .returned (.tuple #[]) ∧ Row w' ga zs ∧ Row w' gb us ∧ zs.length = la ∧ us.length = lb ∧ Limbs zs ∧ Limbs us ∧ val (zs.take n) = U ∧ val (us.take n) = V ∧ Below base w w'
set_option maxRecDepth 100000 in
set_option maxHeartbeats 4000000 in
theorem apply_gen (a b c d : Int) (ga gb na n ca cb base U V : Nat) (xs ys : List Nat) (w : World) (hra : Row w ga xs) (hrb : Row w gb ys) (hne : ga ≠ gb) (hba : base ≤ ga) (hbb : base ≤ gb) (hna : n ≤ na) (hxl : na ≤ xs.length) (hyl : n ≤ ys.length) (hn : n ≤ 1000000)
    (hx : Limbs xs) (hy : Limbs ys) (f1 : Fac a b) (f2 : Fac c d) (hU : Hid ((U : Int) = a * val (xs.take na) + b * val (ys.take n))) (hV : Hid ((V : Int) = c * val (xs.take na) + d * val (ys.take n))) (hUb : Hid (U < pw n)) (hVb : Hid (V < pw n)) :
    Calls Tryd.prog 78 #[.agg #[.int .i64 a, .int .i64 b], .agg #[.int .i64 c, .int .i64 d], .slice (some ⟨ga, 0, none⟩) na ca, .slice (some ⟨gb, 0, none⟩) n cb] w (ApplyQ w base ga gb n U V xs.length ys.length) := by
  go_enter Tryd.func78, Tryd.ntmps78
  go_wp2_with fail
  obtain ⟨w0, hw0⟩ : ∃ w0, w0 = (w.alloc (.cells #[.int .i64 a, .int .i64 b] 94)).alloc (.cells #[.int .i64 c, .int .i64 d] 94) := ⟨_, rfl⟩
  have hA1 : Add w (w.alloc (.cells #[.int .i64 a, .int .i64 b] 94)) := (Below.refl _ _).alloc (Nat.le_refl _) _
  have hA2 : Add (w.alloc (.cells #[.int .i64 a, .int .i64 b] 94)) w0 := by rw [hw0]; exact (Below.refl _ _).alloc (Nat.le_refl _) _
  have hadd : Add w w0 := Add.trans hA1 hA2
  have t1 : Two w0 w.heap.size a b := (two_new w a b).below hA2
  have t2 : Two w0 (w.heap.size + 1) c d := by
    have := two_new (w.alloc (.cells #[.int .i64 a, .int .i64 b] 94)) c d
    rw [← hw0] at this
    simpa using this
  have hb0 : Below base w w0 := Below.mono hadd (by have := hra.lt; omega)
  have lga := hra.lt
  have lgb := hrb.lt
  obtain ⟨h0, hh0⟩ : ∃ h0, h0 = w.heap.size := ⟨_, rfl⟩
  rw [← hh0] at t1 t2 lga lgb
  replace hra := hra.below hadd
  replace hrb := hrb.below hadd
  rw [← hw0]
  rw [← hh0]
  clear hw0 hA1 hA2 hadd hh0
  have HX := Lib.hid hx
  have HY := Lib.hid hy
  go_loopw [8, 9, 15] (fun xv yv iv wr => ∃ (k : Nat) (x y : Int) (zs us : List Nat), k ≤ n ∧ xv = .int .i64 x ∧ yv = .int .i64 y ∧ iv = .int .i64 k ∧ -2147483648 ≤ x ∧ x < 2147483648 ∧ -2147483648 ≤ y ∧ y < 2147483648 ∧ Hid (Comb xs ys a b k zs x) ∧ Hid (Comb xs ys c d k us y) ∧ Hid (zs.length = xs.length) ∧ Hid (us.length = ys.length) ∧ Hid (Limbs zs) ∧ Hid (Limbs us) ∧ Hid (∀ j, k ≤ j → zs.getD j 0 = xs.getD j 0 ∧ us.getD j 0 = ys.getD j 0) ∧ Row wr ga zs ∧ Row wr gb us ∧ Two wr h0 a b ∧ Two wr (h0 + 1) c d ∧ Below base w wr) (fun _ _ i _ => n - (intOf i).toNat)
  case atStart => exact ⟨0, 0, 0, xs, ys, Nat.zero_le _, rfl, rfl, rfl, by decide, by decide, by decide, by decide, Lib.hid (comb_zero _ _ _ _ _), Lib.hid (comb_zero _ _ _ _ _), Lib.hid rfl, Lib.hid rfl, HX, HY, Lib.hid fun _ _ => ⟨rfl, rfl⟩, hra, hrb, t1, t2, hb0⟩
  case round =>
    clear hra hrb t1 t2 hb0 hx hy
    obtain ⟨k, x, y, zs, us, hk, rfl, rfl, rfl, x1, x2, y1, y2, hc1, hc2, hzl, hul, hzs, hus, hrest, hra, hrb, t1, t2, hbw⟩ := hrel
    by_cases hlt : k < n
    · have hca := hra.cell k (by rw [hzl.out]; omega)
      have hfa := hra.free k
      have hcb := hrb.cell k (by rw [hul.out]; omega)
      have hfb := hrb.free k
      rw [(hrest.out k (Nat.le_refl _)).1] at hca
      rw [(hrest.out k (Nat.le_refl _)).2] at hcb
      obtain ⟨p, hp⟩ : ∃ p, p = xs.getD k 0 := ⟨_, rfl⟩
      obtain ⟨q, hq⟩ : ∃ q, q = ys.getD k 0 := ⟨_, rfl⟩
      have hpl : p < 4294967296 := by rw [hp]; exact HX.out.getD k
      have hql : q < 4294967296 := by rw [hq]; exact HY.out.getD k
      rw [← hp] at hca
      rw [← hq] at hcb
      have s1 := fac_sum f1 hpl hql
      have s2 := fac_sum f2 hpl hql
      obtain ⟨ap, hap⟩ : ∃ ap, a * (p : Int) = ap := ⟨_, rfl⟩
      obtain ⟨bq, hbq⟩ : ∃ bq, b * (q : Int) = bq := ⟨_, rfl⟩
      obtain ⟨cp, hcp⟩ : ∃ cp, c * (p : Int) = cp := ⟨_, rfl⟩
      obtain ⟨dq, hdq⟩ : ∃ dq, d * (q : Int) = dq := ⟨_, rfl⟩
      rw [hap, hbq] at s1
      rw [hcp, hdq] at s2
      obtain ⟨r1, r2, r3, r4, r5, r6⟩ := s1
      obtain ⟨q1, q2, q3, q4, q5, q6⟩ := s2
      obtain ⟨e, he⟩ : ∃ e, x + (ap + bq) = e := ⟨_, rfl⟩
      obtain ⟨f, hf⟩ : ∃ f, y + (cp + dq) = f := ⟨_, rfl⟩
      obtain ⟨lo, hlo⟩ : ∃ lo : Nat, e % 4294967296 = (lo : Int) := ⟨(e % 4294967296).toNat, by omega⟩
      obtain ⟨lp, hlp⟩ : ∃ lp : Nat, f % 4294967296 = (lp : Int) := ⟨(f % 4294967296).toNat, by omega⟩
      obtain ⟨hi, hhi⟩ : ∃ hi, e / 4294967296 = hi := ⟨_, rfl⟩
      obtain ⟨hj, hhj⟩ : ∃ hj, f / 4294967296 = hj := ⟨_, rfl⟩
      have se : e = lo + 4294967296 * hi := by omega
      have sf : f = lp + 4294967296 * hj := by omega
      have be : -9223372036854775808 ≤ e ∧ e < 9223372036854775808 := by omega
      have bf : -9223372036854775808 ≤ f ∧ f < 9223372036854775808 := by omega
      have bl : lo < 4294967296 ∧ lp < 4294967296 := by omega
      have bh : -2147483648 ≤ hi ∧ hi < 2147483648 ∧ -2147483648 ≤ hj ∧ hj < 2147483648 := by omega
      have k1 : Hid (Comb xs ys a b (k + 1) (zs.set k lo) hi) := Lib.hid (comb_step hc1.out (by rw [hzl.out]; omega) (by rw [← hp, ← hq, hap, hbq]; exact he) se)
      have k2 : Hid (Comb xs ys c d (k + 1) (us.set k lp) hj) := Lib.hid (comb_step hc2.out (by rw [hul.out]; omega) (by rw [← hp, ← hq, hcp, hdq]; exact hf) sf)
      have c1 := t1.fst
      have c2 := t1.snd
      have c3 := t2.fst
      have c4 := t2.snd
      obtain ⟨be1, be2⟩ := be
      obtain ⟨bf1, bf2⟩ := bf
      obtain ⟨bl1, bl2⟩ := bl
      obtain ⟨bh1, bh2, bh3, bh4⟩ := bh
      clear hc1 hc2 hp hq se sf
      go_wp2_with fail
      go_quiet (fail)
      go_wp2_with fail
      go_roundw
      case rel =>
        have hbz := hbw.size
        have z1 : Row ((wr.drewN nq).setCell ⟨ga, k, none⟩ (.int .u32 (lo : Nat))) ga (zs.set k lo) := Row.set (w := wr.drewN nq) hra k lo
        have z2 : Row ((wr.drewN nq).setCell ⟨ga, k, none⟩ (.int .u32 (lo : Nat))) gb us := Row.kept2 (w := wr.drewN nq) hrb hne k _
        have z3 : Two ((wr.drewN nq).setCell ⟨ga, k, none⟩ (.int .u32 (lo : Nat))) h0 a b := Two.put (w := wr.drewN nq) t1 (by omega) k _
        have z4 : Two ((wr.drewN nq).setCell ⟨ga, k, none⟩ (.int .u32 (lo : Nat))) (h0 + 1) c d := Two.put (w := wr.drewN nq) t2 (by omega) k _
        have z5 : Below base w ((wr.drewN nq).setCell ⟨ga, k, none⟩ (.int .u32 (lo : Nat))) := Below.setCell (below_drewN hbw nq) hba _
        refine ⟨k + 1, hi, hj, zs.set k lo, us.set k lp, by omega, rfl, rfl, by go_num, bh1, bh2, bh3, bh4, k1, k2, Lib.hid (by rw [List.length_set]; exact hzl.out), Lib.hid (by rw [List.length_set]; exact hul.out), Lib.hid (hzs.out.set _ _ bl1), Lib.hid (hus.out.set _ _ bl2), Lib.hid fun j hj => ?_, z1.kept2 (fun e => hne e.symm) k _, z2.set k lp, z3.put (by omega) k _, z4.put (by omega) k _, z5.setCell hbb _⟩
        have := hrest.out j (by omega)
        rw [NatM.getD_set_ne _ _ _ _ (by omega), NatM.getD_set_ne _ _ _ _ (by omega)]
        exact this
      case measure => simp [intOf]; omega
    · obtain rfl : k = n := by omega
      have e1 := comb_last hc1.out hzs.out (by rw [hzl.out]; omega) hna hxl hyl hU.out hUb.out
      have e2 := comb_last hc2.out hus.out (by rw [hul.out]; exact hyl) hna hxl hyl hV.out hVb.out
      have E1 := Lib.hid e1
      have E2 := Lib.hid e2
      clear e1 e2 hc1 hc2
      go_wp2_with fail
      go_end0
      exact ⟨zs, us, rfl, hra, hrb, hzl.out, hul.out, hzs.out, hus.out, E1.out, E2.out, hbw⟩
end Go.Proofs.YtifpfoeecnkhoaaDoor
