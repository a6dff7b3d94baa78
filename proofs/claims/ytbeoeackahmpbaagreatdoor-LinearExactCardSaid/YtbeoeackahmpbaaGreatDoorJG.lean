/- apply: two rows replaced by combinations of them. | nearer: a step of Lehmer's algorithm. | Gcd. | Gcd, said of numbers alone. -/
import Derived.Test.YtbeoeackahmpbaaGreatDoorJF
import Derived.Test.YtbeoeackahmpbaaGreatDoorW20

namespace Go.Proofs.YtbeoeackahmpbaaGreatDoor
open Go.RowKit NatM

theorem comb_last {xs ys zs : List Nat} {a b x : Int} {n m U : Nat} (h : Comb xs ys a b n zs x) (hzl : Limbs zs) (hz : n ≤ zs.length) (hm : n ≤ m) (_hx : m ≤ xs.length) (_hy : n ≤ ys.length) (hU : (U : Int) = a * val (xs.take m) + b * val (ys.take n)) (hb : U < pw n) : val (zs.take n) = U := by
  unfold Comb at h
  have hv : val (zs.take n) < pw n := by
    have := val_lt (hzl.take n)
    rwa [List.length_take, Nat.min_eq_left hz] at this
  have hA := val_take_drop (xs.take m) n (by rw [List.length_take]; omega)
  rw [List.take_take, Nat.min_eq_left hm] at hA
  have e : (U : Int) = val (zs.take n) + pw n * (x + a * val ((xs.take m).drop n)) := by
    rw [hU, hA]
    simp only [Int.natCast_add, Int.natCast_mul]
    have : a * (val (xs.take n) + pw n * (val ((xs.take m).drop n) : Int)) + b * val (ys.take n) = (a * val (xs.take n) + b * val (ys.take n)) + pw n * (a * val ((xs.take m).drop n)) := by grind
    rw [this, h]; grind
  obtain ⟨t, ht⟩ : ∃ t, t = x + a * val ((xs.take m).drop n) := ⟨_, rfl⟩
  rw [← ht] at e
  have e1 : (U : Int) % pw n = (val (zs.take n) : Int) % pw n := by rw [e, Int.add_mul_emod_self_left]
  rw [Int.emod_eq_of_lt (by omega) (by omega), Int.emod_eq_of_lt (by omega) (by omega)] at e1
  omega
/-- What apply does: the first n limbs of the row of a are those of U, the row of b is that of V. -/
def ApplyQ (w : World) (base ga gb n U V : Nat) (la lb : Nat) (e : Ending) (w' : World) : Prop :=
  ∃ zs us, e = .returned (.tuple #[]) ∧ Row w' ga zs ∧ Row w' gb us ∧ zs.length = la ∧ us.length = lb ∧ Limbs zs ∧ Limbs us ∧ val (zs.take n) = U ∧ val (us.take n) = V ∧ Below base w w'
set_option maxRecDepth 100000 in
set_option maxHeartbeats 4000000 in
theorem apply_gen (a b c d : Int) (ga gb na n ca cb base U V : Nat) (xs ys : List Nat) (w : World) (hra : Row w ga xs) (hrb : Row w gb ys) (hne : ga ≠ gb) (hba : base ≤ ga) (hbb : base ≤ gb) (hna : n ≤ na) (hxl : na ≤ xs.length) (hyl : n ≤ ys.length) (hn : n ≤ 1000000)
    (hx : Limbs xs) (hy : Limbs ys) (f1 : Fac a b) (f2 : Fac c d) (hU : Hid ((U : Int) = a * val (xs.take na) + b * val (ys.take n))) (hV : Hid ((V : Int) = c * val (xs.take na) + d * val (ys.take n))) (hUb : Hid (U < pw n)) (hVb : Hid (V < pw n)) :
    Calls Tryz.prog 146 #[.agg #[.int .i64 a, .int .i64 b], .agg #[.int .i64 c, .int .i64 d], .slice (some ⟨ga, 0, none⟩) na ca, .slice (some ⟨gb, 0, none⟩) n cb] w (ApplyQ w base ga gb n U V xs.length ys.length) := by
  go_enter Tryz.func146, Tryz.ntmps146
  go_wp2_with fail
  obtain ⟨w0, hw0⟩ : ∃ w0, w0 = (w.alloc (.cells #[.int .i64 a, .int .i64 b] 124)).alloc (.cells #[.int .i64 c, .int .i64 d] 124) := ⟨_, rfl⟩
  have hA1 : Add w (w.alloc (.cells #[.int .i64 a, .int .i64 b] 124)) := (Below.refl _ _).alloc (Nat.le_refl _) _
  have hA2 : Add (w.alloc (.cells #[.int .i64 a, .int .i64 b] 124)) w0 := by rw [hw0]; exact (Below.refl _ _).alloc (Nat.le_refl _) _
  have hadd : Add w w0 := Add.trans hA1 hA2
  have t1 : Two w0 w.heap.size a b := (two_new w a b).below hA2
  have t2 : Two w0 (w.heap.size + 1) c d := by
    have := two_new (w.alloc (.cells #[.int .i64 a, .int .i64 b] 124)) c d
    rw [← hw0] at this
    simpa using this
  have hb0 : Below base w w0 := Below.mono hadd (by have := hra.lt; omega)
  have lga := hra.lt
  have lgb := hrb.lt
  obtain ⟨h0, hh0⟩ : ∃ h0, h0 = w.heap.size := ⟨_, rfl⟩
  rw [← hh0] at t1 t2 lga lgb
  replace hra := hra.below hadd
  replace hrb := hrb.below hadd
  rw [← hw0]
  rw [← hh0]
  clear hw0 hA1 hA2 hadd hh0
  have HX := Lib.hid hx
  have HY := Lib.hid hy
  go_loopw [8, 9, 15] (fun xv yv iv wr => ∃ (k : Nat) (x y : Int) (zs us : List Nat), k ≤ n ∧ xv = .int .i64 x ∧ yv = .int .i64 y ∧ iv = .int .i64 k ∧ -2147483648 ≤ x ∧ x < 2147483648 ∧ -2147483648 ≤ y ∧ y < 2147483648 ∧ Hid (Comb xs ys a b k zs x) ∧ Hid (Comb xs ys c d k us y) ∧ Hid (zs.length = xs.length) ∧ Hid (us.length = ys.length) ∧ Hid (Limbs zs) ∧ Hid (Limbs us) ∧ Hid (∀ j, k ≤ j → zs.getD j 0 = xs.getD j 0 ∧ us.getD j 0 = ys.getD j 0) ∧ Row wr ga zs ∧ Row wr gb us ∧ Two wr h0 a b ∧ Two wr (h0 + 1) c d ∧ Below base w wr) (fun _ _ i _ => n - (intOf i).toNat)
  case atStart => exact ⟨0, 0, 0, xs, ys, Nat.zero_le _, rfl, rfl, rfl, by decide, by decide, by decide, by decide, Lib.hid (comb_zero _ _ _ _ _), Lib.hid (comb_zero _ _ _ _ _), Lib.hid rfl, Lib.hid rfl, HX, HY, Lib.hid fun _ _ => ⟨rfl, rfl⟩, hra, hrb, t1, t2, hb0⟩
  case round =>
    clear hra hrb t1 t2 hb0 hx hy
    obtain ⟨k, x, y, zs, us, hk, rfl, rfl, rfl, x1, x2, y1, y2, hc1, hc2, hzl, hul, hzs, hus, hrest, hra, hrb, t1, t2, hbw⟩ := hrel
    by_cases hlt : k < n
    · have hca := hra.cell k (by rw [hzl.out]; omega)
      have hfa := hra.free k
      have hcb := hrb.cell k (by rw [hul.out]; omega)
      have hfb := hrb.free k
      rw [(hrest.out k (Nat.le_refl _)).1] at hca
      rw [(hrest.out k (Nat.le_refl _)).2] at hcb
      obtain ⟨p, hp⟩ : ∃ p, p = xs.getD k 0 := ⟨_, rfl⟩
      obtain ⟨q, hq⟩ : ∃ q, q = ys.getD k 0 := ⟨_, rfl⟩
      have hpl : p < 4294967296 := by rw [hp]; exact HX.out.getD k
      have hql : q < 4294967296 := by rw [hq]; exact HY.out.getD k
      rw [← hp] at hca
      rw [← hq] at hcb
      have s1 := fac_sum f1 hpl hql
      have s2 := fac_sum f2 hpl hql
      obtain ⟨ap, hap⟩ : ∃ ap, a * (p : Int) = ap := ⟨_, rfl⟩
      obtain ⟨bq, hbq⟩ : ∃ bq, b * (q : Int) = bq := ⟨_, rfl⟩
      obtain ⟨cp, hcp⟩ : ∃ cp, c * (p : Int) = cp := ⟨_, rfl⟩
      obtain ⟨dq, hdq⟩ : ∃ dq, d * (q : Int) = dq := ⟨_, rfl⟩
      rw [hap, hbq] at s1
      rw [hcp, hdq] at s2
      obtain ⟨r1, r2, r3, r4, r5, r6⟩ := s1
      obtain ⟨q1, q2, q3, q4, q5, q6⟩ := s2
      obtain ⟨e, he⟩ : ∃ e, x + (ap + bq) = e := ⟨_, rfl⟩
      obtain ⟨f, hf⟩ : ∃ f, y + (cp + dq) = f := ⟨_, rfl⟩
      obtain ⟨lo, hlo⟩ : ∃ lo : Nat, e % 4294967296 = (lo : Int) := ⟨(e % 4294967296).toNat, by omega⟩
      obtain ⟨lp, hlp⟩ : ∃ lp : Nat, f % 4294967296 = (lp : Int) := ⟨(f % 4294967296).toNat, by omega⟩
      obtain ⟨hi, hhi⟩ : ∃ hi, e / 4294967296 = hi := ⟨_, rfl⟩
      obtain ⟨hj, hhj⟩ : ∃ hj, f / 4294967296 = hj := ⟨_, rfl⟩
      have se : e = lo + 4294967296 * hi := by omega
      have sf : f = lp + 4294967296 * hj := by omega
      have be : -9223372036854775808 ≤ e ∧ e < 9223372036854775808 := by omega
      have bf : -9223372036854775808 ≤ f ∧ f < 9223372036854775808 := by omega
      have bl : lo < 4294967296 ∧ lp < 4294967296 := by omega
      have bh : -2147483648 ≤ hi ∧ hi < 2147483648 ∧ -2147483648 ≤ hj ∧ hj < 2147483648 := by omega
      have k1 : Hid (Comb xs ys a b (k + 1) (zs.set k lo) hi) := Lib.hid (comb_step hc1.out (by rw [hzl.out]; omega) (by rw [← hp, ← hq, hap, hbq]; exact he) se)
      have k2 : Hid (Comb xs ys c d (k + 1) (us.set k lp) hj) := Lib.hid (comb_step hc2.out (by rw [hul.out]; omega) (by rw [← hp, ← hq, hcp, hdq]; exact hf) sf)
      have c1 := t1.fst
      have c2 := t1.snd
      have c3 := t2.fst
      have c4 := t2.snd
      obtain ⟨be1, be2⟩ := be
      obtain ⟨bf1, bf2⟩ := bf
      obtain ⟨bl1, bl2⟩ := bl
      obtain ⟨bh1, bh2, bh3, bh4⟩ := bh
      clear hc1 hc2 hp hq se sf
      go_wp2_with fail
      go_quiet (fail)
      go_wp2_with fail
      go_roundw
      case rel =>
        have hbz := hbw.size
        have z1 : Row ((wr.drewN nq).setCell ⟨ga, k, none⟩ (.int .u32 (lo : Nat))) ga (zs.set k lo) := Row.set (w := wr.drewN nq) hra k lo
        have z2 : Row ((wr.drewN nq).setCell ⟨ga, k, none⟩ (.int .u32 (lo : Nat))) gb us := Row.kept2 (w := wr.drewN nq) hrb hne k _
        have z3 : Two ((wr.drewN nq).setCell ⟨ga, k, none⟩ (.int .u32 (lo : Nat))) h0 a b := Two.put (w := wr.drewN nq) t1 (by omega) k _
        have z4 : Two ((wr.drewN nq).setCell ⟨ga, k, none⟩ (.int .u32 (lo : Nat))) (h0 + 1) c d := Two.put (w := wr.drewN nq) t2 (by omega) k _
        have z5 : Below base w ((wr.drewN nq).setCell ⟨ga, k, none⟩ (.int .u32 (lo : Nat))) := Below.setCell (below_drewN hbw nq) hba _
        refine ⟨k + 1, hi, hj, zs.set k lo, us.set k lp, by omega, rfl, rfl, by go_num, bh1, bh2, bh3, bh4, k1, k2, Lib.hid (by rw [List.length_set]; exact hzl.out), Lib.hid (by rw [List.length_set]; exact hul.out), Lib.hid (hzs.out.set _ _ bl1), Lib.hid (hus.out.set _ _ bl2), Lib.hid fun j hj => ?_, z1.kept2 (fun e => hne e.symm) k _, z2.set k lp, z3.put (by omega) k _, z4.put (by omega) k _, z5.setCell hbb _⟩
        have := hrest.out j (by omega)
        rw [NatM.getD_set_ne _ _ _ _ (by omega), NatM.getD_set_ne _ _ _ _ (by omega)]
        exact this
      case measure => simp [intOf]; omega
    · obtain rfl : k = n := by omega
      have e1 := comb_last hc1.out hzs.out (by rw [hzl.out]; omega) hna hxl hyl hU.out hUb.out
      have e2 := comb_last hc2.out hus.out (by rw [hul.out]; exact hyl) hna hxl hyl hV.out hVb.out
      have E1 := Lib.hid e1
      have E2 := Lib.hid e2
      clear e1 e2 hc1 hc2
      go_wp2_with fail
      go_end0
      exact ⟨zs, us, rfl, hra, hrb, hzl.out, hul.out, hzs.out, hus.out, E1.out, E2.out, hbw⟩
end Go.Proofs.YtbeoeackahmpbaaGreatDoor

namespace Go.Proofs.YtbeoeackahmpbaaGreatDoor
open Go.RowKit NatM

/-- Block g, of the call's own, holds the canonical limbs of N in its first m places. -/
def At (w : World) (base g m : Nat) (zs : List Nat) (N : Nat) : Prop :=
  base ≤ g ∧ Row w g zs ∧ m ≤ zs.length ∧ zs.length ≤ 1000002 ∧ Limbs zs ∧ Canon (zs.take m) ∧ val (zs.take m) = N
theorem At.len {w : World} {base g m : Nat} {zs : List Nat} {N k : Nat} (h : At w base g m zs N) (hN : N < pw k) : m ≤ k := by
  obtain ⟨-, -, h1, -, h2, h3, h4⟩ := h
  have := tlen_le_of_val (xs := zs.take m) k (by rw [h4]; exact hN)
  unfold Canon at h3
  rw [h3, List.length_take, Nat.min_eq_left h1] at this
  exact this
theorem At.reads {w : World} {base g m : Nat} {zs : List Nat} {N : Nat} (h : At w base g m zs N) : Reads w (.slice (some ⟨g, 0, none⟩) m m) (zs.take m) := by
  obtain ⟨-, h1, h2, h3, h4, -⟩ := h
  exact h1.reads h2 (Nat.le_refl _) (by unfold maxLen; omega) h4
theorem At.below {w w' : World} {base g m : Nat} {zs : List Nat} {N : Nat} (h : At w base g m zs N) (hb : Add w w') : At w' base g m zs N := by
  obtain ⟨h0, h1, h2⟩ := h
  exact ⟨h0, h1.below hb, h2⟩
theorem NumOwn.at {w : World} {base : Nat} {v : Value} {N : Nat} (h : NumOwn w base v N) : ∃ g m zs, v = .slice (some ⟨g, 0, none⟩) m m ∧ At w base g m zs N := by
  obtain ⟨g, zs, m, rfl, h1, h2, h3, h4, h5, h6, h7⟩ := h
  exact ⟨g, m, zs, rfl, h1, h2, h3, h4, h5, h6, h7⟩

/-- Two numbers in blocks of their own. -/
def Pair (w : World) (base : Nat) (v1 v2 : Value) (A B : Nat) : Prop :=
  ∃ ga gb m n xs ys, v1 = .slice (some ⟨ga, 0, none⟩) m m ∧ v2 = .slice (some ⟨gb, 0, none⟩) n n ∧ ga ≠ gb ∧ At w base ga m xs A ∧ At w base gb n ys B
def NearP (w : World) (base A B : Nat) (e : Ending) (w' : World) : Prop :=
  ∃ v1 v2 A' B', e = .returned (.tuple #[v1, v2]) ∧ Pair w' base v1 v2 A' B' ∧ B' < B ∧ B' ≤ A' ∧ A' ≤ B ∧ Nat.gcd A' B' = Nat.gcd A B ∧ Below base w w'

theorem cut_at (g m c : Nat) (zs : List Nat) (w : World) (hr : Row w g zs) (hm : m ≤ zs.length) (hc : m ≤ c) (hc' : c ≤ 10000000) (hx : Limbs zs) :
    Calls Tryz.prog 99 #[.slice (some ⟨g, 0, none⟩) m c] w (fun e w' => ∃ m', e = .returned (.slice (some ⟨g, 0, none⟩) m' m') ∧ w = w' ∧ m' ≤ m ∧ Canon (zs.take m') ∧ val (zs.take m') = val (zs.take m)) := by
  refine (cut_any _ _ w (hr.reads hm hc (by unfold maxLen; omega) hx)).mono ?_
  rintro e w' ⟨v', rfl, rfl, hv', ao, c', hao, rfl⟩
  simp only [Value.slice.injEq] at hao
  obtain ⟨rfl, h2, -⟩ := hao
  have hle : tlen (zs.take m) ≤ m := by have := tlen_le (zs.take m); omega
  have ht : zs.take (tlen (zs.take m)) = trim (zs.take m) := by unfold trim; rw [List.take_take, Nat.min_eq_left hle]
  exact ⟨_, rfl, rfl, hle, by rw [ht]; exact Canon.trim _, by rw [ht, val_trim]⟩

/-- The leading digits of two numbers. -/
theorem lead {A B s : Nat} (hA : A < pw 512) (hBA : B ≤ A) (h62 : 62 ≤ nb A) (hs : (s : Int) = (nb A : Int) - 62) :
    A / 2 ^ s < 4611686018427387904 ∧ B / 2 ^ s ≤ A / 2 ^ s ∧ s ≤ 1000000 := by
  have h1 : nb A ≤ 32 * 512 := nb_lt_pw.1 hA
  have h2 := lt_nb A
  refine ⟨?_, Nat.div_le_div_right hBA, by omega⟩
  apply Nat.div_lt_of_lt_mul
  have : (2 : Nat) ^ s * 4611686018427387904 = 2 ^ nb A := by
    rw [show (4611686018427387904 : Nat) = 2 ^ 62 from by decide, ← Nat.pow_add]; congr 1; omega
  omega

set_option maxRecDepth 100000 in
set_option maxHeartbeats 4000000 in
theorem nearer_any (ga gb m n base A B : Nat) (xs ys : List Nat) (w : World) (ha : At w base ga m xs A) (hb : At w base gb n ys B) (hne : ga ≠ gb) (hBA : B ≤ A) (hA : A < pw 512) (hn : 2 < n) :
    Calls Tryz.prog 134 #[.slice (some ⟨ga, 0, none⟩) m m, .slice (some ⟨gb, 0, none⟩) n n] w (NearP w base A B) := by
  have hm512 := ha.len hA
  have hn512 := hb.len (Nat.lt_of_le_of_lt hBA hA)
  have hB2 : pw 2 ≤ B := by
    rcases Nat.lt_or_ge B (pw 2) with h | h
    · have := hb.len h; omega
    · exact h
  have hBn : B < pw n := by
    have h := val_lt ((hb.2.2.2.2.1).take n)
    rw [List.length_take, Nat.min_eq_left hb.2.2.1, hb.2.2.2.2.2.2] at h
    exact h
  have hnm : n ≤ m := by
    rcases Nat.lt_or_ge m n with h | h
    · have h1 := val_lt ((ha.2.2.2.2.1).take m)
      rw [List.length_take, Nat.min_eq_left ha.2.2.1, ha.2.2.2.2.2.2] at h1
      have := hb.len (Nat.lt_of_le_of_lt hBA h1)
      omega
    · exact h
  have h64 : 64 < nb A := by
    apply lt_nb_of_le
    have : pw 2 = 2 ^ 64 := by rw [pw_two]
    omega
  obtain ⟨s, hs⟩ : ∃ s : Nat, (nb A : Int) - 62 = (s : Int) := ⟨nb A - 62, by omega⟩
  obtain ⟨bA, hbA⟩ : ∃ bA, bA = nb A := ⟨_, rfl⟩
  have hl := lead hA hBA (by omega) hs.symm
  rw [← hbA] at hs h64
  have bAb : bA ≤ 16384 := by rw [hbA]; exact nb_lt_pw.1 hA
  obtain ⟨X0, hX⟩ : ∃ X0, X0 = A / 2 ^ s := ⟨_, rfl⟩
  obtain ⟨Y0, hY⟩ : ∃ Y0, Y0 = B / 2 ^ s := ⟨_, rfl⟩
  have q1 : Hid (A = X0 * 2 ^ s + A % 2 ^ s) := Lib.hid (by rw [hX, Nat.mul_comm]; exact (Nat.div_add_mod _ _).symm)
  have q2 : Hid (B = Y0 * 2 ^ s + B % 2 ^ s) := Lib.hid (by rw [hY, Nat.mul_comm]; exact (Nat.div_add_mod _ _).symm)
  have q3 : Hid (A % 2 ^ s < 2 ^ s) := Lib.hid (Nat.mod_lt _ (Nat.pow_pos (by decide)))
  have q4 : Hid (B % 2 ^ s < 2 ^ s) := Lib.hid (Nat.mod_lt _ (Nat.pow_pos (by decide)))
  have HX := Lib.hid hX
  have HY := Lib.hid hY
  rw [← hX, ← hY] at hl
  obtain ⟨hl1, hl2, hl3⟩ := hl
  have vA : val (xs.take m) = A := ha.2.2.2.2.2.2
  have vB : val (ys.take n) = B := hb.2.2.2.2.2.2
  have lA : (xs.take m).length = m := by rw [List.length_take, Nat.min_eq_left ha.2.2.1]
  have lB : (ys.take n).length = n := by rw [List.length_take, Nat.min_eq_left hb.2.2.1]
  have HB := Lib.hid (bits_any _ _ w ha.reads (by omega))
  rw [vA, ← hbA] at HB
  have HW1 := Lib.hid (window_any _ _ s w ha.reads hl3 (by rw [vA, ← hX]; exact hl1))
  rw [vA, ← hX] at HW1
  have HW2 := Lib.hid (window_any _ _ s w hb.reads hl3 (by rw [vB, ← hY]; omega))
  rw [vB, ← hY] at HW2
  have HLP := Lib.hid (leap_any X0 Y0 A B (2 ^ s) (A % 2 ^ s) (B % 2 ^ s) w hl2 hl1 q1 q2 q3 q4)
  have HDV := fun w' (h : Add w w') => divide_any _ _ _ _ w' (ha.below h).reads (hb.below h).reads (by omega) (by omega) hb.2.2.2.2.2.1 (by rw [vB]; have := pw_pos 2; omega)
  rw [vA, vB] at HDV
  have HDVH := Lib.hid HDV
  have HVA := Lib.hid vA
  have HVB := Lib.hid vB
  have HBN := Lib.hid hBn
  have HA0 := Lib.hid hA
  have HB0 := Lib.hid hBA
  clear HDV hX hY vA vB hbA q1 q2 q3 q4 hB2 hBn hA hBA
  go_enter Tryz.func134, Tryz.ntmps134
  go_wp2_with fail
  refine HB.out.mono ?_; rintro e w' ⟨rfl, rfl⟩
  go_wp2_with fail
  refine HW1.out.mono ?_; rintro e w' ⟨rfl, rfl⟩
  go_wp2_with fail
  refine HW2.out.mono ?_; rintro e w' ⟨rfl, rfl⟩
  go_wp2_with fail
  refine HLP.out.mono ?_; rintro e w1 ⟨a, b, c, d, ok, rfl, hok, hadd⟩
  have hA2 : Add w1 ((w1.alloc (.cells #[.int .i64 a, .int .i64 b] 124)).alloc (.cells #[.int .i64 c, .int .i64 d] 124)) := ((Below.refl _ _).alloc (Nat.le_refl _) _).alloc (by simp) _
  have t1 : Two ((w1.alloc (.cells #[.int .i64 a, .int .i64 b] 124)).alloc (.cells #[.int .i64 c, .int .i64 d] 124)) w1.heap.size a b := (two_new w1 a b).below ((Below.refl _ _).alloc (Nat.le_refl _) _)
  have t2 : Two ((w1.alloc (.cells #[.int .i64 a, .int .i64 b] 124)).alloc (.cells #[.int .i64 c, .int .i64 d] 124)) (w1.heap.size + 1) c d := by
    have := two_new (w1.alloc (.cells #[.int .i64 a, .int .i64 b] 124)) c d
    simpa using this
  have hadd2 := Add.trans hadd hA2
  clear hA2
  cases ok
  · clear hok t1 t2
    go_wp2_with fail
    refine (HDVH.out _ hadd2).mono ?_
    rintro e w3 ⟨vq, vr, rfl, hq, hr, hadd3⟩
    have hadd4 := Add.trans hadd2 hadd3
    have hF : NearP w' base A B (.returned (.tuple #[.slice (some ⟨gb, 0, none⟩) n n, vr])) w3 := by
      obtain ⟨g, m', zs, rfl, h1, h2⟩ := hr.at
      have hlt := hb.2.1.lt
      have hsz := hadd2.size
      have hbb := hb.1
      have hBp : 0 < B := by
        rcases Nat.eq_zero_or_pos B with h | h
        · have := hb.len (k := 0) (by rw [h]; exact pw_pos 0); omega
        · exact h
      refine ⟨_, _, B, A % B, rfl, ⟨gb, g, n, m', ys, zs, rfl, rfl, by omega, hb.below hadd4, ⟨by omega, h2⟩⟩, Nat.mod_lt _ hBp, Nat.le_of_lt (Nat.mod_lt _ hBp), Nat.le_refl _, ?_, hadd4.mono (by omega)⟩
      rw [Nat.gcd_comm B, ← Nat.gcd_rec, Nat.gcd_comm]
    clear hq hr hadd4 hadd2 hadd
    go_wp2_with fail
    go_ret2
    exact hF
  · obtain ⟨f1, f2, U, V, hU, hV, hVU, hUB, hg⟩ := hok rfl
    have hbb := hb.1
    have hlt := hb.2.1.lt
    have lxs := ha.2.2.1
    have lys := hb.2.2.1
    have hcall := fun (wx : World) (h : Add w' wx) => apply_gen a b c d ga gb m n m n base U V xs ys wx (ha.below h).2.1 (hb.below h).2.1 hne ha.1 hb.1 hnm lxs lys (by omega) ha.2.2.2.2.1 hb.2.2.2.2.1 f1 f2 (Lib.hid (by rw [HVA.out, HVB.out]; exact hU)) (Lib.hid (by rw [HVA.out, HVB.out]; exact hV)) (Lib.hid (by have := HBN.out; omega)) (Lib.hid (by have := HBN.out; omega))
    have HCALL := Lib.hid hcall
    have HU := Lib.hid hU
    have HV := Lib.hid hV
    clear hcall hU hV f1 f2
    have c1 := t1.fst
    have c2 := t1.snd
    have c3 := t2.fst
    have c4 := t2.snd
    go_wp2_with fail
    refine (HCALL.out _ hadd2).mono ?_
    rintro e w3 ⟨zs, us, rfl, hr1, hr2, hzl, hul, hzs, hus, hvz, hvu, hb3⟩
    have hb4 : Below base w' w3 := Below.trans (hadd2.mono (by omega)) hb3
    clear c1 c2 c3 c4 t1 t2
    have HZL := Lib.hid hzl
    have HUL := Lib.hid hul
    have hlx := ha.2.2.2.1
    have hly := hb.2.2.2.1
    go_wp2_with fail
    refine (cut_at ga n m zs w3 hr1 (by omega) hnm (by omega) hzs).mono ?_
    rintro e wy ⟨m1, rfl, rfl, hm1, hcz, hvz1⟩
    go_wp2_with fail
    refine (cut_at gb n n us _ hr2 (by omega) (Nat.le_refl _) (by omega) hus).mono ?_
    rintro e wz ⟨m2, rfl, rfl, hm2, hcu, hvu1⟩
    have hF : NearP _ base A B (.returned (.tuple #[.slice (some ⟨ga, 0, none⟩) m1 m1, .slice (some ⟨gb, 0, none⟩) m2 m2])) _ :=
      ⟨_, _, U, V, rfl, ⟨ga, gb, m1, m2, zs, us, rfl, rfl, hne, ⟨ha.1, hr1, by omega, by omega, hzs, hcz, by rw [hvz1, hvz]⟩, ⟨hb.1, hr2, by omega, by omega, hus, hcu, by rw [hvu1, hvu]⟩⟩, by omega, by omega, hUB, hg, hb4⟩
    clear HCALL HU HV HZL HUL hb4
    go_wp2_with fail
    go_ret2
    exact hF
end Go.Proofs.YtbeoeackahmpbaaGreatDoor

namespace Go.Proofs.YtbeoeackahmpbaaGreatDoor
open Go.RowKit NatM

theorem gcd_big (va vb : Value) (xs ys : List Nat) (w : World) (ha : Reads w va xs) (hb : Reads w vb ys) (hAB : pw 512 ≤ val xs ∨ pw 512 ≤ val ys) :
    Calls Tryz.prog 120 #[va, vb] w (ErrP w 2) := by
  by_cases hA : pw 512 ≤ val xs
  · have LA := big_large ha hA
    clear hA hAB
    go_enter Tryz.func120, Tryz.ntmps120
    go_wp2_with fail
    refine (large_is true _ _ _ ha LA.out).mono ?_; rintro e w' ⟨rfl, rfl⟩
    go_wp2_with fail
    go_ret2
    exact ⟨rfl, Below.refl _ _⟩
  · have LA := small_large ha (by omega)
    have LB := big_large hb (by omega)
    clear hA hAB
    go_enter Tryz.func120, Tryz.ntmps120
    go_wp2_with fail
    refine (large_is false _ _ _ ha LA.out).mono ?_; rintro e w' ⟨rfl, rfl⟩
    go_wp2_with fail
    refine (large_is true _ _ _ hb LB.out).mono ?_; rintro e w' ⟨rfl, rfl⟩
    go_wp2_with fail
    go_ret2
    exact ⟨rfl, Below.refl _ _⟩

theorem own_at {w : World} {base g n : Nat} {xs : List Nat} (h : Own w base g n (trim xs)) (hx : Limbs xs) (hl : n ≤ 1000002) : At w base g n (trim xs) (val xs) := by
  have hn := h.length
  refine ⟨h.lt.1, h.row, by omega, by omega, hx.take _, ?_, ?_⟩
  · rw [List.take_of_length_le (by omega)]; exact Canon.trim _
  · rw [List.take_of_length_le (by omega), val_trim]
theorem At.base {w : World} {base base' g m : Nat} {zs : List Nat} {N : Nat} (h : At w base g m zs N) (hb : base' ≤ base) : At w base' g m zs N := ⟨by have := h.1; omega, h.2⟩

/-- The end of Gcd: b has at most two limbs. -/
def GcdSt (w : World) (G : Nat) (R : Nat) (v1 v2 : Value) (wr : World) : Prop :=
  ∃ A' B', Pair wr w.heap.size v1 v2 A' B' ∧ B' = R ∧ B' ≤ A' ∧ A' < pw 512 ∧ Nat.gcd A' B' = G ∧ Add w wr
theorem word_val {ys : List Nat} (h : Limbs ys) (hl : ys.length ≤ 2) : ys.getD 0 0 + 4294967296 * ys.getD 1 0 = val ys := by
  match ys, hl with
  | [], _ => rfl
  | [a], _ => simp [val]
  | [a, b], _ => simp [val]
set_option maxRecDepth 100000 in
set_option maxHeartbeats 4000000 in
theorem gcd_ok (va vb : Value) (xs ys : List Nat) (w : World) (ha : Reads w va xs) (hb : Reads w vb ys) (hs : xs.length ≤ 1000000) (hs' : ys.length ≤ 1000000) (hA : val xs < pw 512) (hB : val ys < pw 512) :
    Calls Tryz.prog 120 #[va, vb] w (OkP w (Nat.gcd (val xs) (val ys))) := by
  have LA := small_large ha hA
  have LB := small_large hb hB
  have l1 := tlen_le xs
  have l2 := tlen_le ys
  have hx := Lib.hid ha.limbs
  have hy := Lib.hid hb.limbs
  obtain ⟨A, hAe⟩ : ∃ A, A = val xs := ⟨_, rfl⟩
  obtain ⟨B, hBe⟩ : ∃ B, B = val ys := ⟨_, rfl⟩
  obtain ⟨G, hG⟩ : ∃ G, G = Nat.gcd A B := ⟨_, rfl⟩
  rw [← hAe, ← hBe, ← hG]
  rw [← hAe] at hA
  rw [← hBe] at hB
  have HA := Lib.hid hA
  have HB := Lib.hid hB
  have HG := Lib.hid hG
  have HAE := Lib.hid hAe
  have HBE := Lib.hid hBe
  clear hA hB hG hAe hBe
  go_enter Tryz.func120, Tryz.ntmps120
  go_wp2_with fail
  refine (large_is false _ _ _ ha LA.out).mono ?_; rintro e w' ⟨rfl, rfl⟩
  go_wp2_with fail
  refine (large_is false _ _ _ hb LB.out).mono ?_; rintro e w' ⟨rfl, rfl⟩
  go_wp2_with fail
  refine (trim_any _ _ _ ha hs).mono ?_; rintro e w1 ⟨ga, na, rfl, ho1, hn1, hadd1⟩
  have bn1 : na ≤ 1000000 := by omega
  clear hn1
  go_wp2_with fail
  refine (trim_any _ _ _ (hb.mono hadd1) hs').mono ?_; rintro e w2 ⟨gb, nb', rfl, ho2, hn2, hadd2⟩
  have bn2 : nb' ≤ 1000000 := by omega
  clear hn2
  have hne : ga ≠ gb := by have := ho1.lt.2; have := ho2.lt.1; omega
  have a1 := (own_at ho1 hx.out (by omega)).below hadd2
  have a2 := (own_at ho2 hy.out (by omega)).base hadd1.size
  rw [← HAE.out] at a1
  rw [← HBE.out] at a2
  have hadd := Add.trans hadd1 hadd2
  have r1 := a1.reads
  have r2 := a2.reads
  have e1 : val ((trim xs).take na) = A := a1.2.2.2.2.2.2
  have e2 : val ((trim ys).take nb') = B := a2.2.2.2.2.2.2
  have E1 := Lib.hid e1
  have E2 := Lib.hid e2
  clear ho1 ho2 hadd1 hadd2 e1 e2 ha hb l1 l2 hs hs'
  go_wp2_with fail
  refine (cmp_any _ _ _ _ _ r1 r2).mono ?_
  rw [E1.out, E2.out]
  rintro e w3 ⟨rfl, q, rfl⟩
  by_cases hlt : A < B
  · have hc0 : decide (cmpI A B < 0) = true := by rw [decide_eq_true_iff, cmp_neg]; exact hlt
    have HLT := Lib.hid hlt
    clear hlt
    go_wp2_with fail
    have hst : GcdSt w G A (.slice (some ⟨gb, 0, none⟩) nb' nb') (.slice (some ⟨ga, 0, none⟩) na na) (w2.drewN q) :=
      ⟨B, A, ⟨gb, ga, nb', na, _, _, rfl, rfl, fun e => hne e.symm, (a2).below (below_drewN (Below.refl _ _) _), (a1).below (below_drewN (Below.refl _ _) _)⟩, rfl, Nat.le_of_lt HLT.out, HB.out, by rw [HG.out]; exact Nat.gcd_comm _ _, below_drewN hadd _⟩
    clear a1 a2 r1 r2 hadd hne hc0
    go_loopg [0, 1] A (fun R v1 v2 wr => GcdSt w G R v1 v2 wr)
    case atStart => exact hst
    case round =>
      clear hst
      obtain ⟨A', B', ⟨ga', gb', m, n, xs', ys', rfl, rfl, hne', hA1, hB1⟩, hBR, hle, h512, hg, hadd'⟩ := hrel
      have hmm := hA1.len h512
      have hnn := hB1.len (Nat.lt_of_le_of_lt hle h512)
      have HG' := Lib.hid hg
      have H512 := Lib.hid h512
      have HLE := Lib.hid hle
      have HBR := Lib.hid hBR
      clear hg h512 hle hBR
      by_cases h2 : 2 < n
      · have HC := Lib.hid (nearer_any ga' gb' m n w.heap.size A' B' xs' ys' wr hA1 hB1 hne' HLE.out H512.out h2)
        clear hA1 hB1
        go_wp2_with fail
        refine HC.out.mono ?_
        rintro e w5 ⟨v1, v2, A2, B2, rfl, hp, hlt2, hle2, hA2, hg2, hb2⟩
        have hst2 : GcdSt w G B2 v1 v2 w5 := ⟨A2, B2, hp, rfl, hle2, Nat.lt_of_le_of_lt hA2 (Nat.lt_of_le_of_lt HLE.out H512.out), by rw [hg2]; exact HG'.out, Below.trans hadd' hb2⟩
        have hltk : B2 < gk := by rw [← HBR.out]; exact hlt2
        clear hp hlt2 hle2 hA2 hg2 hb2 hadd'
        go_wp2_with fail
        go_roundg B2
        case measure => exact hltk
        case rel => exact hst2
      · have vB : val (ys'.take n) = B' := hB1.2.2.2.2.2.2
        have vA : val (xs'.take m) = A' := hA1.2.2.2.2.2.2
        have VB := Lib.hid vB
        have VA := Lib.hid vA
        clear vA vB
        by_cases h0 : n = 0
        · subst h0
          have hB0 : B' = 0 := by rw [← VB.out]; simp [val]
          have hAG : A' = G := by rw [← HG'.out, hB0, Nat.gcd_zero_right]
          have hN : Num wr (.slice (some ⟨ga', 0, none⟩) m m) G := ⟨_, hA1.reads, hA1.2.2.2.2.2.1, by rw [VA.out]; exact hAG⟩
          clear hA1 hB1 hB0 hAG
          go_wp2_with fail
          go_ret2
          exact ⟨_, rfl, hN, hadd'⟩
        · have hBp : B' ≠ 0 := by
            intro h
            have := hB1.len (k := 0) (by rw [h]; exact pw_pos 0)
            omega
          have hl2 : ((ys'.take n).length ≤ 2) := by rw [List.length_take]; omega
          have hlB := hB1.2.2.2.2.1.take n
          have HB1 := Lib.hid hB1
          have HDV := Lib.hid (divide_any _ _ _ _ wr hA1.reads hB1.reads (by rw [List.length_take]; omega) (by rw [List.length_take]; omega) hB1.2.2.2.2.2.1 (by rw [VB.out]; exact hBp))
          rw [VA.out, VB.out] at HDV
          have hne0 : ((n : Int) == 0) = false := by simp; omega
          clear hA1 hB1
          go_wp2_with fail
          refine HDV.out.mono ?_
          rintro e w5 ⟨vq, vr, rfl, -, hr, hadd5⟩
          have hb5 := (HB1.out.below hadd5).reads
          obtain ⟨gr, zr, mr, rfl, hr1, hr2, hr3, hr4, hr5, hr6, hr7⟩ := hr
          have hrr : Reads w5 (.slice (some ⟨gr, 0, none⟩) mr mr) (zr.take mr) := hr2.reads hr3 (Nat.le_refl _) (by unfold maxLen; omega) hr5
          have hRB : A' % B' < B' := Nat.mod_lt _ (Nat.pos_of_ne_zero hBp)
          have hB2 : B' < pw 2 := by
            rw [← VB.out]
            have h1 := val_lt hlB
            exact Nat.lt_of_lt_of_le h1 (pw_le hl2)
          have hmr2 : (zr.take mr).length ≤ 2 := by
            have h1 := tlen_le_of_val (xs := zr.take mr) 2 (by rw [hr7]; omega)
            unfold Canon at hr6
            omega
          have e2 := word_val (hr5.take mr) hmr2
          have e1 := word_val hlB hl2
          rw [hr7] at e2
          rw [VB.out] at e1
          have hp2 : pw 2 = 18446744073709551616 := by decide
          have hgl : Nat.gcd B' (A' % B') < 18446744073709551616 := Nat.lt_of_le_of_lt (Nat.gcd_le_left _ (Nat.pos_of_ne_zero hBp)) (by omega)
          have hgG : Nat.gcd B' (A' % B') = G := by rw [← HG'.out, Nat.gcd_comm B', ← Nat.gcd_rec, Nat.gcd_comm]
          obtain ⟨rr, hrre⟩ : ∃ rr, rr = A' % B' := ⟨_, rfl⟩
          rw [← hrre] at hgl hgG e2 hRB
          have HGG := Lib.hid hgG
          have hWB := word_fn _ _ 0 B' w5 hb5 (by omega) (Lib.hid e1.symm)
          have hWR := word_fn _ _ 0 rr w5 hrr (by omega) (Lib.hid e2.symm)
          have HWB := Lib.hid hWB
          have HWR := Lib.hid hWR
          have hB64 : B' < 18446744073709551616 := by omega
          have hR64 : rr < 18446744073709551616 := by omega
          have hadd6 := Add.trans hadd' hadd5
          rw [hgG] at hgl
          clear hWB hWR e1 e2 hr1 hr2 hr3 hr4 hr5 hr6 hr7 hrre hgG hb5 hrr hRB hmr2 hl2 hlB HB1 hadd' hadd5 h0 hBp hB2
          go_wp2_with fail
          refine HWB.out.mono ?_
          rintro e wy ⟨rfl, rfl⟩
          go_wp2_with fail
          refine HWR.out.mono ?_
          rintro e wy ⟨rfl, rfl⟩
          go_wp2_with fail
          refine (gcdOfWords_any _ _ _ hB64 hR64).mono ?_
          rintro e w6 ⟨rfl, hadd7⟩
          rw [HGG.out]
          go_wp2_with fail
          refine (make_any _ _ (by omega) (by omega)).mono ?_
          rintro e w7 ⟨v, rfl, hv, hadd8⟩
          rw [Int.toNat_natCast] at hv
          have hadd9 := Add.trans hadd6 (Add.trans hadd7 hadd8)
          clear hadd6 hadd7 hadd8
          go_wp2_with fail
          go_ret2
          exact ⟨_, rfl, hv, hadd9⟩
  · have hc0 : decide (cmpI A B < 0) = false := by rw [decide_eq_false_iff_not, cmp_neg]; exact hlt
    have HLT : Hid (B ≤ A) := Lib.hid (by omega)
    clear hlt
    go_wp2_with fail
    have hst : GcdSt w G B (.slice (some ⟨ga, 0, none⟩) na na) (.slice (some ⟨gb, 0, none⟩) nb' nb') (w2.drewN q) :=
      ⟨A, B, ⟨ga, gb, na, nb', _, _, rfl, rfl, hne, (a1).below (below_drewN (Below.refl _ _) _), (a2).below (below_drewN (Below.refl _ _) _)⟩, rfl, HLT.out, HA.out, HG.out.symm, below_drewN hadd _⟩
    clear a1 a2 r1 r2 hadd hne hc0
    go_loopg [0, 1] B (fun R v1 v2 wr => GcdSt w G R v1 v2 wr)
    case atStart => exact hst
    case round =>
      clear hst
      obtain ⟨A', B', ⟨ga', gb', m, n, xs', ys', rfl, rfl, hne', hA1, hB1⟩, hBR, hle, h512, hg, hadd'⟩ := hrel
      have hmm := hA1.len h512
      have hnn := hB1.len (Nat.lt_of_le_of_lt hle h512)
      have HG' := Lib.hid hg
      have H512 := Lib.hid h512
      have HLE := Lib.hid hle
      have HBR := Lib.hid hBR
      clear hg h512 hle hBR
      by_cases h2 : 2 < n
      · have HC := Lib.hid (nearer_any ga' gb' m n w.heap.size A' B' xs' ys' wr hA1 hB1 hne' HLE.out H512.out h2)
        clear hA1 hB1
        go_wp2_with fail
        refine HC.out.mono ?_
        rintro e w5 ⟨v1, v2, A2, B2, rfl, hp, hlt2, hle2, hA2, hg2, hb2⟩
        have hst2 : GcdSt w G B2 v1 v2 w5 := ⟨A2, B2, hp, rfl, hle2, Nat.lt_of_le_of_lt hA2 (Nat.lt_of_le_of_lt HLE.out H512.out), by rw [hg2]; exact HG'.out, Below.trans hadd' hb2⟩
        have hltk : B2 < gk := by rw [← HBR.out]; exact hlt2
        clear hp hlt2 hle2 hA2 hg2 hb2 hadd'
        go_wp2_with fail
        go_roundg B2
        case measure => exact hltk
        case rel => exact hst2
      · have vB : val (ys'.take n) = B' := hB1.2.2.2.2.2.2
        have vA : val (xs'.take m) = A' := hA1.2.2.2.2.2.2
        have VB := Lib.hid vB
        have VA := Lib.hid vA
        clear vA vB
        by_cases h0 : n = 0
        · subst h0
          have hB0 : B' = 0 := by rw [← VB.out]; simp [val]
          have hAG : A' = G := by rw [← HG'.out, hB0, Nat.gcd_zero_right]
          have hN : Num wr (.slice (some ⟨ga', 0, none⟩) m m) G := ⟨_, hA1.reads, hA1.2.2.2.2.2.1, by rw [VA.out]; exact hAG⟩
          clear hA1 hB1 hB0 hAG
          go_wp2_with fail
          go_ret2
          exact ⟨_, rfl, hN, hadd'⟩
        · have hBp : B' ≠ 0 := by
            intro h
            have := hB1.len (k := 0) (by rw [h]; exact pw_pos 0)
            omega
          have hl2 : ((ys'.take n).length ≤ 2) := by rw [List.length_take]; omega
          have hlB := hB1.2.2.2.2.1.take n
          have HB1 := Lib.hid hB1
          have HDV := Lib.hid (divide_any _ _ _ _ wr hA1.reads hB1.reads (by rw [List.length_take]; omega) (by rw [List.length_take]; omega) hB1.2.2.2.2.2.1 (by rw [VB.out]; exact hBp))
          rw [VA.out, VB.out] at HDV
          have hne0 : ((n : Int) == 0) = false := by simp; omega
          clear hA1 hB1
          go_wp2_with fail
          refine HDV.out.mono ?_
          rintro e w5 ⟨vq, vr, rfl, -, hr, hadd5⟩
          have hb5 := (HB1.out.below hadd5).reads
          obtain ⟨gr, zr, mr, rfl, hr1, hr2, hr3, hr4, hr5, hr6, hr7⟩ := hr
          have hrr : Reads w5 (.slice (some ⟨gr, 0, none⟩) mr mr) (zr.take mr) := hr2.reads hr3 (Nat.le_refl _) (by unfold maxLen; omega) hr5
          have hRB : A' % B' < B' := Nat.mod_lt _ (Nat.pos_of_ne_zero hBp)
          have hB2 : B' < pw 2 := by
            rw [← VB.out]
            have h1 := val_lt hlB
            exact Nat.lt_of_lt_of_le h1 (pw_le hl2)
          have hmr2 : (zr.take mr).length ≤ 2 := by
            have h1 := tlen_le_of_val (xs := zr.take mr) 2 (by rw [hr7]; omega)
            unfold Canon at hr6
            omega
          have e2 := word_val (hr5.take mr) hmr2
          have e1 := word_val hlB hl2
          rw [hr7] at e2
          rw [VB.out] at e1
          have hp2 : pw 2 = 18446744073709551616 := by decide
          have hgl : Nat.gcd B' (A' % B') < 18446744073709551616 := Nat.lt_of_le_of_lt (Nat.gcd_le_left _ (Nat.pos_of_ne_zero hBp)) (by omega)
          have hgG : Nat.gcd B' (A' % B') = G := by rw [← HG'.out, Nat.gcd_comm B', ← Nat.gcd_rec, Nat.gcd_comm]
          obtain ⟨rr, hrre⟩ : ∃ rr, rr = A' % B' := ⟨_, rfl⟩
          rw [← hrre] at hgl hgG e2 hRB
          have HGG := Lib.hid hgG
          have hWB := word_fn _ _ 0 B' w5 hb5 (by omega) (Lib.hid e1.symm)
          have hWR := word_fn _ _ 0 rr w5 hrr (by omega) (Lib.hid e2.symm)
          have HWB := Lib.hid hWB
          have HWR := Lib.hid hWR
          have hB64 : B' < 18446744073709551616 := by omega
          have hR64 : rr < 18446744073709551616 := by omega
          have hadd6 := Add.trans hadd' hadd5
          rw [hgG] at hgl
          clear hWB hWR e1 e2 hr1 hr2 hr3 hr4 hr5 hr6 hr7 hrre hgG hb5 hrr hRB hmr2 hl2 hlB HB1 hadd' hadd5 h0 hBp hB2
          go_wp2_with fail
          refine HWB.out.mono ?_
          rintro e wy ⟨rfl, rfl⟩
          go_wp2_with fail
          refine HWR.out.mono ?_
          rintro e wy ⟨rfl, rfl⟩
          go_wp2_with fail
          refine (gcdOfWords_any _ _ _ hB64 hR64).mono ?_
          rintro e w6 ⟨rfl, hadd7⟩
          rw [HGG.out]
          go_wp2_with fail
          refine (make_any _ _ (by omega) (by omega)).mono ?_
          rintro e w7 ⟨v, rfl, hv, hadd8⟩
          rw [Int.toNat_natCast] at hv
          have hadd9 := Add.trans hadd6 (Add.trans hadd7 hadd8)
          clear hadd6 hadd7 hadd8
          go_wp2_with fail
          go_ret2
          exact ⟨_, rfl, hv, hadd9⟩
end Go.Proofs.YtbeoeackahmpbaaGreatDoor

namespace Go.Proofs.YtbeoeackahmpbaaGreatDoor.Api
open Go.Proofs.YtbeoeackahmpbaaGreatDoor Go.RowKit NatM

theorem gcdN (G : Nat) {va vb : Value} {A B : Nat} {w : World} (ha : Nu w va A) (hb : Nu w vb B) (h : Hid (A < pw 512 ∧ B < pw 512 ∧ Nat.gcd A B = G)) : Calls Tryz.prog 120 #[va, vb] w (OkN w G) := by
  obtain ⟨xs, r, rfl, l⟩ := ha
  obtain ⟨ys, r', rfl, l'⟩ := hb
  obtain ⟨h1, h2, rfl⟩ := h.out
  refine (gcd_ok va vb xs ys w r r' l l' h1 h2).mono fun e w' g => okN g ?_
  rcases Nat.eq_zero_or_pos (val xs) with h0 | h0
  · rw [h0, Nat.gcd_zero_left]; exact h2
  · exact Nat.lt_of_le_of_lt (Nat.gcd_le_left _ h0) h1
theorem num_len0 {w : World} {v : Value} (h : Num w v 0) : ∃ ao c, v = .slice ao 0 c := by
  obtain ⟨zs, ⟨ao, n, c, rfl, hl, -⟩, hc, hv⟩ := h
  have h1 := val_eq_zero.1 hv
  unfold Canon at hc
  obtain rfl : n = 0 := by omega
  exact ⟨_, _, rfl⟩
theorem gcd_cofactors {A B G X Y : Nat} (hG : G = Nat.gcd A B) (h0 : 0 < G) (hX : X = A / G) (hY : Y = B / G) : Nat.gcd X Y = 1 := by
  rw [hX, hY, Nat.gcd_div (by rw [hG]; exact Nat.gcd_dvd_left _ _) (by rw [hG]; exact Nat.gcd_dvd_right _ _), ← hG]
  exact Nat.div_self h0
end Go.Proofs.YtbeoeackahmpbaaGreatDoor.Api
