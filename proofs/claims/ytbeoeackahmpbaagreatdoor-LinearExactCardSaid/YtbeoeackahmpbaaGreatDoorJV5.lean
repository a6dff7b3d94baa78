import Derived.Test.YtbeoeackahmpbaaGreatDoorJD
import Derived.Test.YtbeoeackahmpbaaGreatDoorVD
import Derived.Test.YtbeoeackahmpbaaGreatDoorVF
import Derived.Deep.Cut
import Derived.Lib.AppendZeros
namespace Go.Proofs.YtbeoeackahmpbaaGreatDoor
open NatM LinM
def Fit (q : Rat) : Prop := q.num.natAbs < pw 128 ∧ q.den < pw 128
theorem Fit.ok {q : Rat} (h : Fit q) : okF (can q) = true := okF_iff.2 ⟨q.den_nz, h.1, h.2⟩
theorem Fit.sm {q : Rat} (h : Fit q) : Sm (can q) := h
theorem Fit.fit {q : Rat} (h : Fit q) : fitQ q = (can q, 0) := by
 unfold fitQ
 rw [if_neg]
 rintro (h1 | h1)
 · exact absurd h.1 (by omega)
 · exact absurd h.2 (by omega)
theorem mul_can {x y : Rat} (hx : Fit x) (hy : Fit y) (h : Fit (x * y)) : mulF (can x) (can y) = (can (x * y), 0) := by
 unfold mulF
 rw [if_pos ⟨hx.ok, hy.ok⟩, qv_can, qv_can, h.fit]
theorem add_can {x y : Rat} (hx : Fit x) (hy : Fit y) (h : Fit (x + y)) : addF (can x) (can y) = (can (x + y), 0) := by
 unfold addF
 rw [if_pos ⟨hx.ok, hy.ok⟩, qv_can, qv_can, h.fit]
theorem qv_neg (x : Tri) : qv (negF x) = -qv x := by unfold qv negF; exact frac_not _ _ _
theorem sub_can {x y : Rat} (hx : Fit x) (hy : Fit y) (h : Fit (x - y)) : subF (can x) (can y) = (can (x - y), 0) := by
 unfold subF addF
 have hk : okF (negF (can y)) = true := okF_iff.2 (okF_iff.1 hy.ok)
 rw [if_pos ⟨hx.ok, hk⟩, qv_neg, qv_can, qv_can, ← Rat.sub_eq_add_neg, h.fit]
theorem quo_can {x y : Rat} (hx : Fit x) (hy : Fit y) (h0 : y ≠ 0) (h : Fit (x / y)) : quoF (can x) (can y) = (can (x / y), 0) := by
 unfold quoF
 rw [if_pos ⟨hx.ok, hy.ok⟩, if_neg (fun e => h0 (can_zero_iff.1 e)), qv_can, qv_can, h.fit]
theorem red_can {x : Tri} (h : okF x = true) : (redF x).1 = can (qv x) := by
 unfold redF
 obtain ⟨h1, h2, h3⟩ := okF_iff.1 h
 rw [if_pos h, show fitQ (qv x) = (can (qv x), 0) from fitQ_small h2 h3 h1]
theorem fit_red {x : Tri} (h : okF x = true) : Fit (qv x) := by
 obtain ⟨h1, h2, h3⟩ := okF_iff.1 h
 unfold qv
 refine ⟨?_, ?_⟩
 · rw [frac_abs h1]; exact Nat.lt_of_le_of_lt (Nat.div_le_self _ _) h2
 · rw [frac_den h1]; exact Nat.lt_of_le_of_lt (Nat.div_le_self _ _) h3
def WB (N : Nat) (q : Rat) : Prop := ∃ z : Int, q = (z : Rat) ∧ z.natAbs ≤ N
theorem WB.den {N : Nat} {q : Rat} (h : WB N q) : q.den = 1 := by obtain ⟨z, rfl, -⟩ := h; exact Rat.den_intCast z
theorem WB.num {N : Nat} {q : Rat} (h : WB N q) : q.num.natAbs ≤ N := by obtain ⟨z, rfl, h⟩ := h; rw [Rat.num_intCast]; exact h
theorem WB.fit {N : Nat} {q : Rat} (h : WB N q) (hN : N < pw 128) : Fit q := ⟨Nat.lt_of_le_of_lt h.num hN, by rw [h.den]; exact small128 (by decide)⟩
theorem WB.mul {N M : Nat} {x y : Rat} (hx : WB N x) (hy : WB M y) : WB (N * M) (x * y) := by
 obtain ⟨a, rfl, ha⟩ := hx
 obtain ⟨b, rfl, hb⟩ := hy
 exact ⟨a * b, by rw [Rat.intCast_mul], by rw [Int.natAbs_mul]; exact Nat.mul_le_mul ha hb⟩
theorem WB.sub {N M : Nat} {x y : Rat} (hx : WB N x) (hy : WB M y) : WB (N + M) (x - y) := by
 obtain ⟨a, rfl, ha⟩ := hx
 obtain ⟨b, rfl, hb⟩ := hy
 exact ⟨a - b, by rw [Rat.intCast_sub], by omega⟩
theorem WB.up {N M : Nat} {x : Rat} (h : WB N x) (hM : N ≤ M) : WB M x := by
 obtain ⟨z, e, h⟩ := h; exact ⟨z, e, by omega⟩
theorem qabs_int (z : Int) : qabs (z : Rat) = ((z.natAbs : Nat) : Rat) := by
 unfold qabs
 by_cases h : z < 0
 · have h1 : (z : Rat) < 0 := by
    have := (Rat.intCast_lt_intCast (a := z) (b := 0)).2 h
    simpa using this
   rw [if_pos h1, ← Rat.intCast_neg, ← Rat.intCast_natCast]
   congr 1; omega
 · have h1 : ¬ (z : Rat) < 0 := by
    intro h2
    have := (Rat.intCast_lt_intCast (a := z) (b := 0)).1 (by simpa using h2)
    omega
   rw [if_neg h1, ← Rat.intCast_natCast]
   congr 1; omega
theorem wb_of {N : Nat} {q : Rat} (h : Whole q) (hq : qabs q ≤ (N : Rat)) : WB N q := by
 obtain ⟨z, rfl⟩ := h
 refine ⟨z, rfl, ?_⟩
 rw [qabs_int] at hq
 exact Rat.natCast_le_natCast.1 hq
theorem WB.whole {N : Nat} {q : Rat} (h : WB N q) : Whole q ∧ qabs q ≤ (N : Rat) := by
 obtain ⟨z, rfl, h⟩ := h
 refine ⟨⟨z, rfl⟩, ?_⟩
 rw [qabs_int]; exact Rat.natCast_le_natCast.2 h
theorem wb_nat (n : Nat) : WB n (n : Rat) := ⟨n, (Rat.intCast_natCast n).symm, by simp⟩
theorem nat_frac (F : Nat) : (F : Rat) = frac false F 1 := by
 unfold frac sgq
 simp only [Bool.false_eq_true, if_false]
 rw [← Rat.intCast_natCast]
 exact (Rat.mkRat_one _).symm
theorem frac_self' (q : Rat) : frac (decide (q.num < 0)) q.num.natAbs q.den = q := qv_can q
theorem den_mul_le (F : Nat) (q : Rat) : ((F : Rat) * q).den ≤ q.den := by
 have e : (F : Rat) * q = frac (false != decide (q.num < 0)) (F * q.num.natAbs) (1 * q.den) := by
  rw [← frac_mul, ← nat_frac, frac_self']
 rw [e, Nat.one_mul, frac_den q.den_nz]
 exact Nat.div_le_self _ _
theorem mul_den (q : Rat) : q * (q.den : Rat) = (q.num : Rat) := by
 have e : q * (q.den : Rat) = frac (decide (q.num < 0) != false) (q.num.natAbs * q.den) (q.den * 1) := by
  rw [← frac_mul, ← nat_frac, frac_self']
 rw [e, Nat.mul_comm q.den 1, frac_scale q.den_nz]
 unfold frac
 rw [Rat.mkRat_one]
 congr 1
 unfold sgq
 by_cases h : q.num < 0
 · rw [decide_eq_true h]; simp; omega
 · rw [decide_eq_false h]; simp; omega
def wf (a : Nat → Rat) : Nat → Nat
 | 0 => 1
 | k + 1 => wf a k * ((wf a k : Rat) * a k).den
theorem wf_pos (a : Nat → Rat) (k : Nat) : 0 < wf a k := by
 induction k with
 | zero => exact Nat.one_pos
 | succ k ih => exact Nat.mul_pos ih (Rat.den_pos _)
theorem wf_whole (a : Nat → Rat) {i k : Nat} (h : i < k) : Whole ((wf a k : Rat) * a i) := by
 induction k with
 | zero => omega
 | succ k ih =>
  have e : ((wf a (k + 1) : Nat) : Rat) = (wf a k : Rat) * (((wf a k : Rat) * a k).den : Rat) := by rw [wf, Rat.natCast_mul]
  by_cases c : i = k
  · subst c
    refine ⟨((wf a i : Rat) * a i).num, ?_⟩
    rw [← mul_den, e]; grind
  · obtain ⟨z, hz⟩ := ih (by omega)
    refine ⟨z * (((wf a k : Rat) * a k).den : Int), ?_⟩
    rw [e, Rat.intCast_mul, ← hz, Rat.intCast_natCast]; grind
def dbits (q : Rat) : Nat := if q.den = 1 then 0 else nb q.den
theorem den_le (q : Rat) : q.den ≤ 2 ^ dbits q := by
 unfold dbits
 split
 · next h => rw [h]; exact Nat.le_refl 1
 · exact Nat.le_of_lt (lt_nb _)
theorem wf_le (a : Nat → Rat) (k : Nat) : wf a k ≤ 2 ^ sumK (fun j => dbits (a j)) k := by
 induction k with
 | zero => exact Nat.le_refl 1
 | succ k ih =>
  rw [wf, sumK, Nat.pow_add]
  exact Nat.mul_le_mul ih (Nat.le_trans (den_mul_le _ _) (den_le _))
theorem wtF_can (q : Rat) : wtF (can q) = nb q.num.natAbs + dbits q := rfl
theorem sumK_add (f g : Nat → Nat) (n : Nat) : sumK (fun j => f j + g j) n = sumK f n + sumK g n := by
 induction n with
 | zero => rfl
 | succ n ih => rw [sumK, sumK, sumK, ih]; omega
theorem sumK_one {f : Nat → Nat} {i n : Nat} (h : i < n) : f i ≤ sumK f n := by
 have h1 : sumK f (i + 1) ≤ sumK f n := sumK_part (by omega)
 rw [sumK] at h1; omega
theorem wf_wb (a : Nat → Rat) {m i k : Nat} (hi : i < m) (hk : k ≤ m) : (wf a k : Rat) * a i = ((wf a k : Rat) * a i) ∧ ((wf a k : Rat) * a i).num.natAbs ≤ 2 ^ wtR (fun j => can (a j)) m := by
 refine ⟨rfl, ?_⟩
 have e : (wf a k : Rat) * a i = frac (false != decide ((a i).num < 0)) (wf a k * (a i).num.natAbs) (1 * (a i).den) := by
  rw [← frac_mul, ← nat_frac, frac_self']
 rw [e, Nat.one_mul, frac_abs (a i).den_nz]
 refine Nat.le_trans (Nat.div_le_self _ _) ?_
 have h1 := wf_le a k
 have h2 : sumK (fun j => dbits (a j)) k ≤ sumK (fun j => dbits (a j)) m := sumK_part hk
 have h3 : nb (a i).num.natAbs ≤ sumK (fun j => nb (a j).num.natAbs) m := sumK_one (f := fun j => nb (a j).num.natAbs) hi
 have h4 : wtR (fun j => can (a j)) m = sumK (fun j => nb (a j).num.natAbs) m + sumK (fun j => dbits (a j)) m := by
  unfold wtR; rw [← sumK_add]; exact sumK_congr fun j _ => wtF_can _
 rw [h4, Nat.pow_add, Nat.mul_comm]
 exact Nat.mul_le_mul (Nat.le_trans (Nat.le_of_lt (lt_nb _)) (Nat.pow_le_pow_right (by decide) h3)) (Nat.le_trans h1 (Nat.pow_le_pow_right (by decide) h2))
theorem wf_wt (a : Nat → Rat) {m k : Nat} (hk : k ≤ m) : wf a k ≤ 2 ^ wtR (fun j => can (a j)) m := by
 refine Nat.le_trans (wf_le a k) (Nat.pow_le_pow_right (by decide) ?_)
 refine Nat.le_trans (sumK_part hk) ?_
 unfold wtR
 have : ∀ n, sumK (fun j => dbits (a j)) n ≤ sumK (fun j => wtF (can (a j))) n := by
  intro n
  induction n with
  | zero => exact Nat.le_refl _
  | succ n ih => rw [sumK, sumK]; have : dbits (a n) ≤ wtF (can (a n)) := by rw [wtF_can]; omega
                 omega
 exact this m
theorem pw_two128 {N k : Nat} (h : N ≤ 2 ^ k) (hk : k ≤ 4095) : N < pw 128 := by
 refine Nat.lt_of_le_of_lt h ?_
 rw [nb_lt_pw, nb_pow]; omega
theorem can_nat (n : Nat) : can (n : Rat) = (false, n, 1) := by
 unfold can
 rw [← Rat.intCast_natCast, Rat.num_intCast, Rat.den_intCast]
 have : ¬ ((n : Int) < 0) := by omega
 rw [decide_eq_false this]; simp
theorem fit_nat {n : Nat} (h : n < pw 128) : Fit (n : Rat) := (wb_nat n).fit h
theorem fac_can (a : Nat → Rat) (m : Nat) (ha : ∀ i, i < m → Fit (a i)) (hw : wtR (fun j => can (a j)) m ≤ 4000) : ∀ k, k ≤ m → facT (fun j => can (a j)) k = can (wf a k : Rat) := by
 intro k
 induction k with
 | zero =>
  intro _
  show (makeF 1 1).1 = can ((1 : Nat) : Rat)
  rw [can_nat]
  unfold makeF
  rw [if_neg (by decide)]
  have h := fitQ_small (neg := !(decide ((1 : Int) < 0) == decide ((1 : Int) < 0))) (N := (1 : Int).natAbs) (D := (1 : Int).natAbs) (small128 (by decide)) (small128 (by decide)) (by decide)
  rw [h]
  rfl
 | succ k ih =>
  intro hk
  have hF := ih (by omega)
  have b1 : wf a k < pw 128 := pw_two128 (wf_wt a (m := m) (by omega)) (by omega)
  have b2 : ((wf a k : Rat) * a k).num.natAbs < pw 128 := pw_two128 (wf_wb a (m := m) (i := k) (k := k) (by omega) (by omega)).2 (by omega)
  have b3 : ((wf a k : Rat) * a k).den < pw 128 := Nat.lt_of_le_of_lt (den_mul_le _ _) (ha k (by omega)).2
  have e1 := mul_can (fit_nat b1) (ha k (by omega)) ⟨b2, b3⟩
  rw [facT, hF, e1, can_nat]
  have e2 : (false, (can ((wf a k : Rat) * a k)).2.2, 1) = can ((((wf a k : Rat) * a k).den : Nat) : Rat) := by rw [can_nat]; rfl
  rw [e2, ← can_nat]
  have b4 : wf a k * ((wf a k : Rat) * a k).den < pw 128 := pw_two128 (wf_wt a (k := k + 1) hk) (by omega)
  rw [mul_can (fit_nat b1) (fit_nat b3) (by rw [← Rat.natCast_mul]; exact fit_nat b4), ← Rat.natCast_mul]
  rfl
theorem whole_can (a : Nat → Rat) (m : Nat) (ha : ∀ i, i < m → Fit (a i)) (hw : wtR (fun j => can (a j)) m ≤ 4000) : ∀ i, i < m → wholeT (fun j => can (a j)) m i = can ((wf a m : Rat) * a i) := by
 intro i hi
 have b1 : wf a m < pw 128 := pw_two128 (wf_wt a (m := m) (Nat.le_refl m)) (by omega)
 have b2 : ((wf a m : Rat) * a i).num.natAbs < pw 128 := pw_two128 (wf_wb a (m := m) (i := i) (k := m) hi (Nat.le_refl m)).2 (by omega)
 have b3 : ((wf a m : Rat) * a i).den < pw 128 := Nat.lt_of_le_of_lt (den_mul_le _ _) (ha i hi).2
 unfold wholeT
 rw [fac_can a m ha hw m (Nat.le_refl m), mul_can (fit_nat b1) (ha i hi) ⟨b2, b3⟩]
theorem whole_wb (a : Nat → Rat) (m : Nat) : ∀ i, i < m → WB (2 ^ wtR (fun j => can (a j)) m) ((wf a m : Rat) * a i) := by
 intro i hi
 obtain ⟨z, hz⟩ := wf_whole a hi
 refine ⟨z, hz, ?_⟩
 have := (wf_wb a (m := m) (i := i) (k := m) hi (Nat.le_refl m)).2
 rwa [hz, Rat.num_intCast] at this
end Go.Proofs.YtbeoeackahmpbaaGreatDoor
namespace Go.Proofs.YtbeoeackahmpbaaGreatDoor
open Go.RowKit NatM Go.Proofs.YtbeoeackahmpbaaGreatDoor.Api LinM
structure L1 (w : World) (base ge m k : Nat) (gs : Nat → Nat) (rv : Value) (p s : Tri) (pv sv : V3) (T : Nat → Nat → Tri) : Prop where
 box : EBox w ge rv 0 p.1 pv s.1 sv
 fp : FracT w (pv.agg p.1) p
 fs : FracT w (sv.agg s.1) s
 own : w.ownsRow base 23 1 rv k ((List.range k).map fun i => Value.slice (some ⟨gs i, 0, none⟩) m m)
 soft : SoftB w rv
 rows : ∀ i, i < k → FBlk w (gs i) m (T i)
 inj : ∀ i j, i < k → j < k → gs i = gs j → i = j
 low : base ≤ ge ∧ ∀ i, i < k → base ≤ gs i
theorem own_isSlice {w : World} {base size n : Nat} {e : TypeId} {v : Value} {xs : List Value} (h : w.ownsRow base e size v n xs) : ∃ a c, v = .slice a n c := by
 rcases h.2 with ⟨rfl, rfl⟩ | ⟨g, cap, cur, rfl, -⟩
 · exact ⟨none, 0, rfl⟩
 · exact ⟨_, cap, rfl⟩
section
variable {w w' : World} {base ge m k : Nat} {gs : Nat → Nat} {rv : Value} {p s : Tri} {pv sv : V3} {T : Nat → Nat → Tri}
theorem L1.add (h : L1 w base ge m k gs rv p s pv sv T) (hb : Add w w') : L1 w' base ge m k gs rv p s pv sv T :=
 ⟨h.box.add hb, h.fp.mono hb, h.fs.mono hb, own_chg h.own (Chg.of_add (fun _ => False) hb) (fun _ _ => id), soft_chg h.soft (Chg.of_add (fun _ => False) hb) (fun g hg => ⟨(own_in h.own g hg).2.1, id⟩), fun i hi => (h.rows i hi).add hb, h.inj, h.low⟩
theorem L1.isS (h : L1 w base ge m k gs rv p s pv sv T) : ∃ a n c, rv = .slice a n c := by
 obtain ⟨a, c, e⟩ := own_isSlice h.own; exact ⟨a, k, c, e⟩
theorem L1.ne (h : L1 w base ge m k gs rv p s pv sv T) : rv.ownBlock ≠ some ge ∧ ∀ i, i < k → gs i ≠ ge ∧ rv.ownBlock ≠ some (gs i) := by
 refine ⟨fun e => ?_, fun i hi => ⟨?_, fun e => ?_⟩⟩
 · obtain ⟨-, -, cur, hc⟩ := own_in h.own ge e
   exact absurd rfl (blk_ne hc h.box (by decide))
 · obtain ⟨cur, hc, -⟩ := h.rows i hi
   exact fun e => (blk_ne h.box hc (by decide)) e.symm
 · obtain ⟨-, -, cur, hc⟩ := own_in h.own (gs i) e
   obtain ⟨cur', hc', -⟩ := h.rows i hi
   exact absurd rfl (blk_ne hc hc' (by decide))
theorem L1.below {w0 : World} {S : Nat → Prop} (h : L1 w base ge m k gs rv p s pv sv T) (hb : Below base w0 w) (hc : Chg S w w') (hS : ∀ b, S b → base ≤ b) : Below base w0 w' :=
 hc.below hb (Nat.le_trans h.low.1 (Nat.le_of_lt h.box.lt)) hS
set_option maxRecDepth 100000 in
theorem L1.append {w1 : World} {g B c : Nat} {t : Nat → Tri} (h : L1 w base ge m k gs rv p s pv sv T) (ha : Add w w1) (hg : FBlk w1 g m t) (hgb : base ≤ g) (hgn : ∀ i, i < k → gs i ≠ g) (hB : w1.heap[B]? = some (.cells #[.slice (some ⟨g, 0, none⟩) m m] 23 (0, 0))) (hk : k ≤ 1000) :
 ∃ a' c' w2, (Builtin.append_ #[22, 22] 22 #[rv, .slice (some ⟨B, 0, none⟩) 1 c]).run Tryz.prog w1 = .ok (.slice a' (k + 1) c') w2 ∧
  EBox w2 ge rv 0 p.1 pv s.1 sv ∧ (∀ S, (∀ b, rv.ownBlock = some b → S b) → Chg S w1 w2) ∧ (∀ b, rv.ownBlock = some b → base ≤ b ∧ b < w.heap.size) ∧
  L1 (w2.setCell ⟨ge, 0, none⟩ (.slice a' (k + 1) c')) base ge m (k + 1) (fun i => if i = k then g else gs i) (.slice a' (k + 1) c') p s pv sv (fun i => if i = k then t else T i) ∧
  Chg (fun b => b = ge) w2 (w2.setCell ⟨ge, 0, none⟩ (.slice a' (k + 1) c')) := by
 have h1 := h.add ha
 obtain ⟨i1, hi1, hy0, hy1, hy2⟩ := info_parts infoFracs
 obtain ⟨v', w2, hr, k1, k2, k3, k4⟩ := run_append_soft (P := Tryz.prog) w1 base 22 22 23 i1 (.slice none 0 0) 1 24 Tryz.underlying22 hi1 hy0 hy1 hy2 rfl (by decide)
  (by intro u hu kk z _ e; simp [Value.cells] at hu; rw [hu] at e; cases e)
  rv k _ h1.own h1.soft ⟨B, 0, none⟩ 1 c [.slice (some ⟨g, 0, none⟩) m m] rfl (World.news_of_block hB) (by intro u hu; simp at hu; rw [hu]; rfl) (by intro u hu kk z _ e; simp at hu; rw [hu] at e; cases e)
  (by unfold maxLen; omega) (by omega) (Nat.le_trans h1.low.1 (Nat.le_of_lt h1.box.lt))
 obtain ⟨a', c', rfl⟩ := own_isSlice k1
 have hc := chg_grown k2 h1.soft
 obtain ⟨n1, n2⟩ := h1.ne
 have hb2 := h1.box.chg hc n1
 have hcs := hb2.setc (S := fun b => b = ge) h1.isS rfl 0 (.slice a' (k + 1) c') _ hb2.c0
 have hown2 : w2.ownsRow base 23 1 (.slice a' (k + 1) c') (k + 1) ((List.range (k + 1)).map fun i => Value.slice (some ⟨if i = k then g else gs i, 0, none⟩) m m) := by
  have e : ((List.range (k + 1)).map fun i => Value.slice (some ⟨if i = k then g else gs i, 0, none⟩) m m) = ((List.range k).map fun i => Value.slice (some ⟨gs i, 0, none⟩) m m) ++ [.slice (some ⟨g, 0, none⟩) m m] := by
   rw [List.range_succ, List.map_append]
   congr 1
   · refine List.map_congr_left fun i hi => ?_
     rw [if_neg (by have := List.mem_range.1 hi; omega)]
   · simp
  rw [e]; exact k1
 have nv : (Value.slice a' (k + 1) c').ownBlock ≠ some ge := fun e => by
  obtain ⟨-, -, cur, q⟩ := own_in hown2 ge e
  exact absurd rfl (blk_ne q hb2 (by decide))
 have gne : g ≠ ge := by
  obtain ⟨cur, q, -⟩ := hg
  exact fun e => (blk_ne h1.box q (by decide)) e.symm
 have gnr : rv.ownBlock ≠ some g := fun e => by
  obtain ⟨-, -, cur, q⟩ := own_in h1.own g e
  obtain ⟨cur', q', -⟩ := hg
  exact absurd rfl (blk_ne q q' (by decide))
 refine ⟨a', c', w2, hr, hb2, fun S hS => hc.mono hS, fun b hb => ⟨(own_in h.own b hb).1, (own_in h.own b hb).2.1⟩, ⟨hb2.rowsS _, (h1.fp.chg hc).chg hcs, (h1.fs.chg hc).chg hcs, own_chg hown2 hcs (fun b hb e => nv (by rw [hb, e])), soft_chg k4 hcs (fun b hb => ⟨(own_in hown2 b hb).2.1, fun e => nv (by rw [hb, e])⟩), fun i hi => ?_, fun i j hi hj e => ?_, h.low.1, fun i hi => ?_⟩, hcs⟩
 · by_cases e : i = k
   · rw [if_pos e, if_pos e]; exact (hg.chg hc gnr).chg hcs gne
   · rw [if_neg e, if_neg e]
     exact ((h1.rows i (by omega)).chg hc (n2 i (by omega)).2).chg hcs (n2 i (by omega)).1
 · by_cases e1 : i = k
   · by_cases e2 : j = k
     · omega
     · rw [if_pos e1, if_neg e2] at e; exact absurd e.symm (hgn j (by omega))
   · by_cases e2 : j = k
     · rw [if_neg e1, if_pos e2] at e; exact absurd e (hgn i (by omega))
     · rw [if_neg e1, if_neg e2] at e; exact h.inj i j (by omega) (by omega) e
 · split
   · exact hgb
   · exact h.low.2 i (by omega)
theorem L1.scale (h : L1 w base ge m k gs rv p s pv sv T) {x : V3} {b : Bool} {s' : Tri} (hb : s'.1 = b) (hx : FracT w (x.agg b) s') : L1 (putE w ge 5 (.bool b) (.slice x.a x.n x.c) (.slice x.e x.d x.f)) base ge m k gs rv p s' pv x T ∧ Chg (fun b => b = ge) w (putE w ge 5 (.bool b) (.slice x.a x.n x.c) (.slice x.e x.d x.f)) := by
 subst hb
 have hc := h.box.chgE (S := fun b => b = ge) h.isS rfl 5 s'.1 x
 obtain ⟨n1, n2⟩ := h.ne
 exact ⟨⟨h.box.scale s'.1 x, h.fp.chg hc, hx.chg hc, own_chg h.own hc (fun b hb e => n1 (by rw [hb, e])), soft_chg h.soft hc (fun b hb => ⟨(own_in h.own b hb).2.1, fun e => n1 (by rw [hb, e])⟩), fun i hi => (h.rows i hi).chg hc (n2 i hi).1, h.inj, h.low⟩, hc⟩
theorem L1.done (h : L1 w base ge m k gs rv p s pv sv T) (hk : 0 < k) : ∃ G cap, rv = .slice (some ⟨G, 0, none⟩) k cap ∧ k ≤ cap ∧ cap ≤ maxLen ∧ ES w base ge G k cap m gs 0 p s pv sv T := by
 rcases h.own.2 with ⟨e, rfl⟩ | ⟨G, cap, cur, rfl, hb, hg, hn, hm, hs, ht⟩
 · omega
 · refine ⟨G, cap, rfl, hn, hm, h.box, h.fp, h.fs, ⟨cur, hg, by omega, fun i hi => ⟨?_, _, _, _, rfl⟩⟩, h.rows, h.inj, h.low.1, hb, h.low.2⟩
   have e : (cur.toList.take (k * 1))[i]? = ((List.range k).map fun i => Value.slice (some ⟨gs i, 0, none⟩) m m)[i]? := by rw [ht]
   rw [List.getElem?_take, if_pos (by omega)] at e
   rw [← Array.getElem?_toList, e]
   simp [hi]
end
theorem ES.mat {w : World} {base ge G n cap m : Nat} {gs : Nat → Nat} {k : Nat} {p s : Tri} {pv sv : V3} {T : Nat → Nat → Tri} (h : ES w base ge G n cap m gs k p s pv sv T) (h1 : n ≤ cap) (h2 : cap ≤ maxLen) (hm : m ≤ maxLen) : MatP true w (.slice (some ⟨G, 0, none⟩) n cap) n (fun _ => m) T :=
 ⟨_, cap, rfl, h1, h2, fun _ => ⟨G, 0, rfl, fun i hi => ⟨_, by rw [Nat.zero_add]; exact h.head.cell hi, (h.rows i hi).row hm⟩⟩⟩
def scN (A : Mat) (m : Nat) : Nat → Nat
 | 0 => 1
 | k + 1 => scN A m k * wf (A k) m
theorem scN_prod (A : Mat) (m k : Nat) : ((scN A m k : Nat) : Rat) = prodQ (fun i => ((wf (A i) m : Nat) : Rat)) k := by
 induction k with
 | zero => rfl
 | succ k ih => show ((scN A m k * wf (A k) m : Nat) : Rat) = prodQ _ k * _; rw [Rat.natCast_mul, ih]
theorem scN_le (A : Mat) (m k : Nat) : scN A m k ≤ 2 ^ wtM (fun i j => can (A i j)) (fun _ => m) k := by
 induction k with
 | zero => exact Nat.le_refl 1
 | succ k ih =>
  show scN A m k * wf (A k) m ≤ 2 ^ (sumK _ k + wtR (fun j => can (A k j)) m)
  rw [Nat.pow_add]
  exact Nat.mul_le_mul ih (wf_wt (A k) (Nat.le_refl m))
theorem prod_two (f : Nat → Nat) (k : Nat) : prodQ (fun i => ((2 ^ f i : Nat) : Rat)) k = ((2 ^ sumK f k : Nat) : Rat) := by
 induction k with
 | zero => rfl
 | succ k ih => show prodQ _ k * _ = ((2 ^ (sumK f k + f k) : Nat) : Rat); rw [ih, Nat.pow_add, Rat.natCast_mul]
theorem wtM_row (X : Nat → Nat → Tri) (m : Nat → Nat) {i n : Nat} (h : i < n) : wtR (X i) (m i) ≤ wtM X m n := sumK_one (f := fun i => wtR (X i) (m i)) h
theorem elim_start (A : Mat) (n m x : Nat) (hw : wtM (fun i j => can (A i j)) (fun _ => m) n ≤ x) :
 Elim A n m ((2 ^ x : Nat) : Rat) 0 0 1 ((scN A m n : Nat) : Rat) (fun i l => ((wf (A i) m : Nat) : Rat) * A i l) (fun l => l) (fun i l => ((wf (A i) m : Nat) : Rat) * A i l) := by
 rw [scN_prod]
 refine Elim.start (e := fun i => ((2 ^ wtR (fun j => can (A i j)) m : Nat) : Rat)) (fun i _ e => ?_) (fun i l => rfl) (fun i l _ hl => (whole_wb (A i) m l hl).whole) (fun i _ => ?_) ?_
 · have h1 := wf_pos (A i) m
   have h2 := (Rat.natCast_le_natCast (a := wf (A i) m) (b := 0)).1 (by rw [e]; exact Rat.le_refl)
   omega
 · have := (Rat.natCast_le_natCast (a := 1) (b := 2 ^ wtR (fun j => can (A i j)) m)).2 (Nat.one_le_two_pow)
   simpa using this
 · rw [prod_two]
   exact Rat.natCast_le_natCast.2 (Nat.pow_le_pow_right (by decide) hw)
theorem can_neg {q : Rat} (h : q ≠ 0) : can (-q) = (!(can q).1, (can q).2) := by
 unfold can
 rw [Rat.neg_num, Rat.neg_den]
 have h0 : q.num ≠ 0 := fun e => h (Rat.num_eq_zero.1 e)
 have e1 : decide (-q.num < 0) = !decide (q.num < 0) := by
  by_cases c : q.num < 0
  · rw [decide_eq_true c, decide_eq_false (by omega)]; rfl
  · rw [decide_eq_false c, decide_eq_true (by omega)]; rfl
 rw [e1, Int.natAbs_neg]
def Wx (q : Rat) : Prop := ∃ x : Nat, x ≤ 1930 ∧ WB (2 ^ x) q
theorem Wx.neg {q : Rat} (h : Wx q) : Wx (-q) := by
 obtain ⟨x, hx, z, rfl, hz⟩ := h
 exact ⟨x, hx, -z, by rw [Rat.intCast_neg], by rw [Int.natAbs_neg]; exact hz⟩
theorem wx_nat {n x : Nat} (h : n ≤ 2 ^ x) (hx : x ≤ 1930) : Wx (n : Rat) := ⟨x, hx, (wb_nat n).up h⟩
structure Sync (n m j : Nat) (p s : Tri) (T : Nat → Nat → Tri) (pq sq : Rat) (X : Mat) : Prop where
 p : p = can pq
 s : s = can sq
 t : ∀ i l, i < n → l < m → j ≤ l → T i l = can (X i l)
 sm : ∀ i l, i < n → l < m → Sm (T i l)
 fit : Wx sq
theorem Sync.swap {n m j k i : Nat} {p s : Tri} {T : Nat → Nat → Tri} {pq sq : Rat} {X : Mat} (h : Sync n m j p s T pq sq X) (hi : i < n) (hk : k < n) (hne : i ≠ k) (h0 : sq ≠ 0) : Sync n m j p (flipS i k s) (fun a => T (swI i k a)) pq (-sq) (swapR i k X) := by
 have hs : ∀ a, a < n → swI i k a < n := fun a ha => by unfold swI; split; exact hk; split; exact hi; exact ha
 refine ⟨h.p, ?_, fun a l ha hl hj => h.t _ l (hs a ha) hl hj, fun a l ha hl => h.sm _ l (hs a ha) hl, h.fit.neg⟩
 unfold flipS
 rw [if_neg hne, can_neg h0, h.s]
theorem fac24 (n : Nat) (h : n ≤ 24) : fac n ≤ ((2 ^ 80 : Nat) : Rat) := by
 have h1 := fac_le h
 have h2 : fac 24 = ((620448401733239439360000 : Nat) : Rat) := by decide +kernel
 rw [h2] at h1
 exact Rat.le_trans h1 (Rat.natCast_le_natCast.2 (by decide))
theorem elim_wb {A : Mat} {n C j k x : Nat} {p s : Rat} {X : Mat} {c : Nat → Nat} {W : Mat} (h : Elim A n C ((2 ^ x : Nat) : Rat) j k p s X c W) (hn : n ≤ 24) (hj : j ≤ C) : WB (2 ^ (80 + x)) p ∧ ∀ i l, i < n → l < C → WB (2 ^ (80 + x)) (X i l) := by
 have hb : fac n * ((2 ^ x : Nat) : Rat) ≤ ((2 ^ (80 + x) : Nat) : Rat) := by
  have h1 := fac24 n hn
  have h2 : fac n * ((2 ^ x : Nat) : Rat) ≤ ((2 ^ 80 : Nat) : Rat) * ((2 ^ x : Nat) : Rat) := Rat.mul_le_mul_of_nonneg_right h1 (by
   have := (Rat.natCast_le_natCast (a := 0) (b := 2 ^ x)).2 (Nat.zero_le _)
   simpa using this)
  rw [← Rat.natCast_mul, ← Nat.pow_add] at h2
  exact h2
 obtain ⟨⟨h1, h2⟩, h3⟩ := h.small hj
 exact ⟨wb_of h1 (Rat.le_trans h2 hb), fun i l hi hl => wb_of (h3 i l hi hl).1 (Rat.le_trans (h3 i l hi hl).2 hb)⟩
theorem fitX {x : Nat} (hx : x ≤ 1930) {q : Rat} (h : WB (2 ^ (80 + x)) q) : Fit q := h.fit (pw_two128 (Nat.le_refl _) (by omega))
def El2 (w wr : World) (A : Mat) (n m x ge G cap gR j : Nat) : Prop := ∃ (gs : Nat → Nat) (r : Nat) (p s : Tri) (pv sv : V3) (T : Nat → Nat → Tri) (pq sq : Rat) (X : Mat) (c : Nat → Nat) (W : Mat),
 ES wr w.heap.size ge G n cap m gs r p s pv sv T ∧ Sync n m j p s T pq sq X ∧ Elim A n m ((2 ^ x : Nat) : Rat) j r pq sq X c W ∧ EBox wr gR (.slice none 0 0) 0 false ⟨none, 0, 0, none, 0, 0⟩ false ⟨none, 0, 0, none, 0, 0⟩ ∧ Add w wr
def put8 (w : World) (g : Nat) (u0 u1 u2 u3 u4 u5 u6 u7 : Value) : World :=
 (((((((w.setCell ⟨g, 0, none⟩ u0).setCell ⟨g, 1, none⟩ u1).setCell ⟨g, 2, none⟩ u2).setCell ⟨g, 3, none⟩ u3).setCell ⟨g, 4, none⟩ u4).setCell ⟨g, 5, none⟩ u5).setCell ⟨g, 6, none⟩ u6).setCell ⟨g, 7, none⟩ u7
theorem EBox.put8 {w : World} {g k : Nat} {rv : Value} {pb : Bool} {pv : V3} {sb : Bool} {sv : V3} (h : EBox w g rv k pb pv sb sv) (rv' : Value) (k' : Nat) (pb' : Bool) (pv' : V3) (sb' : Bool) (sv' : V3) :
 EBox (Go.Proofs.YtbeoeackahmpbaaGreatDoor.put8 w g rv' (.int .i64 (k' : Nat)) (.bool pb') (.slice pv'.a pv'.n pv'.c) (.slice pv'.e pv'.d pv'.f) (.bool sb') (.slice sv'.a sv'.n sv'.c) (.slice sv'.e sv'.d sv'.f)) g rv' k' pb' pv' sb' sv' := by
 unfold EBox Go.Proofs.YtbeoeackahmpbaaGreatDoor.put8
 have h0 : (w.setCell ⟨g, 0, none⟩ rv').heap[g]? = some (.cells #[rv', .int .i64 (k : Nat), .bool pb, .slice pv.a pv.n pv.c, .slice pv.e pv.d pv.f, .bool sb, .slice sv.a sv.n sv.c, .slice sv.e sv.d sv.f] 76 (0, 0)) := heap_setCell_same _ g 0 _ _ _ h
 have h1 : ((w.setCell ⟨g, 0, none⟩ rv').setCell ⟨g, 1, none⟩ (.int .i64 (k' : Nat))).heap[g]? = some (.cells #[rv', .int .i64 (k' : Nat), .bool pb, .slice pv.a pv.n pv.c, .slice pv.e pv.d pv.f, .bool sb, .slice sv.a sv.n sv.c, .slice sv.e sv.d sv.f] 76 (0, 0)) := heap_setCell_same _ g 1 _ _ _ h0
 have h2 : (((w.setCell ⟨g, 0, none⟩ rv').setCell ⟨g, 1, none⟩ (.int .i64 (k' : Nat))).setCell ⟨g, 2, none⟩ (.bool pb')).heap[g]? = some (.cells #[rv', .int .i64 (k' : Nat), .bool pb', .slice pv.a pv.n pv.c, .slice pv.e pv.d pv.f, .bool sb, .slice sv.a sv.n sv.c, .slice sv.e sv.d sv.f] 76 (0, 0)) := heap_setCell_same _ g 2 _ _ _ h1
 have h3 : ((((w.setCell ⟨g, 0, none⟩ rv').setCell ⟨g, 1, none⟩ (.int .i64 (k' : Nat))).setCell ⟨g, 2, none⟩ (.bool pb')).setCell ⟨g, 3, none⟩ (.slice pv'.a pv'.n pv'.c)).heap[g]? = some (.cells #[rv', .int .i64 (k' : Nat), .bool pb', .slice pv'.a pv'.n pv'.c, .slice pv.e pv.d pv.f, .bool sb, .slice sv.a sv.n sv.c, .slice sv.e sv.d sv.f] 76 (0, 0)) := heap_setCell_same _ g 3 _ _ _ h2
 have h4 : (((((w.setCell ⟨g, 0, none⟩ rv').setCell ⟨g, 1, none⟩ (.int .i64 (k' : Nat))).setCell ⟨g, 2, none⟩ (.bool pb')).setCell ⟨g, 3, none⟩ (.slice pv'.a pv'.n pv'.c)).setCell ⟨g, 4, none⟩ (.slice pv'.e pv'.d pv'.f)).heap[g]? = some (.cells #[rv', .int .i64 (k' : Nat), .bool pb', .slice pv'.a pv'.n pv'.c, .slice pv'.e pv'.d pv'.f, .bool sb, .slice sv.a sv.n sv.c, .slice sv.e sv.d sv.f] 76 (0, 0)) := heap_setCell_same _ g 4 _ _ _ h3
 have h5 : ((((((w.setCell ⟨g, 0, none⟩ rv').setCell ⟨g, 1, none⟩ (.int .i64 (k' : Nat))).setCell ⟨g, 2, none⟩ (.bool pb')).setCell ⟨g, 3, none⟩ (.slice pv'.a pv'.n pv'.c)).setCell ⟨g, 4, none⟩ (.slice pv'.e pv'.d pv'.f)).setCell ⟨g, 5, none⟩ (.bool sb')).heap[g]? = some (.cells #[rv', .int .i64 (k' : Nat), .bool pb', .slice pv'.a pv'.n pv'.c, .slice pv'.e pv'.d pv'.f, .bool sb', .slice sv.a sv.n sv.c, .slice sv.e sv.d sv.f] 76 (0, 0)) := heap_setCell_same _ g 5 _ _ _ h4
 have h6 : (((((((w.setCell ⟨g, 0, none⟩ rv').setCell ⟨g, 1, none⟩ (.int .i64 (k' : Nat))).setCell ⟨g, 2, none⟩ (.bool pb')).setCell ⟨g, 3, none⟩ (.slice pv'.a pv'.n pv'.c)).setCell ⟨g, 4, none⟩ (.slice pv'.e pv'.d pv'.f)).setCell ⟨g, 5, none⟩ (.bool sb')).setCell ⟨g, 6, none⟩ (.slice sv'.a sv'.n sv'.c)).heap[g]? = some (.cells #[rv', .int .i64 (k' : Nat), .bool pb', .slice pv'.a pv'.n pv'.c, .slice pv'.e pv'.d pv'.f, .bool sb', .slice sv'.a sv'.n sv'.c, .slice sv.e sv.d sv.f] 76 (0, 0)) := heap_setCell_same _ g 6 _ _ _ h5
 have h7 : ((((((((w.setCell ⟨g, 0, none⟩ rv').setCell ⟨g, 1, none⟩ (.int .i64 (k' : Nat))).setCell ⟨g, 2, none⟩ (.bool pb')).setCell ⟨g, 3, none⟩ (.slice pv'.a pv'.n pv'.c)).setCell ⟨g, 4, none⟩ (.slice pv'.e pv'.d pv'.f)).setCell ⟨g, 5, none⟩ (.bool sb')).setCell ⟨g, 6, none⟩ (.slice sv'.a sv'.n sv'.c)).setCell ⟨g, 7, none⟩ (.slice sv'.e sv'.d sv'.f)).heap[g]? = some (.cells #[rv', .int .i64 (k' : Nat), .bool pb', .slice pv'.a pv'.n pv'.c, .slice pv'.e pv'.d pv'.f, .bool sb', .slice sv'.a sv'.n sv'.c, .slice sv'.e sv'.d sv'.f] 76 (0, 0)) := heap_setCell_same _ g 7 _ _ _ h6
 exact h7
def SoftG (w : World) (g : Nat) : Prop := ∀ j k z, k ≠ IntKind.i64 → w.cell? ⟨g, j, none⟩ ≠ some (.int k z)
theorem cell_set_same {w : World} {g i : Nat} {u v : Value} (h : (w.setCell ⟨g, i, none⟩ u).cell? ⟨g, i, none⟩ = some v) : v = u := by
 simp only [World.cell?, World.setCell, Array.getElem?_modify, if_true] at h
 cases hg : w.heap[g]? with
 | none => rw [hg] at h; simp at h
 | some o =>
  rw [hg] at h
  cases o with
  | cells c e f =>
   simp only [Option.map_some, Option.isSome_none, Bool.false_eq_true, if_false] at h
   by_cases hi : i < c.size
   · rw [Array.getElem?_setIfInBounds_self_of_lt hi] at h
     exact (Option.some.inj h).symm
   · rw [Array.getElem?_eq_none (by simpa using hi)] at h; cases h
  | _ => simp at h
theorem SoftG.set {w : World} {g : Nat} (h : SoftG w g) (i : Nat) {u : Value} (hu : SoftV u) : SoftG (w.setCell ⟨g, i, none⟩ u) g := by
 intro j k z hk e
 by_cases c : j = i
 · subst c
   exact hu k z hk (cell_set_same e).symm
 · rw [cell_set_other rfl (fun q => c (congrArg Addr.off q))] at e
   exact h j k z hk e
theorem SoftG.chg {w : World} {g : Nat} (h : SoftG w g) (i : Nat) (u : Value) : Chg (fun b => b = g) w (w.setCell ⟨g, i, none⟩ u) :=
 ⟨rfl, rfl, rfl, by simp, fun k _ hn => Below.heap_setCell w _ u k hn, fun p k z hk hp => by
  have e : p ≠ ⟨g, i, none⟩ := fun e => h i k z hk (by rw [← e]; exact hp)
  rw [cell_set_other rfl e]; exact hp⟩
theorem SoftG.chg8 {w : World} {g : Nat} (h : SoftG w g) {u0 u1 u2 u3 u4 u5 u6 u7 : Value} (k0 : SoftV u0) (k1 : SoftV u1) (k2 : SoftV u2) (k3 : SoftV u3) (k4 : SoftV u4) (k5 : SoftV u5) (k6 : SoftV u6) : Chg (fun b => b = g) w (put8 w g u0 u1 u2 u3 u4 u5 u6 u7) := by
 unfold put8
 have s0 := h.set 0 k0
 have s1 := s0.set 1 k1
 have s2 := s1.set 2 k2
 have s3 := s2.set 3 k3
 have s4 := s3.set 4 k4
 have s5 := s4.set 5 k5
 have s6 := s5.set 6 k6
 exact ((((((((h.chg 0 u0).trans (s0.chg 1 u1)).trans (s1.chg 2 u2)).trans (s2.chg 3 u3)).trans (s3.chg 4 u4)).trans (s4.chg 5 u5)).trans (s5.chg 6 u6)).trans (s6.chg 7 u7))
theorem soft_slice (a : Option Addr) (n c : Nat) : SoftV (.slice a n c) := fun k z _ e => by cases e
theorem soft_bool (b : Bool) : SoftV (.bool b) := fun k z _ e => by cases e
theorem soft_i64 (z : Int) : SoftV (.int .i64 z) := fun k z' hk e => by
 simp only [Value.int.injEq] at e
 exact hk e.1.symm
theorem ES.far {w w' : World} {base ge G n cap m gR : Nat} {gs : Nat → Nat} {k : Nat} {p s : Tri} {pv sv : V3} {T : Nat → Nat → Tri} (h : ES w base ge G n cap m gs k p s pv sv T) {k' : Nat} {rv : Value} {pb sb : Bool} {pv' sv' : V3} (hR : EBox w gR rv k' pb pv' sb sv') (hne : ge ≠ gR) (hc : Chg (fun b => b = gR) w w') : ES w' base ge G n cap m gs k p s pv sv T := by
 obtain ⟨cur, hG, -⟩ := id h.head
 refine ⟨h.box.chg hc hne, h.fp.chg hc, h.fs.chg hc, h.head.chg hc (blk_ne hG hR (by decide)), fun i hi => ?_, h.inj, h.low⟩
 obtain ⟨cur', h', -⟩ := id (h.rows i hi)
 exact (h.rows i hi).chg hc (blk_ne h' hR (by decide))
theorem zero_can {q : Rat} : (can q).2.1 = 0 ↔ q = 0 := can_zero_iff
theorem Sync.step {A : Mat} {n m j k : Nat} {p s : Tri} {T : Nat → Nat → Tri} {pq sq : Rat} {X : Mat} {c : Nat → Nat} {W : Mat} (h : Sync n m j p s T pq sq X) {x : Nat} (hx : x ≤ 1930) (hE : Elim A n m ((2 ^ x : Nat) : Rat) j k pq sq X c W) (hn : n ≤ 24) (hj : j < m) (hk : k < n) (hX : X k j ≠ 0) :
 Sync n m (j + 1) (T k j) s (clearT T k j p) (X k j) sq (stepX k j pq X) := by
 obtain ⟨b1, b2⟩ := elim_wb hE hn (by omega)
 obtain ⟨b3, b4⟩ := elim_wb (hE.step hk hX) hn (by omega)
 refine ⟨h.t k j hk hj (Nat.le_refl _), h.s, fun i l hi hl hlj => ?_, fun i l hi hl => ?_, h.fit⟩
 · unfold clearT stepX
   by_cases e : i = k
   · rw [if_pos e, if_pos e]; exact h.t k l hk hl (by omega)
   · rw [if_neg e, if_neg e, if_neg (show ¬ l < j by omega)]
     have hnew := b4 i l hi hl
     unfold stepX at hnew
     rw [if_neg e] at hnew
     unfold subT
     rw [h.p, h.t i l hi hl (by omega), h.t i j hi hj (Nat.le_refl _)]
     show (quoF (subF (mulF (T k (j + 0)) (can (X i l))).1 (mulF (can (X i j)) (T k (j + (l - j)))).1).1 (can pq)).1 = _
     rw [Nat.add_zero, show j + (l - j) = l by omega, h.t k j hk hj (Nat.le_refl _), h.t k l hk hl (by omega)]
     have f1 := (b2 k j hk hj).mul (b2 i l hi hl)
     have f2 := (b2 i j hi hj).mul (b2 k l hk hl)
     have f3 := f1.sub f2
     have big : ∀ N, N ≤ 2 ^ (2 * (80 + x) + 1) → N < pw 128 := fun N hN => pw_two128 hN (by omega)
     have g1 := f1.fit (big _ (by rw [← Nat.pow_add]; exact Nat.pow_le_pow_right (by decide) (by omega)))
     have g2 := f2.fit (big _ (by rw [← Nat.pow_add]; exact Nat.pow_le_pow_right (by decide) (by omega)))
     have g3 := f3.fit (big _ (by rw [← Nat.pow_add, ← Nat.two_mul, ← Nat.pow_succ']; exact Nat.pow_le_pow_right (by decide) (by omega)))
     rw [mul_can (fitX hx (b2 k j hk hj)) (fitX hx (b2 i l hi hl)) g1, mul_can (fitX hx (b2 i j hi hj)) (fitX hx (b2 k l hk hl)) g2]
     show (quoF (subF (can (X k j * X i l)) (can (X i j * X k l))).1 (can pq)).1 = _
     rw [sub_can g1 g2 g3]
     show (quoF (can (X k j * X i l - X i j * X k l)) (can pq)).1 = _
     rw [quo_can g3 (fitX hx b1) hE.bar.1 (fitX hx hnew)]
 · unfold clearT
   by_cases e : i = k
   · rw [if_pos e]; exact h.sm k l hk hl
   · rw [if_neg e]
     split
     · exact h.sm i l hi hl
     · unfold subT; exact sm_quo _ _
end Go.Proofs.YtbeoeackahmpbaaGreatDoor
namespace Go.Proofs.YtbeoeackahmpbaaGreatDoor
open Go.RowKit NatM Go.Proofs.YtbeoeackahmpbaaGreatDoor.Api LinM
def ElP (w : World) (n m q x : Nat) (A : Mat) (e : Ending) (w' : World) : Prop :=
 ∃ (G cap k : Nat) (p s : Rat) (pv sv : V3) (T : Nat → Nat → Tri) (X : Mat) (c : Nat → Nat) (W : Mat),
  e = .returned (.agg #[.slice (some ⟨G, 0, none⟩) n cap, .int .i64 (k : Nat), .bool (can p).1, .slice pv.a pv.n pv.c, .slice pv.e pv.d pv.f, .bool (can s).1, .slice sv.a sv.n sv.c, .slice sv.e sv.d sv.f]) ∧
  FracT w' (pv.agg (can p).1) (can p) ∧ FracT w' (sv.agg (can s).1) (can s) ∧ MatP true w' (.slice (some ⟨G, 0, none⟩) n cap) n (fun _ => m) T ∧
  (∀ i l, i < n → l < m → q ≤ l → T i l = can (X i l)) ∧ Elim A n m ((2 ^ x : Nat) : Rat) q k p s X c W ∧ Wx s ∧ Add w w'
abbrev z3 : V3 := ⟨none, 0, 0, none, 0, 0⟩
theorem make11 : (makeF 1 1).1 = can ((1 : Nat) : Rat) := by
 have := fac_can (fun _ => 0) 0 (fun i hi => by omega) (Nat.zero_le _) 0 (Nat.le_refl 0)
 exact this
set_option maxRecDepth 100000 in
set_option maxHeartbeats 4000000 in
theorem eliminateN {w : World} {v : Value} {n m q x : Nat} {A : Mat} (h : MatP true w v n (fun _ => m) (fun i j => can (A i j))) (hn0 : 1 ≤ n) (hn : n ≤ 24) (hm : m ≤ 100) (hq : q ≤ m) (hA : ∀ i j, i < n → j < m → Fit (A i j))
 (hw : wtM (fun i j => can (A i j)) (fun _ => m) n ≤ x) (hx : x ≤ 1930) (hT : Tab w) :
 Calls Tryz.prog 55 #[v, .int .i64 (q : Nat)] w (ElP w n m q x A) := by
 obtain ⟨i1, hi1, hy0, hy1, hy2⟩ := info_parts infoFracs
 obtain ⟨ao, ca, rfl, -⟩ := h.isSlice
 have HX := Lib.hid h
 have HA := Lib.hid hA
 have HW := Lib.hid hw
 have AR : Add w (w.alloc (.cells #[.slice none 0 0, .int .i64 0, .bool false, .slice none 0 0, .slice none 0 0, .bool false, .slice none 0 0, .slice none 0 0] 76)) := add_new _ _
 have hR : EBox (w.alloc (.cells #[.slice none 0 0, .int .i64 0, .bool false, .slice none 0 0, .slice none 0 0, .bool false, .slice none 0 0, .slice none 0 0] 76)) w.heap.size (.slice none 0 0) 0 false z3 false z3 := heap_alloc_new w _
 have HC : Hid (∀ w', Add (w.alloc (.cells #[.slice none 0 0, .int .i64 0, .bool false, .slice none 0 0, .slice none 0 0, .bool false, .slice none 0 0, .slice none 0 0] 76)) w' → Calls Tryz.prog 56 #[.int .i64 1] w' (RetF w' (can ((1 : Nat) : Rat)))) := Lib.hid fun w' ha => by
  have := integerN _ ((hT.mono AR).mono ha) (Lib.hid (by decide)) (Lib.hid (rfl : makeF 1 1 = _))
  rwa [make11] at this
 obtain ⟨p0, hp0⟩ : ∃ p0, p0 = can ((1 : Nat) : Rat) := ⟨_, rfl⟩
 rw [← hp0] at HC
 have HP0 := Lib.hid hp0
 obtain ⟨gR, hgR⟩ : ∃ g, g = w.heap.size := ⟨_, rfl⟩
 rw [← hgR] at hR
 have HGR := Lib.hid hgR
 have HAR := Lib.hid (And.intro AR hR)
 clear h hA hw AR hR hp0 hgR
 go_enter Tryz.func55, Tryz.ntmps55
 go_wp2_with fail
 refine (HC.out _ (Below.refl _ _)).mono ?_
 rintro e w1 ⟨v1, rfl, hv1, h1⟩
 go_wp2_with fail
 refine (HC.out _ h1).mono ?_
 rintro e w2 ⟨v2, rfl, hv2, h2⟩
 replace hv1 := hv1.mono h2
 have hv1' := hv1
 have hv2' := hv2
 obtain ⟨a1, n1, c1, e1, d1, f1, rfl, -, -⟩ := hv1'
 obtain ⟨a2, n2, c2, e2, d2, f2, rfl, -, -⟩ := hv2'
 obtain ⟨A0, hR⟩ := HAR.out
 have T12 := Add.trans h1 h2
 have T0 := Add.trans A0 T12
 replace hR := hR.add T12
 obtain ⟨b0, hb0⟩ : ∃ b, b = p0.1 := ⟨_, rfl⟩
 rw [← hb0] at hv1 hv2 ⊢
 have HB0 := Lib.hid hb0
 have T3 := add_new w2 (.cells #[.slice none 0 0, .int .i64 0, .bool b0, .slice a1 n1 c1, .slice e1 d1 f1, .bool b0, .slice a2 n2 c2, .slice e2 d2 f2] 76)
 have hE : EBox (w2.alloc (.cells #[.slice none 0 0, .int .i64 0, .bool b0, .slice a1 n1 c1, .slice e1 d1 f1, .bool b0, .slice a2 n2 c2, .slice e2 d2 f2] 76)) w2.heap.size (.slice none 0 0) 0 b0 ⟨a1, n1, c1, e1, d1, f1⟩ b0 ⟨a2, n2, c2, e2, d2, f2⟩ := heap_alloc_new w2 _
 obtain ⟨ge, hge⟩ : ∃ g, g = w2.heap.size := ⟨_, rfl⟩
 have hRl := hR.lt
 have hgRe : gR < ge := by omega
 rw [← hge] at hE
 have HGE := Lib.hid (And.intro hge hgRe)
 have hL : L1 (w2.alloc (.cells #[.slice none 0 0, .int .i64 0, .bool b0, .slice a1 n1 c1, .slice e1 d1 f1, .bool b0, .slice a2 n2 c2, .slice e2 d2 f2] 76)) w.heap.size ge m 0 (fun _ => 0) (.slice none 0 0) p0 (can ((scN A m 0 : Nat) : Rat)) ⟨a1, n1, c1, e1, d1, f1⟩ ⟨a2, n2, c2, e2, d2, f2⟩ (fun i => wholeT (fun j => can (A i j)) m) := by
  have e0 : can ((scN A m 0 : Nat) : Rat) = p0 := HP0.out.symm
  rw [e0]
  exact ⟨(by rw [← hb0]; exact hE), (by rw [← hb0]; exact hv1.mono T3), (by rw [← hb0]; exact hv2.mono T3), World.ownsRow_nil _ _ _ _, fun g hg => (by cases hg), fun i hi => by omega, fun i j hi => by omega, (by rw [hge]; exact T0.size), fun i hi => by omega⟩
 replace T0 := Add.trans T0 T3
 replace hR := hR.add T3
 clear hE T3 hv1 hv2 T12 A0 HAR HC h1 h2 hge hgRe hb0 hRl
 go_wp2_with fail
 rw [← HGE.out.1, ← HGR.out]
 go_loopw [16] (fun i wr => ∃ (k : Nat) (gs : Nat → Nat) (rv : Value) (sv : V3), k ≤ n ∧ i = .int .i64 (k : Nat) ∧ L1 wr w.heap.size ge m k gs rv p0 (can ((scN A m k : Nat) : Rat)) ⟨a1, n1, c1, e1, d1, f1⟩ sv (fun i => wholeT (fun j => can (A i j)) m) ∧ EBox wr gR (.slice none 0 0) 0 false z3 false z3 ∧ Add w wr) (fun i _ => n - (intOf i).toNat)
 case atStart => exact ⟨0, _, _, _, Nat.zero_le _, rfl, hL, hR, T0⟩
 case round =>
  clear hL hR T0
  obtain ⟨k, gs, rv, sv, hk, rfl, hL, hR, Tw⟩ := hrel
  obtain ⟨ra, rc, rfl⟩ := own_isSlice hL.own
  by_cases h0 : k = n
  · rw [h0] at hL
    obtain ⟨G, cap, e, hcap1, hcap2, hES⟩ := hL.done (by omega)
    have hXS : Sync n m 0 p0 (can ((scN A m n : Nat) : Rat)) (fun i => wholeT (fun j => can (A i j)) m) 1 ((scN A m n : Nat) : Rat) (fun i l => ((wf (A i) m : Nat) : Rat) * A i l) := by
     refine ⟨HP0.out, rfl, fun i l hi hl _ => ?_, fun i l _ _ => sm_mul _ _, wx_nat (Nat.le_trans (scN_le A m n) (Nat.pow_le_pow_right (by decide) HW.out)) hx⟩
     exact whole_can (A i) m (fun j hj => HA.out i j hi hj) (by have := wtM_row (fun i j => can (A i j)) (fun _ => m) hi; have := HW.out; omega) l hl
    have H2 : Hid (El2 w wr A n m x ge G cap gR 0) := Lib.hid ⟨_, _, _, _, _, _, _, _, _, _, _, _, hES, hXS, elim_start A n m x HW.out, hR, Tw⟩
    have HCAP := Lib.hid (And.intro hcap1 hcap2)
    clear hL hR Tw e hES hXS hcap1 hcap2
    subst h0
    rename World => wm
    go_wp2_with fail
    go_loopw [38] (fun i wr => ∃ j : Nat, j ≤ q ∧ i = .int .i64 (j : Nat) ∧ El2 w wr A k m x ge G cap gR j) (fun i _ => q - (intOf i).toNat)
    case atStart => exact ⟨0, Nat.zero_le _, rfl, H2.out⟩
    case round =>
     clear H2
     obtain ⟨j, hj, rfl, H2⟩ := hrel
     by_cases h1 : j = q
     · obtain ⟨gs, r, p, s, pv, sv, T, pq, sq, X, c, W, hES, hSy, hEl, hR, Tw⟩ := H2
       obtain ⟨hp, hs, ht, hsm, hfit⟩ := hSy
       subst hp hs
       obtain ⟨a, na, ca, e, d, f⟩ := pv
       obtain ⟨a', na', ca', e', d', f'⟩ := sv
       have c0 := hES.box.c0
       have c1 := hES.box.c1
       have c2 := hES.box.c2
       have c3 : wr.cell? ⟨ge, 3, none⟩ = some (.slice a na ca) := hES.box.c3
       have c4 : wr.cell? ⟨ge, 4, none⟩ = some (.slice e d f) := hES.box.c4
       have c5 := hES.box.c5
       have c6 : wr.cell? ⟨ge, 6, none⟩ = some (.slice a' na' ca') := hES.box.c6
       have c7 : wr.cell? ⟨ge, 7, none⟩ = some (.slice e' d' f') := hES.box.c7
       have r0 := hR.c0
       have r1 := hR.c1
       have r2 := hR.c2
       have r3 : wr.cell? ⟨gR, 3, none⟩ = some (.slice none 0 0) := hR.c3
       have r4 : wr.cell? ⟨gR, 4, none⟩ = some (.slice none 0 0) := hR.c4
       have r5 := hR.c5
       have r6 : wr.cell? ⟨gR, 6, none⟩ = some (.slice none 0 0) := hR.c6
       have r7 : wr.cell? ⟨gR, 7, none⟩ = some (.slice none 0 0) := hR.c7
       have s0 := hR.fr 0
       have s1 := hR.fr 1
       have s2 := hR.fr 2
       have s3 := hR.fr 3
       have s4 := hR.fr 4
       have s5 := hR.fr 5
       have s6 := hR.fr 6
       have s7 := hR.fr 7
       have hrl := hR.lt
       obtain ⟨pb, hpb⟩ : ∃ b, b = (can pq).1 := ⟨_, rfl⟩
       obtain ⟨sb, hsb⟩ : ∃ b, b = (can sq).1 := ⟨_, rfl⟩
       rw [← hpb] at c2
       rw [← hsb] at c5
       have hc8 := SoftG.chg8 (fun j kk z => hR.soft ⟨_, _, _, rfl⟩ j kk z) (soft_slice (some ⟨G, 0, none⟩) k cap) (soft_i64 (r : Nat)) (soft_bool pb) (soft_slice a na ca) (soft_slice e d f) (soft_bool sb) (soft_slice a' na' ca') (u7 := .slice e' d' f')
       have hb8 := hR.put8 (.slice (some ⟨G, 0, none⟩) k cap) r pb ⟨a, na, ca, e, d, f⟩ sb ⟨a', na', ca', e', d', f'⟩
       have hE8 := hES.far hR (by have := HGE.out.2; omega) hc8
       have T8 : Add w (put8 wr gR (.slice (some ⟨G, 0, none⟩) k cap) (.int .i64 (r : Nat)) (.bool pb) (.slice a na ca) (.slice e d f) (.bool sb) (.slice a' na' ca') (.slice e' d' f')) := hc8.below Tw Tw.size (fun b hb => by rw [hb, HGR.out]; exact Nat.le_refl _)
       have hm8 := hE8.mat HCAP.out.1 HCAP.out.2 (by unfold maxLen; omega)
       have hF : ElP w k m q x A (.returned (.agg #[.slice (some ⟨G, 0, none⟩) k cap, .int .i64 (r : Nat), .bool pb, .slice a na ca, .slice e d f, .bool sb, .slice a' na' ca', .slice e' d' f'])) (put8 wr gR (.slice (some ⟨G, 0, none⟩) k cap) (.int .i64 (r : Nat)) (.bool pb) (.slice a na ca) (.slice e d f) (.bool sb) (.slice a' na' ca') (.slice e' d' f')) := by
        refine ⟨G, cap, r, pq, sq, ⟨a, na, ca, e, d, f⟩, ⟨a', na', ca', e', d', f'⟩, T, X, c, W, ?_, hE8.fp, hE8.fs, hm8, fun i l hi hl hq => ht i l hi hl (by omega), by rw [← h1]; exact hEl, hfit, T8⟩
        rw [← hpb, ← hsb]
       obtain ⟨W9, hW9⟩ : ∃ W9, W9 = put8 wr gR (.slice (some ⟨G, 0, none⟩) k cap) (.int .i64 (r : Nat)) (.bool pb) (.slice a na ca) (.slice e d f) (.bool sb) (.slice a' na' ca') (.slice e' d' f') := ⟨_, rfl⟩
       dsimp only at hb8
       rw [← hW9] at hb8 hF
       unfold put8 at hW9
       have p0' := hb8.c0
       have p1' := hb8.c1
       have p2' := hb8.c2
       have p3' : W9.cell? ⟨gR, 3, none⟩ = some (.slice a na ca) := hb8.c3
       have p4' : W9.cell? ⟨gR, 4, none⟩ = some (.slice e d f) := hb8.c4
       have p5' := hb8.c5
       have p6' : W9.cell? ⟨gR, 6, none⟩ = some (.slice a' na' ca') := hb8.c6
       have p7' : W9.cell? ⟨gR, 7, none⟩ = some (.slice e' d' f') := hb8.c7
       have HF := Lib.hid hF
       have HW9 := Lib.hid hW9
       clear hES ht hsm hEl hR Tw hc8 hb8 hE8 T8 hm8 hF hW9 hpb hsb
       subst h1
       go_wp2_with fail
       rw [← HW9.out]
       exact bodyPost_ret (v := .agg #[.slice (some ⟨G, 0, none⟩) k cap, .int .i64 (r : Nat), .bool pb, .slice a na ca, .slice e d f, .bool sb, .slice a' na' ca', .slice e' d' f']) (by simp [results, Tryz.results55, go_sem, p0', p1', p2', p3', p4', p5', p6', p7']) rfl HF.out
     · have hlt : j < q := by omega
       obtain ⟨gs, r, p, s, pv, sv, T, pq, sq, X, c, W, hES, hSy, hEl, hR, Tw⟩ := H2
       have hr := hEl.kn
       have CF := Lib.hid (findPivotN hES (show j < m by omega) hr (by omega))
       have HM := Lib.hid (And.intro hSy (And.intro hEl (And.intro hR (And.intro Tw hES))))
       clear hES hSy hEl hR Tw h1
       go_wp2_with fail
       refine CF.out.mono ?_
       rintro e w2' (⟨rfl, hz, h2⟩ | ⟨i, rfl, hri, hin, hnz, hES, h2⟩)
       · obtain ⟨hSy, hEl, hR, Tw, hES⟩ := HM.out
         have hN : Hid (El2 w w2' A k m x ge G cap gR (j + 1)) := Lib.hid ⟨_, _, _, _, _, _, _, _, _, _, _, _, hES.add h2, ⟨hSy.p, hSy.s, fun i l hi hl hjl => hSy.t i l hi hl (by omega), hSy.sm, hSy.fit⟩, hEl.skip (fun i hi hin => zero_can.1 (by rw [← hSy.t i j hin (by omega) (Nat.le_refl j)]; exact hz i hi hin)), hR.add h2, Add.trans Tw h2⟩
         clear hSy hEl hR Tw hES hz h2 CF HM
         go_wp2_with fail
         go_roundw
         case rel => exact ⟨j + 1, by omega, by go_num, hN.out⟩
         case measure => simp [intOf]; omega
       · obtain ⟨hSy, hEl, hR, Tw, hES0⟩ := HM.out
         have hrk : r < k := by omega
         have hgRn : ¬ inES ge G k gs gR := by
          rintro (e | e | ⟨i', hi', e⟩)
          · have := HGE.out.2; omega
          · obtain ⟨cur, hG, -⟩ := hES0.head
            exact (blk_ne hG hR (by decide)) e.symm
          · obtain ⟨cur, hG, -⟩ := hES0.rows i' hi'
            exact (blk_ne hG hR (by decide)) e.symm
         have hR2 := hR.chg h2 hgRn
         have T2 := hES0.below Tw h2
         have hXz : X i j ≠ 0 := fun e => hnz (by show (T i j).2.1 = 0; rw [hSy.t i j hin (by omega) (Nat.le_refl j)]; exact zero_can.2 e)
         have key : ∃ sq' X' c' W', Sync k m j p (flipS i r s) (fun a => T (swI i r a)) pq sq' X' ∧ Elim A k m ((2 ^ x : Nat) : Rat) j r pq sq' X' c' W' ∧ X' r j ≠ 0 := by
          by_cases e : i = r
          · refine ⟨sq, X, c, W, ?_, hEl, by rw [← e]; exact hXz⟩
            have e1 : flipS i r s = s := by unfold flipS; rw [if_pos e]
            have e2 : ∀ b, swI i r b = b := fun b => by rw [e]; exact swI_self r b
            rw [e1]; simp only [e2]; exact hSy
          · refine ⟨-sq, _, c, _, hSy.swap hin hrk e hEl.s0, hEl.swap (by omega) hin, ?_⟩
            show X (sw i r r) j ≠ 0
            have : sw i r r = i := by unfold sw; rw [if_neg (fun q => e q.symm), if_pos rfl]
            rw [this]; exact hXz
         obtain ⟨sq', X', c', W', kSy, kEl, kX⟩ := key
         have CC := Lib.hid (clearColumnN hES (show j < m by omega) hrk (by omega) (by omega) kSy.sm (by rw [kSy.p]; exact (fitX hx (elim_wb kEl hn (by omega)).1).sm) (hT.mono T2))
         have HM2 := Lib.hid (And.intro kSy (And.intro kEl (And.intro kX (And.intro hR2 (And.intro T2 hES)))))
         have HGN : Hid (¬ inES ge G k (fun a => gs (swI i r a)) gR) := Lib.hid (by
          rintro (e | e | ⟨i', hi', e⟩)
          · have := HGE.out.2; omega
          · obtain ⟨cur, hG, -⟩ := hES.head
            exact (blk_ne hG hR2 (by decide)) e.symm
          · obtain ⟨cur, hG, -⟩ := hES.rows i' hi'
            exact (blk_ne hG hR2 (by decide)) e.symm)
         clear hSy hEl hR Tw hES0 hES h2 hgRn hR2 T2 hXz kSy kEl kX CF HM hnz
         go_wp2_with fail
         refine CC.out.mono ?_
         rintro e w3' ⟨rfl, pv', hES3, h3⟩
         obtain ⟨kSy, kEl, kX, hR2, T2, hES⟩ := HM2.out
         have hN : Hid (El2 w w3' A k m x ge G cap gR (j + 1)) := Lib.hid ⟨_, _, _, _, _, _, _, _, _, _, _, _, hES3, kSy.step hx kEl hn (by omega) hrk kX, kEl.step hrk kX, hR2.chg h3 HGN.out, hES.below T2 h3⟩
         clear kSy kEl kX hR2 T2 hES hES3 h3 CC HM2 HGN
         go_wp2_with fail
         go_roundw
         case rel => exact ⟨j + 1, by omega, by go_num, hN.out⟩
         case measure => simp [intOf]; omega
  · have hlt : k < n := by omega
    obtain ⟨b, off, a, l, rfl, -, hcell0, hrow⟩ := HX.out.row hlt
    have hcell := cell_addL hcell0 Tw
    have hrow2 := hrow.add Tw
    obtain ⟨Fq, hFq⟩ : ∃ F, F = can ((wf (A k) m : Nat) : Rat) := ⟨_, rfl⟩
    have hwr : wtR (fun j => can (A k j)) m ≤ 4000 := by have := wtM_row (fun i j => can (A i j)) (fun _ => m) hlt; have := HW.out; omega
    have hfac : facT (fun j => can (A k j)) m = Fq := by rw [hFq]; exact fac_can (A k) m (fun i hi => HA.out k i hlt hi) hwr m (Nat.le_refl m)
    have HC := Lib.hid (wholeN hrow2 (fun i hi => (HA.out k i hlt hi).sm) (hT.mono Tw) (by omega))
    have HL := Lib.hid (And.intro hL (And.intro hR Tw))
    have HF := Lib.hid (And.intro hfac hFq)
    clear hrow hrow2 hcell0 hL hR Tw h0 hfac hFq hwr
    rename World => wm
    go_wp2_with fail
    refine HC.out.mono ?_
    rintro e w3 ⟨g, vf, rfl, hg, hvf, hgl, h3⟩
    rw [HF.out.1] at hvf
    have hvf' := hvf
    obtain ⟨af, nf, cf, ef, df, ff, rfl, -, -⟩ := hvf'
    obtain ⟨fb, hfb⟩ : ∃ b, b = Fq.1 := ⟨_, rfl⟩
    rw [← hfb] at hvf ⊢
    obtain ⟨hL, hR, Tw⟩ := HL.out
    obtain ⟨T4, hB⟩ := laid_var w3 fb af nf cf ef df ff
    obtain ⟨gf, hgf⟩ : ∃ g, g = w3.heap.size := ⟨_, rfl⟩
    have hwl := h3.size
    have hgfw : wm.heap.size ≤ gf := by omega
    rw [← hgf] at hB
    have HGF := Lib.hid hgf
    obtain ⟨w4, hw4⟩ : ∃ w4, w4 = w3.alloc (.cells #[.bool fb, .slice af nf cf, .slice ef df ff] 37) := ⟨_, rfl⟩
    rw [← hw4] at T4 hB
    have HW4 : Hid (w3.alloc (.cells #[.bool fb, .slice af nf cf, .slice ef df ff] 37) = w4) := Lib.hid hw4.symm
    have T5 := add_new w4 (.cells #[.slice (some ⟨g, 0, none⟩) m m] 23)
    have hb5 : (w4.alloc (.cells #[.slice (some ⟨g, 0, none⟩) m m] 23)).heap[w4.heap.size]? = some (.cells #[.slice (some ⟨g, 0, none⟩) m m] 23 (0, 0)) := heap_alloc_new w4 _
    have ha5 : Add wm (w4.alloc (.cells #[.slice (some ⟨g, 0, none⟩) m m] 23)) := Add.trans (Add.trans h3 T4) T5
    obtain ⟨a6, c6, w6, hrun, hE6, hcS, hrvl, hL7, hc7⟩ := hL.append (g := g) (B := w4.heap.size) (c := 1) ha5 ((hg.add T4).add T5) (Nat.le_trans Tw.size hgl) (fun i hi e => by have := (hL.rows i hi).lt; omega) hb5 (by omega)
    have HRUN := Lib.hid hrun
    have k0 := (hL.add (Add.trans h3 T4)).box.c0
    have e6 := hE6.c0
    have e6f := hE6.fr 0
    have e6l := hE6.lt
    obtain ⟨w7, hw7⟩ : ∃ w7, w7 = w6.setCell ⟨ge, 0, none⟩ (.slice a6 (k + 1) c6) := ⟨_, rfl⟩
    rw [← hw7] at hL7 hc7
    have q5 := hL7.box.c5
    have q6 := hL7.box.c6
    have q7 := hL7.box.c7
    have cS := hcS (fun b => (Value.slice ra k rc).ownBlock = some b) (fun b hb => hb)
    have gfrv : ¬ (Value.slice ra k rc).ownBlock = some gf := fun e => by have := (hrvl gf e).2; omega
    have hel := hL.box.lt
    have gfge : ¬ gf = ge := by omega
    have hB7 := ((hB.mono T5).chg cS gfrv).chg hc7 gfge
    have o0 := hB7.c0
    have o1 := hB7.c1
    have o2 := hB7.c2
    have hR5 := hR.add ha5
    have gRrv : ¬ (Value.slice ra k rc).ownBlock = some gR := fun e => by
     obtain ⟨-, -, cur, qq⟩ := own_in (hL.add ha5).own gR e
     exact absurd rfl (blk_ne qq hR5 (by decide))
    have hR7 := (hR5.chg cS gRrv).chg hc7 (by have := HGE.out.2; omega)
    have hvf7 := (((hvf.mono T4).mono T5).chg cS).chg hc7
    have hT7 := (((hT.mono Tw).mono ha5).chg cS).chg hc7
    have T7 : Add w w7 := hc7.below (cS.below (Add.trans Tw ha5) (Nat.le_trans Tw.size ha5.size) (fun b hb => (hrvl b hb).1)) (Nat.le_trans (Nat.le_trans Tw.size ha5.size) (hcS (fun _ => True) (fun _ _ => trivial)).size) (fun b hb => by rw [hb]; exact hL.low.1)
    have hfs7 := hL7.fs
    have hwr1 : scN A m (k + 1) ≤ 2 ^ x := Nat.le_trans (scN_le A m (k + 1)) (Nat.pow_le_pow_right (by decide) (Nat.le_trans (sumK_part (by omega)) HW.out))
    have hwr0 : scN A m k ≤ 2 ^ x := Nat.le_trans (scN_le A m k) (Nat.pow_le_pow_right (by decide) (Nat.le_trans (sumK_part (by omega)) HW.out))
    have hwr2 : wf (A k) m ≤ 2 ^ x := Nat.le_trans (wf_wt (A k) (Nat.le_refl m)) (Nat.pow_le_pow_right (by decide) (by have := wtM_row (fun i j => can (A i j)) (fun _ => m) hlt; have := HW.out; omega))
    have g0 := fit_nat (pw_two128 hwr0 (by omega))
    have g1 := fit_nat (pw_two128 hwr1 (by omega))
    have g2 := fit_nat (pw_two128 hwr2 (by omega))
    have hmul : (mulF (can ((scN A m k : Nat) : Rat)) Fq).1 = can ((scN A m (k + 1) : Nat) : Rat) := by
     rw [HF.out.2, mul_can g0 g2 (by rw [← Rat.natCast_mul]; exact g1), ← Rat.natCast_mul]; rfl
    obtain ⟨sk, hsk⟩ : ∃ s, s = can ((scN A m k : Nat) : Rat) := ⟨_, rfl⟩
    rw [← hsk] at hL7 hfs7 hmul q5
    obtain ⟨sn, hsn⟩ : ∃ s, s = can ((scN A m (k + 1) : Nat) : Rat) := ⟨_, rfl⟩
    rw [← hsn] at hmul
    have HSN := Lib.hid hsn
    have hFA : FracA w7 (.agg #[.bool fb, .slice af nf cf, .slice ef df ff]) Fq := by
     rw [HF.out.2] at hvf7 ⊢
     exact Sm.arg hvf7 g2.sm
    have hSA : FracA w7 (sv.agg sk.1) sk := by rw [hsk] at hfs7 ⊢; exact Sm.arg hfs7 g0.sm
    have C8 := productN _ hSA hFA hT7 (Lib.hid rfl)
    rw [hmul] at C8
    have HC8 := Lib.hid C8
    have HL7 := Lib.hid (And.intro hL7 (And.intro hR7 T7))
    clear hL hR Tw hL7 hR7 T7 C8 hSA hFA hmul g0 g1 g2 hwr0 hwr1 hwr2 hfs7 hT7 hvf7 hR5 hB7 cS gfrv gRrv hc7 hrun hE6 hcS hrvl ha5 hb5 T5 hw4 hB T4 hgf hvf hg h3 hgl HC HL hsn hsk gfge hel hfb hgfw hwl
    go_upto_region 6 with fail
    rw [HW4.out, ← HGF.out]
    subst hw7
    go_wp2_with (at_builtin; refine Lib.wpList_append_run _ rfl _ _ _ _ rfl _ _ rfl rfl _ _ HRUN.out ?_)
    clear HRUN HW4 HGF k0 e6 e6f e6l hcell
    refine HC8.out.mono ?_
    rintro e w8 ⟨v8, rfl, hv8, h8⟩
    have hv9 := hv8
    obtain ⟨a8, n8, c8, e8, d8, f8, rfl, -, -⟩ := hv9
    obtain ⟨sb, hsb⟩ : ∃ b, b = sn.1 := ⟨_, rfl⟩
    rw [← hsb] at hv8 ⊢
    obtain ⟨hL, hR, Tw⟩ := HL7.out
    replace hL := hL.add h8
    replace hR := hR.add h8
    replace Tw := Add.trans Tw h8
    have r5 := hL.box.c5
    have r6 := hL.box.c6
    have r7 := hL.box.c7
    have t5 := hL.box.fr 5
    have t6 := hL.box.fr 6
    have t7 := hL.box.fr 7
    have tl := hL.box.lt
    obtain ⟨hL9, hc9⟩ := hL.scale (x := ⟨a8, n8, c8, e8, d8, f8⟩) hsb.symm hv8
    have hR9 := hR.chg hc9 (by have := HGE.out.2; omega)
    have T9 := hL.below Tw hc9 (fun b hb => by rw [hb]; exact hL.low.1)
    rw [HSN.out] at hL9
    have eT : (fun i => if i = k then wholeT (fun j => can (A k j)) m else wholeT (fun j => can (A i j)) m) = fun i => wholeT (fun j => can (A i j)) m := by
     funext i
     by_cases e : i = k
     · rw [if_pos e, e]
     · rw [if_neg e]
    rw [eT] at hL9
    have hN := Lib.hid (And.intro hL9 (And.intro hR9 T9))
    unfold putE at hN
    dsimp only at hN
    clear hL hR Tw hL9 hc9 hR9 T9 hv8 h8 HC8 HL7 hsb eT
    go_wp2_with fail
    go_roundw
    case rel => exact ⟨k + 1, _, _, ⟨a8, n8, c8, e8, d8, f8⟩, by omega, by go_num, hN.out.1, hN.out.2.1, hN.out.2.2⟩
    case measure => simp [intOf]; omega
end Go.Proofs.YtbeoeackahmpbaaGreatDoor
