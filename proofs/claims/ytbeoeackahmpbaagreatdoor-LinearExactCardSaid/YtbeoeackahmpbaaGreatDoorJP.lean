/- Sizes of sums and products; the order of rational numbers. No program is walked here. | Sums of lists of fractions: the answers. -/
import Derived.Test.YtbeoeackahmpbaaGreatDoorF15

namespace Go.Proofs.YtbeoeackahmpbaaGreatDoor
open Go.RowKit NatM Go.Proofs.YtbeoeackahmpbaaGreatDoor.Api

/-- A valid fraction whose parts have at most k limbs. -/
def Sz (k : Nat) (x : Tri) : Prop := x.2.2 ≠ 0 ∧ x.2.1 < pw k ∧ x.2.2 < pw k
theorem Sz.ok {k : Nat} {x : Tri} (h : Sz k x) (hk : k ≤ 128) : okF x = true := okF_iff.2 ⟨h.1, lt_up h.2.1 hk, lt_up h.2.2 hk⟩
theorem Sz.up {i k : Nat} {x : Tri} (h : Sz i x) (hk : i ≤ k) : Sz k x := ⟨h.1, lt_up h.2.1 hk, lt_up h.2.2 hk⟩
theorem qv_can (q : Rat) : qv (can q) = q := frac_self q
theorem fit_of {q : Rat} {neg : Bool} {S E k : Nat} (hq : q = frac neg S E) (hE : E ≠ 0) (h1 : S < pw k) (h2 : E < pw k) (hk : k ≤ 128) : fitQ q = (can q, 0) ∧ Sz k (can q) := by
  subst hq
  refine ⟨fitQ_small (lt_up h1 hk) (lt_up h2 hk) hE, (frac neg S E).den_nz, ?_, ?_⟩
  · show (frac neg S E).num.natAbs < pw k
    rw [frac_abs hE]; exact Nat.lt_of_le_of_lt (Nat.div_le_self _ _) h1
  · show (frac neg S E).den < pw k
    rw [frac_den hE]; exact Nat.lt_of_le_of_lt (Nat.div_le_self _ _) h2
theorem add_sz {i j : Nat} {x y : Tri} (hx : Sz i x) (hy : Sz j y) (h : i + j + 1 ≤ 128) : addF x y = (can (qv x + qv y), 0) ∧ Sz (i + j + 1) (can (qv x + qv y)) := by
  have ox := hx.ok (by omega)
  have oy := hy.ok (by omega)
  have e : addF x y = fitQ (qv x + qv y) := by unfold addF; rw [if_pos ⟨ox, oy⟩]
  rw [e]
  obtain ⟨x1, x2, x3⟩ := hx
  obtain ⟨y1, y2, y3⟩ := hy
  have hE := Nat.mul_ne_zero x1 y1
  have e1 : qv x = frac x.1 (x.2.1 * y.2.2) (x.2.2 * y.2.2) := by unfold qv; rw [frac_scale y1]
  have e2 : qv y = frac y.1 (y.2.1 * x.2.2) (x.2.2 * y.2.2) := by unfold qv; rw [Nat.mul_comm x.2.2 y.2.2, frac_scale x1]
  have b1 : x.2.1 * y.2.2 < pw (i + j) := lt_mul x2 y3
  have b2 : y.2.1 * x.2.2 < pw (i + j) := by rw [Nat.add_comm]; exact lt_mul y2 x3
  have b3 : x.2.2 * y.2.2 < pw (i + j + 1) := lt_up (lt_mul x3 y3) (by omega)
  have b4 := lt_add b1 b2
  have b5 := lt_up b1 (show i + j ≤ i + j + 1 by omega)
  have b6 := lt_up b2 (show i + j ≤ i + j + 1 by omega)
  rw [e1, e2]
  by_cases c : x.1 = y.1
  · rw [← c]; exact fit_of (sum_same hE) hE b4 b3 h
  · rcases Nat.le_total (y.2.1 * x.2.2) (x.2.1 * y.2.2) with hl | hl
    · exact fit_of (sum_ge hE c hl) hE (Nat.lt_of_le_of_lt (Nat.sub_le _ _) b5) b3 h
    · exact fit_of (sum_lt hE c hl) hE (Nat.lt_of_le_of_lt (Nat.sub_le _ _) b6) b3 h
theorem mul_sz {i j : Nat} {x y : Tri} (hx : Sz i x) (hy : Sz j y) (h : i + j ≤ 128) : mulF x y = (can (qv x * qv y), 0) ∧ Sz (i + j) (can (qv x * qv y)) := by
  have e : mulF x y = fitQ (qv x * qv y) := by unfold mulF; rw [if_pos ⟨hx.ok (by omega), hy.ok (by omega)⟩]
  rw [e]
  exact fit_of (by unfold qv; rw [frac_mul]) (Nat.mul_ne_zero hx.1 hy.1) (lt_mul hx.2.1 hy.2.1) (lt_mul hx.2.2 hy.2.2) h
theorem quo_sz {i j : Nat} {x y : Tri} (hx : Sz i x) (hy : Sz j y) (h0 : y.2.1 ≠ 0) (h : i + j ≤ 128) : quoF x y = (can (qv x / qv y), 0) ∧ Sz (i + j) (can (qv x / qv y)) := by
  have e : quoF x y = fitQ (qv x / qv y) := by unfold quoF; rw [if_pos ⟨hx.ok (by omega), hy.ok (by omega)⟩, if_neg h0]
  rw [e]
  exact fit_of (by unfold qv; rw [frac_quo h0 hy.1]) (Nat.mul_ne_zero hx.1 h0) (lt_mul hx.2.1 hy.2.2) (lt_mul hx.2.2 hy.2.1) h
theorem red_sz {i : Nat} {x : Tri} (hx : Sz i x) (h : i ≤ 128) : redF x = (can (qv x), 0) ∧ Sz i (can (qv x)) := by
  have e : redF x = fitQ (qv x) := by unfold redF; rw [if_pos (hx.ok h)]
  rw [e]
  exact fit_of rfl hx.1 hx.2.1 hx.2.2 h
theorem can_zero_iff {q : Rat} : (can q).2.1 = 0 ↔ q = 0 := by
  show q.num.natAbs = 0 ↔ q = 0
  rw [Int.natAbs_eq_zero, Rat.num_eq_zero]

theorem cmpQ_bound (p q : Rat) : -1 ≤ cmpQ p q ∧ cmpQ p q ≤ 1 := by unfold cmpQ; repeat' split <;> omega
theorem cmpQ_flip (p q : Rat) : cmpQ q p = -cmpQ p q := by unfold cmpQ; grind
theorem cmpQ_le {p q : Rat} : cmpQ p q ≤ 0 ↔ p ≤ q := by unfold cmpQ; grind
theorem cmpQ_ge {p q : Rat} : 0 ≤ cmpQ p q ↔ q ≤ p := by unfold cmpQ; grind
theorem cmpQ_add (p q r : Rat) : cmpQ (p + r) (q + r) = cmpQ p q := by unfold cmpQ; grind
theorem cmpQ_mul (p q r : Rat) : cmpQ (p * r) (q * r) = cmpQ p q * signQ r := by
  unfold signQ
  rcases (by grind : r < 0 ∨ r = 0 ∨ 0 < r) with h | h | h
  · rw [cmpQ_lt h]
    have h' : 0 < -r := by grind
    have e1 := Rat.mul_lt_mul_right (a := p) (b := q) h'
    have e2 := Rat.mul_lt_mul_right (a := q) (b := p) h'
    rw [Rat.mul_neg, Rat.mul_neg, Rat.neg_lt_neg_iff] at e1 e2
    unfold cmpQ; grind
  · subst h
    rw [cmpQ_eq rfl, Rat.mul_zero, Rat.mul_zero, cmpQ_eq rfl, Int.mul_zero]
  · rw [cmpQ_gt h, Int.mul_one]
    have e1 := Rat.mul_lt_mul_right (a := p) (b := q) h
    have e2 := Rat.mul_lt_mul_right (a := q) (b := p) h
    unfold cmpQ; grind
end Go.Proofs.YtbeoeackahmpbaaGreatDoor

namespace Go.Proofs.YtbeoeackahmpbaaGreatDoor
open NatM

/-- The sum of a list. -/
def sumQ : List Tri → Rat
  | [] => 0
  | x :: l => qv x + sumQ l
/-- A total, to which a list is added from the first to the last. -/
def sumF (t : Tri) : List Tri → Tri × Nat
  | [] => (t, 0)
  | x :: l => if (addF t x).2 = 0 then sumF (addF t x).1 l else ((false, 0, 0), (addF t x).2)
theorem sumQ_append (a b : List Tri) : sumQ (a ++ b) = sumQ a + sumQ b := by
  induction a with
  | nil => rw [List.nil_append, sumQ, Rat.zero_add]
  | cons x l h => rw [List.cons_append, sumQ, sumQ, h, Rat.add_assoc]
theorem sumF_append (a b : List Tri) : ∀ t, sumF t (a ++ b) = if (sumF t a).2 = 0 then sumF (sumF t a).1 b else ((false, 0, 0), (sumF t a).2) := by
  induction a with
  | nil => intro t; rw [List.nil_append, sumF, if_pos rfl]
  | cons x l h =>
    intro t
    rw [List.cons_append, sumF, sumF]
    by_cases c : (addF t x).2 = 0
    · rw [if_pos c, if_pos c, h]
    · rw [if_neg c, if_neg c, if_neg c]
/-- Of valid fractions of at most 8 limbs: the sum, in lowest terms. -/
theorem sumF_ok : ∀ (L : List Tri) (q : Rat) (i : Nat), Sz i (can q) → (∀ x ∈ L, Sz 8 x) → i + 9 * L.length ≤ 128 →
    sumF (can q) L = (can (q + sumQ L), 0) ∧ Sz (i + 9 * L.length) (can (q + sumQ L))
  | [], q, i, hi, _, _ => by
    rw [sumF, sumQ, Rat.add_zero]; exact ⟨rfl, hi⟩
  | x :: l, q, i, hi, hL, h => by
    rw [List.length_cons] at h
    obtain ⟨e, z⟩ := add_sz hi (hL x (by simp)) (by omega)
    rw [qv_can] at e z
    have := sumF_ok l (q + qv x) (i + 8 + 1) z (fun y hy => hL y (by simp [hy])) (by omega)
    rw [sumF, e, if_pos rfl, sumQ, ← Rat.add_assoc, List.length_cons]
    exact ⟨this.1, this.2.up (by omega)⟩
/-- One of them isn't valid: ErrArg. -/
theorem sumF_bad : ∀ (L : List Tri) (q : Rat) (i : Nat), Sz i (can q) → (∀ x ∈ L, x.2.1 < pw 8 ∧ x.2.2 < pw 8) → i + 9 * L.length ≤ 128 → (∃ x ∈ L, okF x = false) →
    sumF (can q) L = ((false, 0, 0), 1)
  | [], _, _, _, _, _, h => by obtain ⟨x, h, -⟩ := h; cases h
  | x :: l, q, i, hi, hL, h, hx => by
    rw [List.length_cons] at h
    rw [sumF]
    have hb := hL x (by simp)
    by_cases c : okF x = true
    · have z8 : Sz 8 x := ⟨(okF_iff.1 c).1, hb⟩
      obtain ⟨e, z⟩ := add_sz hi z8 (by omega)
      rw [qv_can] at e z
      rw [e, if_pos rfl]
      refine sumF_bad l (q + qv x) (i + 8 + 1) z (fun y hy => hL y (by simp [hy])) (by omega) ?_
      obtain ⟨y, hy, hn⟩ := hx
      rcases List.mem_cons.1 hy with rfl | hy
      · rw [c] at hn; cases hn
      · exact ⟨y, hy, hn⟩
    · have e : addF (can q) x = ((false, 0, 0), 1) := by unfold addF; rw [if_neg fun h => c h.2]
      rw [e, if_neg (by decide)]
theorem can0 : can 0 = (false, 0, 1) := rfl
theorem sz0 : Sz 1 (can 0) := ⟨by rw [can0]; decide, by rw [can0]; decide, by rw [can0]; decide⟩
end Go.Proofs.YtbeoeackahmpbaaGreatDoor
