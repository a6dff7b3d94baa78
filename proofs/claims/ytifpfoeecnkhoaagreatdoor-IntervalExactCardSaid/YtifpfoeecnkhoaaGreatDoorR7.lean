/- The reference's divide, for a divisor of one limb. -/
import Derived.Test.YtifpfoeecnkhoaaGreatDoorR6
namespace Go.Proofs.YtifpfoeecnkhoaaGreatDoor
open Go.RowKit NatM Go.Proofs.YtifpfoeecnkhoaaGreatDoor.Api

/-- The limbs from k on are divided by d, r is the remainder. -/
def DivQ (xs zs : List Nat) (d k r : Nat) : Prop := zs.length = xs.length ∧ r < d ∧ val (xs.drop k) = d * val (zs.drop k) + r
theorem divQ_top (xs zs : List Nat) (d : Nat) (hd : 0 < d) (hl : zs.length = xs.length) : DivQ xs zs d xs.length 0 := by
  refine ⟨hl, hd, ?_⟩
  rw [List.drop_of_length_le (Nat.le_refl _), List.drop_of_length_le (by omega)]
  simp [val]
theorem divQ_step {xs zs : List Nat} {d j r q r' : Nat} (h : DivQ xs zs d (j + 1) r) (hj : j < xs.length) (hr : r' < d) (e : r * 4294967296 + xs.getD j 0 = d * q + r') : DivQ xs (zs.set j q) d j r' := by
  obtain ⟨hl, _, hv⟩ := h
  refine ⟨by simpa using hl, hr, ?_⟩
  have e1 : val (xs.drop j) = xs.getD j 0 + 4294967296 * val (xs.drop (j + 1)) := by
    rw [List.drop_eq_getElem_cons hj]; simp [val, List.getD, hj]
  rw [e1, drop_set_cons (by omega), hv, Nat.mul_add, Nat.mul_add]
  have e2 : d * (4294967296 * val (zs.drop (j + 1))) = 4294967296 * (d * val (zs.drop (j + 1))) := by rw [Nat.mul_left_comm]
  omega
theorem divQ_done {xs zs : List Nat} {d r : Nat} (h : DivQ xs zs d 0 r) : val zs = val xs / d ∧ r = val xs % d := by
  obtain ⟨_, hr, hv⟩ := h
  simp only [List.drop_zero] at hv
  rw [hv]
  have hd : 0 < d := by omega
  constructor
  · rw [Nat.mul_add_div hd, Nat.div_eq_of_lt hr, Nat.add_zero]
  · rw [Nat.mul_add_mod, Nat.mod_eq_of_lt hr]

/-- The quotient and the remainder, in rows of the call's own. -/
def DivO (w : World) (A B : Nat) (e : Ending) (w' : World) : Prop :=
  ∃ vq vr, e = .returned (.tuple #[vq, vr]) ∧ NumO w' w.heap.size vq (A / B) ∧ NumO w' w.heap.size vr (A % B) ∧ Add w w'

set_option maxRecDepth 100000 in
theorem refDivide_less (va vb : Value) (xs ys : List Nat) (w : World) (ha : Reads w va xs) (hb : Reads w vb ys) (hs : xs.length ≤ 100000) (hs' : ys.length ≤ 100000) (hlt : val xs < val ys) :
    Calls Tryz.prog 106 #[va, vb] w (DivO w (val xs) (val ys)) := by
  have hc0 : decide (cmpI (val xs) (val ys) < 0) = true := by rw [decide_eq_true_iff, cmp_neg]; omega
  have HC := Lib.hid (refCmp_any va vb xs ys w ha hb (by omega) (by omega))
  have HT := fun w1 (h : Add w w1) => Lib.hid (refTrim_any va xs w1 (ha.mono h) (by omega))
  have HQ : Hid (val xs / val ys = 0 ∧ val xs % val ys = val xs) := Lib.hid ⟨Nat.div_eq_of_lt hlt, Nat.mod_eq_of_lt hlt⟩
  clear hlt
  go_enter Tryz.func106, Tryz.ntmps106
  go_wp2_with fail
  refine HC.out.mono ?_; rintro e w1 ⟨rfl, h1⟩
  go_wp2_with fail
  refine (HT _ h1).out.mono ?_; rintro e w2 ⟨v, rfl, n2, h2⟩
  have hF : DivO w (val xs) (val ys) (.returned (.tuple #[.slice none 0 0, v])) w2 := by
    refine ⟨_, _, rfl, ?_, ?_, Add.trans h1 h2⟩
    · rw [HQ.out.1]; exact ⟨[], OwnL.nil _ _, Limbs.nil, Canon.nil, rfl⟩
    · rw [HQ.out.2]; exact n2.base h1.size
  clear n2 h1 h2
  go_wp2_with fail
  go_ret2
  exact hF

set_option maxRecDepth 100000 in
set_option maxHeartbeats 4000000 in
theorem refDivide_one (va vb : Value) (xs : List Nat) (d : Nat) (w : World) (ha : Reads w va xs) (hb : Reads w vb [d]) (hs : xs.length ≤ 100000) (hd : 0 < d) (hge : d ≤ val xs) :
    Calls Tryz.prog 106 #[va, vb] w (DivO w (val xs) d) := by
  obtain ⟨i0, hi, hz0, hz1, hz2⟩ := info_parts info77
  have hdv : val [d] = d := by simp [val]
  have hd' : d < 4294967296 := hb.limbs.head
  have hc0 : decide (cmpI (val xs) (val [d]) < 0) = false := by rw [decide_eq_false_iff_not, cmp_neg, hdv]; omega
  have HC := Lib.hid (refCmp_any va vb xs [d] w ha hb (by omega) (by simp))
  obtain ⟨aa, na, ca, rfl, hla, hca, hma, hxa, hra⟩ := id ha
  obtain ⟨ab, nb', cb, rfl, hlb, hcb, hmb, hxb, hrb⟩ := id hb
  obtain rfl : 1 = nb' := by simpa using hlb
  have HLA := Lib.hid hla
  have HRA := Lib.hid ha
  have HRB := Lib.hid hb
  have hna : na ≤ 100000 := by omega
  clear hla hlb hca hcb hma hmb hra hrb ha hb hs hge hdv
  go_enter Tryz.func106, Tryz.ntmps106
  go_wp2_with fail
  refine HC.out.mono ?_; rintro e w1 ⟨rfl, h1⟩
  clear HC
  go_wp2_with (at_make; refine wpList_make_full _ rfl _ _ 23 rfl w.heap.size 77 i0 (.int .u32 0) 1 Tryz.underlying23 hi hz0 hz1 _ _ _ _ na rfl rfl (by omega) (by omega) (by rw [hz2]; omega) (by unfold maxLen; omega) (h1.size) ?_)
  intro w2 hown hgr
  have h2 : Add w w2 := h1.grown hgr h1.size (by simp)
  obtain ⟨g, hg⟩ : ∃ g, g = w1.heap.size := ⟨_, rfl⟩
  rw [← hg] at hown ⊢
  have hown := Own.made hown
  have hrow := hown.row
  have hzl := hown.length
  have hgb : w.heap.size ≤ g := by rw [hg]; exact h1.size
  clear hgr hown h1 hg
  go_wp2_with fail
  go_loopw [7, 8] (fun rv iv wr => ∃ (k r : Nat) (zs : List Nat), k ≤ na ∧ iv = .int .i64 ((k : Int) - 1) ∧ rv = .int .u64 (r : Nat) ∧ r < d ∧ Row wr g zs ∧ Hid (Limbs zs) ∧ Hid (DivQ xs zs d k r) ∧ Add w wr) (fun _ iv _ => (intOf iv + 1).toNat)
  case atStart => exact ⟨na, 0, _, Nat.le_refl _, rfl, rfl, hd, hrow, Lib.hid (Limbs.replicate _), Lib.hid (by rw [← HLA.out]; exact divQ_top _ _ _ hd (by rw [HLA.out]; exact hzl)), h2⟩
  case round =>
    clear hrow hzl h2
    obtain ⟨k, r, zs, hk, rfl, rfl, hr, hrow, hzs, hdq, hadd⟩ := hrel
    have hzl : zs.length = na := by rw [hdq.out.1, HLA.out]
    by_cases h0 : k = 0
    · subst h0
      have hq := divQ_done hdq.out
      have HT := Lib.hid (refTrim_any _ _ wr (hrow.reads (m := na) (c := na) (by omega) (Nat.le_refl _) (by unfold maxLen; omega) hzs.out) (by rw [List.length_take]; omega))
      rw [List.take_of_length_le (by omega), hq.1] at HT
      have HQ := Lib.hid hq.2
      clear hq hdq hzs hrow hzl
      go_wp2_with fail
      refine HT.out.mono ?_; rintro e w3 ⟨vq, rfl, n3, h3⟩
      go_wp2_with fail
      refine (refMake_any _ _ (by omega) (by omega)).mono ?_; rintro e w4 ⟨vr, rfl, n4, h4⟩
      rw [Int.toNat_natCast] at n4
      have hF : DivO w (val xs) d (.returned (.tuple #[vq, vr])) w4 := ⟨_, _, rfl, (n3.below h4).base hadd.size, by rw [← HQ.out]; exact n4.base (Nat.le_trans hadd.size h3.size), Add.trans hadd (Add.trans h3 h4)⟩
      clear n3 n4 h3 h4 hadd HT
      go_wp2_with fail
      go_ret2
      exact hF
    · obtain ⟨j, rfl⟩ : ∃ j, k = j + 1 := ⟨k - 1, by omega⟩
      have hjn : j < na := by omega
      obtain ⟨x, hxe⟩ : ∃ x, x = xs.getD j 0 := ⟨_, rfl⟩
      have hxl : x < 4294967296 := by rw [hxe]; exact hxa.getD j
      obtain ⟨b1, o1, rfl, hc1⟩ := (HRA.out.mono hadd).cell hjn
      obtain ⟨b2, o2, rfl, hc2⟩ := (HRB.out.mono hadd).cell (k := 0) (by decide)
      rw [← hxe] at hc1
      have hc2' : wr.cell? ⟨b2, o2, none⟩ = some (.int .u32 (d : Nat)) := hc2
      obtain ⟨b2', o2', e2', hcW⟩ := HRB.out.cell (k := 0) (by decide)
      have hlt2 : b2 < g := by
        simp only [Option.some.injEq, Addr.mk.injEq, and_true] at e2'
        obtain ⟨rfl, rfl⟩ := e2'
        exact Nat.lt_of_lt_of_le (World.block_lt_of_cell? w _ hcW) hgb
      clear hcW e2'
      have hfree := hrow.free j
      have hcq := hrow.cell j (by omega)
      have hsp := div32_spec r x d hr hd' hxl
      obtain ⟨q, hqe⟩ : ∃ q, q = div32Q r x d := ⟨_, rfl⟩
      obtain ⟨r', hre⟩ : ∃ r', r' = div32R r x d := ⟨_, rfl⟩
      rw [← hqe, ← hre] at hsp
      obtain ⟨hs1, hs2, hs3⟩ := hsp
      obtain ⟨m, hm⟩ : ∃ m : Nat, m = r * 4294967296 + x := ⟨_, rfl⟩
      have h3 := join64 r x (by omega) hxl
      have hm1 : (r : Int) * 4294967296 + x = (m : Int) := by omega
      rw [hm1] at h3
      have hqi : (m : Int) / (d : Int) = (q : Int) := by rw [hqe, hm]; unfold div32Q; exact (Int.natCast_ediv _ _).symm
      have hri : (m : Int) % (d : Int) = (r' : Int) := by rw [hre, hm]; unfold div32R; exact (Int.natCast_emod _ _).symm
      have hdz : ((d : Int) == 0) = false := by simp; omega
      have hm64 : m < 18446744073709551616 := by omega
      have hstep := Lib.hid (divQ_step hdq.out (by rw [HLA.out]; exact hjn) hs2 (by rw [← hxe]; exact hs3))
      have HX := Lib.hid hxe
      have hb' : Below g wr (wr.setCell ⟨g, j, none⟩ (.int .u32 (q : Nat))) := (Below.refl g wr).setCell (p := ⟨g, j, none⟩) (Nat.le_refl g) _
      have hc3 : (wr.setCell ⟨g, j, none⟩ (.int .u32 (q : Nat))).cell? ⟨b2, o2, none⟩ = some (.int .u32 (d : Nat)) := (hb'.cell (p := ⟨b2, o2, none⟩) hlt2).trans hc2'
      clear hb' hlt2
      clear hc2 hdq hxe hqe hre hs3 hm hm1
      go_wp2_with fail
      go_roundw
      case rel => exact ⟨j, r', zs.set j q, by omega, by go_num, by rw [hri], hs2, hrow.set _ _, Lib.hid (hzs.out.set _ _ hs1), hstep, hadd.setCell hgb _⟩
      case measure => simp [intOf]
end Go.Proofs.YtifpfoeecnkhoaaGreatDoor
