/- The reference's plus and minus. -/
import Derived.Test.YtifpfoeecnkhoaaGreatDoorR1
namespace Go.Proofs.YtifpfoeecnkhoaaGreatDoor
open Go.RowKit NatM

/-- k limbs of the sum are laid, c is the carry. -/
def PlusAt (xs ys zs : List Nat) (c : Nat) : Prop := val zs + pw zs.length * c = val (xs.take zs.length) + val (ys.take zs.length)
theorem plusAt_zero (xs ys : List Nat) : PlusAt xs ys [] 0 := by simp [PlusAt, val]
theorem plusAt_step {xs ys zs : List Nat} {c s c' : Nat} (h : PlusAt xs ys zs c) (e : s + 4294967296 * c' = c + xs.getD zs.length 0 + ys.getD zs.length 0) : PlusAt xs ys (zs ++ [s]) c' := by
  unfold PlusAt at *
  rw [List.length_append, List.length_singleton, val_append, val_take_succ, val_take_succ, pw_succ]
  simp only [val, Nat.mul_zero, Nat.add_zero]
  have e2 : pw zs.length * s + 4294967296 * pw zs.length * c' = pw zs.length * (s + 4294967296 * c') := by rw [Nat.mul_add, Nat.mul_comm 4294967296 (pw zs.length), Nat.mul_assoc]
  have e3 : pw zs.length * (c + xs.getD zs.length 0 + ys.getD zs.length 0) = pw zs.length * c + pw zs.length * xs.getD zs.length 0 + pw zs.length * ys.getD zs.length 0 := by rw [Nat.mul_add, Nat.mul_add]
  rw [e, e3] at e2
  omega
theorem plusAt_top {xs ys zs : List Nat} {c m : Nat} (h : PlusAt xs ys zs c) (hx : Limbs xs) (hy : Limbs ys) (h1 : xs.length ≤ m) (h2 : ys.length ≤ m) (h3 : zs.length = m + 1) : c = 0 := by
  unfold PlusAt at h
  rw [List.take_of_length_le (by omega), List.take_of_length_le (by omega), h3] at h
  have a1 := Nat.lt_of_lt_of_le (val_lt hx) (pw_le h1)
  have a2 := Nat.lt_of_lt_of_le (val_lt hy) (pw_le h2)
  have a3 := pw_succ m
  rcases Nat.eq_zero_or_pos c with h0 | h0
  · exact h0
  · have : pw (m + 1) * 1 ≤ pw (m + 1) * c := Nat.mul_le_mul_left _ h0
    omega
theorem plusAt_done {xs ys zs : List Nat} (h : PlusAt xs ys zs 0) (h1 : xs.length ≤ zs.length) (h2 : ys.length ≤ zs.length) : val zs = val xs + val ys := by
  unfold PlusAt at h
  rw [List.take_of_length_le (by omega), List.take_of_length_le (by omega)] at h
  omega

/-- What the loop of plus keeps. -/
def PlusSt (w : World) (xs ys : List Nat) (out carry i : Value) (wr : World) : Prop :=
  ∃ (zs : List Nat) (c : Nat), carry = .int .u64 (c : Nat) ∧ c ≤ 1 ∧ i = .int .i64 (zs.length : Nat) ∧ OwnL wr w.heap.size out zs ∧ Limbs zs ∧ PlusAt xs ys zs c ∧ zs.length ≤ max xs.length ys.length + 1 ∧ Add w wr

set_option maxRecDepth 100000 in
set_option maxHeartbeats 4000000 in
theorem refPlus_any (va vb : Value) (xs ys : List Nat) (w : World) (ha : Reads w va xs) (hb : Reads w vb ys) (hs : xs.length ≤ 900000) (hs' : ys.length ≤ 900000) :
    Calls Tryz.prog 87 #[va, vb] w (RetO w (val xs + val ys)) := by
  obtain ⟨i0, hi, hz0, hz1, hz2⟩ := info_parts info77
  have hst : PlusSt w xs ys (.slice none 0 0) (.int .u64 0) (.int .i64 0) w := ⟨[], 0, rfl, by decide, rfl, OwnL.nil _ _, Limbs.nil, plusAt_zero _ _, by simp, Below.refl _ _⟩
  obtain ⟨aa, na, ca, rfl, hla, hca, hma, hxa, hra⟩ := id ha
  obtain ⟨ab, nb', cb, rfl, hlb, hcb, hmb, hxb, hrb⟩ := id hb
  have HLA := Lib.hid hla
  have HLB := Lib.hid hlb
  have HRA := Lib.hid ha
  have HRB := Lib.hid hb
  have hna : na ≤ 900000 := by omega
  have hnb : nb' ≤ 900000 := by omega
  clear hla hlb hca hcb hma hmb hra hrb ha hb hs hs'
  go_enter Tryz.func87, Tryz.ntmps87
  go_wp2_with fail
  go_loopg [5, 6, 7] (max na nb' + 2) (fun r out carry i wr => ∃ ov : Value, ov = out ∧ PlusSt w xs ys ov carry i wr ∧ ∃ k : Nat, i = .int .i64 (k : Nat) ∧ k + r = max na nb' + 2)
  case atStart => exact ⟨_, rfl, hst, 0, rfl, by omega⟩
  case round =>
    clear hst
    obtain ⟨ov, rfl, ⟨zs, c, rfl, hc, hie, hown, hzl, hat, hzb, hadd⟩, k, rfl, hkr⟩ := hrel
    have hk : zs.length = k := by have := hie; simp at this; omega
    clear hie
    rw [HLA.out, HLB.out] at hzb
    have hkb : k ≤ max na nb' + 1 := by omega
    have HK := Lib.hid hk
    have HAT := Lib.hid hat
    obtain ⟨x, hxe⟩ : ∃ x, x = xs.getD k 0 := ⟨_, rfl⟩
    obtain ⟨y, hye⟩ : ∃ y, y = ys.getD k 0 := ⟨_, rfl⟩
    have hxl : x < 4294967296 := by rw [hxe]; exact hxa.getD _
    have hyl : y < 4294967296 := by rw [hye]; exact hxb.getD _
    have HXE := Lib.hid hxe
    have HYE := Lib.hid hye
    clear hat hk hzb hxe hye
    by_cases ca : k < na
    · have da : decide (k < na) = true := decide_eq_true ca
      by_cases cb : k < nb'
      · have db : decide (k < nb') = true := decide_eq_true cb
        obtain ⟨b1, o1, rfl, hc1⟩ := (HRA.out.mono hadd).cell ca
        rw [← HXE.out] at hc1
        obtain ⟨b2, o2, rfl, hc2⟩ := (HRB.out.mono hadd).cell cb
        rw [← HYE.out] at hc2
        obtain ⟨s, hs⟩ : ∃ s, s = c + x + y := ⟨_, rfl⟩
        obtain ⟨lo, hlo⟩ : ∃ lo, lo = s % 4294967296 := ⟨_, rfl⟩
        obtain ⟨c', hc'⟩ : ∃ c', c' = s / 4294967296 := ⟨_, rfl⟩
        have hse : lo + 4294967296 * c' = c + x + y := by omega
        have HSE := Lib.hid hse
        have hc1' : c' ≤ 1 := by omega
        have hlol : lo < 4294967296 := by omega
        have e1 : ((c : Int) + (x : Int) + (y : Int)) % 4294967296 = ((lo : Nat) : Int) := by omega
        have e2 : ((c : Int) + (x : Int) + (y : Int)) / 4294967296 = ((c' : Nat) : Int) := by omega
        have hkm : k < max na nb' + 1 := by omega
        clear hse hlo hc' hs
        go_wp2_with (at_builtin; refine wpList_append_own _ rfl _ _ 23 rfl w.heap.size 77 i0 (.int .u32 0) 1 4 Tryz.underlying23 hi hz0 hz1 hz2 rfl (by decide) _ _ _ rfl (World.ownsRow.alloc hown _) ⟨wr.heap.size, 0, none⟩ 1 1 [_] rfl rfl (cell_one_new _ _ _) (by intro u hu; simp at hu; subst hu; rfl) (by have := HK.out; unfold maxLen; omega) (by have := HK.out; omega) (by have := hadd.size; simp; omega) ?_)
        intro v' w3 hown3 hgr3 _
        have hown4 : OwnL w3 w.heap.size v' (zs ++ [lo]) := OwnL.grown hown3 rfl rfl
        have hadd4 : Add w w3 := Below.grown (Below.alloc hadd hadd.size _) hgr3 (by have := hadd.size; simp; omega) (fun k hk => (World.ownsRow.lt hown k hk).1)
        have hst4 : PlusSt w xs ys v' (.int .u64 (c' : Nat)) (.int .i64 (k + 1 : Nat)) w3 := ⟨zs ++ [lo], c', rfl, hc1', by rw [List.length_append, HK.out]; rfl, hown4, hzl.append (Limbs.cons hlol Limbs.nil), plusAt_step HAT.out (by rw [HK.out, ← HXE.out, ← HYE.out]; exact HSE.out), by rw [List.length_append, HK.out, HLA.out, HLB.out]; simp; omega, hadd4⟩
        clear hown3 hgr3 hown hadd hown4 hadd4
        go_wp2_with fail
        go_roundg (gk - 1)
        case measure => omega
        case rel => exact ⟨v', rfl, hst4, k + 1, by go_num, by omega⟩
      · have db : decide (k < nb') = false := decide_eq_false cb
        obtain ⟨b1, o1, rfl, hc1⟩ := (HRA.out.mono hadd).cell ca
        rw [← HXE.out] at hc1
        have hy0 : y = 0 := by rw [HYE.out]; simp [List.getD, List.getElem?_eq_none (show ys.length ≤ k by rw [HLB.out]; omega)]
        obtain ⟨s, hs⟩ : ∃ s, s = c + x + y := ⟨_, rfl⟩
        obtain ⟨lo, hlo⟩ : ∃ lo, lo = s % 4294967296 := ⟨_, rfl⟩
        obtain ⟨c', hc'⟩ : ∃ c', c' = s / 4294967296 := ⟨_, rfl⟩
        have hse : lo + 4294967296 * c' = c + x + y := by omega
        have HSE := Lib.hid hse
        have hc1' : c' ≤ 1 := by omega
        have hlol : lo < 4294967296 := by omega
        have e1 : ((c : Int) + (x : Int)) % 4294967296 = ((lo : Nat) : Int) := by omega
        have e2 : ((c : Int) + (x : Int)) / 4294967296 = ((c' : Nat) : Int) := by omega
        have hkm : k < max na nb' + 1 := by omega
        clear hse hlo hc' hs hy0
        go_wp2_with (at_builtin; refine wpList_append_own _ rfl _ _ 23 rfl w.heap.size 77 i0 (.int .u32 0) 1 4 Tryz.underlying23 hi hz0 hz1 hz2 rfl (by decide) _ _ _ rfl (World.ownsRow.alloc hown _) ⟨wr.heap.size, 0, none⟩ 1 1 [_] rfl rfl (cell_one_new _ _ _) (by intro u hu; simp at hu; subst hu; rfl) (by have := HK.out; unfold maxLen; omega) (by have := HK.out; omega) (by have := hadd.size; simp; omega) ?_)
        intro v' w3 hown3 hgr3 _
        have hown4 : OwnL w3 w.heap.size v' (zs ++ [lo]) := OwnL.grown hown3 rfl rfl
        have hadd4 : Add w w3 := Below.grown (Below.alloc hadd hadd.size _) hgr3 (by have := hadd.size; simp; omega) (fun k hk => (World.ownsRow.lt hown k hk).1)
        have hst4 : PlusSt w xs ys v' (.int .u64 (c' : Nat)) (.int .i64 (k + 1 : Nat)) w3 := ⟨zs ++ [lo], c', rfl, hc1', by rw [List.length_append, HK.out]; rfl, hown4, hzl.append (Limbs.cons hlol Limbs.nil), plusAt_step HAT.out (by rw [HK.out, ← HXE.out, ← HYE.out]; exact HSE.out), by rw [List.length_append, HK.out, HLA.out, HLB.out]; simp; omega, hadd4⟩
        clear hown3 hgr3 hown hadd hown4 hadd4
        go_wp2_with fail
        go_roundg (gk - 1)
        case measure => omega
        case rel => exact ⟨v', rfl, hst4, k + 1, by go_num, by omega⟩
    · have da : decide (k < na) = false := decide_eq_false ca
      by_cases cb : k < nb'
      · have db : decide (k < nb') = true := decide_eq_true cb
        have hx0 : x = 0 := by rw [HXE.out]; simp [List.getD, List.getElem?_eq_none (show xs.length ≤ k by rw [HLA.out]; omega)]
        obtain ⟨b2, o2, rfl, hc2⟩ := (HRB.out.mono hadd).cell cb
        rw [← HYE.out] at hc2
        obtain ⟨s, hs⟩ : ∃ s, s = c + x + y := ⟨_, rfl⟩
        obtain ⟨lo, hlo⟩ : ∃ lo, lo = s % 4294967296 := ⟨_, rfl⟩
        obtain ⟨c', hc'⟩ : ∃ c', c' = s / 4294967296 := ⟨_, rfl⟩
        have hse : lo + 4294967296 * c' = c + x + y := by omega
        have HSE := Lib.hid hse
        have hc1' : c' ≤ 1 := by omega
        have hlol : lo < 4294967296 := by omega
        have e1 : ((c : Int) + (y : Int)) % 4294967296 = ((lo : Nat) : Int) := by omega
        have e2 : ((c : Int) + (y : Int)) / 4294967296 = ((c' : Nat) : Int) := by omega
        have hkm : k < max na nb' + 1 := by omega
        clear hse hlo hc' hs hx0
        go_wp2_with (at_builtin; refine wpList_append_own _ rfl _ _ 23 rfl w.heap.size 77 i0 (.int .u32 0) 1 4 Tryz.underlying23 hi hz0 hz1 hz2 rfl (by decide) _ _ _ rfl (World.ownsRow.alloc hown _) ⟨wr.heap.size, 0, none⟩ 1 1 [_] rfl rfl (cell_one_new _ _ _) (by intro u hu; simp at hu; subst hu; rfl) (by have := HK.out; unfold maxLen; omega) (by have := HK.out; omega) (by have := hadd.size; simp; omega) ?_)
        intro v' w3 hown3 hgr3 _
        have hown4 : OwnL w3 w.heap.size v' (zs ++ [lo]) := OwnL.grown hown3 rfl rfl
        have hadd4 : Add w w3 := Below.grown (Below.alloc hadd hadd.size _) hgr3 (by have := hadd.size; simp; omega) (fun k hk => (World.ownsRow.lt hown k hk).1)
        have hst4 : PlusSt w xs ys v' (.int .u64 (c' : Nat)) (.int .i64 (k + 1 : Nat)) w3 := ⟨zs ++ [lo], c', rfl, hc1', by rw [List.length_append, HK.out]; rfl, hown4, hzl.append (Limbs.cons hlol Limbs.nil), plusAt_step HAT.out (by rw [HK.out, ← HXE.out, ← HYE.out]; exact HSE.out), by rw [List.length_append, HK.out, HLA.out, HLB.out]; simp; omega, hadd4⟩
        clear hown3 hgr3 hown hadd hown4 hadd4
        go_wp2_with fail
        go_roundg (gk - 1)
        case measure => omega
        case rel => exact ⟨v', rfl, hst4, k + 1, by go_num, by omega⟩
      · have db : decide (k < nb') = false := decide_eq_false cb
        by_cases hc0 : c = 0
        · subst hc0
          have hv := plusAt_done HAT.out (by rw [HK.out, HLA.out]; omega) (by rw [HK.out, HLB.out]; omega)
          have hrd := hown.reads hzl
          have HT := Lib.hid (refTrim_any ov zs wr hrd (by rw [HK.out]; omega))
          rw [hv] at HT
          clear hown hv hrd hzl
          go_wp2_with fail
          refine HT.out.mono ?_
          rintro e w4 ⟨v4, rfl, h4, hadd4⟩
          have hF : RetO w (val xs + val ys) (.returned v4) w4 := ⟨v4, rfl, h4.base hadd.size, Add.trans hadd hadd4⟩
          clear h4 hadd4 hadd
          go_wp2_with fail
          go_ret
          exact hF
        · have hcp : decide ((0 : Int) < (c : Nat)) = true := by simp; omega
          have hx0 : x = 0 := by rw [HXE.out]; simp [List.getD, List.getElem?_eq_none (show xs.length ≤ k by rw [HLA.out]; omega)]
          have hy0 : y = 0 := by rw [HYE.out]; simp [List.getD, List.getElem?_eq_none (show ys.length ≤ k by rw [HLB.out]; omega)]
          obtain ⟨s, hs⟩ : ∃ s, s = c + x + y := ⟨_, rfl⟩
          obtain ⟨lo, hlo⟩ : ∃ lo, lo = s % 4294967296 := ⟨_, rfl⟩
          obtain ⟨c', hc'⟩ : ∃ c', c' = s / 4294967296 := ⟨_, rfl⟩
          have hse : lo + 4294967296 * c' = c + x + y := by omega
          have HSE := Lib.hid hse
          have hc1' : c' ≤ 1 := by omega
          have hlol : lo < 4294967296 := by omega
          have e1 : ((c : Int)) % 4294967296 = ((lo : Nat) : Int) := by omega
          have e2 : ((c : Int)) / 4294967296 = ((c' : Nat) : Int) := by omega
          have hkm : k < max na nb' + 1 := by 
            rcases Nat.lt_or_ge k (max na nb' + 1) with h | h
            · exact h
            · exact absurd (plusAt_top (m := max na nb') HAT.out hxa hxb (by rw [HLA.out]; omega) (by rw [HLB.out]; omega) (by rw [HK.out]; omega)) hc0
          have hlc : lo = c := by omega
          clear hse hlo hc' hs hx0 hy0
          go_wp2_with (at_builtin; refine wpList_append_own _ rfl _ _ 23 rfl w.heap.size 77 i0 (.int .u32 0) 1 4 Tryz.underlying23 hi hz0 hz1 hz2 rfl (by decide) _ _ _ rfl (World.ownsRow.alloc hown _) ⟨wr.heap.size, 0, none⟩ 1 1 [_] rfl rfl (cell_one_new _ _ _) (by intro u hu; simp at hu; subst hu; rfl) (by have := HK.out; unfold maxLen; omega) (by have := HK.out; omega) (by have := hadd.size; simp; omega) ?_)
          intro v' w3 hown3 hgr3 _
          have hown4 : OwnL w3 w.heap.size v' (zs ++ [lo]) := OwnL.grown hown3 (by rw [hlc]; rfl) rfl
          have hadd4 : Add w w3 := Below.grown (Below.alloc hadd hadd.size _) hgr3 (by have := hadd.size; simp; omega) (fun k hk => (World.ownsRow.lt hown k hk).1)
          have hst4 : PlusSt w xs ys v' (.int .u64 (c' : Nat)) (.int .i64 (k + 1 : Nat)) w3 := ⟨zs ++ [lo], c', rfl, hc1', by rw [List.length_append, HK.out]; rfl, hown4, hzl.append (Limbs.cons hlol Limbs.nil), plusAt_step HAT.out (by rw [HK.out, ← HXE.out, ← HYE.out]; exact HSE.out), by rw [List.length_append, HK.out, HLA.out, HLB.out]; simp; omega, hadd4⟩
          clear hown3 hgr3 hown hadd hown4 hadd4
          go_wp2_with fail
          go_roundg (gk - 1)
          case measure => omega
          case rel => exact ⟨v', rfl, hst4, k + 1, by go_num, by omega⟩
end Go.Proofs.YtifpfoeecnkhoaaGreatDoor
