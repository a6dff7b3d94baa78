/- The reference's minus. -/
import Derived.Test.YtifpfoeecnkhoaaGreatDoorR2
namespace Go.Proofs.YtifpfoeecnkhoaaGreatDoor
open Go.RowKit NatM

/-- k limbs of the difference are laid, c is the borrow. -/
def MinusAt (xs ys zs : List Nat) (c : Nat) : Prop := val zs + val (ys.take zs.length) = val (xs.take zs.length) + pw zs.length * c
theorem minusAt_zero (xs ys : List Nat) : MinusAt xs ys [] 0 := by simp [MinusAt, val]
theorem minusAt_step {xs ys zs : List Nat} {c s c' : Nat} (h : MinusAt xs ys zs c) (e : s + c + ys.getD zs.length 0 = xs.getD zs.length 0 + 4294967296 * c') : MinusAt xs ys (zs ++ [s]) c' := by
  unfold MinusAt at *
  rw [List.length_append, List.length_singleton, val_append, val_take_succ, val_take_succ, pw_succ]
  simp only [val, Nat.mul_zero, Nat.add_zero]
  have e2 : pw zs.length * xs.getD zs.length 0 + 4294967296 * pw zs.length * c' = pw zs.length * (xs.getD zs.length 0 + 4294967296 * c') := by rw [Nat.mul_add, Nat.mul_comm 4294967296 (pw zs.length), Nat.mul_assoc]
  have e3 : pw zs.length * (s + c + ys.getD zs.length 0) = pw zs.length * s + pw zs.length * c + pw zs.length * ys.getD zs.length 0 := by rw [Nat.mul_add, Nat.mul_add]
  rw [← e, e3] at e2
  omega
theorem minusAt_done {xs ys zs : List Nat} {c : Nat} (h : MinusAt xs ys zs c) (hx : Limbs xs) (hz : Limbs zs) (h1 : zs.length = xs.length) (hle : val ys ≤ val xs) : val zs = val xs - val ys := by
  unfold MinusAt at h
  rw [h1, List.take_of_length_le (Nat.le_refl _)] at h
  have a1 := val_lt hx
  have a2 := val_lt hz
  rw [h1] at a2
  have e : val (ys.take xs.length) = val ys := by
    rcases Nat.lt_or_ge ys.length xs.length with g | g
    · rw [List.take_of_length_le (by omega)]
    · have h2 := val_take_drop ys xs.length g
      rcases Nat.eq_zero_or_pos (val (ys.drop xs.length)) with h3 | h3
      · rw [h3, Nat.mul_zero] at h2; omega
      · have : pw xs.length * 1 ≤ pw xs.length * val (ys.drop xs.length) := Nat.mul_le_mul_left _ h3
        omega
  rw [e] at h
  rcases Nat.eq_zero_or_pos c with h0 | h0
  · subst h0; omega
  · have : pw xs.length * 1 ≤ pw xs.length * c := Nat.mul_le_mul_left _ h0
    omega

/-- What the loop of minus keeps. -/
def MinusSt (w : World) (xs ys : List Nat) (out carry i : Value) (wr : World) : Prop :=
  ∃ (zs : List Nat) (c : Nat), carry = .int .u64 (c : Nat) ∧ c ≤ 1 ∧ i = .int .i64 (zs.length : Nat) ∧ OwnL wr w.heap.size out zs ∧ Limbs zs ∧ MinusAt xs ys zs c ∧ zs.length ≤ xs.length ∧ Add w wr

set_option maxRecDepth 100000 in
set_option maxHeartbeats 4000000 in
theorem refMinus_any (va vb : Value) (xs ys : List Nat) (w : World) (ha : Reads w va xs) (hb : Reads w vb ys) (hs : xs.length ≤ 900000) (hs' : ys.length ≤ 900000) (hle : val ys ≤ val xs) :
    Calls Tryz.prog 91 #[va, vb] w (RetO w (val xs - val ys)) := by
  obtain ⟨i0, hi, hz0, hz1, hz2⟩ := info_parts info77
  have hst : MinusSt w xs ys (.slice none 0 0) (.int .u64 0) (.int .i64 0) w := ⟨[], 0, rfl, by decide, rfl, OwnL.nil _ _, Limbs.nil, minusAt_zero _ _, by simp, Below.refl _ _⟩
  obtain ⟨aa, na, ca, rfl, hla, hca, hma, hxa, hra⟩ := id ha
  obtain ⟨ab, nb', cb, rfl, hlb, hcb, hmb, hxb, hrb⟩ := id hb
  have HLA := Lib.hid hla
  have HLB := Lib.hid hlb
  have HRA := Lib.hid ha
  have HRB := Lib.hid hb
  have HLE := Lib.hid hle
  have hna : na ≤ 900000 := by omega
  have hnb : nb' ≤ 900000 := by omega
  clear hla hlb hca hcb hma hmb hra hrb ha hb hs hs' hle
  go_enter Tryz.func91, Tryz.ntmps91
  go_wp2_with fail
  go_loopg [5, 6, 7] na (fun r out carry i wr => ∃ ov : Value, ov = out ∧ MinusSt w xs ys ov carry i wr ∧ ∃ k : Nat, i = .int .i64 (k : Nat) ∧ k + r = na)
  case atStart => exact ⟨_, rfl, hst, 0, rfl, by omega⟩
  case round =>
    clear hst
    obtain ⟨ov, rfl, ⟨zs, c, rfl, hc, hie, hown, hzl, hat, hzb, hadd⟩, k, rfl, hkr⟩ := hrel
    have hk : zs.length = k := by have := hie; simp at this; omega
    clear hie
    rw [HLA.out] at hzb
    have HK := Lib.hid hk
    have HAT := Lib.hid hat
    obtain ⟨x, hxe⟩ : ∃ x, x = xs.getD k 0 := ⟨_, rfl⟩
    obtain ⟨y, hye⟩ : ∃ y, y = ys.getD k 0 := ⟨_, rfl⟩
    have hxl : x < 4294967296 := by rw [hxe]; exact hxa.getD _
    have hyl : y < 4294967296 := by rw [hye]; exact hxb.getD _
    have HXE := Lib.hid hxe
    have HYE := Lib.hid hye
    clear hat hk hzb hxe hye
    by_cases ca : k < na
    · have da : decide (k < na) = true := decide_eq_true ca
      obtain ⟨b1, o1, rfl, hc1⟩ := (HRA.out.mono hadd).cell ca
      rw [← HXE.out] at hc1
      by_cases cb : k < nb'
      · have db : decide (k < nb') = true := decide_eq_true cb
        by_cases cxy : x < c + y
        · obtain ⟨b2, o2, rfl, hc2⟩ := (HRB.out.mono hadd).cell cb
          rw [← HYE.out] at hc2
          obtain ⟨lo, hlo⟩ : ∃ lo, lo = x + 4294967296 * 1 - (c + y) := ⟨_, rfl⟩
          have hse : lo + c + y = x + 4294967296 * 1 := by omega
          have HSE := Lib.hid hse
          have hlol : lo < 4294967296 := by omega
          have e1 : (((x : Int) + 4294967296) - ((c : Int) + (y : Int))) % 4294967296 = ((lo : Nat) : Int) := by omega
          have hlt : decide ((x : Int) < ((c : Int) + (y : Int))) = true := by simp; omega
          clear hse hlo cxy
          go_wp2_with (at_builtin; refine wpList_append_own _ rfl _ _ 23 rfl w.heap.size 77 i0 (.int .u32 0) 1 4 Tryz.underlying23 hi hz0 hz1 hz2 rfl (by decide) _ _ _ rfl (World.ownsRow.alloc hown _) ⟨wr.heap.size, 0, none⟩ 1 1 [_] rfl rfl (cell_one_new _ _ _) (by intro u hu; simp at hu; subst hu; rfl) (by have := HK.out; unfold maxLen; omega) (by have := HK.out; omega) (by have := hadd.size; simp; omega) ?_)
          intro v' w3 hown3 hgr3 _
          have hown4 : OwnL w3 w.heap.size v' (zs ++ [lo]) := OwnL.grown hown3 rfl rfl
          have hadd4 : Add w w3 := Below.grown (Below.alloc hadd hadd.size _) hgr3 (by have := hadd.size; simp; omega) (fun k hk => (World.ownsRow.lt hown k hk).1)
          have hst4 : MinusSt w xs ys v' (.int .u64 (1 : Nat)) (.int .i64 (k + 1 : Nat)) w3 := ⟨zs ++ [lo], 1, rfl, by decide, by rw [List.length_append, HK.out]; rfl, hown4, hzl.append (Limbs.cons hlol Limbs.nil), minusAt_step HAT.out (by rw [HK.out, ← HXE.out, ← HYE.out]; exact HSE.out), by rw [List.length_append, HK.out, HLA.out]; simp; omega, hadd4⟩
          clear hown3 hgr3 hown hadd hown4 hadd4
          go_wp2_with fail
          go_roundg (gk - 1)
          case measure => omega
          case rel => exact ⟨v', rfl, hst4, k + 1, by go_num, by omega⟩

        · obtain ⟨b2, o2, rfl, hc2⟩ := (HRB.out.mono hadd).cell cb
          rw [← HYE.out] at hc2
          obtain ⟨lo, hlo⟩ : ∃ lo, lo = x + 4294967296 * 0 - (c + y) := ⟨_, rfl⟩
          have hse : lo + c + y = x + 4294967296 * 0 := by omega
          have HSE := Lib.hid hse
          have EQ : Hid ((x : Int) - ((c : Int) + (y : Int)) = ((lo : Nat) : Int)) := Lib.hid (by omega)
          have hlol : lo < 4294967296 := by omega
          have e1 : ((x : Int) - ((c : Int) + (y : Int))) % 4294967296 = ((lo : Nat) : Int) := by omega
          have hlt : decide ((x : Int) < ((c : Int) + (y : Int))) = false := by simp; omega
          have hge : ((c : Int) + (y : Int)) ≤ (x : Int) := by omega
          clear hse hlo cxy
          go_wp2_with (at_builtin; refine wpList_append_own _ rfl _ _ 23 rfl w.heap.size 77 i0 (.int .u32 0) 1 4 Tryz.underlying23 hi hz0 hz1 hz2 rfl (by decide) _ _ _ rfl (World.ownsRow.alloc hown _) ⟨wr.heap.size, 0, none⟩ 1 1 [_] rfl rfl (cell_one_new _ _ _) (by intro u hu; simp at hu; subst hu; rfl) (by have := HK.out; unfold maxLen; omega) (by have := HK.out; omega) (by have := hadd.size; simp; omega) ?_)
          intro v' w3 hown3 hgr3 _
          have hown4 : OwnL w3 w.heap.size v' (zs ++ [lo]) := OwnL.grown hown3 (congrArg (fun z : Int => [Value.int .u32 z]) EQ.out) rfl
          have hadd4 : Add w w3 := Below.grown (Below.alloc hadd hadd.size _) hgr3 (by have := hadd.size; simp; omega) (fun k hk => (World.ownsRow.lt hown k hk).1)
          have hst4 : MinusSt w xs ys v' (.int .u64 (0 : Nat)) (.int .i64 (k + 1 : Nat)) w3 := ⟨zs ++ [lo], 0, rfl, by decide, by rw [List.length_append, HK.out]; rfl, hown4, hzl.append (Limbs.cons hlol Limbs.nil), minusAt_step HAT.out (by rw [HK.out, ← HXE.out, ← HYE.out]; exact HSE.out), by rw [List.length_append, HK.out, HLA.out]; simp; omega, hadd4⟩
          clear hown3 hgr3 hown hadd hown4 hadd4
          go_wp2_with fail
          go_roundg (gk - 1)
          case measure => omega
          case rel => exact ⟨v', rfl, hst4, k + 1, by go_num, by omega⟩

      · have db : decide (k < nb') = false := decide_eq_false cb
        by_cases cxy : x < c
        · have hy0 : y = 0 := by rw [HYE.out]; simp [List.getD, List.getElem?_eq_none (show ys.length ≤ k by rw [HLB.out]; omega)]
          obtain ⟨lo, hlo⟩ : ∃ lo, lo = x + 4294967296 * 1 - (c + y) := ⟨_, rfl⟩
          have hse : lo + c + y = x + 4294967296 * 1 := by omega
          have HSE := Lib.hid hse
          have hlol : lo < 4294967296 := by omega
          have e1 : (((x : Int) + 4294967296) - (c : Int)) % 4294967296 = ((lo : Nat) : Int) := by omega
          have hlt : decide (x < c) = true := by simp; omega
          clear hse hlo hy0 cxy
          go_wp2_with (at_builtin; refine wpList_append_own _ rfl _ _ 23 rfl w.heap.size 77 i0 (.int .u32 0) 1 4 Tryz.underlying23 hi hz0 hz1 hz2 rfl (by decide) _ _ _ rfl (World.ownsRow.alloc hown _) ⟨wr.heap.size, 0, none⟩ 1 1 [_] rfl rfl (cell_one_new _ _ _) (by intro u hu; simp at hu; subst hu; rfl) (by have := HK.out; unfold maxLen; omega) (by have := HK.out; omega) (by have := hadd.size; simp; omega) ?_)
          intro v' w3 hown3 hgr3 _
          have hown4 : OwnL w3 w.heap.size v' (zs ++ [lo]) := OwnL.grown hown3 rfl rfl
          have hadd4 : Add w w3 := Below.grown (Below.alloc hadd hadd.size _) hgr3 (by have := hadd.size; simp; omega) (fun k hk => (World.ownsRow.lt hown k hk).1)
          have hst4 : MinusSt w xs ys v' (.int .u64 (1 : Nat)) (.int .i64 (k + 1 : Nat)) w3 := ⟨zs ++ [lo], 1, rfl, by decide, by rw [List.length_append, HK.out]; rfl, hown4, hzl.append (Limbs.cons hlol Limbs.nil), minusAt_step HAT.out (by rw [HK.out, ← HXE.out, ← HYE.out]; exact HSE.out), by rw [List.length_append, HK.out, HLA.out]; simp; omega, hadd4⟩
          clear hown3 hgr3 hown hadd hown4 hadd4
          go_wp2_with fail
          go_roundg (gk - 1)
          case measure => omega
          case rel => exact ⟨v', rfl, hst4, k + 1, by go_num, by omega⟩

        · have hy0 : y = 0 := by rw [HYE.out]; simp [List.getD, List.getElem?_eq_none (show ys.length ≤ k by rw [HLB.out]; omega)]
          obtain ⟨lo, hlo⟩ : ∃ lo, lo = x + 4294967296 * 0 - (c + y) := ⟨_, rfl⟩
          have hse : lo + c + y = x + 4294967296 * 0 := by omega
          have HSE := Lib.hid hse
          have EQ : Hid ((x : Int) - (c : Int) = ((lo : Nat) : Int)) := Lib.hid (by omega)
          have hlol : lo < 4294967296 := by omega
          have e1 : ((x : Int) - (c : Int)) % 4294967296 = ((lo : Nat) : Int) := by omega
          have hlt : decide (x < c) = false := by simp; omega
          have hge : (c : Int) ≤ (x : Int) := by omega
          clear hse hlo hy0 cxy
          go_wp2_with (at_builtin; refine wpList_append_own _ rfl _ _ 23 rfl w.heap.size 77 i0 (.int .u32 0) 1 4 Tryz.underlying23 hi hz0 hz1 hz2 rfl (by decide) _ _ _ rfl (World.ownsRow.alloc hown _) ⟨wr.heap.size, 0, none⟩ 1 1 [_] rfl rfl (cell_one_new _ _ _) (by intro u hu; simp at hu; subst hu; rfl) (by have := HK.out; unfold maxLen; omega) (by have := HK.out; omega) (by have := hadd.size; simp; omega) ?_)
          intro v' w3 hown3 hgr3 _
          have hown4 : OwnL w3 w.heap.size v' (zs ++ [lo]) := OwnL.grown hown3 (congrArg (fun z : Int => [Value.int .u32 z]) EQ.out) rfl
          have hadd4 : Add w w3 := Below.grown (Below.alloc hadd hadd.size _) hgr3 (by have := hadd.size; simp; omega) (fun k hk => (World.ownsRow.lt hown k hk).1)
          have hst4 : MinusSt w xs ys v' (.int .u64 (0 : Nat)) (.int .i64 (k + 1 : Nat)) w3 := ⟨zs ++ [lo], 0, rfl, by decide, by rw [List.length_append, HK.out]; rfl, hown4, hzl.append (Limbs.cons hlol Limbs.nil), minusAt_step HAT.out (by rw [HK.out, ← HXE.out, ← HYE.out]; exact HSE.out), by rw [List.length_append, HK.out, HLA.out]; simp; omega, hadd4⟩
          clear hown3 hgr3 hown hadd hown4 hadd4
          go_wp2_with fail
          go_roundg (gk - 1)
          case measure => omega
          case rel => exact ⟨v', rfl, hst4, k + 1, by go_num, by omega⟩

    · have da : decide (k < na) = false := decide_eq_false ca
      have hv := minusAt_done HAT.out hxa hzl (by rw [HK.out, HLA.out]; omega) HLE.out
      have hrd := hown.reads hzl
      have HT := Lib.hid (refTrim_any ov zs wr hrd (by rw [HK.out]; omega))
      rw [hv] at HT
      clear hown hv hrd hzl
      go_wp2_with fail
      refine HT.out.mono ?_
      rintro e w4 ⟨v4, rfl, h4, hadd4⟩
      have hF : RetO w (val xs - val ys) (.returned v4) w4 := ⟨v4, rfl, h4.base hadd.size, Add.trans hadd hadd4⟩
      clear h4 hadd4 hadd
      go_wp2_with fail
      go_ret
      exact hF
end Go.Proofs.YtifpfoeecnkhoaaGreatDoor
