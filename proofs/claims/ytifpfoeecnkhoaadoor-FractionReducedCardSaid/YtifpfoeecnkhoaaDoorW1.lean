/- The helpers cut, large, limb, sign and the additions of single limbs return what they promise. -/
import Derived.Test.YtifpfoeecnkhoaaDoorB
import Derived.Laws.BitsAllLaws
namespace Go.Proofs.YtifpfoeecnkhoaaDoor
open Go.RowKit NatM

/-- What cut returns: the part without the zeros at the end, in the same memory. -/
def CutP (w : World) (v : Value) (xs : List Nat) (e : Ending) (w' : World) : Prop :=
  ∃ v', e = .returned v' ∧ w = w' ∧ Reads w v' (trim xs) ∧ ∃ ao c, v = .slice ao xs.length c ∧ v' = .slice ao (tlen xs) (tlen xs)
theorem cut_any (v : Value) (xs : List Nat) (w : World) (h : Reads w v xs) :
    Calls Tryd.prog 37 #[v] w (CutP w v xs) := by
  obtain ⟨ao, n, c, rfl, hl, hc, hm, hx, hr⟩ := h
  have hfin : ∀ k, k ≤ n → tlen xs = k → CutP w (.slice ao n c) xs (.returned (.slice ao k k)) w := by
    intro k hk ht
    refine ⟨_, rfl, rfl, ⟨ao, k, k, rfl, by rw [length_trim, ht], Nat.le_refl _, by omega, hx.take _, fun hk0 => ?_⟩, ao, c, by rw [hl], by rw [ht]⟩
    obtain ⟨b, off, e, g⟩ := hr (by omega)
    refine ⟨b, off, e, fun i hi => ?_⟩
    rw [g i (by omega)]; unfold trim; rw [getD_take _ _ _ (by omega)]
  have HF := Lib.hid hfin
  clear hfin
  unfold maxLen at hm
  have hmm : n ≤ 9223372036854775807 := by omega
  have HL := Lib.hid hl
  clear hl
  go_enter Tryd.func37, Tryd.ntmps37
  go_wp2_with fail
  go_loop [3] (fun v => ∃ k : Nat, k ≤ n ∧ v = .int .i64 k ∧ tlen xs ≤ k) (fun v => (intOf v).toNat)
  case atStart => exact ⟨n, Nat.le_refl _, rfl, by rw [← HL.out]; exact tlen_le xs⟩
  case round =>
    obtain ⟨k, hk, rfl, ht⟩ := hrel
    by_cases h0 : k = 0
    · subst h0
      go_wp2_with fail
      go_ret
      exact HF.out 0 (by omega) (by omega)
    · obtain ⟨j, rfl⟩ : ∃ j, k = j + 1 := ⟨k - 1, by omega⟩
      obtain ⟨b, off, rfl, g⟩ := hr (by omega)
      have hcell := g j (by omega)
      clear g hr
      obtain ⟨x, hx'⟩ : ∃ x, x = xs.getD j 0 := ⟨_, rfl⟩
      rw [← hx'] at hcell
      have HX := Lib.hid hx'
      clear hx'
      by_cases hz : x = 0
      · subst hz
        go_wp2_with fail
        go_round
        case rel => 
          refine ⟨j, by omega, by go_num, ?_⟩
          rcases Nat.lt_or_ge (tlen xs) (j + 1) with h1 | h1
          · omega
          · have h2 : tlen xs = j + 1 := by omega
            have := tlen_top xs (by omega)
            rw [h2] at this
            exact absurd HX.out.symm this
        case measure => simp [intOf]
      · have hz1 : ((x : Int) == 0) = false := by simpa using hz
        have ht2 : tlen xs = j + 1 := by
          rcases Nat.lt_or_ge (tlen xs) (j + 1) with h1 | h1
          · have := tlen_above xs j (by omega)
            rw [← HX.out] at this
            exact absurd this hz
          · omega
        have HT := Lib.hid ht2
        clear ht2
        go_wp2_with fail
        go_ret
        exact HF.out (j + 1) (by omega) HT.out

/-- large tells whether the canonical form has more than 512 limbs. -/
def LargeP (w : World) (b : Bool) (e : Ending) (w' : World) : Prop := e = .returned (.bool b) ∧ w = w'
theorem large_is (b : Bool) (v : Value) (xs : List Nat) (w : World) (h : Reads w v xs) (hb : decide (512 < tlen xs) = b) :
    Calls Tryd.prog 42 #[v] w (LargeP w b) := by
  have hb' : decide ((512 : Int) < (tlen xs : Nat)) = b := by rw [← hb, decide_eq_decide]; omega
  have HB := Lib.hid hb'
  clear hb hb'
  go_enter Tryd.func42, Tryd.ntmps42
  go_wp2_with (go_at_call 37; refine (cut_any _ _ _ h).mono ?_; rintro e w' ⟨v', rfl, rfl, _, ao, c, _, rfl⟩)
  go_ret
  exact ⟨by rw [← HB.out]; rfl, rfl⟩

/-- sign. -/
def SignP (w : World) (b : Bool) (e : Ending) (w' : World) : Prop := e = .returned (.int .i64 (if b then -1 else 1)) ∧ w = w'
theorem sign_any (b : Bool) (w : World) : Calls Tryd.prog 38 #[.bool b] w (SignP w b) := by
  cases b
  · go_enter Tryd.func38, Tryd.ntmps38
    go_wp2_with fail
    go_ret
    exact ⟨rfl, rfl⟩
  · go_enter Tryd.func38, Tryd.ntmps38
    go_wp2_with fail
    go_ret
    exact ⟨rfl, rfl⟩

/-- limb: the limb at i, 0 behind the end. -/
def LimbP (w : World) (xs : List Nat) (i : Int) (e : Ending) (w' : World) : Prop := ∃ x : Nat, e = .returned (.int .u32 (x : Nat)) ∧ w = w' ∧ x < 4294967296 ∧ Hid (x = xs.getD i.toNat 0)
theorem limb_any (v : Value) (xs : List Nat) (i : Int) (w : World) (h : Reads w v xs) (h0 : 0 ≤ i) :
    Calls Tryd.prog 69 #[v, .int .i64 i] w (LimbP w xs i) := by
  obtain ⟨ao, n, c, rfl, hl, hc, hm, hx, hr⟩ := h
  unfold maxLen at hm
  obtain ⟨k, rfl⟩ := Int.eq_ofNat_of_zero_le h0
  by_cases hk : k < n
  · obtain ⟨b, off, rfl, g⟩ := hr (by omega)
    have hcell := g k hk
    obtain ⟨x, hxe⟩ : ∃ x, x = xs.getD k 0 := ⟨_, rfl⟩
    rw [← hxe] at hcell
    have hF : LimbP w xs (k : Int) (.returned (.int .u32 (x : Nat))) w := ⟨x, rfl, rfl, by rw [hxe]; exact hx.getD k, Lib.hid (by rw [Int.toNat_natCast]; exact hxe)⟩
    clear g hr hl hxe
    have hk' : decide ((k : Int) < (n : Nat)) = true := by simpa using hk
    go_enter Tryd.func69, Tryd.ntmps69
    go_wp2_with fail
    go_ret
    exact hF
  · have e0 : xs.getD (Int.toNat (k : Int)) 0 = 0 := by
      rw [Int.toNat_natCast]
      simp [List.getD, List.getElem?_eq_none (by omega : xs.length ≤ k)]
    have hF : LimbP w xs (k : Int) (.returned (.int .u32 0)) w := ⟨0, rfl, rfl, by decide, Lib.hid e0.symm⟩
    clear hl e0
    have hk' : decide ((k : Int) < (n : Nat)) = false := by simpa using hk
    go_enter Tryd.func69, Tryd.ntmps69
    go_wp2_with fail
    go_ret
    exact hF

/-- bits.Add32. -/
def Add32P (w : World) (x y c : Nat) (e : Ending) (w' : World) : Prop :=
  ∃ s c' : Nat, e = .returned (.tuple #[.int .u32 (s : Nat), .int .u32 (c' : Nat)]) ∧ w = w' ∧ s < 4294967296 ∧ c' ≤ 1 ∧ Hid (s + 4294967296 * c' = x + y + c)
theorem add32_any (x y c : Nat) (w : World) (hx : x < 4294967296) (hy : y < 4294967296) (hc : c ≤ 1) :
    Calls Tryd.prog 68 #[.int .u32 (x : Nat), .int .u32 (y : Nat), .int .u32 (c : Nat)] w (Add32P w x y c) := by
  have HF : Add32P w x y c (.returned (.tuple #[.int .u32 (((x : Int) + y + c) % 4294967296), .int .u32 (((x : Int) + y + c) / 4294967296)])) w :=
    ⟨(x + y + c) % 4294967296, (x + y + c) / 4294967296, by simp, rfl, by omega, by omega, Lib.hid (by omega)⟩
  go_enter Tryd.func68, Tryd.ntmps68
  go_wp2_with fail
  go_ret2
  exact HF

/-- bits.Sub32. -/
def Sub32P (w : World) (x y c : Nat) (e : Ending) (w' : World) : Prop :=
  ∃ s c' : Nat, e = .returned (.tuple #[.int .u32 (s : Nat), .int .u32 (c' : Nat)]) ∧ w = w' ∧ s < 4294967296 ∧ c' ≤ 1 ∧ Hid (s + y + c = x + 4294967296 * c')
theorem top_bit {a : Nat} (h : a < 4294967296) : a / 2 ^ 31 = 0 ∨ a / 2 ^ 31 = 1 := by omega
theorem sub32_bits (x y c : Nat) (hx : x < 4294967296) (hy : y < 4294967296) (hc : c ≤ 1) :
    bits BinOp.or IntKind.u32 (bits BinOp.and IntKind.u32 (bits BinOp.xor IntKind.u32 IntKind.u32.max ↑x) ↑y) (bits BinOp.and IntKind.u32 (bits BinOp.xor IntKind.u32 IntKind.u32.max (bits BinOp.xor IntKind.u32 ↑x ↑y)) (((x : Int) - y - c) % 4294967296)) / 2147483648 = ((if x < y + c then 1 else 0 : Nat) : Int) := by
  obtain ⟨d, hd, e⟩ : ∃ d : Nat, ((x : Int) - y - c) % 4294967296 = d ∧ (d + y + c = x ∨ d + y + c = x + 4294967296) := by
    by_cases h : x < y + c
    · exact ⟨x + 4294967296 - y - c, by omega, .inr (by omega)⟩
    · exact ⟨x - y - c, by omega, .inl (by omega)⟩
  have hd' : d < 4294967296 := by omega
  have hm : IntKind.u32.max = ((4294967295 : Nat) : Int) := by rfl
  have b1 : (4294967295 ^^^ x) < 4294967296 := Nat.xor_lt_two_pow (n := 32) (by decide) hx
  have b2 : (x ^^^ y) < 4294967296 := Nat.xor_lt_two_pow (n := 32) hx hy
  have b3 : (4294967295 ^^^ (x ^^^ y)) < 4294967296 := Nat.xor_lt_two_pow (n := 32) (by decide) b2
  have b4 : ((4294967295 ^^^ x) &&& y) < 4294967296 := Nat.and_lt_two_pow (n := 32) _ hy
  have b5 : ((4294967295 ^^^ (x ^^^ y)) &&& d) < 4294967296 := Nat.and_lt_two_pow (n := 32) _ hd'
  rw [hd, hm, u32_xor_nat _ _ (by decide) hx, u32_and_nat _ _ b1 hy, u32_xor_nat _ _ hx hy, u32_xor_nat _ _ (by decide) b2, u32_and_nat _ _ b3 hd', u32_or_nat _ _ b4 b5]
  have e1 : ((((4294967295 ^^^ x) &&& y) ||| ((4294967295 ^^^ (x ^^^ y)) &&& d)) / 2 ^ 31 : Nat) = if x < y + c then 1 else 0 := by
    rw [Nat.or_div_two_pow, Nat.and_div_two_pow, Nat.and_div_two_pow, Nat.xor_div_two_pow, Nat.xor_div_two_pow, Nat.xor_div_two_pow]
    rcases top_bit hx with h1 | h1 <;> rcases top_bit hy with h2 | h2 <;> rcases top_bit hd' with h3 | h3 <;> rw [h1, h2, h3] <;> (simp; omega)
  rw [← e1]
  omega
theorem sub32_any (x y c : Nat) (w : World) (hx : x < 4294967296) (hy : y < 4294967296) (hc : c ≤ 1) :
    Calls Tryd.prog 70 #[.int .u32 (x : Nat), .int .u32 (y : Nat), .int .u32 (c : Nat)] w (Sub32P w x y c) := by
  have HF : Sub32P w x y c (.returned (.tuple #[.int .u32 (((x : Int) - y - c) % 4294967296), .int .u32 (bits BinOp.or IntKind.u32 (bits BinOp.and IntKind.u32 (bits BinOp.xor IntKind.u32 IntKind.u32.max ↑x) ↑y) (bits BinOp.and IntKind.u32 (bits BinOp.xor IntKind.u32 IntKind.u32.max (bits BinOp.xor IntKind.u32 ↑x ↑y)) (((x : Int) - y - c) % 4294967296)) / 2147483648)])) w := by
    rw [sub32_bits x y c hx hy hc]
    by_cases h : x < y + c
    · exact ⟨x + 4294967296 - y - c, 1, by rw [if_pos h, show ((x : Int) - y - c) % 4294967296 = ((x + 4294967296 - y - c : Nat) : Int) from by omega], rfl, by omega, by omega, Lib.hid (by omega)⟩
    · exact ⟨x - y - c, 0, by rw [if_neg h, show ((x : Int) - y - c) % 4294967296 = ((x - y - c : Nat) : Int) from by omega], rfl, by omega, by omega, Lib.hid (by omega)⟩
  go_enter Tryd.func70, Tryd.ntmps70
  go_wp2_with fail
  go_ret2
  exact HF

/-- What sum returns. -/
def SumP (w : World) (xs ys : List Nat) (e : Ending) (w' : World) : Prop :=
  ∃ v zs, e = .returned v ∧ Reads w' v zs ∧ val zs = val xs + val ys ∧ zs.length = max xs.length ys.length + 1 ∧ Add w w'
theorem sum_any (va vb : Value) (xs ys : List Nat) (w : World) (ha : Reads w va xs) (hb : Reads w vb ys) (hs : xs.length ≤ 1000000) (hs' : ys.length ≤ 1000000) :
    Calls Tryd.prog 54 #[va, vb] w (SumP w xs ys) := by
  obtain ⟨i0, hi, hz0, hz1, hz2⟩ := info_parts info26
  obtain ⟨aa, n, ca, rfl, hln, hc, hm, hx, hr⟩ := id ha
  obtain ⟨ab, m, cb, rfl, hlm, hc', hm', hx', hr'⟩ := id hb
  clear hr hr'
  unfold maxLen at hm hm'
  have HLn := Lib.hid hln
  have HLm := Lib.hid hlm
  rw [hln] at hs
  rw [hlm] at hs'
  clear hln hlm
  rcases Nat.lt_or_ge n m with hlt | hge
  · have h1 : (n : Int) < m := by omega
    go_enter Tryd.func54, Tryd.ntmps54
    go_wp2_with (at_make; refine wpList_make_full _ rfl _ _ 23 rfl w.heap.size 26 i0 (.int .u32 0) 1 Tryd.underlying23 hi hz0 hz1 _ _ _ _ (m + 1) rfl rfl (by omega) (by omega) (by rw [hz2]; omega) (by unfold maxLen; omega) (Nat.le_refl _) ?_)
    intro w1 hown hgr
    have hadd : Add w w1 := (Below.refl _ _).grown hgr (Nat.le_refl _) (by simp)
    have hown := Own.made hown
    clear hgr
    go_wp2_with fail
    go_loopw [7, 18] (fun c i wr => ∃ (k cc : Nat) (zs : List Nat), k ≤ m ∧ i = .int .i64 k ∧ c = .int .u32 cc ∧ cc ≤ 1 ∧ Own wr w.heap.size w.heap.size (m + 1) zs ∧ Limbs zs ∧ SumAt xs ys zs k cc ∧ Add w wr) (fun _ i _ => m - (intOf i).toNat)
    case atStart => exact ⟨0, 0, _, Nat.zero_le _, rfl, rfl, by omega, hown, Limbs.replicate _, sum_zero _ _ _, hadd⟩
    case round =>
      obtain ⟨k, cc, zs, hk, rfl, rfl, hcc, hown, hzs, hsum, hadd⟩ := hrel
      have hb0 := hadd.size
      by_cases hlt' : k < m
      · have hcell := hown.cell k (by omega)
        have hfree := hown.free k
        go_wp2_with (first
          | (go_at_call 69; ((with_reducible refine (limb_any (.slice aa n ca) xs _ _ (ha.mono hadd) (by omega)).mono ?_); rintro e w' ⟨x, rfl, rfl, hxl, HX⟩))
          | (go_at_call 69; ((with_reducible refine (limb_any (.slice ab m cb) ys _ _ (hb.mono hadd) (by omega)).mono ?_); rintro e w' ⟨y, rfl, rfl, hyl, HY⟩))
          | (go_at_call 68; refine (add32_any x y cc _ hxl hyl hcc).mono ?_; rintro e w' ⟨s, c', rfl, rfl, hsl, hc1, HS⟩))
        go_roundw
        case rel =>
          have hz := hown.length
          refine ⟨k + 1, c', zs.set k s, by omega, by go_num, rfl, hc1, hown.set k s, hzs.set k s hsl, sum_step hsum (by omega) ?_, hadd.setCell (Nat.le_refl _) _⟩
          have e1 := HX.out
          have e2 := HY.out
          rw [Int.toNat_natCast] at e1 e2
          rw [← e1, ← e2]; exact HS.out
        case measure => simp [intOf]; omega
      · obtain rfl : k = m := by omega
        have hcell := hown.cell k (by omega)
        have hfree := hown.free k
        go_wp2_with fail
        go_ret
        have hz := hown.length
        refine ⟨_, _, rfl, (hown.set k cc).reads (by unfold maxLen; omega) (hzs.set k cc (by omega)), ?_, ?_, hadd.setCell (Nat.le_refl _) _⟩
        · have h2 := hsum
          unfold SumAt at h2
          rw [List.take_of_length_le (l := xs) (by rw [HLn.out]; omega), List.take_of_length_le (l := ys) (by rw [HLm.out]; omega)] at h2
          rw [← h2]
          have h3 : (zs.set k cc).take (k + 1) = zs.set k cc := List.take_of_length_le (by simp; omega)
          rw [← h3, val_take_succ, take_set_lt, getD_set_self _ _ _ (by omega)]
        · rw [List.length_set, hz, HLn.out, HLm.out]; omega
  · have h1 : (m : Int) ≤ n := by omega
    go_enter Tryd.func54, Tryd.ntmps54
    go_wp2_with (at_make; refine wpList_make_full _ rfl _ _ 23 rfl w.heap.size 26 i0 (.int .u32 0) 1 Tryd.underlying23 hi hz0 hz1 _ _ _ _ (n + 1) rfl rfl (by omega) (by omega) (by rw [hz2]; omega) (by unfold maxLen; omega) (Nat.le_refl _) ?_)
    intro w1 hown hgr
    have hadd : Add w w1 := (Below.refl _ _).grown hgr (Nat.le_refl _) (by simp)
    have hown := Own.made hown
    clear hgr
    go_wp2_with fail
    go_loopw [7, 18] (fun c i wr => ∃ (k cc : Nat) (zs : List Nat), k ≤ n ∧ i = .int .i64 k ∧ c = .int .u32 cc ∧ cc ≤ 1 ∧ Own wr w.heap.size w.heap.size (n + 1) zs ∧ Limbs zs ∧ SumAt xs ys zs k cc ∧ Add w wr) (fun _ i _ => n - (intOf i).toNat)
    case atStart => exact ⟨0, 0, _, Nat.zero_le _, rfl, rfl, by omega, hown, Limbs.replicate _, sum_zero _ _ _, hadd⟩
    case round =>
      obtain ⟨k, cc, zs, hk, rfl, rfl, hcc, hown, hzs, hsum, hadd⟩ := hrel
      have hb0 := hadd.size
      by_cases hlt' : k < n
      · have hcell := hown.cell k (by omega)
        have hfree := hown.free k
        go_wp2_with (first
          | (go_at_call 69; ((with_reducible refine (limb_any (.slice aa n ca) xs _ _ (ha.mono hadd) (by omega)).mono ?_); rintro e w' ⟨x, rfl, rfl, hxl, HX⟩))
          | (go_at_call 69; ((with_reducible refine (limb_any (.slice ab m cb) ys _ _ (hb.mono hadd) (by omega)).mono ?_); rintro e w' ⟨y, rfl, rfl, hyl, HY⟩))
          | (go_at_call 68; refine (add32_any x y cc _ hxl hyl hcc).mono ?_; rintro e w' ⟨s, c', rfl, rfl, hsl, hc1, HS⟩))
        go_roundw
        case rel =>
          have hz := hown.length
          refine ⟨k + 1, c', zs.set k s, by omega, by go_num, rfl, hc1, hown.set k s, hzs.set k s hsl, sum_step hsum (by omega) ?_, hadd.setCell (Nat.le_refl _) _⟩
          have e1 := HX.out
          have e2 := HY.out
          rw [Int.toNat_natCast] at e1 e2
          rw [← e1, ← e2]; exact HS.out
        case measure => simp [intOf]; omega
      · obtain rfl : k = n := by omega
        have hcell := hown.cell k (by omega)
        have hfree := hown.free k
        go_wp2_with fail
        go_ret
        have hz := hown.length
        refine ⟨_, _, rfl, (hown.set k cc).reads (by unfold maxLen; omega) (hzs.set k cc (by omega)), ?_, ?_, hadd.setCell (Nat.le_refl _) _⟩
        · have h2 := hsum
          unfold SumAt at h2
          rw [List.take_of_length_le (l := xs) (by rw [HLn.out]; omega), List.take_of_length_le (l := ys) (by rw [HLm.out]; omega)] at h2
          rw [← h2]
          have h3 : (zs.set k cc).take (k + 1) = zs.set k cc := List.take_of_length_le (by simp; omega)
          rw [← h3, val_take_succ, take_set_lt, getD_set_self _ _ _ (by omega)]
        · rw [List.length_set, hz, HLn.out, HLm.out]; omega
end Go.Proofs.YtifpfoeecnkhoaaDoor
