/- Shifts of limbs up and down return what they promise. -/
import Derived.Test.YtifpfoeecnkhoaaDoorW11
import Derived.Laws.BitsAllLaws
namespace Go.Proofs.YtifpfoeecnkhoaaDoor
open Go.RowKit NatM

theorem shift_le (x t : Nat) (hx : x < 4294967296) (ht : t < 32) : x * 2 ^ t < 18446744073709551616 := by
  have a : x * 2 ^ t ≤ 4294967295 * 2147483648 := Nat.mul_le_mul (by omega) (Nat.pow_le_pow_right (n := 2) (by decide) (by omega : t ≤ 31))
  omega
theorem wrap_shift (x t : Nat) (hx : x < 4294967296) (ht : t < 32) : IntKind.u64.wrap ((x : Int) * 2 ^ t) = ((x * 2 ^ t : Nat) : Int) := by
  have h := shift_le x t hx ht
  have e : (x : Int) * 2 ^ t = ((x * 2 ^ t : Nat) : Int) := by simp
  rw [e, IntKind.wrap_u64]
  omega
theorem or_shift (z x t : Nat) (hz : z < 2 ^ t) (ht : t < 32) : bits BinOp.or IntKind.u32 (z : Int) (((x * 2 ^ t : Nat) : Int) % 4294967296) = ((z + x * 2 ^ t % 4294967296 : Nat) : Int) := by
  have e : ((x * 2 ^ t : Nat) : Int) % 4294967296 = ((x * 2 ^ t % 4294967296 : Nat) : Int) := by omega
  have hz' : z < 4294967296 := Nat.lt_of_lt_of_le hz (Nat.pow_le_pow_right (n := 2) (by decide) (by omega : t ≤ 32))
  rw [e, u32_or_nat _ _ hz' (Nat.mod_lt _ (by decide)), or_low hz ht]
theorem high_shift (x t : Nat) (hx : x < 4294967296) (ht : t < 32) : ((x * 2 ^ t : Nat) : Int) / 4294967296 % 4294967296 = ((x * 2 ^ t / 4294967296 : Nat) : Int) := by
  have h := shift_le x t hx ht
  omega

/-- What raised returns: a new row. -/
def RaisedP (w : World) (xs : List Nat) (n : Nat) (e : Ending) (w' : World) : Prop :=
  ∃ L zs, e = .returned (.slice (some ⟨w.heap.size, 0, none⟩) L L) ∧ Own w' w.heap.size w.heap.size L zs ∧ L = xs.length + n / 32 + 1 ∧ Limbs zs ∧ val zs = val xs * 2 ^ n ∧ Add w w'
set_option maxRecDepth 100000 in
set_option maxHeartbeats 2000000 in
theorem raised_any (va : Value) (xs : List Nat) (n : Nat) (w : World) (ha : Reads w va xs) (hs : xs.length ≤ 1000000) (hn : n ≤ 1000000) :
    Calls Tryd.prog 75 #[va, .int .i64 (n : Nat)] w (RaisedP w xs n) := by
  obtain ⟨i0, hi, hz0, hz1, hz2⟩ := info_parts info26
  obtain ⟨aa, l, ca, rfl, hln, hc, hm, hx, hr⟩ := ha
  unfold maxLen at hm
  rw [hln] at hs
  have HLn := Lib.hid hln
  obtain ⟨s, hse⟩ : ∃ s, s = n / 32 := ⟨_, rfl⟩
  obtain ⟨t, hte⟩ : ∃ t, t = n % 32 := ⟨_, rfl⟩
  have hsi : (n : Int) / 32 = (s : Int) := by omega
  have hti : (n : Int) % 32 = (t : Int) := by omega
  have ht32 : t < 32 := by omega
  have hsb : s ≤ 1000000 := by omega
  have HS := Lib.hid hse
  have HT := Lib.hid hte
  clear hln hse hte
  go_enter Tryd.func75, Tryd.ntmps75
  go_wp2_with (at_make; refine wpList_make_full _ rfl _ _ 23 rfl w.heap.size 26 i0 (.int .u32 0) 1 Tryd.underlying23 hi hz0 hz1 _ _ _ _ (l + s + 1) rfl rfl (by omega) (by omega) (by rw [hz2]; omega) (by unfold maxLen; omega) (Nat.le_refl _) ?_)
  intro w1 hown hgr
  have hadd : Add w w1 := (Below.refl _ _).grown hgr (Nat.le_refl _) (by simp)
  have hown := Own.made hown
  clear hgr hsi hti
  go_wp2_with fail
  go_loopw [23] (fun i wr => ∃ (k : Nat) (zs : List Nat), k ≤ l ∧ i = .int .i64 k ∧ Own wr w.heap.size w.heap.size (l + s + 1) zs ∧ Limbs zs ∧ UpAt xs zs s t k ∧ Add w wr) (fun i _ => l - (intOf i).toNat)
  case atStart => exact ⟨0, _, Nat.zero_le _, rfl, hown, Limbs.replicate _, upAt_zero _ _ _ _, hadd⟩
  case round =>
    clear hown hadd
    obtain ⟨k, zs, hk, rfl, hown, hzs, hup, hadd⟩ := hrel
    have hb0 := hadd.size
    by_cases hlt : k < l
    · obtain ⟨b, off, rfl, g⟩ := hr (by omega)
      have hxc := arg_cell g hadd k hlt
      obtain ⟨x, hxe⟩ : ∃ x, x = xs.getD k 0 := ⟨_, rfl⟩
      have hxl : x < 4294967296 := by rw [hxe]; exact hx.getD k
      rw [← hxe] at hxc
      have hcell := hown.cell (k + s) (by omega)
      have hfree := hown.free (k + s)
      have hcell2 := hown.cell (k + s + 1) (by omega)
      have hfree2 := hown.free (k + s + 1)
      obtain ⟨z, hze⟩ : ∃ z, z = zs.getD (k + s) 0 := ⟨_, rfl⟩
      have hzl : z < 4294967296 := by rw [hze]; exact hzs.getD _
      rw [← hze] at hcell
      have HX := Lib.hid hxe
      have HZ := Lib.hid hze
      have HUP := Lib.hid hup
      clear hxe hze hup g hr
      go_wp2_with fail
      go_roundw
      case rel =>
        have hz := hown.length
        have hzt : z < 2 ^ t := by rw [HZ.out]; exact HUP.out.2.1
        have e1 := wrap_shift x t hxl ht32
        have e2 := or_shift z x t hzt ht32
        have e3 := high_shift x t hxl ht32
        rw [e1, e2, e3]
        have h1 := upAt_step HUP.out (by omega) ht32 (by rw [← HX.out]; exact hxl)
        rw [← HX.out, ← HZ.out] at h1
        have hhi : x * 2 ^ t / 4294967296 < 4294967296 := by
          have : x * 2 ^ t < 4294967296 * 4294967296 := by
            have a : x * 2 ^ t ≤ 4294967295 * 2147483648 := Nat.mul_le_mul (by omega) (Nat.pow_le_pow_right (n := 2) (by decide) (by omega : t ≤ 31))
            omega
          exact Nat.div_lt_of_lt_mul this
        exact ⟨k + 1, _, by omega, by go_num, (hown.set _ _).set _ _, (hzs.set _ _ (low_fits hzt ht32)).set _ _ hhi, h1, (Below.setCell hadd (Nat.le_refl _) _).setCell (Nat.le_refl _) _⟩
      case measure => simp [intOf]; omega
    · obtain rfl : k = l := by omega
      have hz := hown.length
      have hF : RaisedP w xs n (.returned (.slice (some ⟨w.heap.size, 0, none⟩) (k + s + 1) (k + s + 1))) wr := by
        refine ⟨_, zs, rfl, hown, by rw [HLn.out, HS.out], hzs, ?_, hadd⟩
        have h1 := hup
        rw [← HLn.out] at h1
        rw [upAt_done h1 (by rw [hz, HLn.out])]
        congr 2
        rw [HS.out, HT.out]; omega
      clear hup
      go_wp2_with fail
      go_ret
      exact hF

theorem take_set_eq {zs ts : List Nat} {k s : Nat} (h : zs.take k = ts.take k) (hk : k < zs.length) (hk' : k < ts.length) (e : s = ts.getD k 0) : (zs.set k s).take (k + 1) = ts.take (k + 1) := by
  rw [List.take_succ_eq_append_getElem (by simpa using hk), List.take_succ_eq_append_getElem hk', take_set_lt, h]
  congr 2
  rw [List.getElem_set_self, e]
  simp [List.getD, hk']

theorem reads_drewN {w : World} {v : Value} {xs : List Nat} (h : Reads w v xs) (n : Nat) : Reads (w.drewN n) v xs := h.mono (below_drewN (Below.refl _ _) n)
/-- What lowered returns. -/
def LoweredP (w : World) (xs : List Nat) (n : Nat) (e : Ending) (w' : World) : Prop :=
  ∃ L zs, e = .returned (.slice (some ⟨w.heap.size, 0, none⟩) L L) ∧ Own w' w.heap.size w.heap.size L zs ∧ Limbs zs ∧ val zs = val xs / 2 ^ n ∧ L ≤ xs.length ∧ Add w w'
set_option maxRecDepth 100000 in
set_option maxHeartbeats 2000000 in
theorem lowered_any (va : Value) (xs : List Nat) (n : Nat) (w : World) (ha : Reads w va xs) (hs : xs.length ≤ 1000002) (hn : n / 32 ≤ xs.length) :
    Calls Tryd.prog 74 #[va, .int .i64 (n : Nat)] w (LoweredP w xs n) := by
  obtain ⟨i0, hi, hz0, hz1, hz2⟩ := info_parts info26
  obtain ⟨aa, l, ca, rfl, hln, hc, hm, hx, hr⟩ := id ha
  unfold maxLen at hm
  rw [hln] at hs hn
  obtain ⟨s, hse⟩ : ∃ s, s = n / 32 := ⟨_, rfl⟩
  obtain ⟨t, hte⟩ : ∃ t, t = n % 32 := ⟨_, rfl⟩
  have hsi : (n : Int) / 32 = (s : Int) := by omega
  have hti : (n : Int) % 32 = (t : Int) := by omega
  have ht32 : t < 32 := by omega
  rw [← hse] at hn
  obtain ⟨L, hL⟩ : ∃ L, L = l - s := ⟨_, rfl⟩
  have hLi : (l : Int) - (s : Int) = (L : Int) := by omega
  obtain ⟨ts, hts⟩ : ∃ ts, ts = shr t (xs.drop s) := ⟨_, rfl⟩
  have htl : ts.length = L := by rw [hts, length_shr, List.length_drop, hln, hL]
  have htg : ∀ k, k < L → ts.getD k 0 = (xs.getD (k + s) 0 + 4294967296 * xs.getD (k + s + 1) 0) / 2 ^ t % 4294967296 := by
    intro k hk
    rw [hts, shr_getD _ _ _ (by rw [List.length_drop, hln]; omega)]
    have d : ∀ j, (xs.drop s).getD j 0 = xs.getD (s + j) 0 := by intro j; simp [List.getD]
    rw [d, d, show s + k = k + s from by omega, show s + (k + 1) = k + s + 1 from by omega]
  have htv : val ts = val xs / 2 ^ n := by
    rw [hts, val_down hx (by rw [hln]; exact hn) ht32]
    congr 2
    rw [hse, hte]; omega
  have htlim : Limbs ts := by rw [hts]; exact shr_limbs _ _
  have hLl : L ≤ l := by omega
  have HLn := Lib.hid hln
  have HL := Lib.hid hL
  have HTL := Lib.hid htl
  have HTG := Lib.hid htg
  have HTV := Lib.hid htv
  clear hln hse hte hL hts htl htg htv
  go_enter Tryd.func74, Tryd.ntmps74
  go_wp2_with (at_make; refine wpList_make_full _ rfl _ _ 23 rfl w.heap.size 26 i0 (.int .u32 0) 1 Tryd.underlying23 hi hz0 hz1 _ _ _ _ L rfl rfl (by omega) (by omega) (by rw [hz2]; omega) (by unfold maxLen; omega) (Nat.le_refl _) ?_)
  intro w1 hown hgr
  have hadd : Add w w1 := (Below.refl _ _).grown hgr (Nat.le_refl _) (by simp)
  have hown := Own.made hown
  clear hgr hsi hti hLi
  go_wp2_with fail
  go_loopw [21] (fun i wr => ∃ (k : Nat) (zs : List Nat), k ≤ L ∧ i = .int .i64 k ∧ Own wr w.heap.size w.heap.size L zs ∧ Hid (zs.take k = ts.take k) ∧ Add w wr) (fun i _ => L - (intOf i).toNat)
  case atStart => exact ⟨0, _, Nat.zero_le _, rfl, hown, Lib.hid (by simp), hadd⟩
  case round =>
    clear hown hadd
    obtain ⟨k, zs, hk, rfl, hown, hpre, hadd⟩ := hrel
    have hb0 := hadd.size
    by_cases hlt : k < L
    · have hkl : k + s < l := by have := HL.out; omega
      have ha' := ha.mono hadd
      obtain ⟨b, off, rfl, g⟩ := hr (by omega)
      have hxc := arg_cell g hadd (k + s) hkl
      obtain ⟨x, hxe⟩ : ∃ x, x = xs.getD (k + s) 0 := ⟨_, rfl⟩
      obtain ⟨y, hye⟩ : ∃ y, y = xs.getD (k + s + 1) 0 := ⟨_, rfl⟩
      have hxl : x < 4294967296 := by rw [hxe]; exact hx.getD _
      have hyl : y < 4294967296 := by rw [hye]; exact hx.getD _
      rw [← hxe] at hxc
      have hcell := hown.cell k hlt
      have hfree := hown.free k
      obtain ⟨q, hqe⟩ : ∃ q, q = y * 4294967296 + x := ⟨_, rfl⟩
      have hjoin := join64 y x hyl hxl
      have hqi : (y : Int) * 4294967296 + x = (q : Int) := by omega
      rw [hqi] at hjoin
      have hqb : q < 18446744073709551616 := by omega
      have hlimb := fun wz (h : Reads wz (.slice (some ⟨b, off, none⟩) l ca) xs) => limb_fn (.slice (some ⟨b, off, none⟩) l ca) xs ((k : Int) + s + 1) y wz h (by omega) (by rw [hye]; congr 1)
      have HLIMB := Lib.hid hlimb
      have HX := Lib.hid hxe
      have HY := Lib.hid hye
      have HQ := Lib.hid hqe
      clear hxe hye hqe hlimb g hr hqi
      go_wp2_with fail
      go_quiet ((go_at_call 69; exact (HLIMB.out _ (by exact reads_drewN ha' _)).mono fun _ _ h => ⟨h.1, _, h.2⟩))
      go_wp2_with fail
      go_roundw
      case rel =>
        have hz := hown.length
        obtain ⟨r, hre⟩ : ∃ r, r = q / 2 ^ t % 4294967296 := ⟨_, rfl⟩
        have e1 : (q : Int) / 2 ^ t % 4294967296 = (r : Int) := by
          rw [hre]; simp
        rw [e1]
        have hown2 : Own ((wr.drewN nq).setCell ⟨w.heap.size, k, none⟩ (.int .u32 (r : Nat))) w.heap.size w.heap.size L (zs.set k r) := Own.set (w := wr.drewN nq) hown k _
        refine ⟨k + 1, _, by omega, by go_num, hown2, Lib.hid ?_, Below.setCell (below_drewN hadd nq) (Nat.le_refl _) _⟩
        refine take_set_eq hpre.out (by omega) (by rw [HTL.out]; exact hlt) ?_
        rw [HTG.out k hlt, hre, HQ.out, HX.out, HY.out]
        congr 2
        omega
      case measure => simp [intOf]; omega
    · obtain rfl : k = L := by omega
      have hz := hown.length
      have hzt : zs = ts := by
        have h1 := hpre.out
        rwa [List.take_of_length_le (by omega), List.take_of_length_le (by rw [HTL.out]; exact Nat.le_refl _)] at h1
      subst hzt
      have hF : LoweredP w xs n (.returned (.slice (some ⟨w.heap.size, 0, none⟩) k k)) wr :=
        ⟨_, zs, rfl, hown, htlim, HTV.out, by rw [HLn.out]; exact hLl, hadd⟩
      go_wp2_with fail
      go_ret
      exact hF

/-! Shift -/
theorem shift_big (va : Value) (xs : List Nat) (n : Int) (w : World) (ha : Reads w va xs) (hs : xs.length ≤ 1000000) (hA : pw 512 ≤ val xs) :
    Calls Tryd.prog 63 #[va, .int .i64 n] w (ErrP w 2) := by
  have LA := big_large ha hA
  have HB := Lib.hid (bits_any va xs w ha hs)
  clear hA
  go_enter Tryd.func63, Tryd.ntmps63
  go_wp2_with fail
  refine HB.out.mono ?_; rintro e w' ⟨rfl, rfl⟩
  go_wp2_with fail
  refine (large_is true _ _ _ ha LA.out).mono ?_; rintro e w' ⟨rfl, rfl⟩
  go_wp2_with fail
  go_ret2
  exact ⟨rfl, Below.refl _ _⟩

/-- Shift of 0, or down by all digits. -/
theorem shift_zero (va : Value) (xs : List Nat) (n : Int) (w : World) (ha : Reads w va xs) (hs : xs.length ≤ 1000000) (hA : val xs < pw 512) (hn : nb (val xs) = 0 ∨ n ≤ -(nb (val xs) : Int)) :
    Calls Tryd.prog 63 #[va, .int .i64 n] w (OkP w 0) := by
  have LA := small_large ha hA
  have hb := bits_any va xs w ha hs
  have hbs := nb_lt_pw.1 hA
  obtain ⟨b, hbe⟩ : ∃ b, b = nb (val xs) := ⟨_, rfl⟩
  rw [← hbe] at hb hbs hn
  have HB := Lib.hid hb
  have hF : OkP w 0 (.returned (.tuple #[.slice none 0 0, .int .i64 0])) w := ⟨_, rfl, Num.nil w, Below.refl _ _⟩
  clear hA hb hbe
  by_cases h0 : b = 0
  · subst h0
    go_enter Tryd.func63, Tryd.ntmps63
    go_wp2_with fail
    refine HB.out.mono ?_; rintro e w' ⟨rfl, rfl⟩
    go_wp2_with fail
    refine (large_is false _ _ _ ha LA.out).mono ?_; rintro e w' ⟨rfl, rfl⟩
    go_wp2_with fail
    go_ret2
    exact hF
  · have hne : ((b : Int) == 0) = false := by simp; omega
    have hle : n ≤ -(b : Int) := by omega
    clear hn h0
    go_enter Tryd.func63, Tryd.ntmps63
    go_wp2_with fail
    refine HB.out.mono ?_; rintro e w' ⟨rfl, rfl⟩
    go_wp2_with fail
    refine (large_is false _ _ _ ha LA.out).mono ?_; rintro e w' ⟨rfl, rfl⟩
    go_wp2_with fail
    go_ret2
    exact hF

/-- Shift beyond the limit. -/
theorem shift_over (va : Value) (xs : List Nat) (n : Int) (w : World) (ha : Reads w va xs) (hs : xs.length ≤ 1000000) (hA : val xs < pw 512) (h0 : nb (val xs) ≠ 0) (hn : 16384 - (nb (val xs) : Int) < n) :
    Calls Tryd.prog 63 #[va, .int .i64 n] w (ErrP w 2) := by
  have LA := small_large ha hA
  have hb := bits_any va xs w ha hs
  have hbs := nb_lt_pw.1 hA
  obtain ⟨b, hbe⟩ : ∃ b, b = nb (val xs) := ⟨_, rfl⟩
  rw [← hbe] at hb hbs hn h0
  have HB := Lib.hid hb
  have hne : ((b : Int) == 0) = false := by simp; omega
  have hle : -(b : Int) < n := by omega
  clear hA hb hbe h0
  go_enter Tryd.func63, Tryd.ntmps63
  go_wp2_with fail
  refine HB.out.mono ?_; rintro e w' ⟨rfl, rfl⟩
  go_wp2_with fail
  refine (large_is false _ _ _ ha LA.out).mono ?_; rintro e w' ⟨rfl, rfl⟩
  go_wp2_with fail
  go_ret2
  exact ⟨rfl, Below.refl _ _⟩

/-- Shift down. -/
theorem shift_down (va : Value) (xs : List Nat) (k : Nat) (w : World) (ha : Reads w va xs) (hs : xs.length ≤ 1000000) (hA : val xs < pw 512) (hk : 0 < k) (hkb : k < nb (val xs)) :
    Calls Tryd.prog 63 #[va, .int .i64 (-(k : Int))] w (OkP w (val xs / 2 ^ k)) := by
  have LA := small_large ha hA
  have hb := bits_any va xs w ha hs
  have hbs := nb_lt_pw.1 hA
  have hlen : k / 32 ≤ (trim xs).length := by
    have h1 := tlen_gt_of_val ha.limbs (k / 32) (by
      have h2 := nb_le (n := val xs) (by intro e; rw [e] at hkb; simp [nb] at hkb)
      rw [pw_two]
      have h3 : 2 ^ (32 * (k / 32)) ≤ 2 ^ (nb (val xs) - 1) := Nat.pow_le_pow_right (by decide) (by omega)
      omega)
    rw [length_trim]; omega
  obtain ⟨b, hbe⟩ : ∃ b, b = nb (val xs) := ⟨_, rfl⟩
  rw [← hbe] at hb hbs hkb
  have HB := Lib.hid hb
  have hne : ((b : Int) == 0) = false := by simp; omega
  have l1 := tlen_le xs
  clear hA hb hbe
  go_enter Tryd.func63, Tryd.ntmps63
  go_wp2_with fail
  refine HB.out.mono ?_; rintro e w' ⟨rfl, rfl⟩
  go_wp2_with fail
  refine (large_is false _ _ _ ha LA.out).mono ?_; rintro e w' ⟨rfl, rfl⟩
  go_wp2_with fail
  refine (cut_any _ _ _ ha).mono ?_; rintro e w' ⟨va', rfl, rfl, hva, -⟩
  go_wp2_with fail
  refine (lowered_any _ _ k _ hva (by rw [length_trim]; omega) hlen).mono ?_
  rintro e w2 ⟨L, zs, rfl, hown, hlim, hzv, hL, hadd⟩
  rw [val_trim] at hzv
  rw [length_trim] at hL
  have hz := hown.reads (by unfold maxLen; omega) hlim
  have HV := Lib.hid hzv
  clear hzv hL hown
  go_wp2_with fail
  refine (cut_any _ _ _ hz).mono ?_; rintro e w' ⟨v', rfl, rfl, hv', -⟩
  go_wp2_with fail
  go_ret2
  exact ⟨_, rfl, ⟨_, hv', Canon.trim _, by rw [val_trim, HV.out]⟩, hadd⟩

/-- Shift up. -/
theorem shift_up (va : Value) (xs : List Nat) (k : Nat) (w : World) (ha : Reads w va xs) (hs : xs.length ≤ 1000000) (hA : val xs < pw 512) (h0 : nb (val xs) ≠ 0) (hk : nb (val xs) + k ≤ 16384) :
    Calls Tryd.prog 63 #[va, .int .i64 (k : Nat)] w (OkP w (val xs * 2 ^ k)) := by
  have LA := small_large ha hA
  have hb := bits_any va xs w ha hs
  have hbs := nb_lt_pw.1 hA
  obtain ⟨b, hbe⟩ : ∃ b, b = nb (val xs) := ⟨_, rfl⟩
  rw [← hbe] at hb hbs hk h0
  have HB := Lib.hid hb
  have hne : ((b : Int) == 0) = false := by simp; omega
  have l1 := tlen_le xs
  clear hA hb hbe
  go_enter Tryd.func63, Tryd.ntmps63
  go_wp2_with fail
  refine HB.out.mono ?_; rintro e w' ⟨rfl, rfl⟩
  go_wp2_with fail
  refine (large_is false _ _ _ ha LA.out).mono ?_; rintro e w' ⟨rfl, rfl⟩
  go_wp2_with fail
  refine (cut_any _ _ _ ha).mono ?_; rintro e w' ⟨va', rfl, rfl, hva, -⟩
  go_wp2_with fail
  refine (raised_any _ _ k _ hva (by rw [length_trim]; omega) (by omega)).mono ?_
  rintro e w2 ⟨L, zs, rfl, hown, hL, hlim, hzv, hadd⟩
  rw [val_trim] at hzv
  rw [length_trim] at hL
  have hz := hown.reads (by unfold maxLen; omega) hlim
  have HV := Lib.hid hzv
  clear hzv hL hown
  go_wp2_with fail
  refine (cut_any _ _ _ hz).mono ?_; rintro e w' ⟨v', rfl, rfl, hv', -⟩
  go_wp2_with fail
  go_ret2
  exact ⟨_, rfl, ⟨_, hv', Canon.trim _, by rw [val_trim, HV.out]⟩, hadd⟩
end Go.Proofs.YtifpfoeecnkhoaaDoor
