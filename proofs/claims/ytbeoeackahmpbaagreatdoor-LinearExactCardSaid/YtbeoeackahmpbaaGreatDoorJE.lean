/- The contracts of package natural said of numbers alone, and what all laws share: the guard on long lists. | Bits returns the number of binary digits. | Shifts of limbs up and down return what they promise. | The parts of long division: the guessed digit, a multiple taken out, the divisor added back. | A multiple of the divisor is taken out of a window of the number, the divisor added back, and one digit of the quotient found. -/
import Derived.Test.YtbeoeackahmpbaaGreatDoorJC
import Derived.Test.YtbeoeackahmpbaaGreatDoorJA
import Derived.Lib.Strings
import Derived.Lib.Slices
import Derived.Lib.Small
import Derived.Lib.Walk
import Derived.Lib.BitFns
import Derived.Laws.BitsAllLaws

namespace Go.Proofs.YtbeoeackahmpbaaGreatDoor.Api
open Go.Proofs.YtbeoeackahmpbaaGreatDoor Go.RowKit NatM

/-- What every law answers. -/
def LawP (w : World) (e : Ending) (w' : World) : Prop := e = .returned (.bool true) ∧ Add w w'

/-- v reads in w as a list of limbs with the value N. -/
def Nu (w : World) (v : Value) (N : Nat) : Prop := ∃ xs, Reads w v xs ∧ val xs = N ∧ xs.length ≤ 1000000
theorem Nu.mono {w w' : World} {v : Value} {N : Nat} (h : Nu w v N) (hb : Add w w') : Nu w' v N := by
  obtain ⟨xs, h1, h2, h3⟩ := h; exact ⟨xs, h1.mono hb, h2, h3⟩
theorem num_nu {w : World} {v : Value} {N : Nat} (h : Num w v N) (hN : N < pw 512) : Nu w v N := by
  obtain ⟨zs, h1, h2, h3⟩ := h
  refine ⟨zs, h1, h3, ?_⟩
  have : tlen zs ≤ 512 := tlen_le_of_val 512 (by rw [h3]; exact hN)
  unfold Canon at h2; omega
theorem num_mono {w w' : World} {v : Value} {N : Nat} (h : Num w v N) (hb : Add w w') : Num w' v N := h.mono hb

def OkN (w : World) (N : Nat) (e : Ending) (w' : World) : Prop := ∃ v, e = .returned (.tuple #[v, .int .i64 0]) ∧ Num w' v N ∧ Nu w' v N ∧ Add w w'
theorem okN {w : World} {N : Nat} {e : Ending} {w' : World} (h : OkP w N e w') (hN : N < pw 512) : OkN w N e w' := by
  obtain ⟨v, h1, h2, h3⟩ := h
  exact ⟨v, h1, h2, num_nu h2 hN, h3⟩

theorem addN {va vb : Value} {A B : Nat} {w : World} (ha : Nu w va A) (hb : Nu w vb B) (h : Hid (A + B < pw 512)) : Calls Tryz.prog 139 #[va, vb] w (OkN w (A + B)) := by
  obtain ⟨xs, r, rfl, l⟩ := ha
  obtain ⟨ys, r', rfl, l'⟩ := hb
  exact (add_ok va vb xs ys w r r' l l' h.out).mono fun e w' g => okN g h.out
theorem subN {va vb : Value} {A B : Nat} {w : World} (ha : Nu w va A) (hb : Nu w vb B) (h : Hid (A < pw 512 ∧ B ≤ A)) : Calls Tryz.prog 141 #[va, vb] w (OkN w (A - B)) := by
  obtain ⟨xs, r, rfl, l⟩ := ha
  obtain ⟨ys, r', rfl, l'⟩ := hb
  obtain ⟨h1, h2⟩ := h.out
  exact (sub_ok va vb xs ys w r r' l h1 (by omega) h2).mono fun e w' g => okN g (by omega)
theorem mulN {va vb : Value} {A B : Nat} {w : World} (ha : Nu w va A) (hb : Nu w vb B) (h : Hid (A < pw 512 ∧ B < pw 512 ∧ A * B < pw 512)) : Calls Tryz.prog 115 #[va, vb] w (OkN w (A * B)) := by
  obtain ⟨xs, r, rfl, l⟩ := ha
  obtain ⟨ys, r', rfl, l'⟩ := hb
  obtain ⟨h1, h2, h3⟩ := h.out
  exact (mul_ok va vb xs ys w r r' l l' h1 h2 h3).mono fun e w' g => okN g h3

def IntIs (w : World) (X : Int) (e : Ending) (w' : World) : Prop := e = .returned (.int .i64 X) ∧ Add w w'
theorem cmpN (X : Int) {va vb : Value} {A B : Nat} {w : World} (ha : Nu w va A) (hb : Nu w vb B) (h : Hid (cmpI A B = X)) : Calls Tryz.prog 129 #[va, vb] w (IntIs w X) := by
  obtain ⟨xs, r, rfl, l⟩ := ha
  obtain ⟨ys, r', rfl, l'⟩ := hb
  exact (cmp_any va vb xs ys w r r').mono fun e w' ⟨h1, q, h2⟩ => ⟨by rw [h1, h.out], by rw [h2]; exact below_drewN (Below.refl _ _) q⟩
def BoolIs (w : World) (b : Bool) (e : Ending) (w' : World) : Prop := e = .returned (.bool b) ∧ Add w w'
theorem sameN (b : Bool) {va vb : Value} {A B : Nat} {w : World} (ha : Num w va A) (hb : Num w vb B) (h : Hid (decide (A = B) = b)) : Calls Tryz.prog 58 #[va, vb] w (BoolIs w b) := by
  obtain ⟨xs, r, c, rfl⟩ := ha
  obtain ⟨ys, r', c', rfl⟩ := hb
  have e : decide (xs = ys) = b := by
    rw [← h.out, decide_eq_decide]
    exact ⟨fun h => by rw [h], fun h => canon_inj r.limbs r'.limbs c c' h⟩
  exact (same_any va vb xs ys b w r r' e).mono fun e w' ⟨h1, q, h2⟩ => ⟨h1, by rw [h2]; exact below_drewN (Below.refl _ _) q⟩

theorem small60 {xs : List Nat} (hx : Limbs xs) (h : xs.length ≤ 60) : val xs < pw 60 := by
  have h1 := val_lt hx
  have h2 : pw xs.length ≤ pw 60 := pw_le h
  omega
theorem lt_mul {a b i j : Nat} (ha : a < pw i) (hb : b < pw j) : a * b < pw (i + j) := by
  rw [pw_add]
  exact Nat.lt_of_le_of_lt (Nat.mul_le_mul_left _ (Nat.le_of_lt hb)) (Nat.mul_lt_mul_of_pos_right ha (pw_pos j))
theorem lt_add {a b i : Nat} (ha : a < pw i) (hb : b < pw i) : a + b < pw (i + 1) := by
  rw [pw_succ]; omega
theorem lt_up {a i j : Nat} (ha : a < pw i) (h : i ≤ j) : a < pw j := Nat.lt_of_lt_of_le ha (pw_le h)
end Go.Proofs.YtbeoeackahmpbaaGreatDoor.Api

namespace Go.Proofs.YtbeoeackahmpbaaGreatDoor
open Go.RowKit NatM

def IntP (w : World) (n : Nat) (e : Ending) (w' : World) : Prop := e = .returned (.int .i64 (n : Nat)) ∧ w' = w
theorem wrap_sum (c p q : Nat) (hc : c ≤ 24) (hp : p ≤ 8) (h : q = c + p) : wrap64 ((c : Int) + wrap64 (p : Int)) = (q : Int) := by
  subst h
  unfold wrap64; omega
theorem wrap_one (p : Nat) (hp : p ≤ 8) : wrap64 (wrap64 (p : Int)) = (p : Int) := by
  unfold wrap64; omega
theorem tab_at (i : Int) (h0 : 0 ≤ i) (h1 : i < 256) (hh : i.toNat < Lib.len8tab.size) : (((Lib.len8tab[i.toNat]'hh).toNat : Nat) : Int) = (Lib.bitLen i.toNat : Nat) := by
  have e := Lib.len8_eq ⟨i.toNat, by omega⟩
  simp only [Int.toNat_of_nonneg h0] at e
  unfold Lib.len8 at e
  rw [← e]
  simp [hh]
set_option maxHeartbeats 4000000 in
set_option maxRecDepth 100000 in
theorem len32_lib (x : Int) (w : World) (h0 : 0 ≤ x) (h1 : x ≤ 4294967295) :
    Calls Tryz.prog 100 #[.int .u32 x] w fun e w' => e = .returned (.int .i64 (Lib.bitLen x.toNat : Nat)) ∧ w' = w := by
  have hsz : Lib.len8tab.size = 256 := Lib.len8tab_size
  go_enter Tryz.func100, Tryz.ntmps100
  go_wp2
  all_goals (go_ret; refine ⟨congrArg Ending.returned (congrArg (Value.int IntKind.i64) ?_), rfl⟩)
  · rw [tab_at _ (by omega) (by omega)]
    have e : (x / 65536 / 256).toNat = x.toNat / 16777216 := by omega
    have l := Lib.bitLen_le8' (x / 65536 / 256) (by omega) (by omega)
    have s := Lib.bitLen_shift24 x.toNat (by omega) (by omega)
    rw [e] at l ⊢
    exact wrap_sum _ _ _ (by decide) l s
  · rw [tab_at _ (by omega) (by omega)]
    have e : (x / 65536).toNat = x.toNat / 65536 := by omega
    have l := Lib.bitLen_le8' (x / 65536) (by omega) (by omega)
    have s := Lib.bitLen_shift16 x.toNat (by omega) (by omega)
    rw [e] at l ⊢
    exact wrap_sum _ _ _ (by decide) l s
  · rw [tab_at _ (by omega) (by omega)]
    have e : (x / 256).toNat = x.toNat / 256 := by omega
    have l := Lib.bitLen_le8' (x / 256) (by omega) (by omega)
    have s := Lib.bitLen_shift8 x.toNat (by omega) (by omega)
    rw [e] at l ⊢
    exact wrap_sum _ _ _ (by decide) l s
  · rw [tab_at _ (by omega) (by omega)]
    exact wrap_one _ (Lib.bitLen_le8' x (by omega) (by omega))
theorem len32_any (x : Nat) (w : World) (h : x < 4294967296) : Calls Tryz.prog 100 #[.int .u32 (x : Nat)] w (IntP w (nb x)) := by
  refine (len32_lib (x : Int) w (by omega) (by omega)).mono fun e w' ⟨h1, h2⟩ => ⟨?_, h2⟩
  rw [h1, Int.toNat_natCast, bitLen_nb x (by omega)]

theorem bits_any (va : Value) (xs : List Nat) (w : World) (ha : Reads w va xs) (hs : xs.length ≤ 1000000) :
    Calls Tryz.prog 76 #[va] w (IntP w (nb (val xs))) := by
  have hx := ha.limbs
  have l1 := tlen_le xs
  by_cases h0 : tlen xs = 0
  · have hF : IntP w (nb (val xs)) (.returned (.int .i64 0)) w := by rw [val_eq_zero.2 h0]; exact ⟨rfl, rfl⟩
    go_enter Tryz.func76, Tryz.ntmps76
    go_wp2_with fail
    refine (cut_any _ _ _ ha).mono ?_; rintro e w' ⟨va', rfl, rfl, hva, ao, c, -, rfl⟩
    rw [h0] at hva ⊢
    go_wp2_with fail
    go_ret
    exact hF
  · obtain ⟨t, ht⟩ : ∃ t, tlen xs = t + 1 := ⟨tlen xs - 1, by omega⟩
    have hv := nb_val hx h0
    rw [ht, Nat.add_sub_cancel] at hv
    obtain ⟨x, hxe⟩ : ∃ x, x = xs.getD t 0 := ⟨_, rfl⟩
    have hxl : x < 4294967296 := by rw [hxe]; exact hx.getD t
    rw [← hxe] at hv
    have hb := nb_limb hxl
    obtain ⟨b, hbe⟩ : ∃ b, b = nb x := ⟨_, rfl⟩
    rw [← hbe] at hv hb
    have hF : IntP w (nb (val xs)) (.returned (.int .i64 (32 * (t : Int) + b))) w := by rw [hv]; exact ⟨by simp, rfl⟩
    have HB := Lib.hid hbe
    have HXE := Lib.hid hxe
    have HT := Lib.hid ht
    have ht1 : t ≤ 1000000 := by omega
    clear hv hbe hxe ht h0 l1
    go_enter Tryz.func76, Tryz.ntmps76
    go_wp2_with fail
    refine (cut_any _ _ _ ha).mono ?_; rintro e w' ⟨va', rfl, rfl, hva, ao, c, -, rfl⟩
    rw [HT.out] at hva ⊢
    obtain ⟨ao', n', c', e, hl, hc, hm, -, hr⟩ := hva
    simp only [Value.slice.injEq] at e
    obtain ⟨rfl, rfl, rfl⟩ := e
    obtain ⟨b1, off, rfl, g⟩ := hr (by omega)
    have hcell := g t (by omega)
    have hxt : (trim xs).getD t 0 = x := by unfold trim; rw [getD_take _ _ _ (by rw [HT.out]; omega), HXE.out]
    rw [hxt] at hcell
    clear g hr hl hc hm hxt
    go_wp2_with (go_at_call 100; refine (len32_any x _ hxl).mono ?_; rintro e w' ⟨rfl, rfl⟩; rw [← HB.out])
    go_ret
    exact hF

/-- bits.LeadingZeros32. -/
theorem lz32_any (x : Nat) (w : World) (h : x < 4294967296) : Calls Tryz.prog 148 #[.int .u32 (x : Nat)] w (IntP w (32 - nb x)) := by
  have hb := nb_limb h
  obtain ⟨b, hbe⟩ : ∃ b, b = nb x := ⟨_, rfl⟩
  rw [← hbe] at hb ⊢
  have hF : IntP w (32 - b) (.returned (.int .i64 (32 - (b : Int)))) w := ⟨by rw [Int.ofNat_sub hb]; rfl, rfl⟩
  have HB := Lib.hid hbe
  clear hbe
  go_enter Tryz.func148, Tryz.ntmps148
  go_wp2_with (go_at_call 100; refine (len32_any x _ h).mono ?_; rintro e w' ⟨rfl, rfl⟩; rw [← HB.out])
  go_ret
  exact hF
end Go.Proofs.YtbeoeackahmpbaaGreatDoor

namespace Go.Proofs.YtbeoeackahmpbaaGreatDoor
open Go.RowKit NatM

theorem shift_le (x t : Nat) (hx : x < 4294967296) (ht : t < 32) : x * 2 ^ t < 18446744073709551616 := by
  have a : x * 2 ^ t ≤ 4294967295 * 2147483648 := Nat.mul_le_mul (by omega) (Nat.pow_le_pow_right (n := 2) (by decide) (by omega : t ≤ 31))
  omega
theorem wrap_shift (x t : Nat) (hx : x < 4294967296) (ht : t < 32) : IntKind.u64.wrap ((x : Int) * 2 ^ t) = ((x * 2 ^ t : Nat) : Int) := by
  have h := shift_le x t hx ht
  have e : (x : Int) * 2 ^ t = ((x * 2 ^ t : Nat) : Int) := by simp
  rw [e, IntKind.wrap_u64]
  omega
theorem or_shift (z x t : Nat) (hz : z < 2 ^ t) (ht : t < 32) : bits BinOp.or IntKind.u32 (z : Int) (((x * 2 ^ t : Nat) : Int) % 4294967296) = ((z + x * 2 ^ t % 4294967296 : Nat) : Int) := by
  have e : ((x * 2 ^ t : Nat) : Int) % 4294967296 = ((x * 2 ^ t % 4294967296 : Nat) : Int) := by omega
  have hz' : z < 4294967296 := Nat.lt_of_lt_of_le hz (Nat.pow_le_pow_right (n := 2) (by decide) (by omega : t ≤ 32))
  rw [e, u32_or_nat _ _ hz' (Nat.mod_lt _ (by decide)), or_low hz ht]
theorem high_shift (x t : Nat) (hx : x < 4294967296) (ht : t < 32) : ((x * 2 ^ t : Nat) : Int) / 4294967296 % 4294967296 = ((x * 2 ^ t / 4294967296 : Nat) : Int) := by
  have h := shift_le x t hx ht
  omega

/-- What raised returns: a new row. -/
def RaisedP (w : World) (xs : List Nat) (n : Nat) (e : Ending) (w' : World) : Prop :=
  ∃ L zs, e = .returned (.slice (some ⟨w.heap.size, 0, none⟩) L L) ∧ Own w' w.heap.size w.heap.size L zs ∧ L = xs.length + n / 32 + 1 ∧ Limbs zs ∧ val zs = val xs * 2 ^ n ∧ Add w w'
set_option maxRecDepth 100000 in
set_option maxHeartbeats 2000000 in
theorem raised_any (va : Value) (xs : List Nat) (n : Nat) (w : World) (ha : Reads w va xs) (hs : xs.length ≤ 1000000) (hn : n ≤ 1000000) :
    Calls Tryz.prog 143 #[va, .int .i64 (n : Nat)] w (RaisedP w xs n) := by
  obtain ⟨i0, hi, hz0, hz1, hz2⟩ := info_parts info93
  obtain ⟨aa, l, ca, rfl, hln, hc, hm, hx, hr⟩ := ha
  unfold maxLen at hm
  rw [hln] at hs
  have HLn := Lib.hid hln
  obtain ⟨s, hse⟩ : ∃ s, s = n / 32 := ⟨_, rfl⟩
  obtain ⟨t, hte⟩ : ∃ t, t = n % 32 := ⟨_, rfl⟩
  have hsi : (n : Int) / 32 = (s : Int) := by omega
  have hti : (n : Int) % 32 = (t : Int) := by omega
  have ht32 : t < 32 := by omega
  have hsb : s ≤ 1000000 := by omega
  have HS := Lib.hid hse
  have HT := Lib.hid hte
  clear hln hse hte
  go_enter Tryz.func143, Tryz.ntmps143
  go_wp2_with (at_make; refine wpList_make_full _ rfl _ _ 35 rfl w.heap.size 93 i0 (.int .u32 0) 1 Tryz.underlying35 hi hz0 hz1 _ _ _ _ (l + s + 1) rfl rfl (by omega) (by omega) (by rw [hz2]; omega) (by unfold maxLen; omega) (Nat.le_refl _) ?_)
  intro w1 hown hgr
  have hadd : Add w w1 := (Below.refl _ _).grown hgr (Nat.le_refl _) (by simp)
  have hown := Own.made hown
  clear hgr hsi hti
  go_wp2_with fail
  go_loopw [23] (fun i wr => ∃ (k : Nat) (zs : List Nat), k ≤ l ∧ i = .int .i64 k ∧ Own wr w.heap.size w.heap.size (l + s + 1) zs ∧ Limbs zs ∧ UpAt xs zs s t k ∧ Add w wr) (fun i _ => l - (intOf i).toNat)
  case atStart => exact ⟨0, _, Nat.zero_le _, rfl, hown, Limbs.replicate _, upAt_zero _ _ _ _, hadd⟩
  case round =>
    clear hown hadd
    obtain ⟨k, zs, hk, rfl, hown, hzs, hup, hadd⟩ := hrel
    have hb0 := hadd.size
    by_cases hlt : k < l
    · obtain ⟨b, off, rfl, g⟩ := hr (by omega)
      have hxc := arg_cell g hadd k hlt
      obtain ⟨x, hxe⟩ : ∃ x, x = xs.getD k 0 := ⟨_, rfl⟩
      have hxl : x < 4294967296 := by rw [hxe]; exact hx.getD k
      rw [← hxe] at hxc
      have hcell := hown.cell (k + s) (by omega)
      have hfree := hown.free (k + s)
      have hcell2 := hown.cell (k + s + 1) (by omega)
      have hfree2 := hown.free (k + s + 1)
      obtain ⟨z, hze⟩ : ∃ z, z = zs.getD (k + s) 0 := ⟨_, rfl⟩
      have hzl : z < 4294967296 := by rw [hze]; exact hzs.getD _
      rw [← hze] at hcell
      have HX := Lib.hid hxe
      have HZ := Lib.hid hze
      have HUP := Lib.hid hup
      clear hxe hze hup g hr
      go_wp2_with fail
      go_roundw
      case rel =>
        have hz := hown.length
        have hzt : z < 2 ^ t := by rw [HZ.out]; exact HUP.out.2.1
        have e1 := wrap_shift x t hxl ht32
        have e2 := or_shift z x t hzt ht32
        have e3 := high_shift x t hxl ht32
        rw [e1, e2, e3]
        have h1 := upAt_step HUP.out (by omega) ht32 (by rw [← HX.out]; exact hxl)
        rw [← HX.out, ← HZ.out] at h1
        have hhi : x * 2 ^ t / 4294967296 < 4294967296 := by
          have : x * 2 ^ t < 4294967296 * 4294967296 := by
            have a : x * 2 ^ t ≤ 4294967295 * 2147483648 := Nat.mul_le_mul (by omega) (Nat.pow_le_pow_right (n := 2) (by decide) (by omega : t ≤ 31))
            omega
          exact Nat.div_lt_of_lt_mul this
        exact ⟨k + 1, _, by omega, by go_num, (hown.set _ _).set _ _, (hzs.set _ _ (low_fits hzt ht32)).set _ _ hhi, h1, (Below.setCell hadd (Nat.le_refl _) _).setCell (Nat.le_refl _) _⟩
      case measure => simp [intOf]; omega
    · obtain rfl : k = l := by omega
      have hz := hown.length
      have hF : RaisedP w xs n (.returned (.slice (some ⟨w.heap.size, 0, none⟩) (k + s + 1) (k + s + 1))) wr := by
        refine ⟨_, zs, rfl, hown, by rw [HLn.out, HS.out], hzs, ?_, hadd⟩
        have h1 := hup
        rw [← HLn.out] at h1
        rw [upAt_done h1 (by rw [hz, HLn.out])]
        congr 2
        rw [HS.out, HT.out]; omega
      clear hup
      go_wp2_with fail
      go_ret
      exact hF

theorem take_set_eq {zs ts : List Nat} {k s : Nat} (h : zs.take k = ts.take k) (hk : k < zs.length) (hk' : k < ts.length) (e : s = ts.getD k 0) : (zs.set k s).take (k + 1) = ts.take (k + 1) := by
  rw [List.take_succ_eq_append_getElem (by simpa using hk), List.take_succ_eq_append_getElem hk', take_set_lt, h]
  congr 2
  rw [List.getElem_set_self, e]
  simp [List.getD, hk']

theorem reads_drewN {w : World} {v : Value} {xs : List Nat} (h : Reads w v xs) (n : Nat) : Reads (w.drewN n) v xs := h.mono (below_drewN (Below.refl _ _) n)
/-- What lowered returns. -/
def LoweredP (w : World) (xs : List Nat) (n : Nat) (e : Ending) (w' : World) : Prop :=
  ∃ L zs, e = .returned (.slice (some ⟨w.heap.size, 0, none⟩) L L) ∧ Own w' w.heap.size w.heap.size L zs ∧ Limbs zs ∧ val zs = val xs / 2 ^ n ∧ L ≤ xs.length ∧ Add w w'
set_option maxRecDepth 100000 in
set_option maxHeartbeats 2000000 in
theorem lowered_any (va : Value) (xs : List Nat) (n : Nat) (w : World) (ha : Reads w va xs) (hs : xs.length ≤ 1000002) (hn : n / 32 ≤ xs.length) :
    Calls Tryz.prog 142 #[va, .int .i64 (n : Nat)] w (LoweredP w xs n) := by
  obtain ⟨i0, hi, hz0, hz1, hz2⟩ := info_parts info93
  obtain ⟨aa, l, ca, rfl, hln, hc, hm, hx, hr⟩ := id ha
  unfold maxLen at hm
  rw [hln] at hs hn
  obtain ⟨s, hse⟩ : ∃ s, s = n / 32 := ⟨_, rfl⟩
  obtain ⟨t, hte⟩ : ∃ t, t = n % 32 := ⟨_, rfl⟩
  have hsi : (n : Int) / 32 = (s : Int) := by omega
  have hti : (n : Int) % 32 = (t : Int) := by omega
  have ht32 : t < 32 := by omega
  rw [← hse] at hn
  obtain ⟨L, hL⟩ : ∃ L, L = l - s := ⟨_, rfl⟩
  have hLi : (l : Int) - (s : Int) = (L : Int) := by omega
  obtain ⟨ts, hts⟩ : ∃ ts, ts = shr t (xs.drop s) := ⟨_, rfl⟩
  have htl : ts.length = L := by rw [hts, length_shr, List.length_drop, hln, hL]
  have htg : ∀ k, k < L → ts.getD k 0 = (xs.getD (k + s) 0 + 4294967296 * xs.getD (k + s + 1) 0) / 2 ^ t % 4294967296 := by
    intro k hk
    rw [hts, shr_getD _ _ _ (by rw [List.length_drop, hln]; omega)]
    have d : ∀ j, (xs.drop s).getD j 0 = xs.getD (s + j) 0 := by intro j; simp [List.getD]
    rw [d, d, show s + k = k + s from by omega, show s + (k + 1) = k + s + 1 from by omega]
  have htv : val ts = val xs / 2 ^ n := by
    rw [hts, val_down hx (by rw [hln]; exact hn) ht32]
    congr 2
    rw [hse, hte]; omega
  have htlim : Limbs ts := by rw [hts]; exact shr_limbs _ _
  have hLl : L ≤ l := by omega
  have HLn := Lib.hid hln
  have HL := Lib.hid hL
  have HTL := Lib.hid htl
  have HTG := Lib.hid htg
  have HTV := Lib.hid htv
  clear hln hse hte hL hts htl htg htv
  go_enter Tryz.func142, Tryz.ntmps142
  go_wp2_with (at_make; refine wpList_make_full _ rfl _ _ 35 rfl w.heap.size 93 i0 (.int .u32 0) 1 Tryz.underlying35 hi hz0 hz1 _ _ _ _ L rfl rfl (by omega) (by omega) (by rw [hz2]; omega) (by unfold maxLen; omega) (Nat.le_refl _) ?_)
  intro w1 hown hgr
  have hadd : Add w w1 := (Below.refl _ _).grown hgr (Nat.le_refl _) (by simp)
  have hown := Own.made hown
  clear hgr hsi hti hLi
  go_wp2_with fail
  go_loopw [21] (fun i wr => ∃ (k : Nat) (zs : List Nat), k ≤ L ∧ i = .int .i64 k ∧ Own wr w.heap.size w.heap.size L zs ∧ Hid (zs.take k = ts.take k) ∧ Add w wr) (fun i _ => L - (intOf i).toNat)
  case atStart => exact ⟨0, _, Nat.zero_le _, rfl, hown, Lib.hid (by simp), hadd⟩
  case round =>
    clear hown hadd
    obtain ⟨k, zs, hk, rfl, hown, hpre, hadd⟩ := hrel
    have hb0 := hadd.size
    by_cases hlt : k < L
    · have hkl : k + s < l := by have := HL.out; omega
      have ha' := ha.mono hadd
      obtain ⟨b, off, rfl, g⟩ := hr (by omega)
      have hxc := arg_cell g hadd (k + s) hkl
      obtain ⟨x, hxe⟩ : ∃ x, x = xs.getD (k + s) 0 := ⟨_, rfl⟩
      obtain ⟨y, hye⟩ : ∃ y, y = xs.getD (k + s + 1) 0 := ⟨_, rfl⟩
      have hxl : x < 4294967296 := by rw [hxe]; exact hx.getD _
      have hyl : y < 4294967296 := by rw [hye]; exact hx.getD _
      rw [← hxe] at hxc
      have hcell := hown.cell k hlt
      have hfree := hown.free k
      obtain ⟨q, hqe⟩ : ∃ q, q = y * 4294967296 + x := ⟨_, rfl⟩
      have hjoin := join64 y x hyl hxl
      have hqi : (y : Int) * 4294967296 + x = (q : Int) := by omega
      rw [hqi] at hjoin
      have hqb : q < 18446744073709551616 := by omega
      have hlimb := fun wz (h : Reads wz (.slice (some ⟨b, off, none⟩) l ca) xs) => limb_fn (.slice (some ⟨b, off, none⟩) l ca) xs ((k : Int) + s + 1) y wz h (by omega) (by rw [hye]; congr 1)
      have HLIMB := Lib.hid hlimb
      have HX := Lib.hid hxe
      have HY := Lib.hid hye
      have HQ := Lib.hid hqe
      clear hxe hye hqe hlimb g hr hqi
      go_wp2_with fail
      go_quiet ((go_at_call 150; exact (HLIMB.out _ (by exact reads_drewN ha' _)).mono fun _ _ h => ⟨h.1, _, h.2⟩))
      go_wp2_with fail
      go_roundw
      case rel =>
        have hz := hown.length
        obtain ⟨r, hre⟩ : ∃ r, r = q / 2 ^ t % 4294967296 := ⟨_, rfl⟩
        have e1 : (q : Int) / 2 ^ t % 4294967296 = (r : Int) := by
          rw [hre]; simp
        rw [e1]
        have hown2 : Own ((wr.drewN nq).setCell ⟨w.heap.size, k, none⟩ (.int .u32 (r : Nat))) w.heap.size w.heap.size L (zs.set k r) := Own.set (w := wr.drewN nq) hown k _
        refine ⟨k + 1, _, by omega, by go_num, hown2, Lib.hid ?_, Below.setCell (below_drewN hadd nq) (Nat.le_refl _) _⟩
        refine take_set_eq hpre.out (by omega) (by rw [HTL.out]; exact hlt) ?_
        rw [HTG.out k hlt, hre, HQ.out, HX.out, HY.out]
        congr 2
        omega
      case measure => simp [intOf]; omega
    · obtain rfl : k = L := by omega
      have hz := hown.length
      have hzt : zs = ts := by
        have h1 := hpre.out
        rwa [List.take_of_length_le (by omega), List.take_of_length_le (by rw [HTL.out]; exact Nat.le_refl _)] at h1
      subst hzt
      have hF : LoweredP w xs n (.returned (.slice (some ⟨w.heap.size, 0, none⟩) k k)) wr :=
        ⟨_, zs, rfl, hown, htlim, HTV.out, by rw [HLn.out]; exact hLl, hadd⟩
      go_wp2_with fail
      go_ret
      exact hF

/-! Shift -/
theorem shift_big (va : Value) (xs : List Nat) (n : Int) (w : World) (ha : Reads w va xs) (hs : xs.length ≤ 1000000) (hA : pw 512 ≤ val xs) :
    Calls Tryz.prog 132 #[va, .int .i64 n] w (ErrP w 2) := by
  have LA := big_large ha hA
  have HB := Lib.hid (bits_any va xs w ha hs)
  clear hA
  go_enter Tryz.func132, Tryz.ntmps132
  go_wp2_with fail
  refine HB.out.mono ?_; rintro e w' ⟨rfl, rfl⟩
  go_wp2_with fail
  refine (large_is true _ _ _ ha LA.out).mono ?_; rintro e w' ⟨rfl, rfl⟩
  go_wp2_with fail
  go_ret2
  exact ⟨rfl, Below.refl _ _⟩

/-- Shift of 0, or down by all digits. -/
theorem shift_zero (va : Value) (xs : List Nat) (n : Int) (w : World) (ha : Reads w va xs) (hs : xs.length ≤ 1000000) (hA : val xs < pw 512) (hn : nb (val xs) = 0 ∨ n ≤ -(nb (val xs) : Int)) :
    Calls Tryz.prog 132 #[va, .int .i64 n] w (OkP w 0) := by
  have LA := small_large ha hA
  have hb := bits_any va xs w ha hs
  have hbs := nb_lt_pw.1 hA
  obtain ⟨b, hbe⟩ : ∃ b, b = nb (val xs) := ⟨_, rfl⟩
  rw [← hbe] at hb hbs hn
  have HB := Lib.hid hb
  have hF : OkP w 0 (.returned (.tuple #[.slice none 0 0, .int .i64 0])) w := ⟨_, rfl, Num.nil w, Below.refl _ _⟩
  clear hA hb hbe
  by_cases h0 : b = 0
  · subst h0
    go_enter Tryz.func132, Tryz.ntmps132
    go_wp2_with fail
    refine HB.out.mono ?_; rintro e w' ⟨rfl, rfl⟩
    go_wp2_with fail
    refine (large_is false _ _ _ ha LA.out).mono ?_; rintro e w' ⟨rfl, rfl⟩
    go_wp2_with fail
    go_ret2
    exact hF
  · have hne : ((b : Int) == 0) = false := by simp; omega
    have hle : n ≤ -(b : Int) := by omega
    clear hn h0
    go_enter Tryz.func132, Tryz.ntmps132
    go_wp2_with fail
    refine HB.out.mono ?_; rintro e w' ⟨rfl, rfl⟩
    go_wp2_with fail
    refine (large_is false _ _ _ ha LA.out).mono ?_; rintro e w' ⟨rfl, rfl⟩
    go_wp2_with fail
    go_ret2
    exact hF

/-- Shift beyond the limit. -/
theorem shift_over (va : Value) (xs : List Nat) (n : Int) (w : World) (ha : Reads w va xs) (hs : xs.length ≤ 1000000) (hA : val xs < pw 512) (h0 : nb (val xs) ≠ 0) (hn : 16384 - (nb (val xs) : Int) < n) :
    Calls Tryz.prog 132 #[va, .int .i64 n] w (ErrP w 2) := by
  have LA := small_large ha hA
  have hb := bits_any va xs w ha hs
  have hbs := nb_lt_pw.1 hA
  obtain ⟨b, hbe⟩ : ∃ b, b = nb (val xs) := ⟨_, rfl⟩
  rw [← hbe] at hb hbs hn h0
  have HB := Lib.hid hb
  have hne : ((b : Int) == 0) = false := by simp; omega
  have hle : -(b : Int) < n := by omega
  clear hA hb hbe h0
  go_enter Tryz.func132, Tryz.ntmps132
  go_wp2_with fail
  refine HB.out.mono ?_; rintro e w' ⟨rfl, rfl⟩
  go_wp2_with fail
  refine (large_is false _ _ _ ha LA.out).mono ?_; rintro e w' ⟨rfl, rfl⟩
  go_wp2_with fail
  go_ret2
  exact ⟨rfl, Below.refl _ _⟩

/-- Shift down. -/
theorem shift_down (va : Value) (xs : List Nat) (k : Nat) (w : World) (ha : Reads w va xs) (hs : xs.length ≤ 1000000) (hA : val xs < pw 512) (hk : 0 < k) (hkb : k < nb (val xs)) :
    Calls Tryz.prog 132 #[va, .int .i64 (-(k : Int))] w (OkP w (val xs / 2 ^ k)) := by
  have LA := small_large ha hA
  have hb := bits_any va xs w ha hs
  have hbs := nb_lt_pw.1 hA
  have hlen : k / 32 ≤ (trim xs).length := by
    have h1 := tlen_gt_of_val ha.limbs (k / 32) (by
      have h2 := nb_le (n := val xs) (by intro e; rw [e] at hkb; simp [nb] at hkb)
      rw [pw_two]
      have h3 : 2 ^ (32 * (k / 32)) ≤ 2 ^ (nb (val xs) - 1) := Nat.pow_le_pow_right (by decide) (by omega)
      omega)
    rw [length_trim]; omega
  obtain ⟨b, hbe⟩ : ∃ b, b = nb (val xs) := ⟨_, rfl⟩
  rw [← hbe] at hb hbs hkb
  have HB := Lib.hid hb
  have hne : ((b : Int) == 0) = false := by simp; omega
  have l1 := tlen_le xs
  clear hA hb hbe
  go_enter Tryz.func132, Tryz.ntmps132
  go_wp2_with fail
  refine HB.out.mono ?_; rintro e w' ⟨rfl, rfl⟩
  go_wp2_with fail
  refine (large_is false _ _ _ ha LA.out).mono ?_; rintro e w' ⟨rfl, rfl⟩
  go_wp2_with fail
  refine (cut_any _ _ _ ha).mono ?_; rintro e w' ⟨va', rfl, rfl, hva, -⟩
  go_wp2_with fail
  refine (lowered_any _ _ k _ hva (by rw [length_trim]; omega) hlen).mono ?_
  rintro e w2 ⟨L, zs, rfl, hown, hlim, hzv, hL, hadd⟩
  rw [val_trim] at hzv
  rw [length_trim] at hL
  have hz := hown.reads (by unfold maxLen; omega) hlim
  have HV := Lib.hid hzv
  clear hzv hL hown
  go_wp2_with fail
  refine (cut_any _ _ _ hz).mono ?_; rintro e w' ⟨v', rfl, rfl, hv', -⟩
  go_wp2_with fail
  go_ret2
  exact ⟨_, rfl, ⟨_, hv', Canon.trim _, by rw [val_trim, HV.out]⟩, hadd⟩

/-- Shift up. -/
theorem shift_up (va : Value) (xs : List Nat) (k : Nat) (w : World) (ha : Reads w va xs) (hs : xs.length ≤ 1000000) (hA : val xs < pw 512) (h0 : nb (val xs) ≠ 0) (hk : nb (val xs) + k ≤ 16384) :
    Calls Tryz.prog 132 #[va, .int .i64 (k : Nat)] w (OkP w (val xs * 2 ^ k)) := by
  have LA := small_large ha hA
  have hb := bits_any va xs w ha hs
  have hbs := nb_lt_pw.1 hA
  obtain ⟨b, hbe⟩ : ∃ b, b = nb (val xs) := ⟨_, rfl⟩
  rw [← hbe] at hb hbs hk h0
  have HB := Lib.hid hb
  have hne : ((b : Int) == 0) = false := by simp; omega
  have l1 := tlen_le xs
  clear hA hb hbe
  go_enter Tryz.func132, Tryz.ntmps132
  go_wp2_with fail
  refine HB.out.mono ?_; rintro e w' ⟨rfl, rfl⟩
  go_wp2_with fail
  refine (large_is false _ _ _ ha LA.out).mono ?_; rintro e w' ⟨rfl, rfl⟩
  go_wp2_with fail
  refine (cut_any _ _ _ ha).mono ?_; rintro e w' ⟨va', rfl, rfl, hva, -⟩
  go_wp2_with fail
  refine (raised_any _ _ k _ hva (by rw [length_trim]; omega) (by omega)).mono ?_
  rintro e w2 ⟨L, zs, rfl, hown, hL, hlim, hzv, hadd⟩
  rw [val_trim] at hzv
  rw [length_trim] at hL
  have hz := hown.reads (by unfold maxLen; omega) hlim
  have HV := Lib.hid hzv
  clear hzv hL hown
  go_wp2_with fail
  refine (cut_any _ _ _ hz).mono ?_; rintro e w' ⟨v', rfl, rfl, hv', -⟩
  go_wp2_with fail
  go_ret2
  exact ⟨_, rfl, ⟨_, hv', Canon.trim _, by rw [val_trim, HV.out]⟩, hadd⟩
end Go.Proofs.YtbeoeackahmpbaaGreatDoor

namespace Go.Proofs.YtbeoeackahmpbaaGreatDoor
open Go.RowKit NatM

/-- The digit for a number whose leading two limbs are T. -/
def guessT (T w0 d1 d0 : Nat) : Nat := min ((T * 4294967296 + w0) / (d1 * 4294967296 + d0)) 4294967295
theorem guess_T (w2 w1 w0 d1 d0 : Nat) : guessOf w2 w1 w0 d1 d0 = guessT (w2 * 4294967296 + w1) w0 d1 d0 := rfl
/-- What the loop of guess keeps. -/
def GuessAt (T w0 d1 d0 g r : Nat) : Prop := r + g * d1 = T ∧ guessT T w0 d1 d0 ≤ g ∧ g ≤ 4294967295
theorem guess_start {T w0 d1 d0 : Nat} (hw0 : w0 < 4294967296) (hd : 0 < d1) :
    GuessAt T w0 d1 d0 (min (T / d1) 4294967295) (T - min (T / d1) 4294967295 * d1) := by
  have h1 : min (T / d1) 4294967295 * d1 ≤ T := Nat.le_trans (Nat.mul_le_mul_right _ (Nat.min_le_left _ _)) (Nat.div_mul_le_self T d1)
  refine ⟨by omega, ?_, Nat.min_le_right _ _⟩
  have h2 : (T * 4294967296 + w0) / (d1 * 4294967296 + d0) ≤ T / d1 := by
    rw [Nat.le_div_iff_mul_le hd]
    have h3 := Nat.div_mul_le_self (T * 4294967296 + w0) (d1 * 4294967296 + d0)
    generalize (T * 4294967296 + w0) / (d1 * 4294967296 + d0) = q at h3 ⊢
    rw [Nat.mul_add, ← Nat.mul_assoc] at h3
    generalize q * d1 = p at h3 ⊢
    generalize q * d0 = p' at h3
    omega
  unfold guessT
  generalize (T * 4294967296 + w0) / (d1 * 4294967296 + d0) = q at h2 ⊢
  generalize T / d1 = q' at h2 ⊢
  omega
theorem big_arith0 {B T w0 r p q : Nat} (h1 : r + p = T) (hgt : r * B + w0 < q) : T * B + w0 < p * B + q := by
  subst h1
  rw [Nat.add_mul, Nat.add_comm (r * B), Nat.add_assoc]
  exact Nat.add_lt_add_left hgt _
theorem big_arith {T w0 r p q : Nat} (h1 : r + p = T) (hgt : r * 4294967296 + w0 < q) : T * 4294967296 + w0 < p * 4294967296 + q := big_arith0 h1 hgt
theorem guess_down {T w0 d1 d0 g r : Nat} (h : GuessAt T w0 d1 d0 g r) (hgt : r * 4294967296 + w0 < g * d0) : 0 < g ∧ GuessAt T w0 d1 d0 (g - 1) (r + d1) := by
  obtain ⟨h1, h2, h3⟩ := h
  have hg : 0 < g := by
    rcases Nat.eq_zero_or_pos g with h0 | h0
    · subst h0; simp at hgt
    · exact h0
  refine ⟨hg, ?_, ?_, by omega⟩
  · rw [Nat.sub_mul, Nat.one_mul, Nat.add_assoc]
    have : d1 ≤ g * d1 := Nat.le_mul_of_pos_left _ hg
    omega
  · have e : g * (d1 * 4294967296 + d0) = g * d1 * 4294967296 + g * d0 := by rw [Nat.mul_add, Nat.mul_assoc]
    have hbig : T * 4294967296 + w0 < (d1 * 4294967296 + d0) * g := by
      rw [Nat.mul_comm (d1 * 4294967296 + d0) g, e]
      exact big_arith h1 hgt
    have h4 : (T * 4294967296 + w0) / (d1 * 4294967296 + d0) < g := Nat.div_lt_of_lt_mul hbig
    unfold guessT at h2 ⊢
    generalize (T * 4294967296 + w0) / (d1 * 4294967296 + d0) = z at h2 h4 ⊢
    omega
theorem guess_stop {T w0 d1 d0 g r : Nat} (h : GuessAt T w0 d1 d0 g r) (hd : 0 < d1) (hd0 : d0 < 4294967296) (hs : 4294967296 ≤ r ∨ g * d0 ≤ r * 4294967296 + w0) : g = guessT T w0 d1 d0 := by
  obtain ⟨h1, h2, h3⟩ := h
  have e : g * (d1 * 4294967296 + d0) = g * d1 * 4294967296 + g * d0 := by rw [Nat.mul_add, Nat.mul_assoc]
  have h4 : g * (d1 * 4294967296 + d0) ≤ T * 4294967296 + w0 := by
    rw [e]
    rcases hs with hs | hs
    · have : g * d0 ≤ 4294967296 * 4294967296 := Nat.mul_le_mul (by omega) (by omega)
      generalize g * d1 = p at h1 ⊢
      generalize g * d0 = q at this ⊢
      omega
    · generalize g * d1 = p at h1 ⊢
      generalize g * d0 = q at hs ⊢
      omega
  have h5 : g ≤ (T * 4294967296 + w0) / (d1 * 4294967296 + d0) := (Nat.le_div_iff_mul_le (by omega)).2 h4
  unfold guessT at h2 ⊢
  generalize (T * 4294967296 + w0) / (d1 * 4294967296 + d0) = z at h2 h5 ⊢
  omega

def GuessP (w : World) (g : Nat) (e : Ending) (w' : World) : Prop := e = .returned (.int .u32 (g : Nat)) ∧ w' = w
set_option maxRecDepth 100000 in
set_option maxHeartbeats 2000000 in
theorem guess_any (w2 w1 w0 d1 d0 : Nat) (w : World) (h2 : w2 < 4294967296) (h1 : w1 < 4294967296) (h0 : w0 < 4294967296) (hd1 : 0 < d1) (hd1' : d1 < 4294967296) (hd0 : d0 < 4294967296) :
    Calls Tryz.prog 155 #[.int .u32 (w2 : Nat), .int .u32 (w1 : Nat), .int .u32 (w0 : Nat), .int .u32 (d1 : Nat), .int .u32 (d0 : Nat)] w (GuessP w (guessOf w2 w1 w0 d1 d0)) := by
  obtain ⟨T, hT⟩ : ∃ T, T = w2 * 4294967296 + w1 := ⟨_, rfl⟩
  have hj := join64 w2 w1 h2 h1
  have hTi : (w2 : Int) * 4294967296 + w1 = (T : Int) := by omega
  rw [hTi] at hj
  have hTb : T < 18446744073709551616 := by omega
  have hst := guess_start (T := T) (d0 := d0) h0 hd1
  rw [guess_T, ← hT]
  obtain ⟨g0, hg0⟩ : ∃ g0, g0 = min (T / d1) 4294967295 := ⟨_, rfl⟩
  obtain ⟨p0, hp0⟩ : ∃ p0, p0 = g0 * d1 := ⟨_, rfl⟩
  rw [← hg0, ← hp0] at hst
  have hpT : p0 ≤ T := by have := hst.1; omega
  have hpi : (g0 : Int) * (d1 : Int) = (p0 : Int) := by rw [hp0]; simp
  have hqi : (T : Int) / (d1 : Int) = ((T / d1 : Nat) : Int) := (Int.natCast_ediv _ _).symm
  obtain ⟨Q, hQ⟩ : ∃ Q, Q = T / d1 := ⟨_, rfl⟩
  rw [← hQ] at hqi hg0
  have hQT : Q ≤ T := by rw [hQ]; exact Nat.div_le_self _ _
  have hne : ((d1 : Int) == 0) = false := by simp; omega
  have HST := Lib.hid hst
  clear hst hT hQ hp0 hTi
  have hmin : min (Q : Int) 4294967295 = (g0 : Int) := by omega
  have hgb : g0 ≤ 4294967295 := by omega
  clear hg0
  go_enter Tryz.func155, Tryz.ntmps155
  go_wp2_with fail
  go_loop [12, 13] (fun g r => ∃ gg rr : Nat, g = .int .u64 (gg : Nat) ∧ r = .int .u64 (rr : Nat) ∧ gg ≤ 4294967295 ∧ rr < 18446744073709551616 ∧ Hid (GuessAt T w0 d1 d0 gg rr)) (fun g _ => (intOf g).toNat)
  case atStart => exact ⟨g0, T - p0, rfl, by rw [Int.ofNat_sub hpT], hgb, by omega, HST⟩
  case round =>
    obtain ⟨g, r, rfl, rfl, hg, hr, hat⟩ := hrel
    clear hmin hgb hpi hqi hQT hpT HST hj
    obtain ⟨p, hp⟩ : ∃ p, p = g * d0 := ⟨_, rfl⟩
    have hpi : (g : Int) * (d0 : Int) = (p : Int) := by rw [hp]; simp
    have hpb : p ≤ 18446744065119617025 := by
      rw [hp]
      exact Nat.le_trans (Nat.mul_le_mul hg (by omega : d0 ≤ 4294967295)) (by decide)
    have HP := Lib.hid hp
    clear hp
    by_cases hrb : r ≤ 4294967295
    · have hj := join64 r w0 (by omega) h0
      by_cases hgt : r * 4294967296 + w0 < p
      · have hd := guess_down hat.out (by rw [← HP.out]; exact hgt)
        have hg0 := hd.1
        have HD := Lib.hid hd.2
        clear hd
        go_wp2_with fail
        go_round
        case rel => exact ⟨g - 1, r + d1, by rw [Int.ofNat_sub hg0]; rfl, by simp, by omega, by omega, HD⟩
        case measure => simp [intOf]; omega
      · have hs := guess_stop hat.out hd1 hd0 (.inr (by rw [← HP.out]; omega))
        have HS := Lib.hid hs
        clear hs
        go_wp2_with fail
        go_ret
        exact ⟨by rw [← HS.out]; rfl, rfl⟩
    · have hrb2 : 4294967295 < r := by omega
      have hs := guess_stop hat.out hd1 hd0 (.inl (by omega))
      have HS := Lib.hid hs
      clear hs
      go_wp2_with fail
      go_ret
      exact ⟨by rw [← HS.out]; rfl, rfl⟩
end Go.Proofs.YtbeoeackahmpbaaGreatDoor

namespace Go.Proofs.YtbeoeackahmpbaaGreatDoor
open Go.RowKit NatM

theorem Row.kept2 {w : World} {g g2 : Nat} {ds : List Nat} (h : Row w g2 ds) (hne : g ≠ g2) (i : Nat) (u : Value) : Row (w.setCell ⟨g, i, none⟩ u) g2 ds :=
  h.kept (grown_setCell i u) (by intro e; injection e with e; exact hne e.symm)

/-- What subtractMultiple does. -/
def SubMulP (w : World) (g o n q : Nat) (zs ws ds : List Nat) (e : Ending) (w' : World) : Prop :=
  ∃ (us : List Nat) (b : Nat), e = .returned (.bool ((b : Int) == 0)) ∧ b ≤ 1 ∧ us.length = n + 1 ∧ Limbs us ∧ val us + q * val (ds.take n) = val ws + pw (n + 1) * b ∧ Row w' g (put zs o us) ∧ w.grownBy w' (some g)
set_option maxRecDepth 100000 in
set_option maxHeartbeats 4000000 in
theorem subtractMultiple_any (g o n c g2 c2 q : Nat) (zs ws ds : List Nat) (w : World) (hrow : Row w g (put zs o ws)) (hd : Row w g2 ds) (hne : g ≠ g2) (hws : ws.length = n + 1) (ho : o + (n + 1) ≤ zs.length) (hz : zs.length ≤ 3000000) (hn : n ≤ ds.length)
    (hwl : Limbs ws) (hdl : Limbs ds) (hq : q < 4294967296) :
    Calls Tryz.prog 156 #[.slice (some ⟨g, o, none⟩) (n + 1) c, .slice (some ⟨g2, 0, none⟩) n c2, .int .u32 (q : Nat)] w (SubMulP w g o n q zs ws ds) := by
  go_enter Tryz.func156, Tryz.ntmps156
  go_wp2_with fail
  go_loopw [7, 8, 14] (fun cv bv iv wr => ∃ (i cc b : Nat) (us : List Nat), i ≤ n ∧ cv = .int .u64 (cc : Nat) ∧ bv = .int .u32 (b : Nat) ∧ iv = .int .i64 (i : Nat) ∧ cc < 4294967296 ∧ b ≤ 1 ∧ Hid (SubMul ws ds us q i b cc) ∧ Limbs us ∧ Row wr g (put zs o us) ∧ Row wr g2 ds ∧ w.grownBy wr (some g)) (fun _ _ i _ => n - (intOf i).toNat)
  case atStart => exact ⟨0, 0, 0, ws, Nat.zero_le _, rfl, rfl, rfl, by decide, by decide, Lib.hid (subMul_zero _ _ _), hwl, hrow, hd, World.grownBy.refl _ _⟩
  case round =>
    clear hrow hd
    obtain ⟨i, cc, b, us, hi, rfl, rfl, rfl, hcc, hb, hsm, hus, hrow, hd, hgr⟩ := hrel
    have hul : us.length = n + 1 := hsm.out.1.trans hws
    have HUL := Lib.hid hul
    by_cases hlt : i < n
    · have hcell := hrow.cell (o + i) (by rw [put_length (by omega)]; omega)
      rw [put_getD (by omega) (by omega)] at hcell
      have hfree := hrow.free (o + i)
      have hdc := hd.cell i (by omega)
      obtain ⟨x, hxe⟩ : ∃ x, x = ds.getD i 0 := ⟨_, rfl⟩
      have hxl : x < 4294967296 := by rw [hxe]; exact hdl.getD i
      rw [← hxe] at hdc
      obtain ⟨z, hze⟩ : ∃ z, z = us.getD i 0 := ⟨_, rfl⟩
      have hzl : z < 4294967296 := by rw [hze]; exact hus.getD i
      rw [← hze] at hcell
      obtain ⟨p, hp⟩ : ∃ p, p = q * x := ⟨_, rfl⟩
      have hpb : p ≤ 18446744065119617025 := by
        rw [hp]
        exact Nat.le_trans (Nat.mul_le_mul (by omega : q ≤ 4294967295) (by omega : x ≤ 4294967295)) (by decide)
      have hpi : (q : Int) * (x : Int) = (p : Int) := by rw [hp]; simp
      obtain ⟨lo, hlo⟩ : ∃ lo, lo = (cc + p) % 4294967296 := ⟨_, rfl⟩
      obtain ⟨hi', hhi⟩ : ∃ hi', hi' = (cc + p) / 4294967296 := ⟨_, rfl⟩
      have hlol : lo < 4294967296 := by omega
      have hhil : hi' < 4294967296 := by omega
      have hloi : ((cc : Int) + (p : Int)) % 4294967296 = (lo : Int) := by omega
      have hhii : ((cc : Int) + (p : Int)) / 4294967296 = (hi' : Int) := by omega
      have hsum : lo + 4294967296 * hi' = cc + p := by omega
      have HSUM := Lib.hid hsum
      have HP := Lib.hid hp
      have HX := Lib.hid hxe
      have HZ := Lib.hid hze
      have hsp := sub_spec z lo b hzl hlol hb
      have HSP := Lib.hid hsp
      clear hsum hp hxe hze hlo hhi hsp hul
      go_wp2_with (go_at_call 159; refine (sub32_fn z lo b _ hzl hlol hb).mono ?_; rintro e w' ⟨rfl, rfl⟩)
      go_roundw
      case rel =>
        have h3 := HSP.out
        have hul := HUL.out
        refine ⟨i + 1, hi', subOut z lo b, us.set i (subLow z lo b), by omega, rfl, rfl, by go_num, hhil, h3.2.1, Lib.hid ?_, hus.set _ _ h3.1, ?_, hd.kept2 hne _ _, grown_trans hgr (grown_setCell _ _)⟩
        · exact subMul_step hsm.out (by omega) (by rw [HSUM.out, HP.out, HX.out]) (by rw [← HZ.out]; exact h3.2.2)
        · have := hrow.set (o + i) (subLow z lo b)
          rw [put_set (by omega) (by omega)] at this
          exact this
      case measure => simp [intOf]; omega
    · obtain rfl : i = n := by omega
      have hcell := hrow.cell (o + i) (by rw [put_length (by omega)]; omega)
      rw [put_getD (by omega) (by omega)] at hcell
      have hfree := hrow.free (o + i)
      obtain ⟨z, hze⟩ : ∃ z, z = us.getD i 0 := ⟨_, rfl⟩
      have hzl : z < 4294967296 := by rw [hze]; exact hus.getD i
      rw [← hze] at hcell
      have HZ := Lib.hid hze
      have hsp := sub_spec z cc b hzl hcc hb
      have hF : SubMulP w g o i q zs ws ds (.returned (.bool (((subOut z cc b : Nat) : Int) == 0))) (wr.setCell ⟨g, o + i, none⟩ (.int .u32 (subLow z cc b : Nat))) := by
        have hl := subMul_last (s := subLow z cc b) (b' := subOut z cc b) hsm.out hws (by rw [← hze]; exact hsp.2.2)
        refine ⟨us.set i (subLow z cc b), subOut z cc b, rfl, hsp.2.1, hl.1, hus.set _ _ hsp.1, hl.2, ?_, grown_trans hgr (grown_setCell _ _)⟩
        have := hrow.set (o + i) (subLow z cc b)
        rw [put_set (by omega) (by omega)] at this
        exact this
      have hb1 := hsp.2.1
      clear hze hsp hul
      obtain ⟨bo, hbo⟩ : ∃ bo, bo = subOut z cc b := ⟨_, rfl⟩
      have HBO := Lib.hid hbo
      rw [← hbo] at hF hb1
      clear hbo
      go_wp2_with (go_at_call 159; refine (sub32_fn z cc b _ hzl hcc hb).mono ?_; rintro e w' ⟨rfl, rfl⟩; rw [← HBO.out])
      go_ret
      exact hF

/-- What addBack does. -/
def AddBackP (w : World) (g o n : Nat) (zs ws ds : List Nat) (e : Ending) (w' : World) : Prop :=
  ∃ us k, e = .returned (.tuple #[]) ∧ us.length = n + 1 ∧ Limbs us ∧ val us + pw (n + 1) * k = val ws + val (ds.take n) ∧ Row w' g (put zs o us) ∧ w.grownBy w' (some g)
set_option maxRecDepth 100000 in
set_option maxHeartbeats 4000000 in
theorem addBack_any (g o n c g2 c2 : Nat) (zs ws ds : List Nat) (w : World) (hrow : Row w g (put zs o ws)) (hd : Row w g2 ds) (hne : g ≠ g2) (hws : ws.length = n + 1) (ho : o + (n + 1) ≤ zs.length) (hz : zs.length ≤ 3000000) (hn : n ≤ ds.length)
    (hwl : Limbs ws) (hdl : Limbs ds) :
    Calls Tryz.prog 157 #[.slice (some ⟨g, o, none⟩) (n + 1) c, .slice (some ⟨g2, 0, none⟩) n c2] w (AddBackP w g o n zs ws ds) := by
  go_enter Tryz.func157, Tryz.ntmps157
  go_wp2_with fail
  go_loopw [4, 9] (fun cv iv wr => ∃ (i cc : Nat) (us : List Nat), i ≤ n ∧ cv = .int .u32 (cc : Nat) ∧ iv = .int .i64 (i : Nat) ∧ cc ≤ 1 ∧ Hid (AddAt ws ds us i cc) ∧ Limbs us ∧ Row wr g (put zs o us) ∧ Row wr g2 ds ∧ w.grownBy wr (some g)) (fun _ i _ => n - (intOf i).toNat)
  case atStart => exact ⟨0, 0, ws, Nat.zero_le _, rfl, rfl, by decide, Lib.hid (addAt_zero _ _), hwl, hrow, hd, World.grownBy.refl _ _⟩
  case round =>
    clear hrow hd
    obtain ⟨i, cc, us, hi, rfl, rfl, hcc, hsm, hus, hrow, hd, hgr⟩ := hrel
    have hul : us.length = n + 1 := hsm.out.1.trans hws
    have HUL := Lib.hid hul
    by_cases hlt : i < n
    · have hcell := hrow.cell (o + i) (by rw [put_length (by omega)]; omega)
      rw [put_getD (by omega) (by omega)] at hcell
      have hfree := hrow.free (o + i)
      have hdc := hd.cell i (by omega)
      obtain ⟨x, hxe⟩ : ∃ x, x = ds.getD i 0 := ⟨_, rfl⟩
      have hxl : x < 4294967296 := by rw [hxe]; exact hdl.getD i
      rw [← hxe] at hdc
      obtain ⟨z, hze⟩ : ∃ z, z = us.getD i 0 := ⟨_, rfl⟩
      have hzl : z < 4294967296 := by rw [hze]; exact hus.getD i
      rw [← hze] at hcell
      have HX := Lib.hid hxe
      have HZ := Lib.hid hze
      clear hxe hze hul
      go_wp2_with (go_at_call 158; refine (add32_any z x cc _ hzl hxl hcc).mono ?_; rintro e w' ⟨s, c', rfl, rfl, hsl, hc1, HS⟩)
      go_roundw
      case rel =>
        have hul := HUL.out
        refine ⟨i + 1, c', us.set i s, by omega, rfl, by go_num, hc1, Lib.hid ?_, hus.set _ _ hsl, ?_, hd.kept2 hne _ _, grown_trans hgr (grown_setCell _ _)⟩
        · exact addAt_step hsm.out (by omega) (by rw [← HZ.out, ← HX.out]; exact HS.out)
        · have := hrow.set (o + i) s
          rw [put_set (by omega) (by omega)] at this
          exact this
      case measure => simp [intOf]; omega
    · obtain rfl : i = n := by omega
      have hcell := hrow.cell (o + i) (by rw [put_length (by omega)]; omega)
      rw [put_getD (by omega) (by omega)] at hcell
      have hfree := hrow.free (o + i)
      obtain ⟨z, hze⟩ : ∃ z, z = us.getD i 0 := ⟨_, rfl⟩
      have hzl : z < 4294967296 := by rw [hze]; exact hus.getD i
      rw [← hze] at hcell
      obtain ⟨s, hse⟩ : ∃ s, s = (z + cc) % 4294967296 := ⟨_, rfl⟩
      have hsi : ((z : Int) + (cc : Int)) % 4294967296 = (s : Int) := by omega
      have hF : AddBackP w g o i zs ws ds (.returned (.tuple #[])) (wr.setCell ⟨g, o + i, none⟩ (.int .u32 (s : Nat))) := by
        obtain ⟨hl, k, hk⟩ := addAt_last hsm.out hws
        rw [← hze, ← hse] at hl hk
        refine ⟨us.set i s, k, rfl, hl, hus.set _ _ (by rw [hse]; exact Nat.mod_lt _ (by decide)), hk, ?_, grown_trans hgr (grown_setCell _ _)⟩
        have := hrow.set (o + i) s
        rw [put_set (by omega) (by omega)] at this
        exact this
      clear hze hse hul
      go_wp2_with fail
      go_end0
      exact hF

/-! One digit -/
theorem guessOf_lt (w2 w1 w0 d1 d0 : Nat) : guessOf w2 w1 w0 d1 d0 < 4294967296 := Nat.lt_of_le_of_lt (Nat.min_le_right _ _) (by decide)
theorem take_zero {W D P g vu : Nat} (h1 : g ≤ W / D + 1) (hD : 0 < D) (e : vu + g * D = W + P * 0) (hq : W / D ≤ g) : g = W / D ∧ vu + W / D * D = W ∧ vu < D := by
  have h2 : g ≤ W / D := (Nat.le_div_iff_mul_le hD).2 (by omega)
  have h3 : g = W / D := by omega
  subst h3
  have h4 := Nat.mod_add_div W D
  have h5 := Nat.mod_lt W hD
  rw [Nat.mul_comm] at h4
  refine ⟨rfl, by omega, by omega⟩
theorem take_one {W D P g vu v2 k : Nat} (h1 : g ≤ W / D + 1) (hq : W / D ≤ g) (hD : 0 < D) (hDP : D ≤ P) (hvu : vu < P) (hv2 : v2 < P) (e : vu + g * D = W + P * 1) (e2 : v2 + P * k = vu + D) : g = W / D + 1 ∧ v2 + W / D * D = W ∧ v2 < D := by
  have h4 := Nat.mod_add_div W D
  have h5 := Nat.mod_lt W hD
  rw [Nat.mul_comm] at h4
  have h3 : g = W / D + 1 := by
    rcases Nat.lt_or_ge (W / D) g with h | h
    · omega
    · exfalso
      have h6 : g = W / D := by omega
      rw [h6] at e
      generalize W / D * D = p at e h4
      omega
  rw [h3, Nat.add_mul, Nat.one_mul] at e
  generalize W / D * D = p at e h4 ⊢
  have hk : k = 1 := by
    rcases Nat.lt_trichotomy k 1 with h | h | h
    · obtain rfl : k = 0 := by omega
      rw [Nat.mul_zero] at e2
      omega
    · exact h
    · exfalso
      have : P * 2 ≤ P * k := Nat.mul_le_mul_left _ h
      omega
  subst hk
  rw [Nat.mul_one] at e2 e
  exact ⟨h3, by omega, by omega⟩

/-- What takeOut does: the digit, and the rest in the window. -/
def TakeP (w : World) (g o n : Nat) (zs ws ds : List Nat) (e : Ending) (w' : World) : Prop :=
  ∃ us : List Nat, e = .returned (.int .u32 (val ws / val (ds.take n) : Nat)) ∧ us.length = n + 1 ∧ Limbs us ∧ val us + val ws / val (ds.take n) * val (ds.take n) = val ws ∧ val us < val (ds.take n) ∧ Row w' g (put zs o us) ∧ w.grownBy w' (some g)
set_option maxRecDepth 100000 in
set_option maxHeartbeats 4000000 in
theorem takeOut_any (g o m c g2 c2 : Nat) (zs ws ds : List Nat) (w : World) (hrow : Row w g (put zs o ws)) (hd : Row w g2 ds) (hne : g ≠ g2) (hws : ws.length = m + 2 + 1) (ho : o + (m + 2 + 1) ≤ zs.length) (hz : zs.length ≤ 3000000) (hn : m + 2 ≤ ds.length)
    (hwl : Limbs ws) (hdl : Limbs ds) (htop : ds.getD (m + 1) 0 ≠ 0) (hlt : val ws < 4294967296 * val (ds.take (m + 2))) :
    Calls Tryz.prog 149 #[.slice (some ⟨g, o, none⟩) (m + 2 + 1) c, .slice (some ⟨g2, 0, none⟩) (m + 2) c2] w (TakeP w g o (m + 2) zs ws ds) := by
  have hnear := guess_near hwl hdl (by omega : 2 ≤ m + 2) hws hn htop hlt
  simp only [Nat.add_sub_cancel, show m + 2 - 1 = m + 1 from by omega] at hnear
  have hDpos : 0 < val (ds.take (m + 2)) := by omega
  have hDP : val (ds.take (m + 2)) ≤ pw (m + 2 + 1) := by
    have a := val_lt (hdl.take (m + 2))
    rw [List.length_take, Nat.min_eq_left hn] at a
    have b : pw (m + 2) ≤ pw (m + 2 + 1) := pw_le (by omega)
    omega
  have hqb : val ws / val (ds.take (m + 2)) < 4294967296 := Nat.div_lt_of_lt_mul (by rw [Nat.mul_comm (val (ds.take (m + 2)))]; exact hlt)
  have k2 := hrow.cell (o + (m + 2)) (by rw [put_length (by omega)]; omega)
  have k1 := hrow.cell (o + (m + 1)) (by rw [put_length (by omega)]; omega)
  have k0 := hrow.cell (o + m) (by rw [put_length (by omega)]; omega)
  rw [put_getD (by omega) (by omega)] at k2 k1 k0
  have j1 := hd.cell (m + 1) (by omega)
  have j0 := hd.cell m (by omega)
  obtain ⟨a2, ha2⟩ : ∃ x, x = ws.getD (m + 2) 0 := ⟨_, rfl⟩
  obtain ⟨a1, ha1⟩ : ∃ x, x = ws.getD (m + 1) 0 := ⟨_, rfl⟩
  obtain ⟨a0, ha0⟩ : ∃ x, x = ws.getD m 0 := ⟨_, rfl⟩
  obtain ⟨e1, he1⟩ : ∃ x, x = ds.getD (m + 1) 0 := ⟨_, rfl⟩
  obtain ⟨e0, he0⟩ : ∃ x, x = ds.getD m 0 := ⟨_, rfl⟩
  have l2 : a2 < 4294967296 := by rw [ha2]; exact hwl.getD _
  have l1 : a1 < 4294967296 := by rw [ha1]; exact hwl.getD _
  have l0 : a0 < 4294967296 := by rw [ha0]; exact hwl.getD _
  have f1 : e1 < 4294967296 := by rw [he1]; exact hdl.getD _
  have f0 : e0 < 4294967296 := by rw [he0]; exact hdl.getD _
  have fp : 0 < e1 := by rw [he1]; omega
  rw [← ha2] at k2; rw [← ha1] at k1; rw [← ha0] at k0; rw [← he1] at j1; rw [← he0] at j0
  rw [← ha2, ← ha1, ← ha0, ← he1, ← he0] at hnear
  obtain ⟨q, hq⟩ : ∃ q, q = guessOf a2 a1 a0 e1 e0 := ⟨_, rfl⟩
  have hql : q < 4294967296 := by
    rw [hq]; exact guessOf_lt _ _ _ _ _
  rw [← hq] at hnear
  have HG : Hid (∀ wz, Calls Tryz.prog 155 #[.int .u32 (a2 : Nat), .int .u32 (a1 : Nat), .int .u32 (a0 : Nat), .int .u32 (e1 : Nat), .int .u32 (e0 : Nat)] wz fun e w' => e = .returned (.int .u32 (q : Nat)) ∧ w' = wz) := by
    refine Lib.hid fun wz => ?_
    rw [hq]
    exact guess_any a2 a1 a0 e1 e0 wz l2 l1 l0 fp f1 f0
  have HN := Lib.hid hnear
  have HQB := Lib.hid hqb
  clear ha2 ha1 ha0 he1 he0 hq hnear htop hqb hlt
  go_enter Tryz.func149, Tryz.ntmps149
  go_wp2_with fail
  go_quiet ((go_at_call 155; exact (HG.out _).mono fun _ _ h => ⟨h.1, _, h.2⟩))
  go_wp2_with fail
  refine (subtractMultiple_any g o (m + 2) c g2 c2 q zs ws ds _ (by exact hrow) (by exact hd) hne hws ho hz hn hwl hdl hql).mono ?_
  rintro e w2 ⟨us, b, rfl, hb1, hul, hus, hsum, hrow2, hgr⟩
  have hgr0 : w.grownBy w2 (some g) := grown_trans (grown_drewN (World.grownBy.refl _ _) nq) hgr
  have hd2 : Row w2 g2 ds := hd.kept hgr0 (by intro e; injection e with e; exact hne e.symm)
  have hul2 : val us < pw (m + 2 + 1) := by have := val_lt hus; rwa [hul] at this
  rcases (by omega : b = 0 ∨ b = 1) with rfl | rfl
  · have hfin := take_zero HN.out.2 hDpos hsum HN.out.1
    have hF : TakeP w g o (m + 2) zs ws ds (.returned (.int .u32 (q : Nat))) w2 := ⟨us, by rw [hfin.1], hul, hus, hfin.2.1, hfin.2.2, hrow2, hgr0⟩
    clear hfin hsum
    go_wp2_with fail
    go_ret
    exact hF
  · have HSUM := Lib.hid hsum
    have hq1 : 1 ≤ q := by
      rcases Nat.eq_zero_or_pos q with h | h
      · subst h
        rw [Nat.zero_mul, Nat.mul_one] at hsum
        omega
      · exact h
    clear hsum
    go_wp2_with fail
    refine (addBack_any g o (m + 2) c g2 c2 zs us ds _ hrow2 hd2 hne hul ho hz hn hus hdl).mono ?_
    rintro e w3 ⟨vs, k, rfl, hvl, hvs, hsum2, hrow3, hgr2⟩
    have hvl2 : val vs < pw (m + 2 + 1) := by have := val_lt hvs; rwa [hvl] at this
    have hfin := take_one HN.out.2 HN.out.1 hDpos hDP hul2 hvl2 HSUM.out hsum2
    have hF : TakeP w g o (m + 2) zs ws ds (.returned (.int .u32 ((q : Int) - 1))) w3 := by
      refine ⟨vs, ?_, hvl, hvs, hfin.2.1, hfin.2.2, hrow3, grown_trans hgr0 hgr2⟩
      have h7 : (q : Int) - 1 = ((val ws / val (ds.take (m + 2)) : Nat) : Int) := by omega
      rw [h7]
    clear hfin hsum2
    go_wp2_with fail
    go_ret
    exact hF
end Go.Proofs.YtbeoeackahmpbaaGreatDoor
