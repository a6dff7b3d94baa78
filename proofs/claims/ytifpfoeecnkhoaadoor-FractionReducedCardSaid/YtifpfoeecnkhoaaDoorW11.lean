/- Bits returns the number of binary digits. -/
import Derived.Test.YtifpfoeecnkhoaaDoorA
import Derived.Test.YtifpfoeecnkhoaaDoorPg
import Derived.Lib.Strings
import Derived.Lib.Slices
import Derived.Lib.Small
import Derived.Lib.Walk
import Derived.Lib.BitFns
namespace Go.Proofs.YtifpfoeecnkhoaaDoor
open Go.RowKit NatM

def IntP (w : World) (n : Nat) (e : Ending) (w' : World) : Prop := e = .returned (.int .i64 (n : Nat)) ∧ w' = w
theorem wrap_sum (c p q : Nat) (hc : c ≤ 24) (hp : p ≤ 8) (h : q = c + p) : wrap64 ((c : Int) + wrap64 (p : Int)) = (q : Int) := by
  subst h
  unfold wrap64; omega
theorem wrap_one (p : Nat) (hp : p ≤ 8) : wrap64 (wrap64 (p : Int)) = (p : Int) := by
  unfold wrap64; omega
theorem tab_at (i : Int) (h0 : 0 ≤ i) (h1 : i < 256) (hh : i.toNat < Lib.len8tab.size) : (((Lib.len8tab[i.toNat]'hh).toNat : Nat) : Int) = (Lib.bitLen i.toNat : Nat) := by
  have e := Lib.len8_eq ⟨i.toNat, by omega⟩
  simp only [Int.toNat_of_nonneg h0] at e
  unfold Lib.len8 at e
  rw [← e]
  simp [hh]
set_option maxHeartbeats 4000000 in
set_option maxRecDepth 100000 in
theorem len32_lib (x : Int) (w : World) (h0 : 0 ≤ x) (h1 : x ≤ 4294967295) :
    Calls Tryd.prog 47 #[.int .u32 x] w fun e w' => e = .returned (.int .i64 (Lib.bitLen x.toNat : Nat)) ∧ w' = w := by
  have hsz : Lib.len8tab.size = 256 := Lib.len8tab_size
  go_enter Tryd.func47, Tryd.ntmps47
  go_wp2
  all_goals (go_ret; refine ⟨congrArg Ending.returned (congrArg (Value.int IntKind.i64) ?_), rfl⟩)
  · rw [tab_at _ (by omega) (by omega)]
    have e : (x / 65536 / 256).toNat = x.toNat / 16777216 := by omega
    have l := Lib.bitLen_le8' (x / 65536 / 256) (by omega) (by omega)
    have s := Lib.bitLen_shift24 x.toNat (by omega) (by omega)
    rw [e] at l ⊢
    exact wrap_sum _ _ _ (by decide) l s
  · rw [tab_at _ (by omega) (by omega)]
    have e : (x / 65536).toNat = x.toNat / 65536 := by omega
    have l := Lib.bitLen_le8' (x / 65536) (by omega) (by omega)
    have s := Lib.bitLen_shift16 x.toNat (by omega) (by omega)
    rw [e] at l ⊢
    exact wrap_sum _ _ _ (by decide) l s
  · rw [tab_at _ (by omega) (by omega)]
    have e : (x / 256).toNat = x.toNat / 256 := by omega
    have l := Lib.bitLen_le8' (x / 256) (by omega) (by omega)
    have s := Lib.bitLen_shift8 x.toNat (by omega) (by omega)
    rw [e] at l ⊢
    exact wrap_sum _ _ _ (by decide) l s
  · rw [tab_at _ (by omega) (by omega)]
    exact wrap_one _ (Lib.bitLen_le8' x (by omega) (by omega))
theorem len32_any (x : Nat) (w : World) (h : x < 4294967296) : Calls Tryd.prog 47 #[.int .u32 (x : Nat)] w (IntP w (nb x)) := by
  refine (len32_lib (x : Int) w (by omega) (by omega)).mono fun e w' ⟨h1, h2⟩ => ⟨?_, h2⟩
  rw [h1, Int.toNat_natCast, bitLen_nb x (by omega)]

theorem bits_any (va : Value) (xs : List Nat) (w : World) (ha : Reads w va xs) (hs : xs.length ≤ 1000000) :
    Calls Tryd.prog 32 #[va] w (IntP w (nb (val xs))) := by
  have hx := ha.limbs
  have l1 := tlen_le xs
  by_cases h0 : tlen xs = 0
  · have hF : IntP w (nb (val xs)) (.returned (.int .i64 0)) w := by rw [val_eq_zero.2 h0]; exact ⟨rfl, rfl⟩
    go_enter Tryd.func32, Tryd.ntmps32
    go_wp2_with fail
    refine (cut_any _ _ _ ha).mono ?_; rintro e w' ⟨va', rfl, rfl, hva, ao, c, -, rfl⟩
    rw [h0] at hva ⊢
    go_wp2_with fail
    go_ret
    exact hF
  · obtain ⟨t, ht⟩ : ∃ t, tlen xs = t + 1 := ⟨tlen xs - 1, by omega⟩
    have hv := nb_val hx h0
    rw [ht, Nat.add_sub_cancel] at hv
    obtain ⟨x, hxe⟩ : ∃ x, x = xs.getD t 0 := ⟨_, rfl⟩
    have hxl : x < 4294967296 := by rw [hxe]; exact hx.getD t
    rw [← hxe] at hv
    have hb := nb_limb hxl
    obtain ⟨b, hbe⟩ : ∃ b, b = nb x := ⟨_, rfl⟩
    rw [← hbe] at hv hb
    have hF : IntP w (nb (val xs)) (.returned (.int .i64 (32 * (t : Int) + b))) w := by rw [hv]; exact ⟨by simp, rfl⟩
    have HB := Lib.hid hbe
    have HXE := Lib.hid hxe
    have HT := Lib.hid ht
    have ht1 : t ≤ 1000000 := by omega
    clear hv hbe hxe ht h0 l1
    go_enter Tryd.func32, Tryd.ntmps32
    go_wp2_with fail
    refine (cut_any _ _ _ ha).mono ?_; rintro e w' ⟨va', rfl, rfl, hva, ao, c, -, rfl⟩
    rw [HT.out] at hva ⊢
    obtain ⟨ao', n', c', e, hl, hc, hm, -, hr⟩ := hva
    simp only [Value.slice.injEq] at e
    obtain ⟨rfl, rfl, rfl⟩ := e
    obtain ⟨b1, off, rfl, g⟩ := hr (by omega)
    have hcell := g t (by omega)
    have hxt : (trim xs).getD t 0 = x := by unfold trim; rw [getD_take _ _ _ (by rw [HT.out]; omega), HXE.out]
    rw [hxt] at hcell
    clear g hr hl hc hm hxt
    go_wp2_with (go_at_call 47; refine (len32_any x _ hxl).mono ?_; rintro e w' ⟨rfl, rfl⟩; rw [← HB.out])
    go_ret
    exact hF

/-- bits.LeadingZeros32. -/
theorem lz32_any (x : Nat) (w : World) (h : x < 4294967296) : Calls Tryd.prog 79 #[.int .u32 (x : Nat)] w (IntP w (32 - nb x)) := by
  have hb := nb_limb h
  obtain ⟨b, hbe⟩ : ∃ b, b = nb x := ⟨_, rfl⟩
  rw [← hbe] at hb ⊢
  have hF : IntP w (32 - b) (.returned (.int .i64 (32 - (b : Int)))) w := ⟨by rw [Int.ofNat_sub hb]; rfl, rfl⟩
  have HB := Lib.hid hbe
  clear hbe
  go_enter Tryd.func79, Tryd.ntmps79
  go_wp2_with (go_at_call 47; refine (len32_any x _ h).mono ?_; rintro e w' ⟨rfl, rfl⟩; rw [← HB.out])
  go_ret
  exact hF
end Go.Proofs.YtifpfoeecnkhoaaDoor
