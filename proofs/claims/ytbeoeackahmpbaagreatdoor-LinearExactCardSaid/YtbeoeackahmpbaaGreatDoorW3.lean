/- The subtraction of package natural, Trim, and the comparison of limbs, return what they promise. -/
import Derived.Test.YtbeoeackahmpbaaGreatDoorJB
import Derived.Deep.RegionWith
import Derived.BigRegion
namespace Go.Proofs.YtbeoeackahmpbaaGreatDoor
open Go.RowKit NatM

def subLow (x y c : Nat) : Nat := (x + 4294967296 - y - c) % 4294967296
def subOut (x y c : Nat) : Nat := if x < y + c then 1 else 0
theorem sub_spec (x y c : Nat) (hx : x < 4294967296) (hy : y < 4294967296) (hc : c ≤ 1) : subLow x y c < 4294967296 ∧ subOut x y c ≤ 1 ∧ subLow x y c + y + c = x + 4294967296 * subOut x y c := by
  unfold subLow subOut
  by_cases h : x < y + c
  · rw [if_pos h]; omega
  · rw [if_neg h]; omega
theorem sub32_fn (x y c : Nat) (w : World) (hx : x < 4294967296) (hy : y < 4294967296) (hc : c ≤ 1) :
    Calls Tryz.prog 159 #[.int .u32 (x : Nat), .int .u32 (y : Nat), .int .u32 (c : Nat)] w fun e w' => e = .returned (.tuple #[.int .u32 (subLow x y c : Nat), .int .u32 (subOut x y c : Nat)]) ∧ w' = w := by
  refine (sub32_any x y c w hx hy hc).mono ?_
  rintro e w' ⟨s, c', rfl, rfl, h1, h2, h3⟩
  have h4 := sub_spec x y c hx hy hc
  have h5 := h3.out
  have e1 : s = subLow x y c := by omega
  have e2 : c' = subOut x y c := by omega
  subst e1; subst e2
  exact ⟨rfl, rfl⟩

theorem limb_fn (v : Value) (xs : List Nat) (i : Int) (x : Nat) (w : World) (h : Reads w v xs) (h0 : 0 ≤ i) (hx : x = xs.getD i.toNat 0) :
    Calls Tryz.prog 150 #[v, .int .i64 i] w fun e w' => e = .returned (.int .u32 (x : Nat)) ∧ w' = w := by
  refine (limb_any v xs i w h h0).mono ?_
  rintro e w' ⟨y, rfl, rfl, _, h3⟩
  have := h3.out
  rw [← hx] at this
  subst this
  exact ⟨rfl, rfl⟩

/-- What difference returns. -/
def DiffP (w : World) (xs ys : List Nat) (e : Ending) (w' : World) : Prop :=
  ∃ v zs, e = .returned v ∧ Reads w' v zs ∧ val zs + val ys = val xs ∧ zs.length = xs.length ∧ Add w w'
set_option maxHeartbeats 400000 in
theorem difference_any (va vb : Value) (xs ys : List Nat) (w : World) (ha : Reads w va xs) (hb : Reads w vb ys) (hs : xs.length ≤ 1000000) (hl : ys.length ≤ xs.length) (hle : val ys ≤ val xs) :
    Calls Tryz.prog 152 #[va, vb] w (DiffP w xs ys) := by
  obtain ⟨i0, hi, hz0, hz1, hz2⟩ := info_parts info93
  obtain ⟨aa, n, ca, rfl, hln, hc, hm, hx, hr⟩ := id ha
  unfold maxLen at hm
  rw [hln] at hs
  have HLn := Lib.hid hln
  clear hln
  go_enter Tryz.func152, Tryz.ntmps152
  go_wp2_with (at_make; refine wpList_make_full _ rfl _ _ 35 rfl w.heap.size 93 i0 (.int .u32 0) 1 Tryz.underlying35 hi hz0 hz1 _ _ _ _ n rfl rfl (by omega) (by omega) (by rw [hz2]; omega) (by unfold maxLen; omega) (Nat.le_refl _) ?_)
  intro w1 hown hgr
  have hadd : Add w w1 := (Below.refl _ _).grown hgr (Nat.le_refl _) (by simp)
  have hown := Own.made hown
  clear hgr
  go_wp2_with fail
  go_loopw [6, 13] (fun c i wr => ∃ (k cc : Nat) (zs : List Nat), k ≤ n ∧ i = .int .i64 k ∧ c = .int .u32 cc ∧ cc ≤ 1 ∧ Own wr w.heap.size w.heap.size n zs ∧ Limbs zs ∧ DiffAt xs ys zs k cc ∧ Add w wr) (fun _ i _ => n - (intOf i).toNat)
  case atStart => exact ⟨0, 0, _, Nat.zero_le _, rfl, rfl, by omega, hown, Limbs.replicate _, diff_zero _ _ _, hadd⟩
  case round =>
    obtain ⟨k, cc, zs, hk, rfl, rfl, hcc, hown, hzs, hdif, hadd⟩ := hrel
    have hb0 := hadd.size
    by_cases hlt' : k < n
    · have hcell := hown.cell k (by omega)
      have hfree := hown.free k
      have ha' := ha.mono hadd
      have hb' := hb.mono hadd
      obtain ⟨b, off, rfl, g⟩ := hr (by omega)
      have hxc : wr.cell? ⟨b, off + k, none⟩ = some (.int .u32 (xs.getD k 0 : Nat)) := (hadd.cell (p := ⟨b, off + k, none⟩) (World.block_lt_of_cell? w _ (g k hlt'))).trans (g k hlt')
      obtain ⟨x, hxe⟩ : ∃ x, x = xs.getD k 0 := ⟨_, rfl⟩
      obtain ⟨y, hye⟩ : ∃ y, y = ys.getD k 0 := ⟨_, rfl⟩
      have hxl : x < 4294967296 := by rw [hxe]; exact hx.getD k
      have hyl : y < 4294967296 := by rw [hye]; exact hb.limbs.getD k
      rw [← hxe] at hxc
      have hsp := sub_spec x y cc hxl hyl hcc
      have HSP := Lib.hid hsp
      have HX := Lib.hid hxe
      have HY := Lib.hid hye
      clear hsp hxe hye g hr
      go_wp2_with fail
      go_region_with (first
        | (go_at_call 150; refine (limb_fn vb ys _ y _ (by exact hb') (by omega) (by rw [Int.toNat_natCast]; exact HY.out)).mono ?_; rintro e w' ⟨rfl, rfl⟩)
        | (go_at_call 159; refine (sub32_fn x y cc _ hxl hyl hcc).mono ?_; rintro e w' ⟨rfl, rfl⟩))
      all_goals
        go_wp2_with fail
        go_roundw
        case rel =>
          have hz := hown.length
          have h3 := HSP.out
          have hadd2 : Add w ((wr.drew).setCell ⟨w.heap.size, k, none⟩ (.int .u32 (subLow x y cc : Nat))) := (Below.drew hadd).setCell (Nat.le_refl _) _
          have hown2 : Own ((wr.drew).setCell ⟨w.heap.size, k, none⟩ (.int .u32 (subLow x y cc : Nat))) w.heap.size w.heap.size n (zs.set k (subLow x y cc)) := Own.set (w := wr.drew) hown k _
          exact ⟨k + 1, _, _, by omega, by go_num, rfl, h3.2.1, hown2, hzs.set k _ h3.1, diff_step hdif (by omega) (by rw [← HX.out, ← HY.out]; exact h3.2.2), hadd2⟩
        case measure => simp [intOf]; omega
    · obtain rfl : k = n := by omega
      go_wp2_with fail
      go_ret
      have hz := hown.length
      have h2 := hdif
      unfold DiffAt at h2
      rw [List.take_of_length_le (l := xs) (by rw [HLn.out]; omega), List.take_of_length_le (l := ys) (by rw [← HLn.out]; exact hl), List.take_of_length_le (l := zs) (by omega)] at h2
      have h0 : cc = 0 := by
        have h4 := val_lt hzs
        rw [hz] at h4
        rcases Nat.eq_zero_or_pos cc with h5 | h5
        · exact h5
        · obtain rfl : cc = 1 := by omega
          omega
      subst h0
      exact ⟨_, _, rfl, hown.reads (by unfold maxLen; omega) hzs, by omega, by rw [hz, HLn.out], hadd⟩
end Go.Proofs.YtbeoeackahmpbaaGreatDoor
