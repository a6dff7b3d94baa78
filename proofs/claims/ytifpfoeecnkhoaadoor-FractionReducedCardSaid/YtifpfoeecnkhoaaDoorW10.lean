/- The product of package natural returns what it promises. -/
import Derived.Test.YtifpfoeecnkhoaaDoorW9
namespace Go.Proofs.YtifpfoeecnkhoaaDoor
open Go.RowKit NatM

/-- What product returns. -/
def ProdP (w : World) (xs ys : List Nat) (e : Ending) (w' : World) : Prop :=
  ∃ v zs, e = .returned v ∧ Reads w' v zs ∧ val zs = val xs * val ys ∧ Add w w'

theorem arg_cell {w wr : World} {b off n : Nat} {xs : List Nat} (g : ∀ i, i < n → w.cell? ⟨b, off + i, none⟩ = some (.int .u32 (xs.getD i 0 : Nat))) (h : Add w wr) (k : Nat) (hk : k < n) :
    wr.cell? ⟨b, off + k, none⟩ = some (.int .u32 (xs.getD k 0 : Nat)) :=
  (Below.cell h (p := ⟨b, off + k, none⟩) (World.block_lt_of_cell? w _ (g k hk))).trans (g k hk)

set_option maxRecDepth 100000 in
set_option maxHeartbeats 2000000 in
theorem product_any (va vb : Value) (xs ys : List Nat) (w : World) (ha : Reads w va xs) (hb : Reads w vb ys) (hs : xs.length ≤ 1000000) (hs' : ys.length ≤ 1000000) :
    Calls Tryd.prog 56 #[va, vb] w (ProdP w xs ys) := by
  obtain ⟨i0, hi, hz0, hz1, hz2⟩ := info_parts info26
  obtain ⟨aa, n, ca, rfl, hln, hc, hm, hx, hr⟩ := ha
  obtain ⟨ab, m, cb, rfl, hlm, hc', hm', hx', hr'⟩ := hb
  unfold maxLen at hm hm'
  rw [hln] at hs
  rw [hlm] at hs'
  have HLn := Lib.hid hln
  have HLm := Lib.hid hlm
  have hstart : MulAt xs ys (List.replicate (n + m) 0) 0 := by rw [← hln, ← hlm]; exact mulAt_zero xs ys
  clear hln hlm
  go_enter Tryd.func56, Tryd.ntmps56
  go_wp2_with (at_make; refine wpList_make_full _ rfl _ _ 23 rfl w.heap.size 26 i0 (.int .u32 0) 1 Tryd.underlying23 hi hz0 hz1 _ _ _ _ (n + m) rfl rfl (by omega) (by omega) (by rw [hz2]; omega) (by unfold maxLen; omega) (Nat.le_refl _) ?_)
  intro w1 hown hgr
  have hadd : Add w w1 := (Below.refl _ _).grown hgr (Nat.le_refl _) (by simp)
  have hown := Own.made hown
  clear hgr
  go_wp2_with fail
  go_loopw [20] (fun i wr => ∃ (k : Nat) (zs : List Nat), k ≤ n ∧ i = .int .i64 k ∧ Own wr w.heap.size w.heap.size (n + m) zs ∧ Limbs zs ∧ MulAt xs ys zs k ∧ Add w wr) (fun i _ => n - (intOf i).toNat)
  case atStart => exact ⟨0, _, Nat.zero_le _, rfl, hown, Limbs.replicate _, hstart, hadd⟩
  case round =>
    clear hstart hown hadd
    obtain ⟨k, zs, hk, rfl, hown, hzs, hmul, hadd⟩ := hrel
    have hb0 := hadd.size
    by_cases hlt : k < n
    · obtain ⟨b, off, rfl, g⟩ := hr (by omega)
      have hxc := arg_cell g hadd k hlt
      obtain ⟨x, hxe⟩ : ∃ x, x = xs.getD k 0 := ⟨_, rfl⟩
      have hxl : x < 4294967296 := by rw [hxe]; exact hx.getD k
      rw [← hxe] at hxc
      have HX := Lib.hid hxe
      have HMUL := Lib.hid hmul
      have hne : ¬ (n + m = k) := by omega
      clear hxe hmul g hr
      go_wp2_with fail
      go_loopw [9, 35] (fun c j wr => ∃ (t cc : Nat) (us : List Nat), t ≤ m ∧ j = .int .i64 t ∧ c = .int .u64 cc ∧ cc < 4294967296 ∧ Own wr w.heap.size w.heap.size (n + m) us ∧ Limbs us ∧ MulIn zs ys us k x t cc ∧ Add w wr) (fun _ j _ => m - (intOf j).toNat)
      case atStart => exact ⟨0, 0, zs, Nat.zero_le _, rfl, rfl, by decide, hown, hzs, mulIn_zero _ _ _ _, hadd⟩
      case round =>
        clear hown hzs hadd hxc hb0
        obtain ⟨t, cc, us, ht, rfl, rfl, hcc, hown, hus, hin, hadd⟩ := hrel
        have hb0 := hadd.size
        by_cases hlt' : t < m
        · obtain ⟨b2, off2, rfl, g2⟩ := hr' (by omega)
          have hyc := arg_cell g2 hadd t hlt'
          have hcell := hown.cell (k + t) (by omega)
          have hfree := hown.free (k + t)
          obtain ⟨y, hye⟩ : ∃ y, y = ys.getD t 0 := ⟨_, rfl⟩
          have hyl : y < 4294967296 := by rw [hye]; exact hx'.getD t
          rw [← hye] at hyc
          obtain ⟨z, hze⟩ : ∃ z, z = us.getD (k + t) 0 := ⟨_, rfl⟩
          have hzl : z < 4294967296 := by rw [hze]; exact hus.getD _
          rw [← hze] at hcell
          obtain ⟨p, hp⟩ : ∃ p, p = x * y := ⟨_, rfl⟩
          have hfit := mul_fits hxl hyl hzl hcc
          rw [← hp] at hfit
          have hpi : (x : Int) * (y : Int) = (p : Int) := by rw [hp]; exact (Int.natCast_mul x y).symm
          have hpb := hfit.1
          have HY := Lib.hid hye
          have HZ := Lib.hid hze
          have HP := Lib.hid hp
          have HFIT := Lib.hid hfit
          have HIN := Lib.hid hin
          clear hye hze hp hfit hin g2 hr'
          go_wp2_with fail
          go_roundw
          case rel =>
            have hz := hown.length
            have e1 : ((cc : Int) + ((p : Int) + (z : Int))) % 4294967296 = (((p + z + cc) % 4294967296 : Nat) : Int) := by omega
            rw [e1]
            exact ⟨t + 1, (p + z + cc) / 4294967296, us.set (k + t) ((p + z + cc) % 4294967296), by omega, by go_num, by simp; omega, HFIT.out.2, hown.set _ _, hus.set _ _ (Nat.mod_lt _ (by decide)),
              mulIn_step HIN.out (by have := HMUL.out.1; have := HLn.out; have := HLm.out; omega) (by rw [← HY.out, ← HZ.out, ← HP.out]; omega), hadd.setCell (Nat.le_refl _) _⟩
          case measure => simp [intOf]; omega
        · obtain rfl : t = m := by omega
          have hcell := hown.cell (k + t) (by omega)
          have hfree := hown.free (k + t)
          have HIN := Lib.hid hin
          clear hin
          go_wp2_with fail
          go_roundw
          case rel =>
            have h1 := HIN.out
            rw [HX.out, ← HLm.out] at h1
            have h2 := mulAt_step HMUL.out (by rw [HLn.out]; exact hlt) h1
            rw [HLm.out] at h2
            exact ⟨k + 1, us.set (k + t) cc, by omega, by go_num, hown.set _ _, hus.set _ _ hcc, h2, hadd.setCell (Nat.le_refl _) _⟩
          case measure => simp [intOf]; omega
    · obtain rfl : k = n := by omega
      have HMUL := Lib.hid hmul
      clear hmul
      go_wp2_with fail
      go_ret
      have h1 := HMUL.out
      rw [← HLn.out] at h1
      exact ⟨_, _, rfl, hown.reads (by unfold maxLen; omega) hzs, mulAt_done h1, hadd⟩

theorem mul_ok (va vb : Value) (xs ys : List Nat) (w : World) (ha : Reads w va xs) (hb : Reads w vb ys) (hs : xs.length ≤ 1000000) (hs' : ys.length ≤ 1000000) (hA : val xs < pw 512) (hB : val ys < pw 512) (hN : val xs * val ys < pw 512) :
    Calls Tryd.prog 40 #[va, vb] w (OkP w (val xs * val ys)) := by
  have LA := small_large ha hA
  have LB := small_large hb hB
  have l1 := tlen_le xs
  have l2 := tlen_le ys
  have HN := Lib.hid hN
  clear hN hA hB
  go_enter Tryd.func40, Tryd.ntmps40
  go_wp2_with fail
  refine (large_is false _ _ _ ha LA.out).mono ?_; rintro e w' ⟨rfl, rfl⟩
  go_wp2_with fail
  refine (large_is false _ _ _ hb LB.out).mono ?_; rintro e w' ⟨rfl, rfl⟩
  go_wp2_with fail
  refine (cut_any _ _ _ ha).mono ?_; rintro e w' ⟨va', rfl, rfl, hva, -⟩
  go_wp2_with fail
  refine (cut_any _ _ _ hb).mono ?_; rintro e w' ⟨vb', rfl, rfl, hvb, -⟩
  go_wp2_with fail
  refine (product_any _ _ _ _ _ hva hvb (by rw [length_trim]; omega) (by rw [length_trim]; omega)).mono ?_
  rintro e w' ⟨v, zs, rfl, hz, hzv, hadd⟩
  rw [val_trim, val_trim] at hzv
  have HV := Lib.hid hzv
  clear hzv
  go_wp2_with fail
  refine (checked_ok _ _ _ hz (by rw [HV.out]; exact HN.out)).mono ?_
  rintro e w'' ⟨v', rfl, hn, hadd'⟩
  go_wp2_with fail
  go_ret2
  exact ⟨_, rfl, by rw [← HV.out]; exact hn, Add.trans hadd hadd'⟩

theorem mul_over (va vb : Value) (xs ys : List Nat) (w : World) (ha : Reads w va xs) (hb : Reads w vb ys) (hs : xs.length ≤ 1000000) (hs' : ys.length ≤ 1000000) (hA : val xs < pw 512) (hB : val ys < pw 512) (hN : pw 512 ≤ val xs * val ys) :
    Calls Tryd.prog 40 #[va, vb] w (ErrP w 2) := by
  have LA := small_large ha hA
  have LB := small_large hb hB
  have l1 := tlen_le xs
  have l2 := tlen_le ys
  have HN := Lib.hid hN
  clear hN hA hB
  go_enter Tryd.func40, Tryd.ntmps40
  go_wp2_with fail
  refine (large_is false _ _ _ ha LA.out).mono ?_; rintro e w' ⟨rfl, rfl⟩
  go_wp2_with fail
  refine (large_is false _ _ _ hb LB.out).mono ?_; rintro e w' ⟨rfl, rfl⟩
  go_wp2_with fail
  refine (cut_any _ _ _ ha).mono ?_; rintro e w' ⟨va', rfl, rfl, hva, -⟩
  go_wp2_with fail
  refine (cut_any _ _ _ hb).mono ?_; rintro e w' ⟨vb', rfl, rfl, hvb, -⟩
  go_wp2_with fail
  refine (product_any _ _ _ _ _ hva hvb (by rw [length_trim]; omega) (by rw [length_trim]; omega)).mono ?_
  rintro e w' ⟨v, zs, rfl, hz, hzv, hadd⟩
  rw [val_trim, val_trim] at hzv
  have HV := Lib.hid hzv
  clear hzv
  go_wp2_with fail
  refine (checked_big _ _ _ hz (by rw [HV.out]; exact HN.out)).mono ?_
  rintro e w'' ⟨rfl, hadd'⟩
  go_wp2_with fail
  go_ret2
  exact ⟨rfl, Add.trans hadd hadd'⟩

theorem mul_big (va vb : Value) (xs ys : List Nat) (w : World) (ha : Reads w va xs) (hb : Reads w vb ys) (hAB : pw 512 ≤ val xs ∨ pw 512 ≤ val ys) :
    Calls Tryd.prog 40 #[va, vb] w (ErrP w 2) := by
  by_cases hA : pw 512 ≤ val xs
  · have LA := big_large ha hA
    clear hA hAB
    go_enter Tryd.func40, Tryd.ntmps40
    go_wp2_with fail
    refine (large_is true _ _ _ ha LA.out).mono ?_; rintro e w' ⟨rfl, rfl⟩
    go_wp2_with fail
    go_ret2
    exact ⟨rfl, Below.refl _ _⟩
  · have LA := small_large ha (by omega)
    have LB := big_large hb (by omega)
    clear hA hAB
    go_enter Tryd.func40, Tryd.ntmps40
    go_wp2_with fail
    refine (large_is false _ _ _ ha LA.out).mono ?_; rintro e w' ⟨rfl, rfl⟩
    go_wp2_with fail
    refine (large_is true _ _ _ hb LB.out).mono ?_; rintro e w' ⟨rfl, rfl⟩
    go_wp2_with fail
    go_ret2
    exact ⟨rfl, Below.refl _ _⟩
end Go.Proofs.YtifpfoeecnkhoaaDoor
