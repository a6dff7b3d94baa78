/- Sub, Trim and the comparison of limbs return what they promise; which arguments are too long. | Trim, Bits, and the division by one limb return what they promise. | The division by one limb returns the quotient and the remainder. | strings.TrimLeft with the cutset "0", and slices.Reverse of bytes, do what they promise. | Format writes the decimal digits of a number. | What the walks of layer 1 share, where the laws of layer 1 do not lie. | The product of package natural returns what it promises. -/
import Derived.Test.YtbeoeackahmpbaaGreatDoorW3
import Derived.Laws.CopyOwn
import Derived.Test.YtbeoeackahmpbaaGreatDoorJA
import Derived.Laws.BitsAllLaws
import Derived.Deep.RegionWith
import Derived.BigRegion
import Derived.Lib.TrimByte
import Derived.Deep.LoopGhost
import Derived.Maps.AppendAt
import Derived.Laws.BytesArg

namespace Go.Proofs.YtbeoeackahmpbaaGreatDoor
open Go.RowKit NatM

theorem small_large {w : World} {v : Value} {xs : List Nat} (h : Reads w v xs) (hN : val xs < pw 512) : Hid (decide (512 < tlen xs) = false) := by
  refine Lib.hid ?_
  rw [decide_eq_false_iff_not, tlen_gt_iff h.limbs]; omega
theorem big_large {w : World} {v : Value} {xs : List Nat} (h : Reads w v xs) (hN : pw 512 ≤ val xs) : Hid (decide (512 < tlen xs) = true) := by
  refine Lib.hid ?_
  rw [decide_eq_true_iff, tlen_gt_iff h.limbs]; omega
theorem drew2 (w : World) (a b : Nat) : ∃ n, (w.drewN a).drewN b = w.drewN n := ⟨a + b, by rw [World.drewN_drewN]⟩
theorem cmp_neg {A B : Nat} : cmpI A B < 0 ↔ A < B := by
  unfold cmpI; split
  · simp [*]
  · split <;> simp [*]

theorem tlen_le_of_le {xs ys : List Nat} (hy : Limbs ys) (h : val xs ≤ val ys) : tlen xs ≤ tlen ys := by
  refine tlen_le_of_val _ ?_
  have := val_lt_tlen hy
  omega

theorem sub_ok (va vb : Value) (xs ys : List Nat) (w : World) (ha : Reads w va xs) (hb : Reads w vb ys) (hs : xs.length ≤ 1000000) (hA : val xs < pw 512) (hB : val ys < pw 512) (hle : val ys ≤ val xs) :
    Calls Tryz.prog 141 #[va, vb] w (OkP w (val xs - val ys)) := by
  have LA := small_large ha hA
  have LB := small_large hb hB
  have l1 := tlen_le xs
  have l2 := tlen_le_of_le ha.limbs hle
  have HL := Lib.hid hle
  have hc0 : decide (cmpI (val xs) (val ys) < 0) = false := by rw [decide_eq_false_iff_not, cmp_neg]; omega
  clear hA hB hle
  go_enter Tryz.func141, Tryz.ntmps141
  go_wp2_with fail
  refine (large_is false _ _ _ ha LA.out).mono ?_; rintro e w' ⟨rfl, rfl⟩
  go_wp2_with fail
  refine (large_is false _ _ _ hb LB.out).mono ?_; rintro e w' ⟨rfl, rfl⟩
  go_wp2_with fail
  refine (cmp_any _ _ _ _ _ ha hb).mono ?_; rintro e w1 ⟨rfl, q, rfl⟩
  go_wp2_with fail
  have ha1 : Reads (w.drewN q) va xs := ha.mono (below_drewN (Below.refl _ _) q)
  have hb1 : Reads (w.drewN q) vb ys := hb.mono (below_drewN (Below.refl _ _) q)
  refine (cut_any _ _ _ ha1).mono ?_; rintro e w' ⟨va', rfl, rfl, hva, -⟩
  go_wp2_with fail
  refine (cut_any _ _ _ hb1).mono ?_; rintro e w' ⟨vb', rfl, rfl, hvb, -⟩
  go_wp2_with fail
  refine (difference_any _ _ _ _ _ hva hvb (by rw [length_trim]; omega) (by rw [length_trim, length_trim]; exact l2) (by rw [val_trim, val_trim]; exact HL.out)).mono ?_
  rintro e w2 ⟨v, zs, rfl, hz, hzv, -, hadd⟩
  rw [val_trim, val_trim] at hzv
  have HV := Lib.hid hzv
  clear hzv
  go_wp2_with fail
  refine (cut_any _ _ _ hz).mono ?_; rintro e w' ⟨v', rfl, rfl, hv', -⟩
  go_wp2_with fail
  go_ret2
  exact ⟨_, rfl, ⟨_, hv', Canon.trim _, by rw [val_trim]; have := HV.out; omega⟩, Add.trans (below_drewN (Below.refl _ _) q) hadd⟩

theorem sub_neg (va vb : Value) (xs ys : List Nat) (w : World) (ha : Reads w va xs) (hb : Reads w vb ys) (hA : val xs < pw 512) (hB : val ys < pw 512) (hlt : val xs < val ys) :
    Calls Tryz.prog 141 #[va, vb] w (ErrP w 4) := by
  have LA := small_large ha hA
  have LB := small_large hb hB
  have hc0 : decide (cmpI (val xs) (val ys) < 0) = true := by rw [decide_eq_true_iff, cmp_neg]; omega
  clear hA hB hlt
  go_enter Tryz.func141, Tryz.ntmps141
  go_wp2_with fail
  refine (large_is false _ _ _ ha LA.out).mono ?_; rintro e w' ⟨rfl, rfl⟩
  go_wp2_with fail
  refine (large_is false _ _ _ hb LB.out).mono ?_; rintro e w' ⟨rfl, rfl⟩
  go_wp2_with fail
  refine (cmp_any _ _ _ _ _ ha hb).mono ?_; rintro e w1 ⟨rfl, q, rfl⟩
  go_wp2_with fail
  go_ret2
  exact ⟨rfl, below_drewN (Below.refl _ _) q⟩

theorem sub_big (va vb : Value) (xs ys : List Nat) (w : World) (ha : Reads w va xs) (hb : Reads w vb ys) (hAB : pw 512 ≤ val xs ∨ pw 512 ≤ val ys) :
    Calls Tryz.prog 141 #[va, vb] w (ErrP w 2) := by
  by_cases hA : pw 512 ≤ val xs
  · have LA := big_large ha hA
    clear hA hAB
    go_enter Tryz.func141, Tryz.ntmps141
    go_wp2_with fail
    refine (large_is true _ _ _ ha LA.out).mono ?_; rintro e w' ⟨rfl, rfl⟩
    go_wp2_with fail
    go_ret2
    exact ⟨rfl, Below.refl _ _⟩
  · have LA := small_large ha (by omega)
    have LB := big_large hb (by omega)
    clear hA hAB
    go_enter Tryz.func141, Tryz.ntmps141
    go_wp2_with fail
    refine (large_is false _ _ _ ha LA.out).mono ?_; rintro e w' ⟨rfl, rfl⟩
    go_wp2_with fail
    refine (large_is true _ _ _ hb LB.out).mono ?_; rintro e w' ⟨rfl, rfl⟩
    go_wp2_with fail
    go_ret2
    exact ⟨rfl, Below.refl _ _⟩

/-- same.Nat: are two lists of limbs the same? -/
def SameP (w : World) (b : Bool) (e : Ending) (w' : World) : Prop := e = .returned (.bool b) ∧ ∃ n, w' = w.drewN n
set_option maxHeartbeats 400000 in
theorem same_any (va vb : Value) (xs ys : List Nat) (b : Bool) (w : World) (ha : Reads w va xs) (hb : Reads w vb ys) (hbx : decide (xs = ys) = b) :
    Calls Tryz.prog 58 #[va, vb] w (SameP w b) := by
  obtain ⟨aa, n, ca, rfl, hln, hc, hm, hx, hr⟩ := ha
  obtain ⟨ab, m, cb, rfl, hlm, hc', hm', hx', hr'⟩ := hb
  unfold maxLen at hm hm'
  have HB := Lib.hid hbx
  clear hbx
  by_cases hnm : n = m
  · subst hnm
    have hne : ((n : Int) != n) = false := by simp
    have HLn := Lib.hid hln
    have HLm := Lib.hid hlm
    clear hln hlm
    go_enter Tryz.func58, Tryz.ntmps58
    go_wp2_with fail
    go_loopw [5] (fun i wr => ∃ (k : Nat), k ≤ n ∧ i = .int .i64 (k : Int) ∧ Hid (xs.take k = ys.take k) ∧ ∃ q, wr = w.drewN q) (fun i _ => n - (intOf i).toNat)
    case atStart => exact ⟨0, Nat.zero_le _, rfl, Lib.hid (by simp), 0, rfl⟩
    case round =>
      obtain ⟨k, hk, rfl, hag, q, rfl⟩ := hrel
      by_cases hlt : k < n
      · obtain ⟨b1, off, rfl, g⟩ := hr (by omega)
        obtain ⟨b', off', rfl, g'⟩ := hr' (by omega)
        have hcell := g k (by omega)
        have hcell' := g' k (by omega)
        obtain ⟨x, hxe⟩ : ∃ x, x = xs.getD k 0 := ⟨_, rfl⟩
        obtain ⟨y, hye⟩ : ∃ y, y = ys.getD k 0 := ⟨_, rfl⟩
        rw [← hxe] at hcell
        rw [← hye] at hcell'
        have HX := Lib.hid hxe
        have HY := Lib.hid hye
        clear hxe hye g g' hr hr'
        have hgx : xs[k]? = some x := by
          have h1 : k < xs.length := by rw [HLn.out]; exact hlt
          rw [HX.out]; simp [List.getD, h1]
        have hgy : ys[k]? = some y := by
          have h1 : k < ys.length := by rw [HLm.out]; exact hlt
          rw [HY.out]; simp [List.getD, h1]
        have HGX := Lib.hid hgx
        have HGY := Lib.hid hgy
        clear hgx hgy
        by_cases hxy : x = y
        · subst hxy
          have hne' : ((x : Int) != x) = false := by simp
          go_wp2_with fail
          go_quiet (fail)
          go_wp2_with fail
          go_roundw
          case rel =>
            refine ⟨k + 1, by omega, by go_num, Lib.hid ?_, _, rfl⟩
            rw [List.take_add_one, List.take_add_one, hag.out, HGX.out, HGY.out]
          case measure => simp [intOf]; omega
        · have hne' : ((x : Int) != y) = true := by simp; omega
          have hF : b = false := by
            rw [← HB.out, decide_eq_false_iff_not]
            intro e
            subst e
            have h1 := HGX.out.symm.trans HGY.out
            exact hxy (by simpa using h1)
          subst hF
          go_wp2_with fail
          go_quiet (fail)
          go_wp2_with fail
          go_ret
          exact ⟨rfl, drew2 _ _ _⟩
      · obtain rfl : k = n := by omega
        have hF : b = true := by
          rw [← HB.out, decide_eq_true_iff]
          have h1 := hag.out
          rwa [List.take_of_length_le (by rw [HLn.out]; exact Nat.le_refl _), List.take_of_length_le (by rw [HLm.out]; exact Nat.le_refl _)] at h1
        subst hF
        go_wp2_with fail
        go_ret
        exact ⟨rfl, _, rfl⟩
  · have hF : b = false := by
      rw [← HB.out, decide_eq_false_iff_not]
      intro e
      subst e
      omega
    subst hF
    have hne : ((n : Int) != m) = true := by simp; omega
    clear hln hlm
    go_enter Tryz.func58, Tryz.ntmps58
    go_wp2_with fail
    go_ret
    exact ⟨rfl, 0, rfl⟩
end Go.Proofs.YtbeoeackahmpbaaGreatDoor

namespace Go.Proofs.YtbeoeackahmpbaaGreatDoor
open Go.RowKit NatM

theorem size44 : (Tryz.prog.info? 93).map (·.size) = some 1 := by kernel_rfl

/-- What Trim returns: a new row with the canonical limbs. -/
def TrimP (w : World) (xs : List Nat) (e : Ending) (w' : World) : Prop :=
  ∃ g n, e = .returned (.slice (some ⟨g, 0, none⟩) n n) ∧ Own w' w.heap.size g n (trim xs) ∧ n = tlen xs ∧ Add w w'
theorem trim_any (va : Value) (xs : List Nat) (w : World) (ha : Reads w va xs) (hs : xs.length ≤ 1000000) :
    Calls Tryz.prog 133 #[va] w (TrimP w xs) := by
  obtain ⟨i0, hi, hz0, hz1, hz2⟩ := info_parts info93
  have l1 := tlen_le xs
  obtain ⟨n, hn⟩ : ∃ n, n = tlen xs := ⟨_, rfl⟩
  have hns : n ≤ 1000000 := by omega
  have HN := Lib.hid hn
  clear hn l1
  go_enter Tryz.func133, Tryz.ntmps133
  go_wp2_with fail
  refine (cut_any _ _ _ ha).mono ?_; rintro e w' ⟨va', rfl, rfl, hva, ao, c, -, rfl⟩
  rw [← HN.out] at hva ⊢
  go_wp2_with (at_make; refine wpList_make_full _ rfl _ _ 35 rfl w.heap.size 93 i0 (.int .u32 0) 1 Tryz.underlying35 hi hz0 hz1 _ _ _ _ n rfl rfl (by omega) (by omega) (by rw [hz2]; omega) (by unfold maxLen; omega) (Nat.le_refl _) ?_)
  intro w1 hown hgr
  have hadd : Add w w1 := (Below.refl _ _).grown hgr (Nat.le_refl _) (by simp)
  have hown := Own.made hown
  have hheap := hown.heap
  clear hgr
  obtain ⟨cur, hcur⟩ : ∃ cur, cur = (List.replicate n 0).map lim := ⟨_, rfl⟩
  rw [← hcur] at hheap
  have hcl : cur.length = n := by rw [hcur]; simp
  obtain ⟨cs, hcs⟩ : ∃ cs, cs = (trim xs).map lim := ⟨_, rfl⟩
  have hcsl : cs.length = n := by rw [hcs]; simp [length_trim, HN.out]
  have hone : ∀ v ∈ cs, v.oneCell' = true := by
    rw [hcs]; intro v hv
    obtain ⟨x, _, rfl⟩ := List.mem_map.1 hv
    rfl
  have hpos : 0 < cs.length → (some ⟨w.heap.size, 0, none⟩ : Option Addr) = some ⟨w.heap.size, 0, none⟩ ∧ ∃ ad, ao = some ad ∧ ∀ j v, cs[j]? = some v → w1.cell? (ad.add j) = some v := by
    intro h0
    obtain ⟨ao', n', c', e, hl, -, -, -, hr⟩ := hva
    simp only [Value.slice.injEq] at e
    obtain ⟨rfl, rfl, rfl⟩ := e
    obtain ⟨b, off, rfl, g⟩ := hr (by omega)
    refine ⟨rfl, _, rfl, fun j v hj => ?_⟩
    rw [hcs, List.getElem?_map] at hj
    have hjl : j < n := by
      rcases Nat.lt_or_ge j n with h1 | h1
      · exact h1
      · rw [List.getElem?_eq_none (by omega)] at hj; simp at hj
    have h2 := g j hjl
    have h3 := (hadd.cell (p := ⟨b, off + j, none⟩) (World.block_lt_of_cell? w _ h2)).trans h2
    rw [Addr.add_lit, h3]
    have h4 : j < (trim xs).length := by omega
    simp [h4, List.getD] at hj ⊢
    exact hj
  have HCL := Lib.hid hcl
  have HCSL := Lib.hid hcsl
  have HCS := Lib.hid hcs
  have HPOS := Lib.hid hpos
  have HONE := Lib.hid hone
  have HHEAP := Lib.hid hheap
  clear hcl hcsl hcs hpos hone hheap hcur hown hva
  have hmin : n = Nat.min n n := (Nat.min_self n).symm
  have HMIN := Lib.hid hmin
  clear hmin
  go_wp2_with (with_reducible refine wpList_copy_splice rfl (.tmp 9) (.tmp 10) 35 35 rfl 93 Tryz.underlying35 size44 _ _ _ _ _ _ rfl rfl w.heap.size 0 cur 93 HHEAP.out cs (HCSL.out.trans HMIN.out) HPOS.out (by rw [HCL.out, HCSL.out]; omega) HONE.out w.heap.size w hadd (Nat.le_refl _) ?_)
  intro w2 HG2 hB2
  go_wp2_with fail
  go_ret
  refine ⟨w.heap.size, n, rfl, Own.of_heap ?_ (Nat.le_refl _) (by rw [length_trim, HN.out]) (by unfold maxLen; omega), HN.out, hB2⟩
  rw [HG2.out, ← HCS.out]
  unfold splice
  rw [List.take_zero, List.drop_of_length_le (by rw [HCL.out, HCSL.out]; omega), List.nil_append, List.append_nil]
end Go.Proofs.YtbeoeackahmpbaaGreatDoor

namespace Go.Proofs.YtbeoeackahmpbaaGreatDoor
open Go.RowKit NatM

theorem join64 (h l : Nat) (hh : h < 4294967296) (hl : l < 4294967296) : bits .or .u64 ((h : Int) * 4294967296) (l : Int) = (h : Int) * 4294967296 + l := by
  have e : ((h : Int) * 4294967296) = ((h * 4294967296 : Nat) : Int) := by omega
  rw [e, u64_or_nat _ _ (by omega) (by omega)]
  have := nat_join 32 (h * 4294967296) l (by omega) (by omega)
  rw [this]; omega

def div32Q (h l y : Nat) : Nat := (h * 4294967296 + l) / y
def div32R (h l y : Nat) : Nat := (h * 4294967296 + l) % y
theorem div32_fn (h l y : Nat) (w : World) (hh : h < 4294967296) (hl : l < 4294967296) (hy : h < y) (hy' : y < 4294967296) :
    Calls Tryz.prog 154 #[.int .u32 (h : Nat), .int .u32 (l : Nat), .int .u32 (y : Nat)] w fun e w' => e = .returned (.tuple #[.int .u32 (div32Q h l y : Nat), .int .u32 (div32R h l y : Nat)]) ∧ ∃ n, w' = w.drewN n := by
  have h1 : decide (y ≤ h) = false := by simp; omega
  have h2 : ((y : Int) != 0) = true := by simp; omega
  have h3 := join64 h l hh hl
  obtain ⟨m, hm⟩ : ∃ m : Nat, m = h * 4294967296 + l := ⟨_, rfl⟩
  have hm1 : (h : Int) * 4294967296 + l = (m : Int) := by omega
  rw [hm1] at h3
  have hb1 : m < y * 4294967296 := by omega
  have hq : m / y < 4294967296 := Nat.div_lt_of_lt_mul hb1
  have hr : m % y < y := Nat.mod_lt _ (by omega)
  have hqi : (m : Int) / (y : Int) < 4294967296 := by rw [← Int.natCast_ediv]; omega
  have hqi0 : 0 ≤ (m : Int) / (y : Int) := Int.ediv_nonneg (by omega) (by omega)
  have hri : (m : Int) % (y : Int) < 4294967296 := by rw [← Int.natCast_emod]; omega
  have hri0 : 0 ≤ (m : Int) % (y : Int) := Int.emod_nonneg _ (by omega)
  have hy1 : 1 ≤ y := by omega
  have hyz : ((y : Int) == 0) = false := by simp; omega
  have hF : ((div32Q h l y : Nat) : Int) = (m : Int) / (y : Int) ∧ ((div32R h l y : Nat) : Int) = (m : Int) % (y : Int) := by
    unfold div32Q div32R; rw [← hm]; exact ⟨Int.natCast_ediv _ _, Int.natCast_emod _ _⟩
  rw [hF.1, hF.2]
  clear hm hF hm1 hb1 hq hr
  go_enter Tryz.func154, Tryz.ntmps154
  go_wp2_with fail
  go_quiet (fail)
  go_wp2_with fail
  go_ret2
  exact ⟨rfl, _, rfl⟩
theorem div32_spec (h l y : Nat) (hy : h < y) (hy' : y < 4294967296) (hl : l < 4294967296) : div32Q h l y < 4294967296 ∧ div32R h l y < y ∧ h * 4294967296 + l = y * div32Q h l y + div32R h l y := by
  unfold div32Q div32R
  refine ⟨Nat.div_lt_of_lt_mul (by omega), Nat.mod_lt _ (by omega), ?_⟩
  exact (Nat.div_add_mod _ _).symm

/-- What divideLimb does: the first m limbs of the row become the quotient, the remainder is returned. -/
def DivLimbP (w : World) (g m d : Nat) (zs0 : List Nat) (e : Ending) (w' : World) : Prop :=
  ∃ zs r, e = .returned (.int .u32 (r : Nat)) ∧ Row w' g zs ∧ Limbs zs ∧ DivAt zs0 zs m d 0 r ∧ w.grownBy w' (some g)
theorem divideLimb_any (g m c d : Nat) (zs0 : List Nat) (w : World) (hrow : Row w g zs0) (hx : Limbs zs0) (hm : m ≤ zs0.length) (hc : m ≤ 1000000) (hd : 0 < d) (hd' : d < 4294967296) :
    Calls Tryz.prog 147 #[.slice (some ⟨g, 0, none⟩) m c, .int .u32 (d : Nat)] w (DivLimbP w g m d zs0) := by
  go_enter Tryz.func147, Tryz.ntmps147
  go_wp2_with fail
  go_loopw [5, 6] (fun r i wr => ∃ (k rr : Nat) (zs : List Nat), k ≤ m ∧ i = .int .i64 ((k : Int) - 1) ∧ r = .int .u32 (rr : Nat) ∧ Row wr g zs ∧ Limbs zs ∧ DivAt zs0 zs m d k rr ∧ w.grownBy wr (some g)) (fun _ i _ => (intOf i + 1).toNat)
  case atStart => exact ⟨m, 0, zs0, Nat.le_refl _, rfl, rfl, hrow, hx, divAt_top _ _ _ hd, World.grownBy.refl _ _⟩
  case round =>
    obtain ⟨k, rr, zs, hk, rfl, rfl, hrow', hzs, hdiv, hgr⟩ := hrel
    by_cases h0 : k = 0
    · subst h0
      go_wp2_with fail
      go_ret
      exact ⟨zs, rr, rfl, hrow', hzs, hdiv, hgr⟩
    · obtain ⟨j, rfl⟩ : ∃ j, k = j + 1 := ⟨k - 1, by omega⟩
      have hjm : j < m := by omega
      have hzl : zs.length = zs0.length := hdiv.1
      have hjl : j < zs.length := by omega
      have hcell := hrow'.cell j hjl
      have hfree := hrow'.free j
      obtain ⟨x, hxe⟩ : ∃ x, x = zs.getD j 0 := ⟨_, rfl⟩
      have hxl : x < 4294967296 := by rw [hxe]; exact hzs.getD j
      have hx0 : x = zs0.getD j 0 := by rw [hxe]; exact hdiv.2.2.2.1 j (by omega)
      rw [← hxe] at hcell
      have hrd := hdiv.2.1
      have hrl : rr < 4294967296 := by omega
      have hsp := div32_spec rr x d hrd hd' hxl
      have HSP := Lib.hid hsp
      have HX := Lib.hid hx0
      have HZL := Lib.hid hzl
      clear hsp hx0 hzl hxe
      go_wp2_with (go_at_call 154; refine (div32_fn rr x d _ hrl hxl hrd hd').mono ?_; rintro e w' ⟨rfl, q, rfl⟩)
      go_roundw
      case rel =>
        have h3 := HSP.out
        have hrow2 : Row ((wr.drewN q).setCell ⟨g, j, none⟩ (.int .u32 (div32Q rr x d : Nat))) g (zs.set j (div32Q rr x d)) := Row.set (w := wr.drewN q) hrow' j _
        exact ⟨j, _, _, by omega, by go_num, rfl, hrow2, hzs.set j _ h3.1, divAt_step hdiv hjm hm h3.2.1 (by rw [← HX.out]; exact h3.2.2), grown_trans (grown_drewN hgr q) (grown_setCell j _)⟩
      case measure => simp [intOf]
end Go.Proofs.YtbeoeackahmpbaaGreatDoor

namespace Go.Proofs.YtbeoeackahmpbaaGreatDoor
open Go.RowKit NatM

def TrimByteP (w : World) (l : List UInt8) (c : UInt8) (e : Ending) (w' : World) : Prop := e = .returned (.string ⟨(l.dropWhile (· == c)).toArray⟩) ∧ w = w'
def byt (b : Nat) : Value := .int .u8 (b : Nat)
/-- A row of bytes of the call's own. -/
def OwnB (w : World) (base : Nat) (v : Value) (bs : List Nat) : Prop := w.ownsRow base 5 1 v bs.length (bs.map byt)

theorem OwnB.form {w : World} {base : Nat} {v : Value} {bs : List Nat} (h : OwnB w base v bs) : (v = .slice none 0 0 ∧ bs = []) ∨ ∃ g cap, v = .slice (some ⟨g, 0, none⟩) bs.length cap ∧ base ≤ g ∧ bs.length ≤ cap ∧ cap ≤ maxLen := by
  rcases h.2 with ⟨e, e2⟩ | ⟨g, cap, cur, e, hg, hgg, hn, hm, hs, ht⟩
  · exact .inl ⟨e, List.eq_nil_of_length_eq_zero e2⟩
  · exact .inr ⟨g, cap, e, hg, hn, hm⟩

/-- What Reverse does to a row of bytes. -/
def RevP (w : World) (base : Nat) (v : Value) (bs : List Nat) (e : Ending) (w' : World) : Prop :=
  e = .returned (.tuple #[]) ∧ OwnB w' base v bs.reverse ∧ w.grownBy w' v.ownBlock
end Go.Proofs.YtbeoeackahmpbaaGreatDoor

namespace Go.Proofs.YtbeoeackahmpbaaGreatDoor
open Go.RowKit NatM

theorem info5 : (Tryz.prog.info? 5).map (fun i => (i.zero, i.size, i.bytes)) = some (some (.int .u8 0), 1, 1) := by kernel_rfl

theorem OwnB.apart {w : World} {base g : Nat} {v : Value} {bs zs : List Nat} (h : OwnB w base v bs) (hr : Row w g zs) : v.ownBlock ≠ some g := by
  rcases h.2 with ⟨rfl, _⟩ | ⟨g', cap, cur, rfl, _, hgg, _⟩
  · simp [Value.ownBlock]
  · intro e
    simp [Value.ownBlock] at e
    subst e
    unfold Row at hr
    rw [hr] at hgg
    simp at hgg
theorem OwnB.kept {w w' : World} {base : Nat} {v : Value} {bs : List Nat} {row : Option Nat} (h : OwnB w base v bs) (hg : w.grownBy w' row) (hne : v.ownBlock ≠ row) : OwnB w' base v bs := World.ownsRow.kept h hg (.inr hne)

/-- The digits as they lie in memory. -/
def chars (ds : List Nat) : List Nat := ds.map (48 + ·)
theorem chars_length (ds : List Nat) : (chars ds).length = ds.length := by simp [chars]
theorem chars_snoc (ds : List Nat) (x : Nat) : chars (ds ++ [x]) = chars ds ++ [48 + x] := by simp [chars]
theorem chars_reverse (ds : List Nat) : (chars ds).reverse = chars ds.reverse := by simp [chars]

/-- What the outer loop of Format keeps: R is what is still to be written. -/
def FmtSt (w : World) (g : Nat) (N R : Nat) (d r : Value) (wr : World) : Prop :=
  ∃ (ds zs : List Nat) (m : Nat), r = .slice (some ⟨g, 0, none⟩) m m ∧ Row wr g zs ∧ Limbs zs ∧ m ≤ zs.length ∧ zs.length ≤ 1000000 ∧ Canon (zs.take m) ∧ val (zs.take m) = R ∧
    Digits ds ∧ N = val10 ds + 10 ^ ds.length * R ∧ OwnB wr w.heap.size d (chars ds) ∧ Add w wr ∧ w.heap.size ≤ g ∧ ds.length ≤ 20000

/-- What the inner loop keeps. -/
def FmtIn (w : World) (g : Nat) (T : Nat) (len : Nat) (zs : List Nat) (d q c : Value) (wr : World) : Prop :=
  ∃ (ds : List Nat) (j p : Nat), c = .int .i64 (j : Nat) ∧ j ≤ 9 ∧ q = .int .u32 (p : Nat) ∧ p < 10 ^ (9 - j) ∧ Digits ds ∧ val10 ds + 10 ^ ds.length * p = T ∧ ds.length = len + j ∧
    OwnB wr w.heap.size d (chars ds) ∧ Row wr g zs ∧ Add w wr

theorem inner_step {ds : List Nat} {T p : Nat} (h : val10 ds + 10 ^ ds.length * p = T) : val10 (ds ++ [p % 10]) + 10 ^ (ds ++ [p % 10]).length * (p / 10) = T := by
  rw [val10_snoc, List.length_append, List.length_singleton, Nat.pow_succ, ← h]
  have := Nat.mod_add_div p 10
  conv => rhs; rw [← this]
  rw [Nat.mul_add, Nat.mul_assoc, Nat.add_assoc]

def FmtP (w : World) (N : Nat) (e : Ending) (w' : World) : Prop := ∃ s : ByteArray, e = .returned (.tuple #[.string s, .int .i64 0]) ∧ FmtIs s N ∧ s.size ≤ 1000000 ∧ Add w w'

theorem chars_u8 (ds : List Nat) : ((chars ds).map (fun n : Nat => (n : Int))).map (fun n : Int => UInt8.ofNat n.toNat) = ds.map chr := by
  simp only [chars, List.map_map]
  apply List.map_congr_left
  intro a _
  show UInt8.ofNat (Int.toNat ((48 + a : Nat) : Int)) = UInt8.ofNat (48 + a)
  rw [Int.toNat_natCast]

/-- The text behind the loops: the digits turned round and without the zeros at the front. -/
theorem fmt_text {ds : List Nat} {N : Nat} {X : ByteArray} (hd : Digits ds) (hv : N = val10 ds) (hX : X = ⟨((ds.reverse.map chr).dropWhile (· == 48)).toArray⟩) :
    (N = 0 ∧ X.toList.isEmpty = true) ∨ (X.toList.isEmpty = false ∧ FmtIs X N) := by
  rw [strike ds hd] at hX
  rw [Lib.toList_data, hX]
  by_cases h0 : tlen ds = 0
  · left
    refine ⟨?_, by simp [trim, h0]⟩
    rw [hv, ← val10_trim]; simp [trim, h0, val10]
  · right
    refine ⟨?_, .inr ⟨?_, trim ds, hd.take _, Canon.trim _, by rw [val10_trim, hv], rfl⟩⟩
    · have : (trim ds).length ≠ 0 := by rw [length_trim]; exact h0
      simp
      intro e; rw [e] at this; exact this rfl
    · rw [hv]
      rcases Nat.eq_zero_or_pos (val10 ds) with h | h
      · exfalso
        have e : trim ds = [] := val10_inj (hd.take _) Digits.nil (Canon.trim _) Canon.nil (by rw [val10_trim, h]; rfl)
        have := length_trim ds
        rw [e] at this
        exact h0 this.symm
      · exact h

end Go.Proofs.YtbeoeackahmpbaaGreatDoor

namespace Go.Proofs.YtbeoeackahmpbaaGreatDoor
open Go.RowKit NatM

def AwakeP (w : World) (e : Ending) (w' : World) : Prop := e = .returned (.bool true) ∧ Add w w'
theorem fmt_awake : FmtIs ⟨#[52, 50, 57, 52, 57, 54, 55, 50, 57, 54]⟩ 4294967296 :=
  .inr ⟨by decide, [6, 9, 2, 7, 6, 9, 4, 9, 2, 4], by intro d hd; simp at hd; omega, rfl, by decide, by decide⟩
theorem small_pw {N : Nat} (h : N < pw 400) : N < pw 512 := Nat.lt_of_lt_of_le h (pw_le (by decide))
theorem two_pw : (4294967296 : Nat) < pw 512 := by
  have h1 : pw 2 ≤ pw 512 := pw_le (by decide)
  have h2 : (4294967296 : Nat) < pw 2 := by decide
  omega

def lenV : Value → Nat
  | .slice _ n _ => n
  | _ => 0
def IsSlice (v : Value) : Prop := ∃ a n c, v = .slice a n c ∧ n ≤ 9223372036854775807
theorem Reads.isSlice {w : World} {v : Value} {xs : List Nat} (h : Reads w v xs) : IsSlice v := by
  obtain ⟨ao, n, c, rfl, _, hc, hm, _⟩ := h
  unfold maxLen at hm
  exact ⟨ao, n, c, rfl, by omega⟩
theorem Reads.lenV {w : World} {v : Value} {xs : List Nat} (h : Reads w v xs) : lenV v = xs.length := by
  obtain ⟨ao, n, c, rfl, hl, _⟩ := h
  exact hl.symm
end Go.Proofs.YtbeoeackahmpbaaGreatDoor

namespace Go.Proofs.YtbeoeackahmpbaaGreatDoor
open Go.RowKit NatM

/-- What product returns. -/
def ProdP (w : World) (xs ys : List Nat) (e : Ending) (w' : World) : Prop :=
  ∃ v zs, e = .returned v ∧ Reads w' v zs ∧ val zs = val xs * val ys ∧ Add w w'

theorem arg_cell {w wr : World} {b off n : Nat} {xs : List Nat} (g : ∀ i, i < n → w.cell? ⟨b, off + i, none⟩ = some (.int .u32 (xs.getD i 0 : Nat))) (h : Add w wr) (k : Nat) (hk : k < n) :
    wr.cell? ⟨b, off + k, none⟩ = some (.int .u32 (xs.getD k 0 : Nat)) :=
  (Below.cell h (p := ⟨b, off + k, none⟩) (World.block_lt_of_cell? w _ (g k hk))).trans (g k hk)

set_option maxRecDepth 100000 in
set_option maxHeartbeats 2000000 in
theorem product_any (va vb : Value) (xs ys : List Nat) (w : World) (ha : Reads w va xs) (hb : Reads w vb ys) (hs : xs.length ≤ 1000000) (hs' : ys.length ≤ 1000000) :
    Calls Tryz.prog 125 #[va, vb] w (ProdP w xs ys) := by
  obtain ⟨i0, hi, hz0, hz1, hz2⟩ := info_parts info93
  obtain ⟨aa, n, ca, rfl, hln, hc, hm, hx, hr⟩ := ha
  obtain ⟨ab, m, cb, rfl, hlm, hc', hm', hx', hr'⟩ := hb
  unfold maxLen at hm hm'
  rw [hln] at hs
  rw [hlm] at hs'
  have HLn := Lib.hid hln
  have HLm := Lib.hid hlm
  have hstart : MulAt xs ys (List.replicate (n + m) 0) 0 := by rw [← hln, ← hlm]; exact mulAt_zero xs ys
  clear hln hlm
  go_enter Tryz.func125, Tryz.ntmps125
  go_wp2_with (at_make; refine wpList_make_full _ rfl _ _ 35 rfl w.heap.size 93 i0 (.int .u32 0) 1 Tryz.underlying35 hi hz0 hz1 _ _ _ _ (n + m) rfl rfl (by omega) (by omega) (by rw [hz2]; omega) (by unfold maxLen; omega) (Nat.le_refl _) ?_)
  intro w1 hown hgr
  have hadd : Add w w1 := (Below.refl _ _).grown hgr (Nat.le_refl _) (by simp)
  have hown := Own.made hown
  clear hgr
  go_wp2_with fail
  go_loopw [20] (fun i wr => ∃ (k : Nat) (zs : List Nat), k ≤ n ∧ i = .int .i64 k ∧ Own wr w.heap.size w.heap.size (n + m) zs ∧ Limbs zs ∧ MulAt xs ys zs k ∧ Add w wr) (fun i _ => n - (intOf i).toNat)
  case atStart => exact ⟨0, _, Nat.zero_le _, rfl, hown, Limbs.replicate _, hstart, hadd⟩
  case round =>
    clear hstart hown hadd
    obtain ⟨k, zs, hk, rfl, hown, hzs, hmul, hadd⟩ := hrel
    have hb0 := hadd.size
    by_cases hlt : k < n
    · obtain ⟨b, off, rfl, g⟩ := hr (by omega)
      have hxc := arg_cell g hadd k hlt
      obtain ⟨x, hxe⟩ : ∃ x, x = xs.getD k 0 := ⟨_, rfl⟩
      have hxl : x < 4294967296 := by rw [hxe]; exact hx.getD k
      rw [← hxe] at hxc
      have HX := Lib.hid hxe
      have HMUL := Lib.hid hmul
      have hne : ¬ (n + m = k) := by omega
      clear hxe hmul g hr
      go_wp2_with fail
      go_loopw [9, 35] (fun c j wr => ∃ (t cc : Nat) (us : List Nat), t ≤ m ∧ j = .int .i64 t ∧ c = .int .u64 cc ∧ cc < 4294967296 ∧ Own wr w.heap.size w.heap.size (n + m) us ∧ Limbs us ∧ MulIn zs ys us k x t cc ∧ Add w wr) (fun _ j _ => m - (intOf j).toNat)
      case atStart => exact ⟨0, 0, zs, Nat.zero_le _, rfl, rfl, by decide, hown, hzs, mulIn_zero _ _ _ _, hadd⟩
      case round =>
        clear hown hzs hadd hxc hb0
        obtain ⟨t, cc, us, ht, rfl, rfl, hcc, hown, hus, hin, hadd⟩ := hrel
        have hb0 := hadd.size
        by_cases hlt' : t < m
        · obtain ⟨b2, off2, rfl, g2⟩ := hr' (by omega)
          have hyc := arg_cell g2 hadd t hlt'
          have hcell := hown.cell (k + t) (by omega)
          have hfree := hown.free (k + t)
          obtain ⟨y, hye⟩ : ∃ y, y = ys.getD t 0 := ⟨_, rfl⟩
          have hyl : y < 4294967296 := by rw [hye]; exact hx'.getD t
          rw [← hye] at hyc
          obtain ⟨z, hze⟩ : ∃ z, z = us.getD (k + t) 0 := ⟨_, rfl⟩
          have hzl : z < 4294967296 := by rw [hze]; exact hus.getD _
          rw [← hze] at hcell
          obtain ⟨p, hp⟩ : ∃ p, p = x * y := ⟨_, rfl⟩
          have hfit := mul_fits hxl hyl hzl hcc
          rw [← hp] at hfit
          have hpi : (x : Int) * (y : Int) = (p : Int) := by rw [hp]; exact (Int.natCast_mul x y).symm
          have hpb := hfit.1
          have HY := Lib.hid hye
          have HZ := Lib.hid hze
          have HP := Lib.hid hp
          have HFIT := Lib.hid hfit
          have HIN := Lib.hid hin
          clear hye hze hp hfit hin g2 hr'
          go_wp2_with fail
          go_roundw
          case rel =>
            have hz := hown.length
            have e1 : ((cc : Int) + ((p : Int) + (z : Int))) % 4294967296 = (((p + z + cc) % 4294967296 : Nat) : Int) := by omega
            rw [e1]
            exact ⟨t + 1, (p + z + cc) / 4294967296, us.set (k + t) ((p + z + cc) % 4294967296), by omega, by go_num, by simp; omega, HFIT.out.2, hown.set _ _, hus.set _ _ (Nat.mod_lt _ (by decide)),
              mulIn_step HIN.out (by have := HMUL.out.1; have := HLn.out; have := HLm.out; omega) (by rw [← HY.out, ← HZ.out, ← HP.out]; omega), hadd.setCell (Nat.le_refl _) _⟩
          case measure => simp [intOf]; omega
        · obtain rfl : t = m := by omega
          have hcell := hown.cell (k + t) (by omega)
          have hfree := hown.free (k + t)
          have HIN := Lib.hid hin
          clear hin
          go_wp2_with fail
          go_roundw
          case rel =>
            have h1 := HIN.out
            rw [HX.out, ← HLm.out] at h1
            have h2 := mulAt_step HMUL.out (by rw [HLn.out]; exact hlt) h1
            rw [HLm.out] at h2
            exact ⟨k + 1, us.set (k + t) cc, by omega, by go_num, hown.set _ _, hus.set _ _ hcc, h2, hadd.setCell (Nat.le_refl _) _⟩
          case measure => simp [intOf]; omega
    · obtain rfl : k = n := by omega
      have HMUL := Lib.hid hmul
      clear hmul
      go_wp2_with fail
      go_ret
      have h1 := HMUL.out
      rw [← HLn.out] at h1
      exact ⟨_, _, rfl, hown.reads (by unfold maxLen; omega) hzs, mulAt_done h1, hadd⟩

theorem mul_ok (va vb : Value) (xs ys : List Nat) (w : World) (ha : Reads w va xs) (hb : Reads w vb ys) (hs : xs.length ≤ 1000000) (hs' : ys.length ≤ 1000000) (hA : val xs < pw 512) (hB : val ys < pw 512) (hN : val xs * val ys < pw 512) :
    Calls Tryz.prog 115 #[va, vb] w (OkP w (val xs * val ys)) := by
  have LA := small_large ha hA
  have LB := small_large hb hB
  have l1 := tlen_le xs
  have l2 := tlen_le ys
  have HN := Lib.hid hN
  clear hN hA hB
  go_enter Tryz.func115, Tryz.ntmps115
  go_wp2_with fail
  refine (large_is false _ _ _ ha LA.out).mono ?_; rintro e w' ⟨rfl, rfl⟩
  go_wp2_with fail
  refine (large_is false _ _ _ hb LB.out).mono ?_; rintro e w' ⟨rfl, rfl⟩
  go_wp2_with fail
  refine (cut_any _ _ _ ha).mono ?_; rintro e w' ⟨va', rfl, rfl, hva, -⟩
  go_wp2_with fail
  refine (cut_any _ _ _ hb).mono ?_; rintro e w' ⟨vb', rfl, rfl, hvb, -⟩
  go_wp2_with fail
  refine (product_any _ _ _ _ _ hva hvb (by rw [length_trim]; omega) (by rw [length_trim]; omega)).mono ?_
  rintro e w' ⟨v, zs, rfl, hz, hzv, hadd⟩
  rw [val_trim, val_trim] at hzv
  have HV := Lib.hid hzv
  clear hzv
  go_wp2_with fail
  refine (checked_ok _ _ _ hz (by rw [HV.out]; exact HN.out)).mono ?_
  rintro e w'' ⟨v', rfl, hn, hadd'⟩
  go_wp2_with fail
  go_ret2
  exact ⟨_, rfl, by rw [← HV.out]; exact hn, Add.trans hadd hadd'⟩

theorem mul_over (va vb : Value) (xs ys : List Nat) (w : World) (ha : Reads w va xs) (hb : Reads w vb ys) (hs : xs.length ≤ 1000000) (hs' : ys.length ≤ 1000000) (hA : val xs < pw 512) (hB : val ys < pw 512) (hN : pw 512 ≤ val xs * val ys) :
    Calls Tryz.prog 115 #[va, vb] w (ErrP w 2) := by
  have LA := small_large ha hA
  have LB := small_large hb hB
  have l1 := tlen_le xs
  have l2 := tlen_le ys
  have HN := Lib.hid hN
  clear hN hA hB
  go_enter Tryz.func115, Tryz.ntmps115
  go_wp2_with fail
  refine (large_is false _ _ _ ha LA.out).mono ?_; rintro e w' ⟨rfl, rfl⟩
  go_wp2_with fail
  refine (large_is false _ _ _ hb LB.out).mono ?_; rintro e w' ⟨rfl, rfl⟩
  go_wp2_with fail
  refine (cut_any _ _ _ ha).mono ?_; rintro e w' ⟨va', rfl, rfl, hva, -⟩
  go_wp2_with fail
  refine (cut_any _ _ _ hb).mono ?_; rintro e w' ⟨vb', rfl, rfl, hvb, -⟩
  go_wp2_with fail
  refine (product_any _ _ _ _ _ hva hvb (by rw [length_trim]; omega) (by rw [length_trim]; omega)).mono ?_
  rintro e w' ⟨v, zs, rfl, hz, hzv, hadd⟩
  rw [val_trim, val_trim] at hzv
  have HV := Lib.hid hzv
  clear hzv
  go_wp2_with fail
  refine (checked_big _ _ _ hz (by rw [HV.out]; exact HN.out)).mono ?_
  rintro e w'' ⟨rfl, hadd'⟩
  go_wp2_with fail
  go_ret2
  exact ⟨rfl, Add.trans hadd hadd'⟩

theorem mul_big (va vb : Value) (xs ys : List Nat) (w : World) (ha : Reads w va xs) (hb : Reads w vb ys) (hAB : pw 512 ≤ val xs ∨ pw 512 ≤ val ys) :
    Calls Tryz.prog 115 #[va, vb] w (ErrP w 2) := by
  by_cases hA : pw 512 ≤ val xs
  · have LA := big_large ha hA
    clear hA hAB
    go_enter Tryz.func115, Tryz.ntmps115
    go_wp2_with fail
    refine (large_is true _ _ _ ha LA.out).mono ?_; rintro e w' ⟨rfl, rfl⟩
    go_wp2_with fail
    go_ret2
    exact ⟨rfl, Below.refl _ _⟩
  · have LA := small_large ha (by omega)
    have LB := big_large hb (by omega)
    clear hA hAB
    go_enter Tryz.func115, Tryz.ntmps115
    go_wp2_with fail
    refine (large_is false _ _ _ ha LA.out).mono ?_; rintro e w' ⟨rfl, rfl⟩
    go_wp2_with fail
    refine (large_is true _ _ _ hb LB.out).mono ?_; rintro e w' ⟨rfl, rfl⟩
    go_wp2_with fail
    go_ret2
    exact ⟨rfl, Below.refl _ _⟩
end Go.Proofs.YtbeoeackahmpbaaGreatDoor
