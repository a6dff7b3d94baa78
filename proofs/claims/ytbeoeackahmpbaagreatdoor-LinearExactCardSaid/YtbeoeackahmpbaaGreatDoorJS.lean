/- The reference's times. | The reference's Add, Sub, Mul and Cmp. | The reference's Make; its operations said of numbers. | The reference's divide, for a divisor of one limb. | Results and errors, in one form. | The shape of a canonical row. -/
import Derived.Test.YtbeoeackahmpbaaGreatDoorJR
import Derived.Test.YtbeoeackahmpbaaGreatDoorJF

namespace Go.Proofs.YtbeoeackahmpbaaGreatDoor
open Go.RowKit NatM

set_option maxRecDepth 100000 in
set_option maxHeartbeats 2000000 in
theorem refTimes_any (va vb : Value) (xs ys : List Nat) (w : World) (ha : Reads w va xs) (hb : Reads w vb ys) (hs : xs.length ≤ 400000) (hs' : ys.length ≤ 400000) :
    Calls Tryz.prog 109 #[va, vb] w (RetO w (val xs * val ys)) := by
  obtain ⟨i0, hi, hz0, hz1, hz2⟩ := info_parts info93
  obtain ⟨aa, n, ca, rfl, hln, hc, hm, hx, hr⟩ := ha
  obtain ⟨ab, m, cb, rfl, hlm, hc', hm', hx', hr'⟩ := hb
  unfold maxLen at hm hm'
  rw [hln] at hs
  rw [hlm] at hs'
  have HLn := Lib.hid hln
  have HLm := Lib.hid hlm
  have hstart : MulAt xs ys (List.replicate (n + m) 0) 0 := by rw [← hln, ← hlm]; exact mulAt_zero xs ys
  clear hln hlm
  go_enter Tryz.func109, Tryz.ntmps109
  go_wp2_with (at_make; refine wpList_make_full _ rfl _ _ 35 rfl w.heap.size 93 i0 (.int .u32 0) 1 Tryz.underlying35 hi hz0 hz1 _ _ _ _ (n + m) rfl rfl (by omega) (by omega) (by rw [hz2]; omega) (by unfold maxLen; omega) (Nat.le_refl _) ?_)
  intro w1 hown hgr
  have hadd : Add w w1 := (Below.refl _ _).grown hgr (Nat.le_refl _) (by simp)
  have hown := Own.made hown
  clear hgr
  go_wp2_with fail
  go_loopw [6] (fun i wr => ∃ (k : Nat) (zs : List Nat), k ≤ n ∧ i = .int .i64 k ∧ Own wr w.heap.size w.heap.size (n + m) zs ∧ Limbs zs ∧ MulAt xs ys zs k ∧ Add w wr) (fun i _ => n - (intOf i).toNat)
  case atStart => exact ⟨0, _, Nat.zero_le _, rfl, hown, Limbs.replicate _, hstart, hadd⟩
  case round =>
    clear hstart hown hadd
    obtain ⟨k, zs, hk, rfl, hown, hzs, hmul, hadd⟩ := hrel
    have hb0 := hadd.size
    by_cases hlt : k < n
    · obtain ⟨b, off, rfl, g⟩ := hr (by omega)
      have hxc := arg_cell g hadd k hlt
      obtain ⟨x, hxe⟩ : ∃ x, x = xs.getD k 0 := ⟨_, rfl⟩
      have hxl : x < 4294967296 := by rw [hxe]; exact hx.getD k
      rw [← hxe] at hxc
      have HX := Lib.hid hxe
      have HMUL := Lib.hid hmul
      have hne : ¬ (n + m = k) := by omega
      have G := Lib.hid g
      clear hxe hmul g hr hxc
      go_wp2_with fail
      go_loopw [7, 8] (fun c j wr => ∃ (t cc : Nat) (us : List Nat), t ≤ m ∧ j = .int .i64 t ∧ c = .int .u64 cc ∧ cc < 4294967296 ∧ Own wr w.heap.size w.heap.size (n + m) us ∧ Limbs us ∧ MulIn zs ys us k x t cc ∧ Add w wr) (fun _ j _ => m - (intOf j).toNat)
      case atStart => exact ⟨0, 0, zs, Nat.zero_le _, rfl, rfl, by decide, hown, hzs, mulIn_zero _ _ _ _, hadd⟩
      case round =>
        clear hown hzs hadd hb0
        obtain ⟨t, cc, us, ht, rfl, rfl, hcc, hown, hus, hin, hadd⟩ := hrel
        have hb0 := hadd.size
        by_cases hlt' : t < m
        · obtain ⟨b2, off2, rfl, g2⟩ := hr' (by omega)
          have hyc := arg_cell g2 hadd t hlt'
          have hxc := arg_cell G.out hadd k hlt
          rw [← HX.out] at hxc
          have hcell := hown.cell (k + t) (by omega)
          have hfree := hown.free (k + t)
          obtain ⟨y, hye⟩ : ∃ y, y = ys.getD t 0 := ⟨_, rfl⟩
          have hyl : y < 4294967296 := by rw [hye]; exact hx'.getD t
          rw [← hye] at hyc
          obtain ⟨z, hze⟩ : ∃ z, z = us.getD (k + t) 0 := ⟨_, rfl⟩
          have hzl : z < 4294967296 := by rw [hze]; exact hus.getD _
          rw [← hze] at hcell
          obtain ⟨p, hp⟩ : ∃ p, p = x * y := ⟨_, rfl⟩
          have hfit := mul_fits hxl hyl hzl hcc
          rw [← hp] at hfit
          have hpi : (x : Int) * (y : Int) = (p : Int) := by rw [hp]; exact (Int.natCast_mul x y).symm
          have hpb := hfit.1
          have HY := Lib.hid hye
          have HZ := Lib.hid hze
          have HP := Lib.hid hp
          have HFIT := Lib.hid hfit
          have HIN := Lib.hid hin
          clear hye hze hp hfit hin g2 hr'
          go_wp2_with fail
          go_quiet (fail)
          go_wp2_with fail
          go_roundw
          case rel =>
            have hz := hown.length
            have hown' := hown.below (below_drewN (Below.refl _ _) nq)
            have e1 : ((p : Int) + (z : Int) + (cc : Int)) % 4294967296 = (((p + z + cc) % 4294967296 : Nat) : Int) := by omega
            rw [e1]
            exact ⟨t + 1, (p + z + cc) / 4294967296, us.set (k + t) ((p + z + cc) % 4294967296), by omega, by go_num, by simp, HFIT.out.2, hown'.set _ _, hus.set _ _ (Nat.mod_lt _ (by decide)),
              mulIn_step HIN.out (by have := HMUL.out.1; have := HLn.out; have := HLm.out; omega) (by rw [← HY.out, ← HZ.out, ← HP.out]; omega), (below_drewN hadd nq).setCell (Nat.le_refl _) _⟩
          case measure => simp [intOf]; omega
        · obtain rfl : t = m := by omega
          have hcell := hown.cell (k + t) (by omega)
          have hfree := hown.free (k + t)
          have HIN := Lib.hid hin
          clear hin
          go_wp2_with fail
          go_roundw
          case rel =>
            have h1 := HIN.out
            rw [HX.out, ← HLm.out] at h1
            have h2 := mulAt_step HMUL.out (by rw [HLn.out]; exact hlt) h1
            rw [HLm.out] at h2
            exact ⟨k + 1, us.set (k + t) cc, by omega, by go_num, hown.set _ _, hus.set _ _ hcc, h2, hadd.setCell (Nat.le_refl _) _⟩
          case measure => simp [intOf]; omega
    · obtain rfl : k = n := by omega
      have HMUL := Lib.hid hmul
      clear hmul
      have h1 := HMUL.out
      rw [← HLn.out] at h1
      have hv := mulAt_done h1
      have hzl := hown.length
      have HT := Lib.hid (refTrim_any _ zs wr (hown.reads (by unfold maxLen; omega) hzs) (by omega))
      rw [hv] at HT
      clear h1 hv hown hzs hzl
      go_wp2_with fail
      refine HT.out.mono ?_
      rintro e w4 ⟨v4, rfl, h4, hadd4⟩
      have hF : RetO w (val xs * val ys) (.returned v4) w4 := ⟨v4, rfl, h4.base hadd.size, Add.trans hadd hadd4⟩
      clear h4 hadd4 hadd
      go_wp2_with fail
      go_ret
      exact hF
end Go.Proofs.YtbeoeackahmpbaaGreatDoor

namespace Go.Proofs.YtbeoeackahmpbaaGreatDoor
open Go.RowKit NatM Go.Proofs.YtbeoeackahmpbaaGreatDoor.Api

/-- A result and an error number: with an error the result is 0. -/
def ResP (w : World) (p : Nat × Nat) (e : Ending) (w' : World) : Prop := ∃ v, e = .returned (.tuple #[v, .int .i64 (p.2 : Nat)]) ∧ Num w' v p.1 ∧ Add w w'
def addS (A B : Nat) : Nat × Nat := if A + B < pw 512 then (A + B, 0) else (0, 2)
def subS (A B : Nat) : Nat × Nat := if pw 512 ≤ A ∨ pw 512 ≤ B then (0, 2) else if A < B then (0, 4) else (A - B, 0)
def mulS (A B : Nat) : Nat × Nat := if pw 512 ≤ A ∨ pw 512 ≤ B ∨ pw 512 ≤ A * B then (0, 2) else (A * B, 0)
theorem NumO.reads {w : World} {base : Nat} {v : Value} {N k : Nat} (h : NumO w base v N) (hN : N < pw k) : ∃ zs, Reads w v zs ∧ Canon zs ∧ val zs = N ∧ zs.length ≤ k := by
  obtain ⟨zs, h1, h2, h3, h4⟩ := h
  refine ⟨zs, h1.reads h2, h3, h4, ?_⟩
  have := tlen_le_of_val (xs := zs) k (by rw [h4]; exact hN)
  unfold Canon at h3; omega
theorem num_reads {w : World} {v : Value} {N k : Nat} (h : Num w v N) (hN : N < pw k) : ∃ zs, Reads w v zs ∧ Canon zs ∧ val zs = N ∧ zs.length ≤ k := by
  obtain ⟨zs, h1, h3, h4⟩ := h
  refine ⟨zs, h1, h3, h4, ?_⟩
  have := tlen_le_of_val (xs := zs) k (by rw [h4]; exact hN)
  unfold Canon at h3; omega

set_option maxRecDepth 100000 in
set_option maxHeartbeats 2000000 in
theorem refCmp_any (va vb : Value) (xs ys : List Nat) (w : World) (ha : Reads w va xs) (hb : Reads w vb ys) (hs : xs.length ≤ 1000000) (hs' : ys.length ≤ 1000000) :
    Calls Tryz.prog 71 #[va, vb] w (IntIs w (cmpI (val xs) (val ys))) := by
  have HB := Lib.hid hb
  have l1 := Lib.hid (Nat.le_trans (tlen_le xs) hs)
  have l2 := Lib.hid (Nat.le_trans (tlen_le ys) hs')
  have HTA := Lib.hid (refTrim_any va xs w ha hs)
  have HTB := fun w1 (h : Add w w1) => Lib.hid (refTrim_any vb ys w1 (hb.mono h) hs')
  obtain ⟨A, hA⟩ : ∃ A, A = val xs := ⟨_, rfl⟩
  obtain ⟨B, hB⟩ : ∃ B, B = val ys := ⟨_, rfl⟩
  rw [← hA, ← hB]
  rw [← hA] at HTA
  simp only [← hB] at HTB
  clear ha hb hs hs' hA hB
  go_enter Tryz.func71, Tryz.ntmps71
  go_wp2_with fail
  refine HTA.out.mono ?_; rintro e w1 ⟨v1, rfl, ⟨ps, o1, x1, c1, e1⟩, h1⟩
  go_wp2_with fail
  refine (HTB _ h1).out.mono ?_; rintro e w2 ⟨v2, rfl, ⟨qs, o2, x2, c2, e2⟩, h2⟩
  have h12 := Add.trans h1 h2
  have r1 := (o1.reads x1).mono h2
  have r2 := o2.reads x2
  have X1 := Lib.hid x1
  have X2 := Lib.hid x2
  have C1 := Lib.hid c1
  have C2 := Lib.hid c2
  have E1 := Lib.hid e1
  have E2 := Lib.hid e2
  clear o1 o2 x1 x2 c1 c2 e1 e2 h1 h2 HTA HTB
  have hx := X1.out
  have hx' := X2.out
  obtain ⟨aa, n, ca, rfl, hln, hc, hm, -, hr⟩ := r1
  obtain ⟨ab, m, cb, rfl, hlm, hc', hm', -, hr'⟩ := r2
  unfold maxLen at hm hm'
  rcases Nat.lt_trichotomy n m with hnm | rfl | hnm
  · have HF := Lib.hid (cmpI_lt (len_lt (xs := ps) (ys := qs) hx C2.out (by omega)))
    clear hln hlm
    have hne : ((n : Int) != m) = true := by simp; omega
    have hlt : decide (n < m) = true := by simp; omega
    go_wp2_with fail
    go_ret
    exact ⟨by rw [← E1.out, ← E2.out, HF.out]; rfl, h12⟩
  · have hne : ((n : Int) != n) = false := by simp
    have HLn := Lib.hid hln
    have HLm := Lib.hid hlm
    clear hln hlm
    go_wp2_with fail
    go_loopw [5] (fun i wr => ∃ (k : Nat), k ≤ n ∧ i = .int .i64 ((k : Int) - 1) ∧ Agree ps qs k ∧ ∃ q, wr = w2.drewN q) (fun i _ => (intOf i + 1).toNat)
    case atStart => exact ⟨n, Nat.le_refl _, rfl, by rw [← HLn.out]; exact agree_top (by rw [HLn.out, HLm.out]), 0, rfl⟩
    case round =>
      obtain ⟨k, hk, rfl, hag, q, rfl⟩ := hrel
      by_cases h0 : k = 0
      · subst h0
        have HF := Lib.hid (cmpI_eq (congrArg val (agree_zero hag)))
        go_wp2_with fail
        go_ret
        exact ⟨by rw [← E1.out, ← E2.out, HF.out]; rfl, below_drewN h12 _⟩
      · obtain ⟨j, rfl⟩ : ∃ j, k = j + 1 := ⟨k - 1, by omega⟩
        obtain ⟨b, off, rfl, g⟩ := hr (by omega)
        obtain ⟨b', off', rfl, g'⟩ := hr' (by omega)
        have hcell := g j (by omega)
        have hcell' := g' j (by omega)
        obtain ⟨x, hxe⟩ : ∃ x, x = ps.getD j 0 := ⟨_, rfl⟩
        obtain ⟨y, hye⟩ : ∃ y, y = qs.getD j 0 := ⟨_, rfl⟩
        rw [← hxe] at hcell
        rw [← hye] at hcell'
        have HX := Lib.hid hxe
        have HY := Lib.hid hye
        clear hxe hye g g' hr hr'
        have hjn : j < n := by omega
        rcases Nat.lt_trichotomy x y with hxy | rfl | hxy
        · have hlt' : decide (x < y) = true := by simp; omega
          have HF := Lib.hid (cmpI_lt (agree_lt hx (by rw [HLn.out, HLm.out]) (by rw [HLn.out]; omega) hag (by rw [← HX.out, ← HY.out]; exact hxy)))
          go_wp2_with fail
          go_quiet (fail)
          go_wp2_with fail
          go_ret
          exact ⟨by rw [← E1.out, ← E2.out, HF.out]; rfl, by first | exact below_drewN h12 _ | exact below_drewN (below_drewN h12 _) _⟩
        · have hlt' : decide (x < x) = false := by simp
          go_wp2_with fail
          go_quiet (fail)
          go_wp2_with fail
          go_quiet (fail)
          go_wp2_with fail
          go_roundw
          case rel => exact ⟨j, by omega, by go_num, agree_step (by rw [HLn.out, HLm.out]) (by rw [HLn.out]; omega) hag (by rw [← HX.out, ← HY.out]), by first | exact drew3 _ _ _ _ | exact ⟨_, rfl⟩⟩
          case measure => simp [intOf]
        · have hlt' : decide (x < y) = false := by simp; omega
          have hgt' : decide (y < x) = true := by simp; omega
          have HF := Lib.hid (cmpI_gt (agree_lt hx' (by rw [HLn.out, HLm.out]) (by rw [HLm.out]; omega) hag.symm (by rw [← HX.out, ← HY.out]; exact hxy)))
          go_wp2_with fail
          go_quiet (fail)
          go_wp2_with fail
          go_quiet (fail)
          go_wp2_with fail
          go_ret
          exact ⟨by rw [← E1.out, ← E2.out, HF.out]; rfl, by first | exact below_drewN h12 _ | exact below_drewN (below_drewN h12 _) _ | exact below_drewN (below_drewN (below_drewN h12 _) _) _⟩
  · have HF := Lib.hid (cmpI_gt (len_lt (xs := qs) (ys := ps) hx' C1.out (by omega)))
    clear hln hlm
    have hne : ((n : Int) != m) = true := by simp; omega
    have hlt : decide (n < m) = false := by simp; omega
    go_wp2_with fail
    go_ret
    exact ⟨by rw [← E1.out, ← E2.out, HF.out]; rfl, h12⟩

set_option maxRecDepth 100000 in
set_option maxHeartbeats 2000000 in
theorem refAdd_any (va vb : Value) (xs ys : List Nat) (w : World) (ha : Reads w va xs) (hb : Reads w vb ys) (hs : xs.length ≤ 100000) (hs' : ys.length ≤ 100000) :
    Calls Tryz.prog 70 #[va, vb] w (ResP w (addS (val xs) (val ys))) := by
  by_cases hA : pw 512 ≤ val xs
  · have hspec : addS (val xs) (val ys) = (0, 2) := by unfold addS; rw [if_neg (by omega)]
    have HS := Lib.hid hspec
    have LA := Lib.hid (refLarge_is true va xs w ha (by omega) (Lib.hid (decide_eq_true hA)))
    clear hspec hA
    go_enter Tryz.func70, Tryz.ntmps70
    go_wp2_with fail
    refine LA.out.mono ?_; rintro e w1 ⟨rfl, h1⟩
    go_wp2_with fail
    go_ret2
    rw [HS.out]
    exact ⟨_, rfl, Num.nil _, h1⟩
  · have LA := Lib.hid (refLarge_is false va xs w ha (by omega) (Lib.hid (decide_eq_false hA)))
    by_cases hB : pw 512 ≤ val ys
    · have hspec : addS (val xs) (val ys) = (0, 2) := by unfold addS; rw [if_neg (by omega)]
      have HS := Lib.hid hspec
      have LB := fun w1 (h : Add w w1) => Lib.hid (refLarge_is true vb ys w1 (hb.mono h) (by omega) (Lib.hid (decide_eq_true hB)))
      clear hspec hA hB
      go_enter Tryz.func70, Tryz.ntmps70
      go_wp2_with fail
      refine LA.out.mono ?_; rintro e w1 ⟨rfl, h1⟩
      go_wp2_with fail
      refine (LB _ h1).out.mono ?_; rintro e w2 ⟨rfl, h2⟩
      go_wp2_with fail
      go_ret2
      rw [HS.out]
      exact ⟨_, rfl, Num.nil _, Add.trans h1 h2⟩
    · have LB := fun w1 (h : Add w w1) => Lib.hid (refLarge_is false vb ys w1 (hb.mono h) (by omega) (Lib.hid (decide_eq_false hB)))
      have HB := Lib.hid hB
      have HA := Lib.hid hA
      clear hA hB
      obtain ⟨N, hN⟩ : ∃ N, N = val xs + val ys := ⟨_, rfl⟩
      go_enter Tryz.func70, Tryz.ntmps70
      go_wp2_with fail
      refine LA.out.mono ?_; rintro e w1 ⟨rfl, h1⟩
      go_wp2_with fail
      refine (LB _ h1).out.mono ?_; rintro e w2 ⟨rfl, h2⟩
      have h12 := Add.trans h1 h2
      clear h1 h2
      go_wp2_with fail
      refine (refTrim_any _ _ _ (ha.mono h12) (by omega)).mono ?_; rintro e w3 ⟨v3, rfl, n3, h3⟩
      obtain ⟨ps, r3, -, e3, l3⟩ := n3.reads (k := 512) (by have := HA.out; omega)
      go_wp2_with fail
      refine (refTrim_any _ _ _ ((hb.mono h12).mono h3) (by omega)).mono ?_; rintro e w4 ⟨v4, rfl, n4, h4⟩
      obtain ⟨qs, r4, -, e4, l4⟩ := n4.reads (k := 512) (by have := HB.out; omega)
      have r3' := r3.mono h4
      have HC := Lib.hid (refPlus_any v3 v4 ps qs w4 r3' r4 (by omega) (by omega))
      have E3 := Lib.hid e3
      have E4 := Lib.hid e4
      clear r3 r4 r3' n3 n4 e3 e4
      go_wp2_with fail
      refine HC.out.mono ?_; rintro e w5 ⟨v5, rfl, n5, h5⟩
      rw [E3.out, E4.out, ← hN] at n5
      have h345 := Add.trans h12 (Add.trans h3 (Add.trans h4 h5))
      clear HC h12 h3 h4 h5
      by_cases hbig : pw 512 ≤ N
      · have hspec : addS (val xs) (val ys) = (0, 2) := by unfold addS; rw [if_neg (by omega)]
        have HS := Lib.hid hspec
        obtain ⟨cs, r5, -, e5, l5⟩ := n5.reads (k := 1024) (by have := HA.out; have := HB.out; have h513 : pw 513 = 4294967296 * pw 512 := pw_succ 512; have : pw 513 ≤ pw 1024 := pw_le (by decide); omega)
        have LC := Lib.hid (refLarge_is true v5 cs w5 r5 (by omega) (Lib.hid (by rw [e5]; exact decide_eq_true hbig)))
        clear hspec hbig r5 e5 n5 hN
        go_wp2_with fail
        refine LC.out.mono ?_; rintro e w6 ⟨rfl, h6⟩
        go_wp2_with fail
        go_ret2
        rw [HS.out]
        exact ⟨_, rfl, Num.nil _, Add.trans h345 h6⟩
      · have hspec : addS (val xs) (val ys) = (N, 0) := by unfold addS; rw [if_pos (by omega), hN]
        have HS := Lib.hid hspec
        obtain ⟨cs, r5, -, e5, l5⟩ := n5.reads (k := 512) (by omega)
        have LC := Lib.hid (refLarge_is false v5 cs w5 r5 (by omega) (Lib.hid (by rw [e5]; exact decide_eq_false hbig)))
        have n5' := n5.num
        clear hspec hbig r5 e5 n5 hN
        go_wp2_with fail
        refine LC.out.mono ?_; rintro e w6 ⟨rfl, h6⟩
        go_wp2_with fail
        go_ret2
        rw [HS.out]
        exact ⟨_, rfl, n5'.mono h6, Add.trans h345 h6⟩

set_option maxRecDepth 100000 in
set_option maxHeartbeats 2000000 in
theorem refMul_any (va vb : Value) (xs ys : List Nat) (w : World) (ha : Reads w va xs) (hb : Reads w vb ys) (hs : xs.length ≤ 100000) (hs' : ys.length ≤ 100000) :
    Calls Tryz.prog 92 #[va, vb] w (ResP w (mulS (val xs) (val ys))) := by
  by_cases hA : pw 512 ≤ val xs
  · have hspec : mulS (val xs) (val ys) = (0, 2) := by unfold mulS; rw [if_pos (by omega)]
    have HS := Lib.hid hspec
    have LA := Lib.hid (refLarge_is true va xs w ha (by omega) (Lib.hid (decide_eq_true hA)))
    clear hspec hA
    go_enter Tryz.func92, Tryz.ntmps92
    go_wp2_with fail
    refine LA.out.mono ?_; rintro e w1 ⟨rfl, h1⟩
    go_wp2_with fail
    go_ret2
    rw [HS.out]
    exact ⟨_, rfl, Num.nil _, h1⟩
  · have LA := Lib.hid (refLarge_is false va xs w ha (by omega) (Lib.hid (decide_eq_false hA)))
    by_cases hB : pw 512 ≤ val ys
    · have hspec : mulS (val xs) (val ys) = (0, 2) := by unfold mulS; rw [if_pos (by omega)]
      have HS := Lib.hid hspec
      have LB := fun w1 (h : Add w w1) => Lib.hid (refLarge_is true vb ys w1 (hb.mono h) (by omega) (Lib.hid (decide_eq_true hB)))
      clear hspec hA hB
      go_enter Tryz.func92, Tryz.ntmps92
      go_wp2_with fail
      refine LA.out.mono ?_; rintro e w1 ⟨rfl, h1⟩
      go_wp2_with fail
      refine (LB _ h1).out.mono ?_; rintro e w2 ⟨rfl, h2⟩
      go_wp2_with fail
      go_ret2
      rw [HS.out]
      exact ⟨_, rfl, Num.nil _, Add.trans h1 h2⟩
    · have LB := fun w1 (h : Add w w1) => Lib.hid (refLarge_is false vb ys w1 (hb.mono h) (by omega) (Lib.hid (decide_eq_false hB)))
      have HB := Lib.hid hB
      have HA := Lib.hid hA
      clear hA hB
      obtain ⟨N, hN⟩ : ∃ N, N = val xs * val ys := ⟨_, rfl⟩
      go_enter Tryz.func92, Tryz.ntmps92
      go_wp2_with fail
      refine LA.out.mono ?_; rintro e w1 ⟨rfl, h1⟩
      go_wp2_with fail
      refine (LB _ h1).out.mono ?_; rintro e w2 ⟨rfl, h2⟩
      have h12 := Add.trans h1 h2
      clear h1 h2
      go_wp2_with fail
      refine (refTrim_any _ _ _ (ha.mono h12) (by omega)).mono ?_; rintro e w3 ⟨v3, rfl, n3, h3⟩
      obtain ⟨ps, r3, -, e3, l3⟩ := n3.reads (k := 512) (by have := HA.out; omega)
      go_wp2_with fail
      refine (refTrim_any _ _ _ ((hb.mono h12).mono h3) (by omega)).mono ?_; rintro e w4 ⟨v4, rfl, n4, h4⟩
      obtain ⟨qs, r4, -, e4, l4⟩ := n4.reads (k := 512) (by have := HB.out; omega)
      have r3' := r3.mono h4
      have HC := Lib.hid (refTimes_any v3 v4 ps qs w4 r3' r4 (by omega) (by omega))
      have E3 := Lib.hid e3
      have E4 := Lib.hid e4
      clear r3 r4 r3' n3 n4 e3 e4
      go_wp2_with fail
      refine HC.out.mono ?_; rintro e w5 ⟨v5, rfl, n5, h5⟩
      rw [E3.out, E4.out, ← hN] at n5
      have h345 := Add.trans h12 (Add.trans h3 (Add.trans h4 h5))
      clear HC h12 h3 h4 h5
      by_cases hbig : pw 512 ≤ N
      · have hspec : mulS (val xs) (val ys) = (0, 2) := by unfold mulS; rw [if_pos (by rw [← hN]; omega)]
        have HS := Lib.hid hspec
        obtain ⟨cs, r5, -, e5, l5⟩ := n5.reads (k := 1024) (by rw [hN]; exact lt_mul (i := 512) (j := 512) (by have := HA.out; omega) (by have := HB.out; omega))
        have LC := Lib.hid (refLarge_is true v5 cs w5 r5 (by omega) (Lib.hid (by rw [e5]; exact decide_eq_true hbig)))
        clear hspec hbig r5 e5 n5 hN
        go_wp2_with fail
        refine LC.out.mono ?_; rintro e w6 ⟨rfl, h6⟩
        go_wp2_with fail
        go_ret2
        rw [HS.out]
        exact ⟨_, rfl, Num.nil _, Add.trans h345 h6⟩
      · have hspec : mulS (val xs) (val ys) = (N, 0) := by unfold mulS; rw [if_neg (by have := HA.out; have := HB.out; rw [← hN]; omega), hN]
        have HS := Lib.hid hspec
        obtain ⟨cs, r5, -, e5, l5⟩ := n5.reads (k := 512) (by omega)
        have LC := Lib.hid (refLarge_is false v5 cs w5 r5 (by omega) (Lib.hid (by rw [e5]; exact decide_eq_false hbig)))
        have n5' := n5.num
        clear hspec hbig r5 e5 n5 hN
        go_wp2_with fail
        refine LC.out.mono ?_; rintro e w6 ⟨rfl, h6⟩
        go_wp2_with fail
        go_ret2
        rw [HS.out]
        exact ⟨_, rfl, n5'.mono h6, Add.trans h345 h6⟩

set_option maxRecDepth 100000 in
set_option maxHeartbeats 2000000 in
theorem refSub_any (va vb : Value) (xs ys : List Nat) (w : World) (ha : Reads w va xs) (hb : Reads w vb ys) (hs : xs.length ≤ 100000) (hs' : ys.length ≤ 100000) :
    Calls Tryz.prog 72 #[va, vb] w (ResP w (subS (val xs) (val ys))) := by
  by_cases hA : pw 512 ≤ val xs
  · have hspec : subS (val xs) (val ys) = (0, 2) := by unfold subS; rw [if_pos (by omega)]
    have HS := Lib.hid hspec
    have LA := Lib.hid (refLarge_is true va xs w ha (by omega) (Lib.hid (decide_eq_true hA)))
    clear hspec hA
    go_enter Tryz.func72, Tryz.ntmps72
    go_wp2_with fail
    refine LA.out.mono ?_; rintro e w1 ⟨rfl, h1⟩
    go_wp2_with fail
    go_ret2
    rw [HS.out]
    exact ⟨_, rfl, Num.nil _, h1⟩
  · have LA := Lib.hid (refLarge_is false va xs w ha (by omega) (Lib.hid (decide_eq_false hA)))
    by_cases hB : pw 512 ≤ val ys
    · have hspec : subS (val xs) (val ys) = (0, 2) := by unfold subS; rw [if_pos (by omega)]
      have HS := Lib.hid hspec
      have LB := fun w1 (h : Add w w1) => Lib.hid (refLarge_is true vb ys w1 (hb.mono h) (by omega) (Lib.hid (decide_eq_true hB)))
      clear hspec hA hB
      go_enter Tryz.func72, Tryz.ntmps72
      go_wp2_with fail
      refine LA.out.mono ?_; rintro e w1 ⟨rfl, h1⟩
      go_wp2_with fail
      refine (LB _ h1).out.mono ?_; rintro e w2 ⟨rfl, h2⟩
      go_wp2_with fail
      go_ret2
      rw [HS.out]
      exact ⟨_, rfl, Num.nil _, Add.trans h1 h2⟩
    · have LB := fun w1 (h : Add w w1) => Lib.hid (refLarge_is false vb ys w1 (hb.mono h) (by omega) (Lib.hid (decide_eq_false hB)))
      have HB := Lib.hid hB
      have HA := Lib.hid hA
      clear hA hB
      by_cases hlt : val xs < val ys
      · have hspec : subS (val xs) (val ys) = (0, 4) := by unfold subS; rw [if_neg (by have := HA.out; have := HB.out; omega), if_pos hlt]
        have HS := Lib.hid hspec
        have hc0 : decide (cmpI (val xs) (val ys) < 0) = true := by rw [decide_eq_true_iff, cmp_neg]; exact hlt
        have HCMP := fun w1 (h : Add w w1) => Lib.hid (refCmp_any va vb xs ys w1 (ha.mono h) (hb.mono h) (by omega) (by omega))
        clear hspec hlt
        go_enter Tryz.func72, Tryz.ntmps72
        go_wp2_with fail
        refine LA.out.mono ?_; rintro e w1 ⟨rfl, h1⟩
        go_wp2_with fail
        refine (LB _ h1).out.mono ?_; rintro e w2 ⟨rfl, h2⟩
        have h12 := Add.trans h1 h2
        clear h1 h2
        go_wp2_with fail
        refine (HCMP _ h12).out.mono ?_; rintro e w3 ⟨rfl, h3⟩
        go_wp2_with fail
        go_ret2
        rw [HS.out]
        exact ⟨_, rfl, Num.nil _, Add.trans h12 h3⟩
      · have hspec : subS (val xs) (val ys) = (val xs - val ys, 0) := by unfold subS; rw [if_neg (by have := HA.out; have := HB.out; omega), if_neg hlt]
        have HS := Lib.hid hspec
        have hc0 : decide (cmpI (val xs) (val ys) < 0) = false := by rw [decide_eq_false_iff_not, cmp_neg]; exact hlt
        have HCMP := fun w1 (h : Add w w1) => Lib.hid (refCmp_any va vb xs ys w1 (ha.mono h) (hb.mono h) (by omega) (by omega))
        have HLT := Lib.hid hlt
        clear hspec hlt
        go_enter Tryz.func72, Tryz.ntmps72
        go_wp2_with fail
        refine LA.out.mono ?_; rintro e w1 ⟨rfl, h1⟩
        go_wp2_with fail
        refine (LB _ h1).out.mono ?_; rintro e w2 ⟨rfl, h2⟩
        have h12 := Add.trans h1 h2
        clear h1 h2
        go_wp2_with fail
        refine (HCMP _ h12).out.mono ?_; rintro e w2' ⟨rfl, h2'⟩
        replace h12 := Add.trans h12 h2'
        clear h2'
        go_wp2_with fail
        refine (refTrim_any _ _ _ (ha.mono h12) (by omega)).mono ?_; rintro e w3 ⟨v3, rfl, n3, h3⟩
        obtain ⟨ps, r3, -, e3, l3⟩ := n3.reads (k := 512) (by have := HA.out; omega)
        go_wp2_with fail
        refine (refTrim_any _ _ _ ((hb.mono h12).mono h3) (by omega)).mono ?_; rintro e w4 ⟨v4, rfl, n4, h4⟩
        obtain ⟨qs, r4, -, e4, l4⟩ := n4.reads (k := 512) (by have := HB.out; omega)
        have r3' := r3.mono h4
        have HC := Lib.hid (refMinus_any v3 v4 ps qs w4 r3' r4 (by omega) (by omega) (by rw [e3, e4]; have := HLT.out; omega))
        have E3 := Lib.hid e3
        have E4 := Lib.hid e4
        clear r3 r4 r3' n3 n4 e3 e4
        go_wp2_with fail
        refine HC.out.mono ?_; rintro e w5 ⟨v5, rfl, n5, h5⟩
        rw [E3.out, E4.out] at n5
        have h345 := Add.trans h12 (Add.trans h3 (Add.trans h4 h5))
        have n5' := n5.num
        clear HC h12 h3 h4 h5 n5
        go_wp2_with fail
        go_ret2
        rw [HS.out]
        exact ⟨_, rfl, n5', h345⟩
end Go.Proofs.YtbeoeackahmpbaaGreatDoor

namespace Go.Proofs.YtbeoeackahmpbaaGreatDoor
open Go.RowKit NatM Go.Proofs.YtbeoeackahmpbaaGreatDoor.Api

theorem reads_lit (w : World) (g : Nat) (hg : w.heap.size = g) (x : Nat) (z : Int) (hz : z = (x : Nat)) (hx : x < 4294967296) : Reads (w.alloc (.cells #[.int .u32 z] 93)) (.slice (some ⟨g, 0, none⟩) 1 1) [x] := by
  subst hg
  subst hz
  have hrow : Row (w.alloc (.cells #[.int .u32 (x : Int)] 93)) w.heap.size [x] := heap_alloc_new w _
  exact hrow.reads (m := 1) (c := 1) (Nat.le_refl _) (Nat.le_refl _) (by unfold maxLen; omega) (Limbs.cons hx Limbs.nil)
theorem add_drew_alloc (w : World) (o : Obj) : Add w (w.drew.alloc o) := (Below.drew (Below.refl _ _)).alloc (by simp) _
theorem lt_pw1 {x : Nat} (h : x < 4294967296) : x < pw 1 := by rw [show pw 1 = 4294967296 from by decide]; exact h
theorem add_alloc_drew (w : World) (o : Obj) : Add w (w.alloc o).drew := Below.drew ((Below.refl _ _).alloc (Nat.le_refl _) _)
theorem refPlusN {v1 v2 : Value} {A B : Nat} {w : World} (h1 : Num w v1 A) (h2 : Num w v2 B) (h : Hid (A < pw 2000 ∧ B < pw 2000)) : Calls Tryz.prog 94 #[v1, v2] w (RetO w (A + B)) := by
  obtain ⟨xs, r1, -, rfl, l1⟩ := num_reads h1 h.out.1
  obtain ⟨ys, r2, -, rfl, l2⟩ := num_reads h2 h.out.2
  exact refPlus_any v1 v2 xs ys w r1 r2 (by omega) (by omega)
theorem refTimesN {v1 v2 : Value} {A B : Nat} {w : World} (h1 : Num w v1 A) (h2 : Num w v2 B) (h : Hid (A < pw 2000 ∧ B < pw 2000)) : Calls Tryz.prog 109 #[v1, v2] w (RetO w (A * B)) := by
  obtain ⟨xs, r1, -, rfl, l1⟩ := num_reads h1 h.out.1
  obtain ⟨ys, r2, -, rfl, l2⟩ := num_reads h2 h.out.2
  exact refTimes_any v1 v2 xs ys w r1 r2 (by omega) (by omega)
theorem refMinusN {v1 v2 : Value} {A B : Nat} {w : World} (h1 : Num w v1 A) (h2 : Num w v2 B) (h : Hid (A < pw 2000 ∧ B ≤ A)) : Calls Tryz.prog 95 #[v1, v2] w (RetO w (A - B)) := by
  obtain ⟨xs, r1, -, rfl, l1⟩ := num_reads h1 h.out.1
  obtain ⟨ys, r2, -, rfl, l2⟩ := num_reads h2 (Nat.lt_of_le_of_lt h.out.2 h.out.1)
  exact refMinus_any v1 v2 xs ys w r1 r2 (by omega) (by omega) h.out.2
theorem refCmpN {v1 v2 : Value} {A B : Nat} {w : World} (h1 : Num w v1 A) (h2 : Num w v2 B) (h : Hid (A < pw 2000 ∧ B < pw 2000)) : Calls Tryz.prog 71 #[v1, v2] w (IntIs w (cmpI A B)) := by
  obtain ⟨xs, r1, -, rfl, l1⟩ := num_reads h1 h.out.1
  obtain ⟨ys, r2, -, rfl, l2⟩ := num_reads h2 h.out.2
  exact refCmp_any v1 v2 xs ys w r1 r2 (by omega) (by omega)
theorem refTrimN {v1 : Value} {A : Nat} {w : World} (h1 : Num w v1 A) (h : Hid (A < pw 2000)) : Calls Tryz.prog 69 #[v1] w (RetO w A) := by
  obtain ⟨xs, r1, -, rfl, l1⟩ := num_reads h1 h.out
  exact refTrim_any v1 xs w r1 (by omega)
theorem refLargeN (b : Bool) {v1 : Value} {A : Nat} {w : World} (h1 : Num w v1 A) (h : Hid (A < pw 2000)) (hb : Hid (decide (pw 512 ≤ A) = b)) : Calls Tryz.prog 93 #[v1] w (fun e w' => e = .returned (.bool b) ∧ Add w w') := by
  obtain ⟨xs, r1, -, rfl, l1⟩ := num_reads h1 h.out
  exact refLarge_is b v1 xs w r1 (by omega) hb
theorem num_lit (w : World) (g : Nat) (hg : w.heap.size = g) (x : Nat) (z : Int) (hz : z = (x : Nat)) (hx : x < 4294967296) (h0 : x ≠ 0) : Num (w.alloc (.cells #[.int .u32 z] 93)) (.slice (some ⟨g, 0, none⟩) 1 1) x := by
  refine ⟨[x], reads_lit w g hg x z hz hx, ?_, by simp [val]⟩
  simp [Canon, tlen, h0]
theorem refMake_any (z : Int) (w : World) (h0 : 0 ≤ z) (hv : z < 18446744073709551616) :
    Calls Tryz.prog 87 #[.int .u64 z] w (RetO w z.toNat) := by
  obtain ⟨v, rfl⟩ := Int.eq_ofNat_of_zero_le h0
  have hr := reads_two w (v % 4294967296) (v / 4294967296) (by omega) (by omega)
  have e1 : ((v % 4294967296 : Nat) : Int) = (v : Int) % 4294967296 := by omega
  have e2 : ((v / 4294967296 : Nat) : Int) = (v : Int) / 4294967296 := by omega
  rw [e1, e2] at hr
  clear e1 e2
  have hval : val [v % 4294967296, v / 4294967296] = (Int.ofNat v).toNat := by
    simp only [val, Int.ofNat_eq_natCast, Int.toNat_natCast]; omega
  have HC := Lib.hid (refTrim_any _ _ _ hr (by simp))
  rw [hval] at HC
  clear hval hr
  go_enter Tryz.func87, Tryz.ntmps87
  go_wp2_with fail
  refine HC.out.mono ?_; rintro e w' ⟨v', rfl, h1, h2⟩
  have hF : RetO w (Int.ofNat v).toNat (.returned v') w' := ⟨v', rfl, h1.base (by simp), Add.trans ((Below.refl _ _).alloc (Nat.le_refl _) _) h2⟩
  clear HC h1 h2
  go_wp2_with fail
  go_ret
  exact hF
end Go.Proofs.YtbeoeackahmpbaaGreatDoor

namespace Go.Proofs.YtbeoeackahmpbaaGreatDoor
open Go.RowKit NatM Go.Proofs.YtbeoeackahmpbaaGreatDoor.Api

/-- The limbs from k on are divided by d, r is the remainder. -/
def DivQ (xs zs : List Nat) (d k r : Nat) : Prop := zs.length = xs.length ∧ r < d ∧ val (xs.drop k) = d * val (zs.drop k) + r
theorem divQ_top (xs zs : List Nat) (d : Nat) (hd : 0 < d) (hl : zs.length = xs.length) : DivQ xs zs d xs.length 0 := by
  refine ⟨hl, hd, ?_⟩
  rw [List.drop_of_length_le (Nat.le_refl _), List.drop_of_length_le (by omega)]
  simp [val]
theorem divQ_step {xs zs : List Nat} {d j r q r' : Nat} (h : DivQ xs zs d (j + 1) r) (hj : j < xs.length) (hr : r' < d) (e : r * 4294967296 + xs.getD j 0 = d * q + r') : DivQ xs (zs.set j q) d j r' := by
  obtain ⟨hl, _, hv⟩ := h
  refine ⟨by simpa using hl, hr, ?_⟩
  have e1 : val (xs.drop j) = xs.getD j 0 + 4294967296 * val (xs.drop (j + 1)) := by
    rw [List.drop_eq_getElem_cons hj]; simp [val, List.getD, hj]
  rw [e1, drop_set_cons (by omega), hv, Nat.mul_add, Nat.mul_add]
  have e2 : d * (4294967296 * val (zs.drop (j + 1))) = 4294967296 * (d * val (zs.drop (j + 1))) := by rw [Nat.mul_left_comm]
  omega
theorem divQ_done {xs zs : List Nat} {d r : Nat} (h : DivQ xs zs d 0 r) : val zs = val xs / d ∧ r = val xs % d := by
  obtain ⟨_, hr, hv⟩ := h
  simp only [List.drop_zero] at hv
  rw [hv]
  have hd : 0 < d := by omega
  constructor
  · rw [Nat.mul_add_div hd, Nat.div_eq_of_lt hr, Nat.add_zero]
  · rw [Nat.mul_add_mod, Nat.mod_eq_of_lt hr]

/-- The quotient and the remainder, in rows of the call's own. -/
def DivO (w : World) (A B : Nat) (e : Ending) (w' : World) : Prop :=
  ∃ vq vr, e = .returned (.tuple #[vq, vr]) ∧ NumO w' w.heap.size vq (A / B) ∧ NumO w' w.heap.size vr (A % B) ∧ Add w w'

set_option maxRecDepth 100000 in
theorem refDivide_less (va vb : Value) (xs ys : List Nat) (w : World) (ha : Reads w va xs) (hb : Reads w vb ys) (hs : xs.length ≤ 100000) (hs' : ys.length ≤ 100000) (hlt : val xs < val ys) :
    Calls Tryz.prog 108 #[va, vb] w (DivO w (val xs) (val ys)) := by
  have hc0 : decide (cmpI (val xs) (val ys) < 0) = true := by rw [decide_eq_true_iff, cmp_neg]; omega
  have HC := Lib.hid (refCmp_any va vb xs ys w ha hb (by omega) (by omega))
  have HT := fun w1 (h : Add w w1) => Lib.hid (refTrim_any va xs w1 (ha.mono h) (by omega))
  have HQ : Hid (val xs / val ys = 0 ∧ val xs % val ys = val xs) := Lib.hid ⟨Nat.div_eq_of_lt hlt, Nat.mod_eq_of_lt hlt⟩
  clear hlt
  go_enter Tryz.func108, Tryz.ntmps108
  go_wp2_with fail
  refine HC.out.mono ?_; rintro e w1 ⟨rfl, h1⟩
  go_wp2_with fail
  refine (HT _ h1).out.mono ?_; rintro e w2 ⟨v, rfl, n2, h2⟩
  have hF : DivO w (val xs) (val ys) (.returned (.tuple #[.slice none 0 0, v])) w2 := by
    refine ⟨_, _, rfl, ?_, ?_, Add.trans h1 h2⟩
    · rw [HQ.out.1]; exact ⟨[], OwnL.nil _ _, Limbs.nil, Canon.nil, rfl⟩
    · rw [HQ.out.2]; exact n2.base h1.size
  clear n2 h1 h2
  go_wp2_with fail
  go_ret2
  exact hF

set_option maxRecDepth 100000 in
set_option maxHeartbeats 4000000 in
theorem refDivide_one (va vb : Value) (xs : List Nat) (d : Nat) (w : World) (ha : Reads w va xs) (hb : Reads w vb [d]) (hs : xs.length ≤ 100000) (hd : 0 < d) (hge : d ≤ val xs) :
    Calls Tryz.prog 108 #[va, vb] w (DivO w (val xs) d) := by
  obtain ⟨i0, hi, hz0, hz1, hz2⟩ := info_parts info93
  have hdv : val [d] = d := by simp [val]
  have hd' : d < 4294967296 := hb.limbs.head
  have hc0 : decide (cmpI (val xs) (val [d]) < 0) = false := by rw [decide_eq_false_iff_not, cmp_neg, hdv]; omega
  have HC := Lib.hid (refCmp_any va vb xs [d] w ha hb (by omega) (by simp))
  obtain ⟨aa, na, ca, rfl, hla, hca, hma, hxa, hra⟩ := id ha
  obtain ⟨ab, nb', cb, rfl, hlb, hcb, hmb, hxb, hrb⟩ := id hb
  obtain rfl : 1 = nb' := by simpa using hlb
  have HLA := Lib.hid hla
  have HRA := Lib.hid ha
  have HRB := Lib.hid hb
  have hna : na ≤ 100000 := by omega
  clear hla hlb hca hcb hma hmb hra hrb ha hb hs hge hdv
  go_enter Tryz.func108, Tryz.ntmps108
  go_wp2_with fail
  refine HC.out.mono ?_; rintro e w1 ⟨rfl, h1⟩
  clear HC
  go_wp2_with (at_make; refine wpList_make_full _ rfl _ _ 35 rfl w.heap.size 93 i0 (.int .u32 0) 1 Tryz.underlying35 hi hz0 hz1 _ _ _ _ na rfl rfl (by omega) (by omega) (by rw [hz2]; omega) (by unfold maxLen; omega) (h1.size) ?_)
  intro w2 hown hgr
  have h2 : Add w w2 := h1.grown hgr h1.size (by simp)
  obtain ⟨g, hg⟩ : ∃ g, g = w1.heap.size := ⟨_, rfl⟩
  rw [← hg] at hown ⊢
  have hown := Own.made hown
  have hrow := hown.row
  have hzl := hown.length
  have hgb : w.heap.size ≤ g := by rw [hg]; exact h1.size
  clear hgr hown h1 hg
  go_wp2_with fail
  go_loopw [7, 8] (fun rv iv wr => ∃ (k r : Nat) (zs : List Nat), k ≤ na ∧ iv = .int .i64 ((k : Int) - 1) ∧ rv = .int .u64 (r : Nat) ∧ r < d ∧ Row wr g zs ∧ Hid (Limbs zs) ∧ Hid (DivQ xs zs d k r) ∧ Add w wr) (fun _ iv _ => (intOf iv + 1).toNat)
  case atStart => exact ⟨na, 0, _, Nat.le_refl _, rfl, rfl, hd, hrow, Lib.hid (Limbs.replicate _), Lib.hid (by rw [← HLA.out]; exact divQ_top _ _ _ hd (by rw [HLA.out]; exact hzl)), h2⟩
  case round =>
    clear hrow hzl h2
    obtain ⟨k, r, zs, hk, rfl, rfl, hr, hrow, hzs, hdq, hadd⟩ := hrel
    have hzl : zs.length = na := by rw [hdq.out.1, HLA.out]
    by_cases h0 : k = 0
    · subst h0
      have hq := divQ_done hdq.out
      have HT := Lib.hid (refTrim_any _ _ wr (hrow.reads (m := na) (c := na) (by omega) (Nat.le_refl _) (by unfold maxLen; omega) hzs.out) (by rw [List.length_take]; omega))
      rw [List.take_of_length_le (by omega), hq.1] at HT
      have HQ := Lib.hid hq.2
      clear hq hdq hzs hrow hzl
      go_wp2_with fail
      refine HT.out.mono ?_; rintro e w3 ⟨vq, rfl, n3, h3⟩
      go_wp2_with fail
      refine (refMake_any _ _ (by omega) (by omega)).mono ?_; rintro e w4 ⟨vr, rfl, n4, h4⟩
      rw [Int.toNat_natCast] at n4
      have hF : DivO w (val xs) d (.returned (.tuple #[vq, vr])) w4 := ⟨_, _, rfl, (n3.below h4).base hadd.size, by rw [← HQ.out]; exact n4.base (Nat.le_trans hadd.size h3.size), Add.trans hadd (Add.trans h3 h4)⟩
      clear n3 n4 h3 h4 hadd HT
      go_wp2_with fail
      go_ret2
      exact hF
    · obtain ⟨j, rfl⟩ : ∃ j, k = j + 1 := ⟨k - 1, by omega⟩
      have hjn : j < na := by omega
      obtain ⟨x, hxe⟩ : ∃ x, x = xs.getD j 0 := ⟨_, rfl⟩
      have hxl : x < 4294967296 := by rw [hxe]; exact hxa.getD j
      obtain ⟨b1, o1, rfl, hc1⟩ := (HRA.out.mono hadd).cell hjn
      obtain ⟨b2, o2, rfl, hc2⟩ := (HRB.out.mono hadd).cell (k := 0) (by decide)
      rw [← hxe] at hc1
      have hc2' : wr.cell? ⟨b2, o2, none⟩ = some (.int .u32 (d : Nat)) := hc2
      obtain ⟨b2', o2', e2', hcW⟩ := HRB.out.cell (k := 0) (by decide)
      have hlt2 : b2 < g := by
        simp only [Option.some.injEq, Addr.mk.injEq, and_true] at e2'
        obtain ⟨rfl, rfl⟩ := e2'
        exact Nat.lt_of_lt_of_le (World.block_lt_of_cell? w _ hcW) hgb
      clear hcW e2'
      have hfree := hrow.free j
      have hcq := hrow.cell j (by omega)
      have hsp := div32_spec r x d hr hd' hxl
      obtain ⟨q, hqe⟩ : ∃ q, q = div32Q r x d := ⟨_, rfl⟩
      obtain ⟨r', hre⟩ : ∃ r', r' = div32R r x d := ⟨_, rfl⟩
      rw [← hqe, ← hre] at hsp
      obtain ⟨hs1, hs2, hs3⟩ := hsp
      obtain ⟨m, hm⟩ : ∃ m : Nat, m = r * 4294967296 + x := ⟨_, rfl⟩
      have h3 := join64 r x (by omega) hxl
      have hm1 : (r : Int) * 4294967296 + x = (m : Int) := by omega
      rw [hm1] at h3
      have hqi : (m : Int) / (d : Int) = (q : Int) := by rw [hqe, hm]; unfold div32Q; exact (Int.natCast_ediv _ _).symm
      have hri : (m : Int) % (d : Int) = (r' : Int) := by rw [hre, hm]; unfold div32R; exact (Int.natCast_emod _ _).symm
      have hdz : ((d : Int) == 0) = false := by simp; omega
      have hm64 : m < 18446744073709551616 := by omega
      have hstep := Lib.hid (divQ_step hdq.out (by rw [HLA.out]; exact hjn) hs2 (by rw [← hxe]; exact hs3))
      have HX := Lib.hid hxe
      have hb' : Below g wr (wr.setCell ⟨g, j, none⟩ (.int .u32 (q : Nat))) := (Below.refl g wr).setCell (p := ⟨g, j, none⟩) (Nat.le_refl g) _
      have hc3 : (wr.setCell ⟨g, j, none⟩ (.int .u32 (q : Nat))).cell? ⟨b2, o2, none⟩ = some (.int .u32 (d : Nat)) := (hb'.cell (p := ⟨b2, o2, none⟩) hlt2).trans hc2'
      clear hb' hlt2
      clear hc2 hdq hxe hqe hre hs3 hm hm1
      go_wp2_with fail
      go_roundw
      case rel => exact ⟨j, r', zs.set j q, by omega, by go_num, by rw [hri], hs2, hrow.set _ _, Lib.hid (hzs.out.set _ _ hs1), hstep, hadd.setCell hgb _⟩
      case measure => simp [intOf]
end Go.Proofs.YtbeoeackahmpbaaGreatDoor

namespace Go.Proofs.YtbeoeackahmpbaaGreatDoor
open Go.RowKit NatM Go.Proofs.YtbeoeackahmpbaaGreatDoor.Api

theorem okP_res {w : World} {N : Nat} {e : Ending} {w' : World} (h : OkP w N e w') : ResP w (N, 0) e w' := by
  obtain ⟨v, rfl, h1, h2⟩ := h
  exact ⟨v, rfl, h1, h2⟩
theorem errP_res {w : World} {k : Nat} {e : Ending} {w' : World} (h : ErrP w (k : Nat) e w') : ResP w (0, k) e w' := by
  obtain ⟨rfl, h2⟩ := h
  exact ⟨_, rfl, Num.nil _, h2⟩
end Go.Proofs.YtbeoeackahmpbaaGreatDoor

namespace Go.Proofs.YtbeoeackahmpbaaGreatDoor
open Go.RowKit NatM Go.Proofs.YtbeoeackahmpbaaGreatDoor.Api

theorem num_shape {w : World} {v : Value} {N k : Nat} (h : Num w v N) (hN : N < pw k) : ∃ ao n c, v = .slice ao n c ∧ n ≤ k ∧ (n = 0 ↔ N = 0) := by
  obtain ⟨zs, ⟨ao, n, c, rfl, hl, -⟩, hc, e, l⟩ := num_reads h hN
  refine ⟨ao, n, c, rfl, by omega, ?_⟩
  unfold Canon at hc
  rw [← e, val_eq_zero]; omega
theorem num_nil {w : World} {v : Value} (h : Num w v 0) : ∃ ao c, v = .slice ao 0 c := by
  obtain ⟨ao, n, c, rfl, hn, -⟩ := num_shape (k := 0) h (by decide)
  obtain rfl : n = 0 := by omega
  exact ⟨_, _, rfl⟩
end Go.Proofs.YtbeoeackahmpbaaGreatDoor
