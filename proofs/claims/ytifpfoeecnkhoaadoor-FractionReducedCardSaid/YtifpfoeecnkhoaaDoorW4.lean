/- Sub, Trim and the comparison of limbs return what they promise; which arguments are too long. -/
import Derived.Test.YtifpfoeecnkhoaaDoorW3
namespace Go.Proofs.YtifpfoeecnkhoaaDoor
open Go.RowKit NatM

theorem small_large {w : World} {v : Value} {xs : List Nat} (h : Reads w v xs) (hN : val xs < pw 512) : Hid (decide (512 < tlen xs) = false) := by
  refine Lib.hid ?_
  rw [decide_eq_false_iff_not, tlen_gt_iff h.limbs]; omega
theorem big_large {w : World} {v : Value} {xs : List Nat} (h : Reads w v xs) (hN : pw 512 ≤ val xs) : Hid (decide (512 < tlen xs) = true) := by
  refine Lib.hid ?_
  rw [decide_eq_true_iff, tlen_gt_iff h.limbs]; omega
theorem drew2 (w : World) (a b : Nat) : ∃ n, (w.drewN a).drewN b = w.drewN n := ⟨a + b, by rw [World.drewN_drewN]⟩
theorem cmp_neg {A B : Nat} : cmpI A B < 0 ↔ A < B := by
  unfold cmpI; split
  · simp [*]
  · split <;> simp [*]

theorem tlen_le_of_le {xs ys : List Nat} (hy : Limbs ys) (h : val xs ≤ val ys) : tlen xs ≤ tlen ys := by
  refine tlen_le_of_val _ ?_
  have := val_lt_tlen hy
  omega

theorem sub_ok (va vb : Value) (xs ys : List Nat) (w : World) (ha : Reads w va xs) (hb : Reads w vb ys) (hs : xs.length ≤ 1000000) (hA : val xs < pw 512) (hB : val ys < pw 512) (hle : val ys ≤ val xs) :
    Calls Tryd.prog 39 #[va, vb] w (OkP w (val xs - val ys)) := by
  have LA := small_large ha hA
  have LB := small_large hb hB
  have l1 := tlen_le xs
  have l2 := tlen_le_of_le ha.limbs hle
  have HL := Lib.hid hle
  have hc0 : decide (cmpI (val xs) (val ys) < 0) = false := by rw [decide_eq_false_iff_not, cmp_neg]; omega
  clear hA hB hle
  go_enter Tryd.func39, Tryd.ntmps39
  go_wp2_with fail
  refine (large_is false _ _ _ ha LA.out).mono ?_; rintro e w' ⟨rfl, rfl⟩
  go_wp2_with fail
  refine (large_is false _ _ _ hb LB.out).mono ?_; rintro e w' ⟨rfl, rfl⟩
  go_wp2_with fail
  refine (cmp_any _ _ _ _ _ ha hb).mono ?_; rintro e w1 ⟨rfl, q, rfl⟩
  go_wp2_with fail
  have ha1 : Reads (w.drewN q) va xs := ha.mono (below_drewN (Below.refl _ _) q)
  have hb1 : Reads (w.drewN q) vb ys := hb.mono (below_drewN (Below.refl _ _) q)
  refine (cut_any _ _ _ ha1).mono ?_; rintro e w' ⟨va', rfl, rfl, hva, -⟩
  go_wp2_with fail
  refine (cut_any _ _ _ hb1).mono ?_; rintro e w' ⟨vb', rfl, rfl, hvb, -⟩
  go_wp2_with fail
  refine (difference_any _ _ _ _ _ hva hvb (by rw [length_trim]; omega) (by rw [length_trim, length_trim]; exact l2) (by rw [val_trim, val_trim]; exact HL.out)).mono ?_
  rintro e w2 ⟨v, zs, rfl, hz, hzv, -, hadd⟩
  rw [val_trim, val_trim] at hzv
  have HV := Lib.hid hzv
  clear hzv
  go_wp2_with fail
  refine (cut_any _ _ _ hz).mono ?_; rintro e w' ⟨v', rfl, rfl, hv', -⟩
  go_wp2_with fail
  go_ret2
  exact ⟨_, rfl, ⟨_, hv', Canon.trim _, by rw [val_trim]; have := HV.out; omega⟩, Add.trans (below_drewN (Below.refl _ _) q) hadd⟩

theorem sub_neg (va vb : Value) (xs ys : List Nat) (w : World) (ha : Reads w va xs) (hb : Reads w vb ys) (hA : val xs < pw 512) (hB : val ys < pw 512) (hlt : val xs < val ys) :
    Calls Tryd.prog 39 #[va, vb] w (ErrP w 4) := by
  have LA := small_large ha hA
  have LB := small_large hb hB
  have hc0 : decide (cmpI (val xs) (val ys) < 0) = true := by rw [decide_eq_true_iff, cmp_neg]; omega
  clear hA hB hlt
  go_enter Tryd.func39, Tryd.ntmps39
  go_wp2_with fail
  refine (large_is false _ _ _ ha LA.out).mono ?_; rintro e w' ⟨rfl, rfl⟩
  go_wp2_with fail
  refine (large_is false _ _ _ hb LB.out).mono ?_; rintro e w' ⟨rfl, rfl⟩
  go_wp2_with fail
  refine (cmp_any _ _ _ _ _ ha hb).mono ?_; rintro e w1 ⟨rfl, q, rfl⟩
  go_wp2_with fail
  go_ret2
  exact ⟨rfl, below_drewN (Below.refl _ _) q⟩

theorem sub_big (va vb : Value) (xs ys : List Nat) (w : World) (ha : Reads w va xs) (hb : Reads w vb ys) (hAB : pw 512 ≤ val xs ∨ pw 512 ≤ val ys) :
    Calls Tryd.prog 39 #[va, vb] w (ErrP w 2) := by
  by_cases hA : pw 512 ≤ val xs
  · have LA := big_large ha hA
    clear hA hAB
    go_enter Tryd.func39, Tryd.ntmps39
    go_wp2_with fail
    refine (large_is true _ _ _ ha LA.out).mono ?_; rintro e w' ⟨rfl, rfl⟩
    go_wp2_with fail
    go_ret2
    exact ⟨rfl, Below.refl _ _⟩
  · have LA := small_large ha (by omega)
    have LB := big_large hb (by omega)
    clear hA hAB
    go_enter Tryd.func39, Tryd.ntmps39
    go_wp2_with fail
    refine (large_is false _ _ _ ha LA.out).mono ?_; rintro e w' ⟨rfl, rfl⟩
    go_wp2_with fail
    refine (large_is true _ _ _ hb LB.out).mono ?_; rintro e w' ⟨rfl, rfl⟩
    go_wp2_with fail
    go_ret2
    exact ⟨rfl, Below.refl _ _⟩

/-- same.Nat: are two lists of limbs the same? -/
def SameP (w : World) (b : Bool) (e : Ending) (w' : World) : Prop := e = .returned (.bool b) ∧ ∃ n, w' = w.drewN n
set_option maxHeartbeats 400000 in
theorem same_any (va vb : Value) (xs ys : List Nat) (b : Bool) (w : World) (ha : Reads w va xs) (hb : Reads w vb ys) (hbx : decide (xs = ys) = b) :
    Calls Tryd.prog 29 #[va, vb] w (SameP w b) := by
  obtain ⟨aa, n, ca, rfl, hln, hc, hm, hx, hr⟩ := ha
  obtain ⟨ab, m, cb, rfl, hlm, hc', hm', hx', hr'⟩ := hb
  unfold maxLen at hm hm'
  have HB := Lib.hid hbx
  clear hbx
  by_cases hnm : n = m
  · subst hnm
    have hne : ((n : Int) != n) = false := by simp
    have HLn := Lib.hid hln
    have HLm := Lib.hid hlm
    clear hln hlm
    go_enter Tryd.func29, Tryd.ntmps29
    go_wp2_with fail
    go_loopw [5] (fun i wr => ∃ (k : Nat), k ≤ n ∧ i = .int .i64 (k : Int) ∧ Hid (xs.take k = ys.take k) ∧ ∃ q, wr = w.drewN q) (fun i _ => n - (intOf i).toNat)
    case atStart => exact ⟨0, Nat.zero_le _, rfl, Lib.hid (by simp), 0, rfl⟩
    case round =>
      obtain ⟨k, hk, rfl, hag, q, rfl⟩ := hrel
      by_cases hlt : k < n
      · obtain ⟨b1, off, rfl, g⟩ := hr (by omega)
        obtain ⟨b', off', rfl, g'⟩ := hr' (by omega)
        have hcell := g k (by omega)
        have hcell' := g' k (by omega)
        obtain ⟨x, hxe⟩ : ∃ x, x = xs.getD k 0 := ⟨_, rfl⟩
        obtain ⟨y, hye⟩ : ∃ y, y = ys.getD k 0 := ⟨_, rfl⟩
        rw [← hxe] at hcell
        rw [← hye] at hcell'
        have HX := Lib.hid hxe
        have HY := Lib.hid hye
        clear hxe hye g g' hr hr'
        have hgx : xs[k]? = some x := by
          have h1 : k < xs.length := by rw [HLn.out]; exact hlt
          rw [HX.out]; simp [List.getD, h1]
        have hgy : ys[k]? = some y := by
          have h1 : k < ys.length := by rw [HLm.out]; exact hlt
          rw [HY.out]; simp [List.getD, h1]
        have HGX := Lib.hid hgx
        have HGY := Lib.hid hgy
        clear hgx hgy
        by_cases hxy : x = y
        · subst hxy
          have hne' : ((x : Int) != x) = false := by simp
          go_wp2_with fail
          go_quiet (fail)
          go_wp2_with fail
          go_roundw
          case rel =>
            refine ⟨k + 1, by omega, by go_num, Lib.hid ?_, _, rfl⟩
            rw [List.take_add_one, List.take_add_one, hag.out, HGX.out, HGY.out]
          case measure => simp [intOf]; omega
        · have hne' : ((x : Int) != y) = true := by simp; omega
          have hF : b = false := by
            rw [← HB.out, decide_eq_false_iff_not]
            intro e
            subst e
            have h1 := HGX.out.symm.trans HGY.out
            exact hxy (by simpa using h1)
          subst hF
          go_wp2_with fail
          go_quiet (fail)
          go_wp2_with fail
          go_ret
          exact ⟨rfl, drew2 _ _ _⟩
      · obtain rfl : k = n := by omega
        have hF : b = true := by
          rw [← HB.out, decide_eq_true_iff]
          have h1 := hag.out
          rwa [List.take_of_length_le (by rw [HLn.out]; exact Nat.le_refl _), List.take_of_length_le (by rw [HLm.out]; exact Nat.le_refl _)] at h1
        subst hF
        go_wp2_with fail
        go_ret
        exact ⟨rfl, _, rfl⟩
  · have hF : b = false := by
      rw [← HB.out, decide_eq_false_iff_not]
      intro e
      subst e
      omega
    subst hF
    have hne : ((n : Int) != m) = true := by simp; omega
    clear hln hlm
    go_enter Tryd.func29, Tryd.ntmps29
    go_wp2_with fail
    go_ret
    exact ⟨rfl, 0, rfl⟩
end Go.Proofs.YtifpfoeecnkhoaaDoor
