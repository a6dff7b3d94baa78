/- The additions and subtractions of package natural, its comparison, Make, Trim, and the comparison of limbs, return what they promise. -/
import Derived.Test.YtifpfoeecnkhoaaDoorW1
import Derived.Deep.QuietTactic
import Derived.BigQuiet
import Derived.Laws.CopyOwn
import Derived.StillTailTactics
namespace Go.Proofs.YtifpfoeecnkhoaaDoor
open Go.RowKit NatM

theorem checked_ok (v : Value) (xs : List Nat) (w : World) (h : Reads w v xs) (hN : val xs < pw 512) :
    Calls Tryd.prog 53 #[v] w (OkP w (val xs)) := by
  have hb : decide (512 < tlen xs) = false := by
    rw [decide_eq_false_iff_not, tlen_gt_iff h.limbs]; omega
  have HB := Lib.hid hb
  clear hb hN
  go_enter Tryd.func53, Tryd.ntmps53
  go_wp2_with (first
    | (go_at_call 42; refine (large_is false _ _ _ h HB.out).mono ?_; rintro e w' ⟨rfl, rfl⟩)
    | (go_at_call 37; refine (cut_any _ _ _ h).mono ?_; rintro e w' ⟨v', rfl, rfl, hv, ao, c, _, rfl⟩))
  go_ret2
  exact ⟨_, rfl, ⟨_, hv, Canon.trim _, val_trim _⟩, Below.refl _ _⟩

theorem checked_big (v : Value) (xs : List Nat) (w : World) (h : Reads w v xs) (hN : pw 512 ≤ val xs) :
    Calls Tryd.prog 53 #[v] w (ErrP w 2) := by
  have hb : decide (512 < tlen xs) = true := by
    rw [decide_eq_true_iff, tlen_gt_iff h.limbs]; omega
  have HB := Lib.hid hb
  clear hb hN
  go_enter Tryd.func53, Tryd.ntmps53
  go_wp2_with (go_at_call 42; refine (large_is true _ _ _ h HB.out).mono ?_; rintro e w' ⟨rfl, rfl⟩)
  go_ret2
  exact ⟨rfl, Below.refl _ _⟩

/-- Add without an error. -/
theorem add_ok (va vb : Value) (xs ys : List Nat) (w : World) (ha : Reads w va xs) (hb : Reads w vb ys) (hs : xs.length ≤ 1000000) (hs' : ys.length ≤ 1000000) (hN : val xs + val ys < pw 512) :
    Calls Tryd.prog 36 #[va, vb] w (OkP w (val xs + val ys)) := by
  have l1 := tlen_le xs
  have l2 := tlen_le ys
  have HN := Lib.hid hN
  clear hN
  go_enter Tryd.func36, Tryd.ntmps36
  go_wp2_with fail
  refine (cut_any _ _ _ ha).mono ?_; rintro e w' ⟨va', rfl, rfl, hva, _⟩
  go_wp2_with fail
  refine (cut_any _ _ _ hb).mono ?_; rintro e w' ⟨vb', rfl, rfl, hvb, _⟩
  go_wp2_with fail
  refine (sum_any _ _ _ _ _ hva hvb (by rw [length_trim]; omega) (by rw [length_trim]; omega)).mono ?_
  rintro e w' ⟨v, zs, rfl, hz, hzv, _, hadd⟩
  rw [val_trim, val_trim] at hzv
  have HV := Lib.hid hzv
  clear hzv
  go_wp2_with fail
  refine (checked_ok _ _ _ hz (by rw [HV.out]; exact HN.out)).mono ?_
  rintro e w'' ⟨v', rfl, hn, hadd'⟩
  go_wp2_with fail
  go_ret2
  exact ⟨_, rfl, by rw [← HV.out]; exact hn, Add.trans hadd hadd'⟩

theorem add_big (va vb : Value) (xs ys : List Nat) (w : World) (ha : Reads w va xs) (hb : Reads w vb ys) (hs : xs.length ≤ 1000000) (hs' : ys.length ≤ 1000000) (hN : pw 512 ≤ val xs + val ys) :
    Calls Tryd.prog 36 #[va, vb] w (ErrP w 2) := by
  have l1 := tlen_le xs
  have l2 := tlen_le ys
  have HN := Lib.hid hN
  clear hN
  go_enter Tryd.func36, Tryd.ntmps36
  go_wp2_with fail
  refine (cut_any _ _ _ ha).mono ?_; rintro e w' ⟨va', rfl, rfl, hva, _⟩
  go_wp2_with fail
  refine (cut_any _ _ _ hb).mono ?_; rintro e w' ⟨vb', rfl, rfl, hvb, _⟩
  go_wp2_with fail
  refine (sum_any _ _ _ _ _ hva hvb (by rw [length_trim]; omega) (by rw [length_trim]; omega)).mono ?_
  rintro e w' ⟨v, zs, rfl, hz, hzv, _, hadd⟩
  rw [val_trim, val_trim] at hzv
  have HV := Lib.hid hzv
  clear hzv
  go_wp2_with fail
  refine (checked_big _ _ _ hz (by rw [HV.out]; exact HN.out)).mono ?_
  rintro e w'' ⟨rfl, hadd'⟩
  go_wp2_with fail
  go_ret2
  exact ⟨rfl, Add.trans hadd hadd'⟩

/-- A number behind the result. -/
def NumP (w : World) (N : Nat) (e : Ending) (w' : World) : Prop := ∃ v, e = .returned v ∧ Num w' v N ∧ Add w w'

theorem reads_two (w : World) (a b : Nat) (ha : a < 4294967296) (hb : b < 4294967296) :
    Reads (w.alloc (.cells #[.int .u32 (a : Nat), .int .u32 (b : Nat)] 26)) (.slice (some ⟨w.heap.size, 0, none⟩) 2 2) [a, b] := by
  refine ⟨_, 2, 2, rfl, rfl, Nat.le_refl _, by unfold maxLen; omega, Limbs.cons ha (Limbs.cons hb Limbs.nil), fun _ => ⟨_, 0, rfl, fun i hi => ?_⟩⟩
  have : i = 0 ∨ i = 1 := by omega
  rcases this with rfl | rfl
  · simp
  · simp

theorem make_any (z : Int) (w : World) (h0 : 0 ≤ z) (hv : z < 18446744073709551616) :
    Calls Tryd.prog 34 #[.int .u64 z] w (NumP w z.toNat) := by
  obtain ⟨v, rfl⟩ := Int.eq_ofNat_of_zero_le h0
  have hr := reads_two w (v % 4294967296) (v / 4294967296) (by omega) (by omega)
  have e1 : ((v % 4294967296 : Nat) : Int) = (v : Int) % 4294967296 := by omega
  have e2 : ((v / 4294967296 : Nat) : Int) = (v : Int) / 4294967296 := by omega
  rw [e1, e2] at hr
  clear e1 e2
  have hval : val [v % 4294967296, v / 4294967296] = (Int.ofNat v).toNat := by
    simp only [val, Int.ofNat_eq_natCast, Int.toNat_natCast]; omega
  have HV := Lib.hid hval
  clear hval
  go_enter Tryd.func34, Tryd.ntmps34
  go_wp2_with fail
  refine (cut_any _ _ _ hr).mono ?_; rintro e w' ⟨v', rfl, rfl, hv', _⟩
  go_wp2_with fail
  go_ret
  exact ⟨_, rfl, ⟨_, hv', Canon.trim _, (val_trim _).trans HV.out⟩, (Below.refl _ _).alloc (Nat.le_refl _) _⟩

def cmpI (A B : Nat) : Int := if A < B then -1 else if A = B then 0 else 1
theorem cmpI_lt {A B : Nat} (h : A < B) : cmpI A B = -1 := by simp [cmpI, h]
theorem cmpI_eq {A B : Nat} (h : A = B) : cmpI A B = 0 := by simp [cmpI, h]
theorem cmpI_gt {A B : Nat} (h : B < A) : cmpI A B = 1 := by unfold cmpI; rw [if_neg (by omega), if_neg (by omega)]

/-- What Cmp returns. -/
def CmpP (w : World) (A B : Nat) (e : Ending) (w' : World) : Prop := e = .returned (.int .i64 (cmpI A B)) ∧ ∃ n, w' = w.drewN n

theorem drew3 (w : World) (a b c : Nat) : ∃ n, ((w.drewN a).drewN b).drewN c = w.drewN n := ⟨a + b + c, by rw [World.drewN_drewN, World.drewN_drewN, Nat.add_assoc]⟩

set_option maxHeartbeats 400000 in
theorem cmp_any (va vb : Value) (xs ys : List Nat) (w : World) (ha : Reads w va xs) (hb : Reads w vb ys) :
    Calls Tryd.prog 23 #[va, vb] w (CmpP w (val xs) (val ys)) := by
  obtain ⟨A, hA⟩ : ∃ A, A = val xs := ⟨_, rfl⟩
  obtain ⟨B, hB⟩ : ∃ B, B = val ys := ⟨_, rfl⟩
  rw [← hA, ← hB]
  rw [← val_trim xs] at hA
  rw [← val_trim ys] at hB
  have HA := Lib.hid hA
  have HB := Lib.hid hB
  clear hA hB
  go_enter Tryd.func23, Tryd.ntmps23
  go_wp2_with fail
  refine (cut_any _ _ _ ha).mono ?_; rintro e w' ⟨va', rfl, rfl, hva, -⟩
  go_wp2_with fail
  refine (cut_any _ _ _ hb).mono ?_; rintro e w' ⟨vb', rfl, rfl, hvb, -⟩
  have cx := Canon.trim xs
  have cy := Canon.trim ys
  generalize trim xs = ps at hva cx HA
  generalize trim ys = qs at hvb cy HB
  obtain ⟨aa, n, ca, rfl, hln, hc, hm, hx, hr⟩ := hva
  obtain ⟨ab, m, cb, rfl, hlm, hc', hm', hx', hr'⟩ := hvb
  clear ha hb
  unfold maxLen at hm hm'
  rcases Nat.lt_trichotomy n m with hnm | rfl | hnm
  · have hF := cmpI_lt (len_lt (xs := ps) (ys := qs) hx cy (by omega))
    have HF := Lib.hid hF
    clear hF hln hlm
    have hne : ((n : Int) != m) = true := by simp; omega
    have hlt : decide ((n : Int) < m) = true := by simp; omega
    go_wp2_with (go_at_call 38; refine (sign_any true _).mono ?_; rintro e w' ⟨rfl, rfl⟩)
    go_ret
    exact ⟨by rw [HA.out, HB.out, HF.out]; rfl, 0, rfl⟩
  · have hne : ((n : Int) != n) = false := by simp
    have HLn := Lib.hid hln
    have HLm := Lib.hid hlm
    clear hln hlm
    go_wp2_with fail
    go_loopw [5] (fun i wr => ∃ (k : Nat), k ≤ n ∧ i = .int .i64 ((k : Int) - 1) ∧ Agree ps qs k ∧ ∃ q, wr = w.drewN q) (fun i _ => (intOf i + 1).toNat)
    case atStart => exact ⟨n, Nat.le_refl _, rfl, by rw [← HLn.out]; exact agree_top (by rw [HLn.out, HLm.out]), 0, rfl⟩
    case round =>
      obtain ⟨k, hk, rfl, hag, q, rfl⟩ := hrel
      by_cases h0 : k = 0
      · subst h0
        have HF := Lib.hid (cmpI_eq (congrArg val (agree_zero hag)))
        go_wp2_with fail
        go_ret
        exact ⟨by rw [HA.out, HB.out, HF.out]; rfl, q, rfl⟩
      · obtain ⟨j, rfl⟩ : ∃ j, k = j + 1 := ⟨k - 1, by omega⟩
        obtain ⟨b, off, rfl, g⟩ := hr (by omega)
        obtain ⟨b', off', rfl, g'⟩ := hr' (by omega)
        have hcell := g j (by omega)
        have hcell' := g' j (by omega)
        obtain ⟨x, hxe⟩ : ∃ x, x = ps.getD j 0 := ⟨_, rfl⟩
        obtain ⟨y, hye⟩ : ∃ y, y = qs.getD j 0 := ⟨_, rfl⟩
        rw [← hxe] at hcell
        rw [← hye] at hcell'
        have HX := Lib.hid hxe
        have HY := Lib.hid hye
        clear hxe hye g g' hr hr'
        have hjn : j < n := by omega
        rcases Nat.lt_trichotomy x y with hxy | rfl | hxy
        · have hne' : ((x : Int) != y) = true := by simp; omega
          have hlt' : decide ((x : Int) < y) = true := by simp; omega
          have HF := Lib.hid (cmpI_lt (agree_lt hx (by rw [HLn.out, HLm.out]) (by rw [HLn.out]; omega) hag (by rw [← HX.out, ← HY.out]; exact hxy)))
          go_wp2_with fail
          go_quiet (fail)
          go_wp2_with fail
          go_quiet ((go_at_call 38; exact (sign_any true _).mono fun _ _ h => ⟨h.1, _, h.2.symm⟩))
          go_wp2_with fail
          go_ret
          exact ⟨by rw [HA.out, HB.out, HF.out]; rfl, by first | exact drew3 _ _ _ _ | exact ⟨_, rfl⟩⟩
        · have hne' : ((x : Int) != x) = false := by simp
          go_wp2_with fail
          go_quiet (fail)
          go_wp2_with fail
          go_roundw
          case rel => exact ⟨j, by omega, by go_num, agree_step (by rw [HLn.out, HLm.out]) (by rw [HLn.out]; omega) hag (by rw [← HX.out, ← HY.out]), _, rfl⟩
          case measure => simp [intOf]
        · have hne' : ((x : Int) != y) = true := by simp; omega
          have hlt' : decide (x < y) = false := by simp; omega
          have hag' : Agree qs ps (j + 1) := hag.symm
          have HF := Lib.hid (cmpI_gt (agree_lt hx' (by rw [HLn.out, HLm.out]) (by rw [HLm.out]; omega) hag' (by rw [← HX.out, ← HY.out]; exact hxy)))
          go_wp2_with fail
          go_quiet (fail)
          go_wp2_with fail
          go_quiet ((go_at_call 38; exact (sign_any false _).mono fun _ _ h => ⟨h.1, _, h.2.symm⟩))
          go_wp2_with fail
          go_ret
          exact ⟨by rw [HA.out, HB.out, HF.out]; rfl, by first | exact drew3 _ _ _ _ | exact ⟨_, rfl⟩⟩
  · have hF := cmpI_gt (len_lt (xs := qs) (ys := ps) hx' cx (by omega))
    have HF := Lib.hid hF
    clear hF hln hlm
    have hne : ((n : Int) != m) = true := by simp; omega
    have hlt : decide (n < m) = false := by simp; omega
    go_wp2_with (go_at_call 38; refine (sign_any false _).mono ?_; rintro e w' ⟨rfl, rfl⟩)
    go_ret
    exact ⟨by rw [HA.out, HB.out, HF.out]; rfl, 0, rfl⟩
end Go.Proofs.YtifpfoeecnkhoaaDoor
