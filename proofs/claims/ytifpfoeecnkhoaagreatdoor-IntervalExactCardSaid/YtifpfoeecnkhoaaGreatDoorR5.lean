/- The reference's Add, Sub, Mul and Cmp. -/
import Derived.Test.YtifpfoeecnkhoaaGreatDoorR4
import Derived.Test.YtifpfoeecnkhoaaGreatDoorA2
namespace Go.Proofs.YtifpfoeecnkhoaaGreatDoor
open Go.RowKit NatM Go.Proofs.YtifpfoeecnkhoaaGreatDoor.Api

/-- A result and an error number: with an error the result is 0. -/
def ResP (w : World) (p : Nat × Nat) (e : Ending) (w' : World) : Prop := ∃ v, e = .returned (.tuple #[v, .int .i64 (p.2 : Nat)]) ∧ Num w' v p.1 ∧ Add w w'
def addS (A B : Nat) : Nat × Nat := if A + B < pw 512 then (A + B, 0) else (0, 2)
def subS (A B : Nat) : Nat × Nat := if pw 512 ≤ A ∨ pw 512 ≤ B then (0, 2) else if A < B then (0, 4) else (A - B, 0)
def mulS (A B : Nat) : Nat × Nat := if pw 512 ≤ A ∨ pw 512 ≤ B ∨ pw 512 ≤ A * B then (0, 2) else (A * B, 0)
theorem NumO.reads {w : World} {base : Nat} {v : Value} {N k : Nat} (h : NumO w base v N) (hN : N < pw k) : ∃ zs, Reads w v zs ∧ Canon zs ∧ val zs = N ∧ zs.length ≤ k := by
  obtain ⟨zs, h1, h2, h3, h4⟩ := h
  refine ⟨zs, h1.reads h2, h3, h4, ?_⟩
  have := tlen_le_of_val (xs := zs) k (by rw [h4]; exact hN)
  unfold Canon at h3; omega
theorem num_reads {w : World} {v : Value} {N k : Nat} (h : Num w v N) (hN : N < pw k) : ∃ zs, Reads w v zs ∧ Canon zs ∧ val zs = N ∧ zs.length ≤ k := by
  obtain ⟨zs, h1, h3, h4⟩ := h
  refine ⟨zs, h1, h3, h4, ?_⟩
  have := tlen_le_of_val (xs := zs) k (by rw [h4]; exact hN)
  unfold Canon at h3; omega

set_option maxRecDepth 100000 in
set_option maxHeartbeats 2000000 in
theorem refCmp_any (va vb : Value) (xs ys : List Nat) (w : World) (ha : Reads w va xs) (hb : Reads w vb ys) (hs : xs.length ≤ 1000000) (hs' : ys.length ≤ 1000000) :
    Calls Tryz.prog 65 #[va, vb] w (IntIs w (cmpI (val xs) (val ys))) := by
  have HB := Lib.hid hb
  have l1 := Lib.hid (Nat.le_trans (tlen_le xs) hs)
  have l2 := Lib.hid (Nat.le_trans (tlen_le ys) hs')
  have HTA := Lib.hid (refTrim_any va xs w ha hs)
  have HTB := fun w1 (h : Add w w1) => Lib.hid (refTrim_any vb ys w1 (hb.mono h) hs')
  obtain ⟨A, hA⟩ : ∃ A, A = val xs := ⟨_, rfl⟩
  obtain ⟨B, hB⟩ : ∃ B, B = val ys := ⟨_, rfl⟩
  rw [← hA, ← hB]
  rw [← hA] at HTA
  simp only [← hB] at HTB
  clear ha hb hs hs' hA hB
  go_enter Tryz.func65, Tryz.ntmps65
  go_wp2_with fail
  refine HTA.out.mono ?_; rintro e w1 ⟨v1, rfl, ⟨ps, o1, x1, c1, e1⟩, h1⟩
  go_wp2_with fail
  refine (HTB _ h1).out.mono ?_; rintro e w2 ⟨v2, rfl, ⟨qs, o2, x2, c2, e2⟩, h2⟩
  have h12 := Add.trans h1 h2
  have r1 := (o1.reads x1).mono h2
  have r2 := o2.reads x2
  have X1 := Lib.hid x1
  have X2 := Lib.hid x2
  have C1 := Lib.hid c1
  have C2 := Lib.hid c2
  have E1 := Lib.hid e1
  have E2 := Lib.hid e2
  clear o1 o2 x1 x2 c1 c2 e1 e2 h1 h2 HTA HTB
  have hx := X1.out
  have hx' := X2.out
  obtain ⟨aa, n, ca, rfl, hln, hc, hm, -, hr⟩ := r1
  obtain ⟨ab, m, cb, rfl, hlm, hc', hm', -, hr'⟩ := r2
  unfold maxLen at hm hm'
  rcases Nat.lt_trichotomy n m with hnm | rfl | hnm
  · have HF := Lib.hid (cmpI_lt (len_lt (xs := ps) (ys := qs) hx C2.out (by omega)))
    clear hln hlm
    have hne : ((n : Int) != m) = true := by simp; omega
    have hlt : decide (n < m) = true := by simp; omega
    go_wp2_with fail
    go_ret
    exact ⟨by rw [← E1.out, ← E2.out, HF.out]; rfl, h12⟩
  · have hne : ((n : Int) != n) = false := by simp
    have HLn := Lib.hid hln
    have HLm := Lib.hid hlm
    clear hln hlm
    go_wp2_with fail
    go_loopw [5] (fun i wr => ∃ (k : Nat), k ≤ n ∧ i = .int .i64 ((k : Int) - 1) ∧ Agree ps qs k ∧ ∃ q, wr = w2.drewN q) (fun i _ => (intOf i + 1).toNat)
    case atStart => exact ⟨n, Nat.le_refl _, rfl, by rw [← HLn.out]; exact agree_top (by rw [HLn.out, HLm.out]), 0, rfl⟩
    case round =>
      obtain ⟨k, hk, rfl, hag, q, rfl⟩ := hrel
      by_cases h0 : k = 0
      · subst h0
        have HF := Lib.hid (cmpI_eq (congrArg val (agree_zero hag)))
        go_wp2_with fail
        go_ret
        exact ⟨by rw [← E1.out, ← E2.out, HF.out]; rfl, below_drewN h12 _⟩
      · obtain ⟨j, rfl⟩ : ∃ j, k = j + 1 := ⟨k - 1, by omega⟩
        obtain ⟨b, off, rfl, g⟩ := hr (by omega)
        obtain ⟨b', off', rfl, g'⟩ := hr' (by omega)
        have hcell := g j (by omega)
        have hcell' := g' j (by omega)
        obtain ⟨x, hxe⟩ : ∃ x, x = ps.getD j 0 := ⟨_, rfl⟩
        obtain ⟨y, hye⟩ : ∃ y, y = qs.getD j 0 := ⟨_, rfl⟩
        rw [← hxe] at hcell
        rw [← hye] at hcell'
        have HX := Lib.hid hxe
        have HY := Lib.hid hye
        clear hxe hye g g' hr hr'
        have hjn : j < n := by omega
        rcases Nat.lt_trichotomy x y with hxy | rfl | hxy
        · have hlt' : decide (x < y) = true := by simp; omega
          have HF := Lib.hid (cmpI_lt (agree_lt hx (by rw [HLn.out, HLm.out]) (by rw [HLn.out]; omega) hag (by rw [← HX.out, ← HY.out]; exact hxy)))
          go_wp2_with fail
          go_quiet (fail)
          go_wp2_with fail
          go_ret
          exact ⟨by rw [← E1.out, ← E2.out, HF.out]; rfl, by first | exact below_drewN h12 _ | exact below_drewN (below_drewN h12 _) _⟩
        · have hlt' : decide (x < x) = false := by simp
          go_wp2_with fail
          go_quiet (fail)
          go_wp2_with fail
          go_quiet (fail)
          go_wp2_with fail
          go_roundw
          case rel => exact ⟨j, by omega, by go_num, agree_step (by rw [HLn.out, HLm.out]) (by rw [HLn.out]; omega) hag (by rw [← HX.out, ← HY.out]), by first | exact drew3 _ _ _ _ | exact ⟨_, rfl⟩⟩
          case measure => simp [intOf]
        · have hlt' : decide (x < y) = false := by simp; omega
          have hgt' : decide (y < x) = true := by simp; omega
          have HF := Lib.hid (cmpI_gt (agree_lt hx' (by rw [HLn.out, HLm.out]) (by rw [HLm.out]; omega) hag.symm (by rw [← HX.out, ← HY.out]; exact hxy)))
          go_wp2_with fail
          go_quiet (fail)
          go_wp2_with fail
          go_quiet (fail)
          go_wp2_with fail
          go_ret
          exact ⟨by rw [← E1.out, ← E2.out, HF.out]; rfl, by first | exact below_drewN h12 _ | exact below_drewN (below_drewN h12 _) _ | exact below_drewN (below_drewN (below_drewN h12 _) _) _⟩
  · have HF := Lib.hid (cmpI_gt (len_lt (xs := qs) (ys := ps) hx' C1.out (by omega)))
    clear hln hlm
    have hne : ((n : Int) != m) = true := by simp; omega
    have hlt : decide (n < m) = false := by simp; omega
    go_wp2_with fail
    go_ret
    exact ⟨by rw [← E1.out, ← E2.out, HF.out]; rfl, h12⟩

set_option maxRecDepth 100000 in
set_option maxHeartbeats 2000000 in
theorem refAdd_any (va vb : Value) (xs ys : List Nat) (w : World) (ha : Reads w va xs) (hb : Reads w vb ys) (hs : xs.length ≤ 100000) (hs' : ys.length ≤ 100000) :
    Calls Tryz.prog 62 #[va, vb] w (ResP w (addS (val xs) (val ys))) := by
  by_cases hA : pw 512 ≤ val xs
  · have hspec : addS (val xs) (val ys) = (0, 2) := by unfold addS; rw [if_neg (by omega)]
    have HS := Lib.hid hspec
    have LA := Lib.hid (refLarge_is true va xs w ha (by omega) (Lib.hid (decide_eq_true hA)))
    clear hspec hA
    go_enter Tryz.func62, Tryz.ntmps62
    go_wp2_with fail
    refine LA.out.mono ?_; rintro e w1 ⟨rfl, h1⟩
    go_wp2_with fail
    go_ret2
    rw [HS.out]
    exact ⟨_, rfl, Num.nil _, h1⟩
  · have LA := Lib.hid (refLarge_is false va xs w ha (by omega) (Lib.hid (decide_eq_false hA)))
    by_cases hB : pw 512 ≤ val ys
    · have hspec : addS (val xs) (val ys) = (0, 2) := by unfold addS; rw [if_neg (by omega)]
      have HS := Lib.hid hspec
      have LB := fun w1 (h : Add w w1) => Lib.hid (refLarge_is true vb ys w1 (hb.mono h) (by omega) (Lib.hid (decide_eq_true hB)))
      clear hspec hA hB
      go_enter Tryz.func62, Tryz.ntmps62
      go_wp2_with fail
      refine LA.out.mono ?_; rintro e w1 ⟨rfl, h1⟩
      go_wp2_with fail
      refine (LB _ h1).out.mono ?_; rintro e w2 ⟨rfl, h2⟩
      go_wp2_with fail
      go_ret2
      rw [HS.out]
      exact ⟨_, rfl, Num.nil _, Add.trans h1 h2⟩
    · have LB := fun w1 (h : Add w w1) => Lib.hid (refLarge_is false vb ys w1 (hb.mono h) (by omega) (Lib.hid (decide_eq_false hB)))
      have HB := Lib.hid hB
      have HA := Lib.hid hA
      clear hA hB
      obtain ⟨N, hN⟩ : ∃ N, N = val xs + val ys := ⟨_, rfl⟩
      go_enter Tryz.func62, Tryz.ntmps62
      go_wp2_with fail
      refine LA.out.mono ?_; rintro e w1 ⟨rfl, h1⟩
      go_wp2_with fail
      refine (LB _ h1).out.mono ?_; rintro e w2 ⟨rfl, h2⟩
      have h12 := Add.trans h1 h2
      clear h1 h2
      go_wp2_with fail
      refine (refTrim_any _ _ _ (ha.mono h12) (by omega)).mono ?_; rintro e w3 ⟨v3, rfl, n3, h3⟩
      obtain ⟨ps, r3, -, e3, l3⟩ := n3.reads (k := 512) (by have := HA.out; omega)
      go_wp2_with fail
      refine (refTrim_any _ _ _ ((hb.mono h12).mono h3) (by omega)).mono ?_; rintro e w4 ⟨v4, rfl, n4, h4⟩
      obtain ⟨qs, r4, -, e4, l4⟩ := n4.reads (k := 512) (by have := HB.out; omega)
      have r3' := r3.mono h4
      have HC := Lib.hid (refPlus_any v3 v4 ps qs w4 r3' r4 (by omega) (by omega))
      have E3 := Lib.hid e3
      have E4 := Lib.hid e4
      clear r3 r4 r3' n3 n4 e3 e4
      go_wp2_with fail
      refine HC.out.mono ?_; rintro e w5 ⟨v5, rfl, n5, h5⟩
      rw [E3.out, E4.out, ← hN] at n5
      have h345 := Add.trans h12 (Add.trans h3 (Add.trans h4 h5))
      clear HC h12 h3 h4 h5
      by_cases hbig : pw 512 ≤ N
      · have hspec : addS (val xs) (val ys) = (0, 2) := by unfold addS; rw [if_neg (by omega)]
        have HS := Lib.hid hspec
        obtain ⟨cs, r5, -, e5, l5⟩ := n5.reads (k := 1024) (by have := HA.out; have := HB.out; have h513 : pw 513 = 4294967296 * pw 512 := pw_succ 512; have : pw 513 ≤ pw 1024 := pw_le (by decide); omega)
        have LC := Lib.hid (refLarge_is true v5 cs w5 r5 (by omega) (Lib.hid (by rw [e5]; exact decide_eq_true hbig)))
        clear hspec hbig r5 e5 n5 hN
        go_wp2_with fail
        refine LC.out.mono ?_; rintro e w6 ⟨rfl, h6⟩
        go_wp2_with fail
        go_ret2
        rw [HS.out]
        exact ⟨_, rfl, Num.nil _, Add.trans h345 h6⟩
      · have hspec : addS (val xs) (val ys) = (N, 0) := by unfold addS; rw [if_pos (by omega), hN]
        have HS := Lib.hid hspec
        obtain ⟨cs, r5, -, e5, l5⟩ := n5.reads (k := 512) (by omega)
        have LC := Lib.hid (refLarge_is false v5 cs w5 r5 (by omega) (Lib.hid (by rw [e5]; exact decide_eq_false hbig)))
        have n5' := n5.num
        clear hspec hbig r5 e5 n5 hN
        go_wp2_with fail
        refine LC.out.mono ?_; rintro e w6 ⟨rfl, h6⟩
        go_wp2_with fail
        go_ret2
        rw [HS.out]
        exact ⟨_, rfl, n5'.mono h6, Add.trans h345 h6⟩

set_option maxRecDepth 100000 in
set_option maxHeartbeats 2000000 in
theorem refMul_any (va vb : Value) (xs ys : List Nat) (w : World) (ha : Reads w va xs) (hb : Reads w vb ys) (hs : xs.length ≤ 100000) (hs' : ys.length ≤ 100000) :
    Calls Tryz.prog 85 #[va, vb] w (ResP w (mulS (val xs) (val ys))) := by
  by_cases hA : pw 512 ≤ val xs
  · have hspec : mulS (val xs) (val ys) = (0, 2) := by unfold mulS; rw [if_pos (by omega)]
    have HS := Lib.hid hspec
    have LA := Lib.hid (refLarge_is true va xs w ha (by omega) (Lib.hid (decide_eq_true hA)))
    clear hspec hA
    go_enter Tryz.func85, Tryz.ntmps85
    go_wp2_with fail
    refine LA.out.mono ?_; rintro e w1 ⟨rfl, h1⟩
    go_wp2_with fail
    go_ret2
    rw [HS.out]
    exact ⟨_, rfl, Num.nil _, h1⟩
  · have LA := Lib.hid (refLarge_is false va xs w ha (by omega) (Lib.hid (decide_eq_false hA)))
    by_cases hB : pw 512 ≤ val ys
    · have hspec : mulS (val xs) (val ys) = (0, 2) := by unfold mulS; rw [if_pos (by omega)]
      have HS := Lib.hid hspec
      have LB := fun w1 (h : Add w w1) => Lib.hid (refLarge_is true vb ys w1 (hb.mono h) (by omega) (Lib.hid (decide_eq_true hB)))
      clear hspec hA hB
      go_enter Tryz.func85, Tryz.ntmps85
      go_wp2_with fail
      refine LA.out.mono ?_; rintro e w1 ⟨rfl, h1⟩
      go_wp2_with fail
      refine (LB _ h1).out.mono ?_; rintro e w2 ⟨rfl, h2⟩
      go_wp2_with fail
      go_ret2
      rw [HS.out]
      exact ⟨_, rfl, Num.nil _, Add.trans h1 h2⟩
    · have LB := fun w1 (h : Add w w1) => Lib.hid (refLarge_is false vb ys w1 (hb.mono h) (by omega) (Lib.hid (decide_eq_false hB)))
      have HB := Lib.hid hB
      have HA := Lib.hid hA
      clear hA hB
      obtain ⟨N, hN⟩ : ∃ N, N = val xs * val ys := ⟨_, rfl⟩
      go_enter Tryz.func85, Tryz.ntmps85
      go_wp2_with fail
      refine LA.out.mono ?_; rintro e w1 ⟨rfl, h1⟩
      go_wp2_with fail
      refine (LB _ h1).out.mono ?_; rintro e w2 ⟨rfl, h2⟩
      have h12 := Add.trans h1 h2
      clear h1 h2
      go_wp2_with fail
      refine (refTrim_any _ _ _ (ha.mono h12) (by omega)).mono ?_; rintro e w3 ⟨v3, rfl, n3, h3⟩
      obtain ⟨ps, r3, -, e3, l3⟩ := n3.reads (k := 512) (by have := HA.out; omega)
      go_wp2_with fail
      refine (refTrim_any _ _ _ ((hb.mono h12).mono h3) (by omega)).mono ?_; rintro e w4 ⟨v4, rfl, n4, h4⟩
      obtain ⟨qs, r4, -, e4, l4⟩ := n4.reads (k := 512) (by have := HB.out; omega)
      have r3' := r3.mono h4
      have HC := Lib.hid (refTimes_any v3 v4 ps qs w4 r3' r4 (by omega) (by omega))
      have E3 := Lib.hid e3
      have E4 := Lib.hid e4
      clear r3 r4 r3' n3 n4 e3 e4
      go_wp2_with fail
      refine HC.out.mono ?_; rintro e w5 ⟨v5, rfl, n5, h5⟩
      rw [E3.out, E4.out, ← hN] at n5
      have h345 := Add.trans h12 (Add.trans h3 (Add.trans h4 h5))
      clear HC h12 h3 h4 h5
      by_cases hbig : pw 512 ≤ N
      · have hspec : mulS (val xs) (val ys) = (0, 2) := by unfold mulS; rw [if_pos (by rw [← hN]; omega)]
        have HS := Lib.hid hspec
        obtain ⟨cs, r5, -, e5, l5⟩ := n5.reads (k := 1024) (by rw [hN]; exact lt_mul (i := 512) (j := 512) (by have := HA.out; omega) (by have := HB.out; omega))
        have LC := Lib.hid (refLarge_is true v5 cs w5 r5 (by omega) (Lib.hid (by rw [e5]; exact decide_eq_true hbig)))
        clear hspec hbig r5 e5 n5 hN
        go_wp2_with fail
        refine LC.out.mono ?_; rintro e w6 ⟨rfl, h6⟩
        go_wp2_with fail
        go_ret2
        rw [HS.out]
        exact ⟨_, rfl, Num.nil _, Add.trans h345 h6⟩
      · have hspec : mulS (val xs) (val ys) = (N, 0) := by unfold mulS; rw [if_neg (by have := HA.out; have := HB.out; rw [← hN]; omega), hN]
        have HS := Lib.hid hspec
        obtain ⟨cs, r5, -, e5, l5⟩ := n5.reads (k := 512) (by omega)
        have LC := Lib.hid (refLarge_is false v5 cs w5 r5 (by omega) (Lib.hid (by rw [e5]; exact decide_eq_false hbig)))
        have n5' := n5.num
        clear hspec hbig r5 e5 n5 hN
        go_wp2_with fail
        refine LC.out.mono ?_; rintro e w6 ⟨rfl, h6⟩
        go_wp2_with fail
        go_ret2
        rw [HS.out]
        exact ⟨_, rfl, n5'.mono h6, Add.trans h345 h6⟩

set_option maxRecDepth 100000 in
set_option maxHeartbeats 2000000 in
theorem refSub_any (va vb : Value) (xs ys : List Nat) (w : World) (ha : Reads w va xs) (hb : Reads w vb ys) (hs : xs.length ≤ 100000) (hs' : ys.length ≤ 100000) :
    Calls Tryz.prog 66 #[va, vb] w (ResP w (subS (val xs) (val ys))) := by
  by_cases hA : pw 512 ≤ val xs
  · have hspec : subS (val xs) (val ys) = (0, 2) := by unfold subS; rw [if_pos (by omega)]
    have HS := Lib.hid hspec
    have LA := Lib.hid (refLarge_is true va xs w ha (by omega) (Lib.hid (decide_eq_true hA)))
    clear hspec hA
    go_enter Tryz.func66, Tryz.ntmps66
    go_wp2_with fail
    refine LA.out.mono ?_; rintro e w1 ⟨rfl, h1⟩
    go_wp2_with fail
    go_ret2
    rw [HS.out]
    exact ⟨_, rfl, Num.nil _, h1⟩
  · have LA := Lib.hid (refLarge_is false va xs w ha (by omega) (Lib.hid (decide_eq_false hA)))
    by_cases hB : pw 512 ≤ val ys
    · have hspec : subS (val xs) (val ys) = (0, 2) := by unfold subS; rw [if_pos (by omega)]
      have HS := Lib.hid hspec
      have LB := fun w1 (h : Add w w1) => Lib.hid (refLarge_is true vb ys w1 (hb.mono h) (by omega) (Lib.hid (decide_eq_true hB)))
      clear hspec hA hB
      go_enter Tryz.func66, Tryz.ntmps66
      go_wp2_with fail
      refine LA.out.mono ?_; rintro e w1 ⟨rfl, h1⟩
      go_wp2_with fail
      refine (LB _ h1).out.mono ?_; rintro e w2 ⟨rfl, h2⟩
      go_wp2_with fail
      go_ret2
      rw [HS.out]
      exact ⟨_, rfl, Num.nil _, Add.trans h1 h2⟩
    · have LB := fun w1 (h : Add w w1) => Lib.hid (refLarge_is false vb ys w1 (hb.mono h) (by omega) (Lib.hid (decide_eq_false hB)))
      have HB := Lib.hid hB
      have HA := Lib.hid hA
      clear hA hB
      by_cases hlt : val xs < val ys
      · have hspec : subS (val xs) (val ys) = (0, 4) := by unfold subS; rw [if_neg (by have := HA.out; have := HB.out; omega), if_pos hlt]
        have HS := Lib.hid hspec
        have hc0 : decide (cmpI (val xs) (val ys) < 0) = true := by rw [decide_eq_true_iff, cmp_neg]; exact hlt
        have HCMP := fun w1 (h : Add w w1) => Lib.hid (refCmp_any va vb xs ys w1 (ha.mono h) (hb.mono h) (by omega) (by omega))
        clear hspec hlt
        go_enter Tryz.func66, Tryz.ntmps66
        go_wp2_with fail
        refine LA.out.mono ?_; rintro e w1 ⟨rfl, h1⟩
        go_wp2_with fail
        refine (LB _ h1).out.mono ?_; rintro e w2 ⟨rfl, h2⟩
        have h12 := Add.trans h1 h2
        clear h1 h2
        go_wp2_with fail
        refine (HCMP _ h12).out.mono ?_; rintro e w3 ⟨rfl, h3⟩
        go_wp2_with fail
        go_ret2
        rw [HS.out]
        exact ⟨_, rfl, Num.nil _, Add.trans h12 h3⟩
      · have hspec : subS (val xs) (val ys) = (val xs - val ys, 0) := by unfold subS; rw [if_neg (by have := HA.out; have := HB.out; omega), if_neg hlt]
        have HS := Lib.hid hspec
        have hc0 : decide (cmpI (val xs) (val ys) < 0) = false := by rw [decide_eq_false_iff_not, cmp_neg]; exact hlt
        have HCMP := fun w1 (h : Add w w1) => Lib.hid (refCmp_any va vb xs ys w1 (ha.mono h) (hb.mono h) (by omega) (by omega))
        have HLT := Lib.hid hlt
        clear hspec hlt
        go_enter Tryz.func66, Tryz.ntmps66
        go_wp2_with fail
        refine LA.out.mono ?_; rintro e w1 ⟨rfl, h1⟩
        go_wp2_with fail
        refine (LB _ h1).out.mono ?_; rintro e w2 ⟨rfl, h2⟩
        have h12 := Add.trans h1 h2
        clear h1 h2
        go_wp2_with fail
        refine (HCMP _ h12).out.mono ?_; rintro e w2' ⟨rfl, h2'⟩
        replace h12 := Add.trans h12 h2'
        clear h2'
        go_wp2_with fail
        refine (refTrim_any _ _ _ (ha.mono h12) (by omega)).mono ?_; rintro e w3 ⟨v3, rfl, n3, h3⟩
        obtain ⟨ps, r3, -, e3, l3⟩ := n3.reads (k := 512) (by have := HA.out; omega)
        go_wp2_with fail
        refine (refTrim_any _ _ _ ((hb.mono h12).mono h3) (by omega)).mono ?_; rintro e w4 ⟨v4, rfl, n4, h4⟩
        obtain ⟨qs, r4, -, e4, l4⟩ := n4.reads (k := 512) (by have := HB.out; omega)
        have r3' := r3.mono h4
        have HC := Lib.hid (refMinus_any v3 v4 ps qs w4 r3' r4 (by omega) (by omega) (by rw [e3, e4]; have := HLT.out; omega))
        have E3 := Lib.hid e3
        have E4 := Lib.hid e4
        clear r3 r4 r3' n3 n4 e3 e4
        go_wp2_with fail
        refine HC.out.mono ?_; rintro e w5 ⟨v5, rfl, n5, h5⟩
        rw [E3.out, E4.out] at n5
        have h345 := Add.trans h12 (Add.trans h3 (Add.trans h4 h5))
        have n5' := n5.num
        clear HC h12 h3 h4 h5 n5
        go_wp2_with fail
        go_ret2
        rw [HS.out]
        exact ⟨_, rfl, n5', h345⟩
end Go.Proofs.YtifpfoeecnkhoaaGreatDoor
