/- The reference's Add, Sub, Mul and Cmp. -/
import Derived.Test.YtifpfoeecnkhoaaDoorR4
import Derived.Test.YtifpfoeecnkhoaaDoorA2
namespace Go.Proofs.YtifpfoeecnkhoaaDoor
open Go.RowKit NatM Go.Proofs.YtifpfoeecnkhoaaDoor.Api

/-- A result and an error number: with an error the result is 0. -/
def ResP (w : World) (p : Nat × Nat) (e : Ending) (w' : World) : Prop := ∃ v, e = .returned (.tuple #[v, .int .i64 (p.2 : Nat)]) ∧ Num w' v p.1 ∧ Add w w'
def addS (A B : Nat) : Nat × Nat := if A + B < pw 512 then (A + B, 0) else (0, 2)
def subS (A B : Nat) : Nat × Nat := if pw 512 ≤ A ∨ pw 512 ≤ B then (0, 2) else if A < B then (0, 4) else (A - B, 0)
def mulS (A B : Nat) : Nat × Nat := if pw 512 ≤ A ∨ pw 512 ≤ B ∨ pw 512 ≤ A * B then (0, 2) else (A * B, 0)
theorem NumO.reads {w : World} {base : Nat} {v : Value} {N k : Nat} (h : NumO w base v N) (hN : N < pw k) : ∃ zs, Reads w v zs ∧ Canon zs ∧ val zs = N ∧ zs.length ≤ k := by
  obtain ⟨zs, h1, h2, h3, h4⟩ := h
  refine ⟨zs, h1.reads h2, h3, h4, ?_⟩
  have := tlen_le_of_val (xs := zs) k (by rw [h4]; exact hN)
  unfold Canon at h3; omega
theorem num_reads {w : World} {v : Value} {N k : Nat} (h : Num w v N) (hN : N < pw k) : ∃ zs, Reads w v zs ∧ Canon zs ∧ val zs = N ∧ zs.length ≤ k := by
  obtain ⟨zs, h1, h3, h4⟩ := h
  refine ⟨zs, h1, h3, h4, ?_⟩
  have := tlen_le_of_val (xs := zs) k (by rw [h4]; exact hN)
  unfold Canon at h3; omega

set_option maxRecDepth 100000 in
set_option maxHeartbeats 2000000 in
theorem refMul_any (va vb : Value) (xs ys : List Nat) (w : World) (ha : Reads w va xs) (hb : Reads w vb ys) (hs : xs.length ≤ 100000) (hs' : ys.length ≤ 100000) :
    Calls Tryd.prog 7 #[va, vb] w (ResP w (mulS (val xs) (val ys))) := by
  by_cases hA : pw 512 ≤ val xs
  · have hspec : mulS (val xs) (val ys) = (0, 2) := by unfold mulS; rw [if_pos (by omega)]
    have HS := Lib.hid hspec
    have LA := Lib.hid (refLarge_is true va xs w ha (by omega) (Lib.hid (decide_eq_true hA)))
    clear hspec hA
    go_enter Tryd.func7, Tryd.ntmps7
    go_wp2_with fail
    refine LA.out.mono ?_; rintro e w1 ⟨rfl, h1⟩
    go_wp2_with fail
    go_ret2
    rw [HS.out]
    exact ⟨_, rfl, Num.nil _, h1⟩
  · have LA := Lib.hid (refLarge_is false va xs w ha (by omega) (Lib.hid (decide_eq_false hA)))
    by_cases hB : pw 512 ≤ val ys
    · have hspec : mulS (val xs) (val ys) = (0, 2) := by unfold mulS; rw [if_pos (by omega)]
      have HS := Lib.hid hspec
      have LB := fun w1 (h : Add w w1) => Lib.hid (refLarge_is true vb ys w1 (hb.mono h) (by omega) (Lib.hid (decide_eq_true hB)))
      clear hspec hA hB
      go_enter Tryd.func7, Tryd.ntmps7
      go_wp2_with fail
      refine LA.out.mono ?_; rintro e w1 ⟨rfl, h1⟩
      go_wp2_with fail
      refine (LB _ h1).out.mono ?_; rintro e w2 ⟨rfl, h2⟩
      go_wp2_with fail
      go_ret2
      rw [HS.out]
      exact ⟨_, rfl, Num.nil _, Add.trans h1 h2⟩
    · have LB := fun w1 (h : Add w w1) => Lib.hid (refLarge_is false vb ys w1 (hb.mono h) (by omega) (Lib.hid (decide_eq_false hB)))
      have HB := Lib.hid hB
      have HA := Lib.hid hA
      clear hA hB
      obtain ⟨N, hN⟩ : ∃ N, N = val xs * val ys := ⟨_, rfl⟩
      go_enter Tryd.func7, Tryd.ntmps7
      go_wp2_with fail
      refine LA.out.mono ?_; rintro e w1 ⟨rfl, h1⟩
      go_wp2_with fail
      refine (LB _ h1).out.mono ?_; rintro e w2 ⟨rfl, h2⟩
      have h12 := Add.trans h1 h2
      clear h1 h2
      go_wp2_with fail
      refine (refTrim_any _ _ _ (ha.mono h12) (by omega)).mono ?_; rintro e w3 ⟨v3, rfl, n3, h3⟩
      obtain ⟨ps, r3, -, e3, l3⟩ := n3.reads (k := 512) (by have := HA.out; omega)
      go_wp2_with fail
      refine (refTrim_any _ _ _ ((hb.mono h12).mono h3) (by omega)).mono ?_; rintro e w4 ⟨v4, rfl, n4, h4⟩
      obtain ⟨qs, r4, -, e4, l4⟩ := n4.reads (k := 512) (by have := HB.out; omega)
      have r3' := r3.mono h4
      have HC := Lib.hid (refTimes_any v3 v4 ps qs w4 r3' r4 (by omega) (by omega))
      have E3 := Lib.hid e3
      have E4 := Lib.hid e4
      clear r3 r4 r3' n3 n4 e3 e4
      go_wp2_with fail
      refine HC.out.mono ?_; rintro e w5 ⟨v5, rfl, n5, h5⟩
      rw [E3.out, E4.out, ← hN] at n5
      have h345 := Add.trans h12 (Add.trans h3 (Add.trans h4 h5))
      clear HC h12 h3 h4 h5
      by_cases hbig : pw 512 ≤ N
      · have hspec : mulS (val xs) (val ys) = (0, 2) := by unfold mulS; rw [if_pos (by rw [← hN]; omega)]
        have HS := Lib.hid hspec
        obtain ⟨cs, r5, -, e5, l5⟩ := n5.reads (k := 1024) (by rw [hN]; exact lt_mul (i := 512) (j := 512) (by have := HA.out; omega) (by have := HB.out; omega))
        have LC := Lib.hid (refLarge_is true v5 cs w5 r5 (by omega) (Lib.hid (by rw [e5]; exact decide_eq_true hbig)))
        clear hspec hbig r5 e5 n5 hN
        go_wp2_with fail
        refine LC.out.mono ?_; rintro e w6 ⟨rfl, h6⟩
        go_wp2_with fail
        go_ret2
        rw [HS.out]
        exact ⟨_, rfl, Num.nil _, Add.trans h345 h6⟩
      · have hspec : mulS (val xs) (val ys) = (N, 0) := by unfold mulS; rw [if_neg (by have := HA.out; have := HB.out; rw [← hN]; omega), hN]
        have HS := Lib.hid hspec
        obtain ⟨cs, r5, -, e5, l5⟩ := n5.reads (k := 512) (by omega)
        have LC := Lib.hid (refLarge_is false v5 cs w5 r5 (by omega) (Lib.hid (by rw [e5]; exact decide_eq_false hbig)))
        have n5' := n5.num
        clear hspec hbig r5 e5 n5 hN
        go_wp2_with fail
        refine LC.out.mono ?_; rintro e w6 ⟨rfl, h6⟩
        go_wp2_with fail
        go_ret2
        rw [HS.out]
        exact ⟨_, rfl, n5'.mono h6, Add.trans h345 h6⟩

end Go.Proofs.YtifpfoeecnkhoaaDoor
