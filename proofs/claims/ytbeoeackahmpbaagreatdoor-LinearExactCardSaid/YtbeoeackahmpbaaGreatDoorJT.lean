/- The reference's divide for all divisors, and its Div. | The reference's Gcd. | The reference's Shift. -/
import Derived.Test.YtbeoeackahmpbaaGreatDoorR11
import Derived.Test.YtbeoeackahmpbaaGreatDoorJS
import Derived.Deep.LoopGhost

namespace Go.Proofs.YtbeoeackahmpbaaGreatDoor
open Go.RowKit NatM Go.Proofs.YtbeoeackahmpbaaGreatDoor.Api

theorem refDivide_any (va vb : Value) (xs ys : List Nat) (w : World) (ha : Reads w va xs) (hb : Reads w vb ys) (hs : xs.length ≤ 2000) (hs' : ys.length ≤ 2000) (hc : Canon ys) (h0 : val ys ≠ 0) :
    Calls Tryz.prog 108 #[va, vb] w (DivO w (val xs) (val ys)) := by
  rcases Nat.lt_or_ge (val xs) (val ys) with h | h
  · exact refDivide_less va vb xs ys w ha hb (by omega) (by omega) h
  · match hl : ys.length with
    | 0 => exact absurd (by rw [List.length_eq_zero_iff.1 hl]; rfl) h0
    | 1 =>
      obtain ⟨d, rfl⟩ : ∃ d, ys = [d] := List.length_eq_one_iff.1 hl
      have e : val [d] = d := by simp [val]
      rw [e] at h h0 ⊢
      exact refDivide_one va vb xs d w ha hb (by omega) (by omega) h
    | m + 2 => exact refDivide_long va vb xs ys m w ha hb hs hl hc (by omega) h
theorem refDivideN {v1 v2 : Value} {A B : Nat} {w : World} (h1 : Num w v1 A) (h2 : Num w v2 B) (h : Hid (A < pw 2000 ∧ B < pw 2000 ∧ B ≠ 0)) : Calls Tryz.prog 108 #[v1, v2] w (DivO w A B) := by
  obtain ⟨xs, r1, -, rfl, l1⟩ := num_reads h1 h.out.1
  obtain ⟨ys, r2, c2, rfl, l2⟩ := num_reads h2 h.out.2.1
  exact refDivide_any v1 v2 xs ys w r1 r2 l1 l2 c2 h.out.2.2

/-- Two results and an error number: with an error both are 0. -/
def ResP2 (w : World) (p : Nat × Nat × Nat) (e : Ending) (w' : World) : Prop := ∃ v u, e = .returned (.tuple #[v, u, .int .i64 (p.2.2 : Nat)]) ∧ Num w' v p.1 ∧ Num w' u p.2.1 ∧ Add w w'
def divS (A B : Nat) : Nat × Nat × Nat := if pw 512 ≤ A ∨ pw 512 ≤ B then (0, 0, 2) else if B = 0 then (0, 0, 3) else (A / B, A % B, 0)
set_option maxRecDepth 100000 in
set_option maxHeartbeats 2000000 in
theorem refDiv_any (va vb : Value) (xs ys : List Nat) (w : World) (ha : Reads w va xs) (hb : Reads w vb ys) (hs : xs.length ≤ 100000) (hs' : ys.length ≤ 100000) :
    Calls Tryz.prog 91 #[va, vb] w (ResP2 w (divS (val xs) (val ys))) := by
  by_cases hA : pw 512 ≤ val xs
  · have HS : Hid (divS (val xs) (val ys) = (0, 0, 2)) := Lib.hid (by unfold divS; rw [if_pos (.inl hA)])
    have LA := Lib.hid (refLarge_is true va xs w ha (by omega) (Lib.hid (decide_eq_true hA)))
    clear hA
    go_enter Tryz.func91, Tryz.ntmps91
    go_wp2_with fail
    refine LA.out.mono ?_; rintro e w1 ⟨rfl, h1⟩
    go_wp2_with fail
    go_ret3
    rw [HS.out]
    exact ⟨_, _, rfl, Num.nil _, Num.nil _, h1⟩
  · have LA := Lib.hid (refLarge_is false va xs w ha (by omega) (Lib.hid (decide_eq_false hA)))
    by_cases hB : pw 512 ≤ val ys
    · have HS : Hid (divS (val xs) (val ys) = (0, 0, 2)) := Lib.hid (by unfold divS; rw [if_pos (.inr hB)])
      have LB := fun w1 (h : Add w w1) => Lib.hid (refLarge_is true vb ys w1 (hb.mono h) (by omega) (Lib.hid (decide_eq_true hB)))
      clear hA hB
      go_enter Tryz.func91, Tryz.ntmps91
      go_wp2_with fail
      refine LA.out.mono ?_; rintro e w1 ⟨rfl, h1⟩
      go_wp2_with fail
      refine (LB _ h1).out.mono ?_; rintro e w2 ⟨rfl, h2⟩
      go_wp2_with fail
      go_ret3
      rw [HS.out]
      exact ⟨_, _, rfl, Num.nil _, Num.nil _, Add.trans h1 h2⟩
    · have LB := fun w1 (h : Add w w1) => Lib.hid (refLarge_is false vb ys w1 (hb.mono h) (by omega) (Lib.hid (decide_eq_false hB)))
      have TA := fun w1 (h : Add w w1) => Lib.hid (refTrim_any va xs w1 (ha.mono h) (by omega))
      have TB := fun w1 (h : Add w w1) => Lib.hid (refTrim_any vb ys w1 (hb.mono h) (by omega))
      have bA : Hid (val xs < pw 512) := Lib.hid (by omega)
      have bB : Hid (val ys < pw 512) := Lib.hid (by omega)
      have HSD : Hid (divS (val xs) (val ys) = if val ys = 0 then (0, 0, 3) else (val xs / val ys, val xs % val ys, 0)) := Lib.hid (by unfold divS; rw [if_neg (by omega)])
      clear hA hB
      by_cases h0 : val ys = 0
      · have HS : Hid (divS (val xs) (val ys) = (0, 0, 3)) := Lib.hid (by rw [HSD.out, if_pos h0])
        have H0 := Lib.hid h0
        clear h0
        go_enter Tryz.func91, Tryz.ntmps91
        go_wp2_with fail
        refine LA.out.mono ?_; rintro e w1 ⟨rfl, h1⟩
        go_wp2_with fail
        refine (LB _ h1).out.mono ?_; rintro e w2 ⟨rfl, h2⟩
        have h12 := Add.trans h1 h2
        go_wp2_with fail
        refine (TB _ h12).out.mono ?_; rintro e w3 ⟨v3, rfl, n3, h3⟩
        rw [H0.out] at n3
        obtain ⟨ao, c, rfl⟩ := num_nil n3.num
        have h13 := Add.trans h12 h3
        clear n3 h1 h2 h12 h3
        go_wp2_with fail
        go_ret3
        rw [HS.out]
        exact ⟨_, _, rfl, Num.nil _, Num.nil _, h13⟩
      · have HS : Hid (divS (val xs) (val ys) = (val xs / val ys, val xs % val ys, 0)) := Lib.hid (by rw [HSD.out, if_neg h0])
        have H0 := Lib.hid h0
        clear h0
        go_enter Tryz.func91, Tryz.ntmps91
        go_wp2_with fail
        refine LA.out.mono ?_; rintro e w1 ⟨rfl, h1⟩
        go_wp2_with fail
        refine (LB _ h1).out.mono ?_; rintro e w2 ⟨rfl, h2⟩
        have h12 := Add.trans h1 h2
        go_wp2_with fail
        refine (TB _ h12).out.mono ?_; rintro e w3 ⟨v3, rfl, n3, h3⟩
        obtain ⟨ao, n, c, rfl, -, hn0⟩ := num_shape n3.num bB.out
        have hne : ((n : Int) == 0) = false := by rw [beq_eq_false_iff_ne]; have := H0.out; omega
        have h13 := Add.trans h12 h3
        clear n3 h1 h2 h12 h3 hn0
        go_wp2_with fail
        refine (TA _ h13).out.mono ?_; rintro e w4 ⟨v4, rfl, n4, h4⟩
        have h14 := Add.trans h13 h4
        go_wp2_with fail
        refine (TB _ h14).out.mono ?_; rintro e w5 ⟨v5, rfl, n5, h5⟩
        have h15 := Add.trans h14 h5
        have n4' := n4.num.mono h5
        have n5' := n5.num
        clear h13 h14 h4 h5 n4 n5
        go_wp2_with fail
        refine (refDivideN n4' n5' (Lib.hid ⟨lt_up bA.out (by decide), lt_up bB.out (by decide), H0.out⟩)).mono ?_; rintro e w6 ⟨vq, vr, rfl, nq6, nr6, h6⟩
        have h16 := Add.trans h15 h6
        have q6 := nq6.num
        have r6 := nr6.num
        clear nq6 nr6 h15 h6 n4' n5'
        go_wp2_with fail
        go_ret3
        rw [HS.out]
        exact ⟨_, _, rfl, q6, r6, h16⟩
end Go.Proofs.YtbeoeackahmpbaaGreatDoor

namespace Go.Proofs.YtbeoeackahmpbaaGreatDoor
open Go.RowKit NatM Go.Proofs.YtbeoeackahmpbaaGreatDoor.Api

def gcdS (A B : Nat) : Nat × Nat := if pw 512 ≤ A ∨ pw 512 ≤ B then (0, 2) else (Nat.gcd A B, 0)
/-- What the loop of Gcd keeps. -/
def GSt (w : World) (G R : Nat) (x y : Value) (wr : World) : Prop := ∃ X, Num wr x X ∧ Num wr y R ∧ X < pw 512 ∧ R < pw 512 ∧ Nat.gcd X R = G ∧ Add w wr
set_option maxRecDepth 100000 in
set_option maxHeartbeats 2000000 in
theorem refGcd_any (va vb : Value) (xs ys : List Nat) (w : World) (ha : Reads w va xs) (hb : Reads w vb ys) (hs : xs.length ≤ 100000) (hs' : ys.length ≤ 100000) :
    Calls Tryz.prog 90 #[va, vb] w (ResP w (gcdS (val xs) (val ys))) := by
  by_cases hA : pw 512 ≤ val xs
  · have HS : Hid (gcdS (val xs) (val ys) = (0, 2)) := Lib.hid (by unfold gcdS; rw [if_pos (.inl hA)])
    have LA := Lib.hid (refLarge_is true va xs w ha (by omega) (Lib.hid (decide_eq_true hA)))
    clear hA
    go_enter Tryz.func90, Tryz.ntmps90
    go_wp2_with fail
    refine LA.out.mono ?_; rintro e w1 ⟨rfl, h1⟩
    go_wp2_with fail
    go_ret2
    rw [HS.out]
    exact ⟨_, rfl, Num.nil _, h1⟩
  · have LA := Lib.hid (refLarge_is false va xs w ha (by omega) (Lib.hid (decide_eq_false hA)))
    by_cases hB : pw 512 ≤ val ys
    · have HS : Hid (gcdS (val xs) (val ys) = (0, 2)) := Lib.hid (by unfold gcdS; rw [if_pos (.inr hB)])
      have LB := fun w1 (h : Add w w1) => Lib.hid (refLarge_is true vb ys w1 (hb.mono h) (by omega) (Lib.hid (decide_eq_true hB)))
      clear hA hB
      go_enter Tryz.func90, Tryz.ntmps90
      go_wp2_with fail
      refine LA.out.mono ?_; rintro e w1 ⟨rfl, h1⟩
      go_wp2_with fail
      refine (LB _ h1).out.mono ?_; rintro e w2 ⟨rfl, h2⟩
      go_wp2_with fail
      go_ret2
      rw [HS.out]
      exact ⟨_, rfl, Num.nil _, Add.trans h1 h2⟩
    · have LB := fun w1 (h : Add w w1) => Lib.hid (refLarge_is false vb ys w1 (hb.mono h) (by omega) (Lib.hid (decide_eq_false hB)))
      have TA := fun w1 (h : Add w w1) => Lib.hid (refTrim_any va xs w1 (ha.mono h) (by omega))
      have TB := fun w1 (h : Add w w1) => Lib.hid (refTrim_any vb ys w1 (hb.mono h) (by omega))
      have bA : Hid (val xs < pw 512) := Lib.hid (by omega)
      have bB : Hid (val ys < pw 512) := Lib.hid (by omega)
      obtain ⟨G, hG⟩ : ∃ G, G = Nat.gcd (val xs) (val ys) := ⟨_, rfl⟩
      have HS : Hid (gcdS (val xs) (val ys) = (G, 0)) := Lib.hid (by unfold gcdS; rw [if_neg (by omega), hG])
      have HG := Lib.hid hG
      obtain ⟨B, hBe⟩ : ∃ B, B = val ys := ⟨_, rfl⟩
      have HBE := Lib.hid hBe
      clear hA hB hG hBe
      go_enter Tryz.func90, Tryz.ntmps90
      go_wp2_with fail
      refine LA.out.mono ?_; rintro e w1 ⟨rfl, h1⟩
      go_wp2_with fail
      refine (LB _ h1).out.mono ?_; rintro e w2 ⟨rfl, h2⟩
      have h12 := Add.trans h1 h2
      go_wp2_with fail
      refine (TA _ h12).out.mono ?_; rintro e w3 ⟨v3, rfl, n3, h3⟩
      have h13 := Add.trans h12 h3
      go_wp2_with fail
      refine (TB _ h13).out.mono ?_; rintro e w4 ⟨v4, rfl, n4, h4⟩
      have hst : GSt w G B v3 v4 w4 := ⟨val xs, n3.num.mono h4, by rw [HBE.out]; exact n4.num, bA.out, by rw [HBE.out]; exact bB.out, by rw [HBE.out]; exact HG.out.symm, Add.trans h13 h4⟩
      clear n3 n4 h1 h2 h12 h3 h13 h4 LA LB TA TB
      go_wp2_with fail
      go_loopg [6, 7] B (fun R x y wr => ∃ xv yv : Value, xv = x ∧ yv = y ∧ GSt w G R xv yv wr)
      case atStart => exact ⟨_, _, rfl, rfl, hst⟩
      case round =>
        clear hst
        obtain ⟨xv, yv, rfl, rfl, X, nx, ny, hX, hR, hg, hadd⟩ := hrel
        obtain ⟨ao, n, c, rfl, -, hn0⟩ := num_shape ny hR
        by_cases h0 : gk = 0
        · obtain rfl : n = 0 := hn0.2 h0
          have hF : ResP w (gcdS (val xs) (val ys)) (.returned (.tuple #[xv, .int .i64 0])) wr := by
            rw [HS.out]
            refine ⟨_, rfl, ?_, hadd⟩
            rw [h0, Nat.gcd_zero_right] at hg
            rw [← hg]; exact nx
          clear nx ny hX hR hg hadd hn0 h0
          go_wp2_with fail
          go_ret2
          exact hF
        · have hn : 0 < n := by omega
          have dn : decide (0 < n) = true := decide_eq_true hn
          have HC := Lib.hid (refDivideN nx ny (Lib.hid ⟨lt_up hX (by decide), lt_up hR (by decide), h0⟩))
          have HG2 := Lib.hid hg
          have HR := Lib.hid hR
          have H0 := Lib.hid h0
          have hnst : ∀ (vr : Value) (w' : World), Num w' vr (X % gk) → Add wr w' → GSt w G (X % gk) (.slice ao n c) vr w' := fun vr w' h1 h2 =>
            ⟨gk, ny.mono h2, h1, HR.out, Nat.lt_trans (Nat.mod_lt _ (Nat.pos_of_ne_zero H0.out)) HR.out, by rw [← HG2.out, Nat.gcd_comm gk, ← Nat.gcd_rec, Nat.gcd_comm], Add.trans hadd h2⟩
          have HNST := Lib.hid hnst
          clear nx ny hX hR hg hadd hn0 h0 hnst
          go_wp2_with fail
          refine HC.out.mono ?_; rintro e w5 ⟨vq, vr, rfl, -, nr5, h5⟩
          have hst5 := HNST.out vr w5 nr5.num h5
          clear nr5 h5 HC
          go_wp2_with fail
          go_roundg (X % gk)
          case measure => exact Nat.mod_lt _ (Nat.pos_of_ne_zero H0.out)
          case rel => exact ⟨_, _, rfl, rfl, hst5⟩
end Go.Proofs.YtbeoeackahmpbaaGreatDoor

namespace Go.Proofs.YtbeoeackahmpbaaGreatDoor
open Go.RowKit NatM Go.Proofs.YtbeoeackahmpbaaGreatDoor.Api

def shiftS (A : Nat) (n : Int) : Nat × Nat :=
  if pw 512 ≤ A then (0, 2) else if A = 0 ∨ n < -16384 then (0, 0) else if n < 0 then (A / 2 ^ (-n).toNat, 0) else if 16384 < n then (0, 2) else if pw 512 ≤ A * 2 ^ n.toNat then (0, 2) else (A * 2 ^ n.toNat, 0)
set_option maxRecDepth 100000 in
set_option maxHeartbeats 2000000 in
theorem refShift_any (va : Value) (xs : List Nat) (n : Int) (w : World) (ha : Reads w va xs) (hs : xs.length ≤ 100000) (hn1 : -9223372036854775808 ≤ n) (hn2 : n ≤ 9223372036854775807) :
    Calls Tryz.prog 96 #[va, .int .i64 n] w (ResP w (shiftS (val xs) n)) := by
  by_cases hA : pw 512 ≤ val xs
  · have HS : Hid (shiftS (val xs) n = (0, 2)) := Lib.hid (by unfold shiftS; rw [if_pos hA])
    have LA := Lib.hid (refLarge_is true va xs w ha (by omega) (Lib.hid (decide_eq_true hA)))
    clear hA
    go_enter Tryz.func96, Tryz.ntmps96
    go_wp2_with fail
    refine LA.out.mono ?_; rintro e w1 ⟨rfl, h1⟩
    go_wp2_with fail
    go_ret2
    rw [HS.out]
    exact ⟨_, rfl, Num.nil _, h1⟩
  · have LA := Lib.hid (refLarge_is false va xs w ha (by omega) (Lib.hid (decide_eq_false hA)))
    have TA := fun w1 (h : Add w w1) => Lib.hid (refTrim_any va xs w1 (ha.mono h) (by omega))
    have bA : Hid (val xs < pw 512) := Lib.hid (by omega)
    obtain ⟨A, hAe⟩ : ∃ A, A = val xs := ⟨_, rfl⟩
    rw [← hAe] at bA ⊢
    simp only [← hAe] at TA
    obtain ⟨p, hp⟩ : ∃ p, p = shiftS A n := ⟨_, rfl⟩
    rw [← hp]
    have HP : Hid (p = if A = 0 ∨ n < -16384 then (0, 0) else if n < 0 then (A / 2 ^ (-n).toNat, 0) else if 16384 < n then (0, 2) else if pw 512 ≤ A * 2 ^ n.toNat then (0, 2) else (A * 2 ^ n.toNat, 0)) := Lib.hid (by rw [hp]; unfold shiftS; rw [if_neg (by rw [hAe]; exact hA)])
    clear hA hAe hp ha
    by_cases h0 : A = 0
    · have HS : Hid (p = (0, 0)) := Lib.hid (by rw [HP.out, if_pos (.inl h0)])
      have H0 := Lib.hid h0
      clear h0
      go_enter Tryz.func96, Tryz.ntmps96
      go_wp2_with fail
      refine LA.out.mono ?_; rintro e w1 ⟨rfl, h1⟩
      go_wp2_with fail
      refine (TA _ h1).out.mono ?_; rintro e w3 ⟨v3, rfl, n3, h3⟩
      rw [H0.out] at n3
      obtain ⟨ao, c, rfl⟩ := num_nil n3.num
      have h13 := Add.trans h1 h3
      clear n3 h1 h3
      go_wp2_with fail
      go_ret2
      rw [HS.out]
      exact ⟨_, rfl, Num.nil _, h13⟩
    · have H0 := Lib.hid h0
      by_cases hl : n < -16384
      · have HS : Hid (p = (0, 0)) := Lib.hid (by rw [HP.out, if_pos (.inr hl)])
        have dl : decide (n < -16384) = true := decide_eq_true hl
        clear h0
        go_enter Tryz.func96, Tryz.ntmps96
        go_wp2_with fail
        refine LA.out.mono ?_; rintro e w1 ⟨rfl, h1⟩
        go_wp2_with fail
        refine (TA _ h1).out.mono ?_; rintro e w3 ⟨v3, rfl, n3, h3⟩
        obtain ⟨ao, m, c, rfl, -, hm0⟩ := num_shape n3.num bA.out
        have hne : ((m : Int) == 0) = false := by rw [beq_eq_false_iff_ne]; have := H0.out; omega
        have h13 := Add.trans h1 h3
        clear n3 h1 h3 hm0
        go_wp2_with fail
        go_ret2
        rw [HS.out]
        exact ⟨_, rfl, Num.nil _, h13⟩
      · have dl : decide (n < -16384) = false := decide_eq_false hl
        by_cases hneg : n < 0
        · obtain ⟨k, hk⟩ : ∃ k : Nat, -n = (k : Int) := ⟨(-n).toNat, by omega⟩
          have HS : Hid (p = (A / 2 ^ k, 0)) := Lib.hid (by rw [HP.out, if_neg (by omega), if_pos hneg, hk, Int.toNat_natCast])
          have dneg : decide (n < 0) = true := decide_eq_true hneg
          clear h0
          go_enter Tryz.func96, Tryz.ntmps96
          go_wp2_with fail
          refine LA.out.mono ?_; rintro e w1 ⟨rfl, h1⟩
          go_wp2_with fail
          refine (TA _ h1).out.mono ?_; rintro e w3 ⟨v3, rfl, n3, h3⟩
          obtain ⟨zs, rz, -, ez, lz⟩ := n3.reads bA.out
          obtain ⟨ao, m, c, rfl, -, hm0⟩ := num_shape n3.num bA.out
          have hne : ((m : Int) == 0) = false := by rw [beq_eq_false_iff_ne]; have := H0.out; omega
          have h13 := Add.trans h1 h3
          have HD := Lib.hid (refDown_any _ zs k w3 rz (by omega) (by omega))
          rw [ez] at HD
          clear n3 h1 h3 hm0 rz ez
          go_wp2_with fail
          refine HD.out.mono ?_; rintro e w4 ⟨v4, rfl, n4, h4⟩
          have n4' := n4.num
          clear n4
          go_wp2_with fail
          go_ret2
          rw [HS.out]
          exact ⟨_, rfl, n4', Add.trans h13 h4⟩
        · obtain ⟨k, rfl⟩ : ∃ k : Nat, n = (k : Int) := ⟨n.toNat, by omega⟩
          have dneg : decide ((k : Int) < 0) = false := decide_eq_false hneg
          by_cases hbig : 16384 < k
          · have HS : Hid (p = (0, 2)) := Lib.hid (by rw [HP.out, if_neg (by omega), if_neg (by omega), if_pos (by omega)])
            have dbig : decide (16384 < k) = true := decide_eq_true hbig
            clear h0
            go_enter Tryz.func96, Tryz.ntmps96
            go_wp2_with fail
            refine LA.out.mono ?_; rintro e w1 ⟨rfl, h1⟩
            go_wp2_with fail
            refine (TA _ h1).out.mono ?_; rintro e w3 ⟨v3, rfl, n3, h3⟩
            obtain ⟨ao, m, c, rfl, -, hm0⟩ := num_shape n3.num bA.out
            have hne : ((m : Int) == 0) = false := by rw [beq_eq_false_iff_ne]; have := H0.out; omega
            have h13 := Add.trans h1 h3
            clear n3 h1 h3 hm0
            go_wp2_with fail
            go_ret2
            rw [HS.out]
            exact ⟨_, rfl, Num.nil _, h13⟩
          · have dbig : decide (16384 < k) = false := decide_eq_false hbig
            obtain ⟨N, hN⟩ : ∃ N, N = A * 2 ^ k := ⟨_, rfl⟩
            have HS2 : Hid (p = if pw 512 ≤ N then (0, 2) else (N, 0)) := Lib.hid (by rw [HP.out, if_neg (by omega), if_neg (by omega), if_neg (by omega), Int.toNat_natCast, hN])
            have hNb : Hid (N < pw 2000) := Lib.hid (by
              rw [hN]
              have h3 : ∀ L, 512 < L → 2 ^ k < pw L := fun L hL => by
                rw [pw_two]; exact Nat.pow_lt_pow_right (by decide) (by omega)
              have h2 := h3 513 (by decide)
              exact lt_up (lt_mul bA.out h2) (by decide))
            have HN := Lib.hid hN
            clear h0 hN
            go_enter Tryz.func96, Tryz.ntmps96
            go_wp2_with fail
            refine LA.out.mono ?_; rintro e w1 ⟨rfl, h1⟩
            go_wp2_with fail
            refine (TA _ h1).out.mono ?_; rintro e w3 ⟨v3, rfl, n3, h3⟩
            obtain ⟨zs, rz, -, ez, lz⟩ := n3.reads bA.out
            obtain ⟨ao, m, c, rfl, -, hm0⟩ := num_shape n3.num bA.out
            have hne : ((m : Int) == 0) = false := by rw [beq_eq_false_iff_ne]; have := H0.out; omega
            have h13 := Add.trans h1 h3
            have HD := Lib.hid (refUp_any _ zs k w3 rz (by omega) (by omega))
            rw [ez, ← HN.out] at HD
            clear n3 h1 h3 hm0 rz ez
            go_wp2_with fail
            refine HD.out.mono ?_; rintro e w4 ⟨v4, rfl, n4, h4⟩
            have h14 := Add.trans h13 h4
            have n4' := n4.num
            clear n4 h13 h4 HD
            by_cases hb2 : pw 512 ≤ N
            · have HS : Hid (p = (0, 2)) := Lib.hid (by rw [HS2.out, if_pos hb2])
              have HL := Lib.hid (refLargeN true n4' hNb (Lib.hid (decide_eq_true hb2)))
              clear hb2
              go_wp2_with fail
              refine HL.out.mono ?_; rintro e w5 ⟨rfl, h5⟩
              go_wp2_with fail
              go_ret2
              rw [HS.out]
              exact ⟨_, rfl, Num.nil _, Add.trans h14 h5⟩
            · have HS : Hid (p = (N, 0)) := Lib.hid (by rw [HS2.out, if_neg hb2])
              have HL := Lib.hid (refLargeN false n4' hNb (Lib.hid (decide_eq_false hb2)))
              clear hb2
              go_wp2_with fail
              refine HL.out.mono ?_; rintro e w5 ⟨rfl, h5⟩
              go_wp2_with fail
              go_ret2
              rw [HS.out]
              exact ⟨_, rfl, n4'.mono h5, Add.trans h14 h5⟩
end Go.Proofs.YtbeoeackahmpbaaGreatDoor
