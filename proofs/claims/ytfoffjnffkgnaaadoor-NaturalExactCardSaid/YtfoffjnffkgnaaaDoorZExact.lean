/- The law NaturalExact returns true for all arguments, and leaves them as they were: the row and its card.
(With the texts that only this claim joins: Results and errors, in one form. | The shape of a canonical row. | The reference's divide for all divisors, and its Div. | The reference's Gcd. | The reference's Shift. | The operations of package natural, with their errors, answer what the reference answers. | Numbers as the callers of package natural hold them. | Every operation on numbers, of package natural and of the reference, by one answer; the premises are hidden. | What the laws of layer 1 share: the guard on long lists. | The law NaturalExact: its walk, for all arguments. | What the cards of the laws share: how arguments open, a world for the witness, and what stays of the arguments. | Arguments that are numbers.) -/
import Derived.Test.YtfoffjnffkgnaaaDoorR5
import Derived.Test.YtfoffjnffkgnaaaDoorR7
import Derived.Test.YtfoffjnffkgnaaaDoorR11
import Derived.Deep.LoopGhost
import Derived.Test.YtfoffjnffkgnaaaDoorW23
import Derived.Test.YtfoffjnffkgnaaaDoorA2
import Derived.Test.YtfoffjnffkgnaaaDoorA
import Derived.Test.YtfoffjnffkgnaaaDoorCards
import Derived.Test.YtfoffjnffkgnaaaDoorTie
import Derived.Test.YtfoffjnffkgnaaaDoorW9
import Derived.WalkKit
import Derived.ProofKit
import Derived.OpenShut
import Derived.Deep.DeepHandedRow

namespace Go.Proofs.YtfoffjnffkgnaaaDoor
open Go.RowKit NatM Go.Proofs.YtfoffjnffkgnaaaDoor.Api

theorem okP_res {w : World} {N : Nat} {e : Ending} {w' : World} (h : OkP w N e w') : ResP w (N, 0) e w' := by
  obtain ⟨v, rfl, h1, h2⟩ := h
  exact ⟨v, rfl, h1, h2⟩
theorem errP_res {w : World} {k : Nat} {e : Ending} {w' : World} (h : ErrP w (k : Nat) e w') : ResP w (0, k) e w' := by
  obtain ⟨rfl, h2⟩ := h
  exact ⟨_, rfl, Num.nil _, h2⟩
end Go.Proofs.YtfoffjnffkgnaaaDoor

namespace Go.Proofs.YtfoffjnffkgnaaaDoor
open Go.RowKit NatM Go.Proofs.YtfoffjnffkgnaaaDoor.Api

theorem num_shape {w : World} {v : Value} {N k : Nat} (h : Num w v N) (hN : N < pw k) : ∃ ao n c, v = .slice ao n c ∧ n ≤ k ∧ (n = 0 ↔ N = 0) := by
  obtain ⟨zs, ⟨ao, n, c, rfl, hl, -⟩, hc, e, l⟩ := num_reads h hN
  refine ⟨ao, n, c, rfl, by omega, ?_⟩
  unfold Canon at hc
  rw [← e, val_eq_zero]; omega
theorem num_nil {w : World} {v : Value} (h : Num w v 0) : ∃ ao c, v = .slice ao 0 c := by
  obtain ⟨ao, n, c, rfl, hn, -⟩ := num_shape (k := 0) h (by decide)
  obtain rfl : n = 0 := by omega
  exact ⟨_, _, rfl⟩
end Go.Proofs.YtfoffjnffkgnaaaDoor

namespace Go.Proofs.YtfoffjnffkgnaaaDoor
open Go.RowKit NatM Go.Proofs.YtfoffjnffkgnaaaDoor.Api

theorem refDivide_any (va vb : Value) (xs ys : List Nat) (w : World) (ha : Reads w va xs) (hb : Reads w vb ys) (hs : xs.length ≤ 2000) (hs' : ys.length ≤ 2000) (hc : Canon ys) (h0 : val ys ≠ 0) :
    Calls Tryd.prog 54 #[va, vb] w (DivO w (val xs) (val ys)) := by
  rcases Nat.lt_or_ge (val xs) (val ys) with h | h
  · exact refDivide_less va vb xs ys w ha hb (by omega) (by omega) h
  · match hl : ys.length with
    | 0 => exact absurd (by rw [List.length_eq_zero_iff.1 hl]; rfl) h0
    | 1 =>
      obtain ⟨d, rfl⟩ : ∃ d, ys = [d] := List.length_eq_one_iff.1 hl
      have e : val [d] = d := by simp [val]
      rw [e] at h h0 ⊢
      exact refDivide_one va vb xs d w ha hb (by omega) (by omega) h
    | m + 2 => exact refDivide_long va vb xs ys m w ha hb hs hl hc (by omega) h
theorem refDivideN {v1 v2 : Value} {A B : Nat} {w : World} (h1 : Num w v1 A) (h2 : Num w v2 B) (h : Hid (A < pw 2000 ∧ B < pw 2000 ∧ B ≠ 0)) : Calls Tryd.prog 54 #[v1, v2] w (DivO w A B) := by
  obtain ⟨xs, r1, -, rfl, l1⟩ := num_reads h1 h.out.1
  obtain ⟨ys, r2, c2, rfl, l2⟩ := num_reads h2 h.out.2.1
  exact refDivide_any v1 v2 xs ys w r1 r2 l1 l2 c2 h.out.2.2

/-- Two results and an error number: with an error both are 0. -/
def ResP2 (w : World) (p : Nat × Nat × Nat) (e : Ending) (w' : World) : Prop := ∃ v u, e = .returned (.tuple #[v, u, .int .i64 (p.2.2 : Nat)]) ∧ Num w' v p.1 ∧ Num w' u p.2.1 ∧ Add w w'
def divS (A B : Nat) : Nat × Nat × Nat := if pw 512 ≤ A ∨ pw 512 ≤ B then (0, 0, 2) else if B = 0 then (0, 0, 3) else (A / B, A % B, 0)
set_option maxRecDepth 100000 in
set_option maxHeartbeats 2000000 in
theorem refDiv_any (va vb : Value) (xs ys : List Nat) (w : World) (ha : Reads w va xs) (hb : Reads w vb ys) (hs : xs.length ≤ 100000) (hs' : ys.length ≤ 100000) :
    Calls Tryd.prog 17 #[va, vb] w (ResP2 w (divS (val xs) (val ys))) := by
  by_cases hA : pw 512 ≤ val xs
  · have HS : Hid (divS (val xs) (val ys) = (0, 0, 2)) := Lib.hid (by unfold divS; rw [if_pos (.inl hA)])
    have LA := Lib.hid (refLarge_is true va xs w ha (by omega) (Lib.hid (decide_eq_true hA)))
    clear hA
    go_enter Tryd.func17, Tryd.ntmps17
    go_wp2_with fail
    refine LA.out.mono ?_; rintro e w1 ⟨rfl, h1⟩
    go_wp2_with fail
    go_ret3
    rw [HS.out]
    exact ⟨_, _, rfl, Num.nil _, Num.nil _, h1⟩
  · have LA := Lib.hid (refLarge_is false va xs w ha (by omega) (Lib.hid (decide_eq_false hA)))
    by_cases hB : pw 512 ≤ val ys
    · have HS : Hid (divS (val xs) (val ys) = (0, 0, 2)) := Lib.hid (by unfold divS; rw [if_pos (.inr hB)])
      have LB := fun w1 (h : Add w w1) => Lib.hid (refLarge_is true vb ys w1 (hb.mono h) (by omega) (Lib.hid (decide_eq_true hB)))
      clear hA hB
      go_enter Tryd.func17, Tryd.ntmps17
      go_wp2_with fail
      refine LA.out.mono ?_; rintro e w1 ⟨rfl, h1⟩
      go_wp2_with fail
      refine (LB _ h1).out.mono ?_; rintro e w2 ⟨rfl, h2⟩
      go_wp2_with fail
      go_ret3
      rw [HS.out]
      exact ⟨_, _, rfl, Num.nil _, Num.nil _, Add.trans h1 h2⟩
    · have LB := fun w1 (h : Add w w1) => Lib.hid (refLarge_is false vb ys w1 (hb.mono h) (by omega) (Lib.hid (decide_eq_false hB)))
      have TA := fun w1 (h : Add w w1) => Lib.hid (refTrim_any va xs w1 (ha.mono h) (by omega))
      have TB := fun w1 (h : Add w w1) => Lib.hid (refTrim_any vb ys w1 (hb.mono h) (by omega))
      have bA : Hid (val xs < pw 512) := Lib.hid (by omega)
      have bB : Hid (val ys < pw 512) := Lib.hid (by omega)
      have HSD : Hid (divS (val xs) (val ys) = if val ys = 0 then (0, 0, 3) else (val xs / val ys, val xs % val ys, 0)) := Lib.hid (by unfold divS; rw [if_neg (by omega)])
      clear hA hB
      by_cases h0 : val ys = 0
      · have HS : Hid (divS (val xs) (val ys) = (0, 0, 3)) := Lib.hid (by rw [HSD.out, if_pos h0])
        have H0 := Lib.hid h0
        clear h0
        go_enter Tryd.func17, Tryd.ntmps17
        go_wp2_with fail
        refine LA.out.mono ?_; rintro e w1 ⟨rfl, h1⟩
        go_wp2_with fail
        refine (LB _ h1).out.mono ?_; rintro e w2 ⟨rfl, h2⟩
        have h12 := Add.trans h1 h2
        go_wp2_with fail
        refine (TB _ h12).out.mono ?_; rintro e w3 ⟨v3, rfl, n3, h3⟩
        rw [H0.out] at n3
        obtain ⟨ao, c, rfl⟩ := num_nil n3.num
        have h13 := Add.trans h12 h3
        clear n3 h1 h2 h12 h3
        go_wp2_with fail
        go_ret3
        rw [HS.out]
        exact ⟨_, _, rfl, Num.nil _, Num.nil _, h13⟩
      · have HS : Hid (divS (val xs) (val ys) = (val xs / val ys, val xs % val ys, 0)) := Lib.hid (by rw [HSD.out, if_neg h0])
        have H0 := Lib.hid h0
        clear h0
        go_enter Tryd.func17, Tryd.ntmps17
        go_wp2_with fail
        refine LA.out.mono ?_; rintro e w1 ⟨rfl, h1⟩
        go_wp2_with fail
        refine (LB _ h1).out.mono ?_; rintro e w2 ⟨rfl, h2⟩
        have h12 := Add.trans h1 h2
        go_wp2_with fail
        refine (TB _ h12).out.mono ?_; rintro e w3 ⟨v3, rfl, n3, h3⟩
        obtain ⟨ao, n, c, rfl, -, hn0⟩ := num_shape n3.num bB.out
        have hne : ((n : Int) == 0) = false := by rw [beq_eq_false_iff_ne]; have := H0.out; omega
        have h13 := Add.trans h12 h3
        clear n3 h1 h2 h12 h3 hn0
        go_wp2_with fail
        refine (TA _ h13).out.mono ?_; rintro e w4 ⟨v4, rfl, n4, h4⟩
        have h14 := Add.trans h13 h4
        go_wp2_with fail
        refine (TB _ h14).out.mono ?_; rintro e w5 ⟨v5, rfl, n5, h5⟩
        have h15 := Add.trans h14 h5
        have n4' := n4.num.mono h5
        have n5' := n5.num
        clear h13 h14 h4 h5 n4 n5
        go_wp2_with fail
        refine (refDivideN n4' n5' (Lib.hid ⟨lt_up bA.out (by decide), lt_up bB.out (by decide), H0.out⟩)).mono ?_; rintro e w6 ⟨vq, vr, rfl, nq6, nr6, h6⟩
        have h16 := Add.trans h15 h6
        have q6 := nq6.num
        have r6 := nr6.num
        clear nq6 nr6 h15 h6 n4' n5'
        go_wp2_with fail
        go_ret3
        rw [HS.out]
        exact ⟨_, _, rfl, q6, r6, h16⟩
end Go.Proofs.YtfoffjnffkgnaaaDoor

namespace Go.Proofs.YtfoffjnffkgnaaaDoor
open Go.RowKit NatM Go.Proofs.YtfoffjnffkgnaaaDoor.Api

def gcdS (A B : Nat) : Nat × Nat := if pw 512 ≤ A ∨ pw 512 ≤ B then (0, 2) else (Nat.gcd A B, 0)
/-- What the loop of Gcd keeps. -/
def GSt (w : World) (G R : Nat) (x y : Value) (wr : World) : Prop := ∃ X, Num wr x X ∧ Num wr y R ∧ X < pw 512 ∧ R < pw 512 ∧ Nat.gcd X R = G ∧ Add w wr
set_option maxRecDepth 100000 in
set_option maxHeartbeats 2000000 in
theorem refGcd_any (va vb : Value) (xs ys : List Nat) (w : World) (ha : Reads w va xs) (hb : Reads w vb ys) (hs : xs.length ≤ 100000) (hs' : ys.length ≤ 100000) :
    Calls Tryd.prog 19 #[va, vb] w (ResP w (gcdS (val xs) (val ys))) := by
  by_cases hA : pw 512 ≤ val xs
  · have HS : Hid (gcdS (val xs) (val ys) = (0, 2)) := Lib.hid (by unfold gcdS; rw [if_pos (.inl hA)])
    have LA := Lib.hid (refLarge_is true va xs w ha (by omega) (Lib.hid (decide_eq_true hA)))
    clear hA
    go_enter Tryd.func19, Tryd.ntmps19
    go_wp2_with fail
    refine LA.out.mono ?_; rintro e w1 ⟨rfl, h1⟩
    go_wp2_with fail
    go_ret2
    rw [HS.out]
    exact ⟨_, rfl, Num.nil _, h1⟩
  · have LA := Lib.hid (refLarge_is false va xs w ha (by omega) (Lib.hid (decide_eq_false hA)))
    by_cases hB : pw 512 ≤ val ys
    · have HS : Hid (gcdS (val xs) (val ys) = (0, 2)) := Lib.hid (by unfold gcdS; rw [if_pos (.inr hB)])
      have LB := fun w1 (h : Add w w1) => Lib.hid (refLarge_is true vb ys w1 (hb.mono h) (by omega) (Lib.hid (decide_eq_true hB)))
      clear hA hB
      go_enter Tryd.func19, Tryd.ntmps19
      go_wp2_with fail
      refine LA.out.mono ?_; rintro e w1 ⟨rfl, h1⟩
      go_wp2_with fail
      refine (LB _ h1).out.mono ?_; rintro e w2 ⟨rfl, h2⟩
      go_wp2_with fail
      go_ret2
      rw [HS.out]
      exact ⟨_, rfl, Num.nil _, Add.trans h1 h2⟩
    · have LB := fun w1 (h : Add w w1) => Lib.hid (refLarge_is false vb ys w1 (hb.mono h) (by omega) (Lib.hid (decide_eq_false hB)))
      have TA := fun w1 (h : Add w w1) => Lib.hid (refTrim_any va xs w1 (ha.mono h) (by omega))
      have TB := fun w1 (h : Add w w1) => Lib.hid (refTrim_any vb ys w1 (hb.mono h) (by omega))
      have bA : Hid (val xs < pw 512) := Lib.hid (by omega)
      have bB : Hid (val ys < pw 512) := Lib.hid (by omega)
      obtain ⟨G, hG⟩ : ∃ G, G = Nat.gcd (val xs) (val ys) := ⟨_, rfl⟩
      have HS : Hid (gcdS (val xs) (val ys) = (G, 0)) := Lib.hid (by unfold gcdS; rw [if_neg (by omega), hG])
      have HG := Lib.hid hG
      obtain ⟨B, hBe⟩ : ∃ B, B = val ys := ⟨_, rfl⟩
      have HBE := Lib.hid hBe
      clear hA hB hG hBe
      go_enter Tryd.func19, Tryd.ntmps19
      go_wp2_with fail
      refine LA.out.mono ?_; rintro e w1 ⟨rfl, h1⟩
      go_wp2_with fail
      refine (LB _ h1).out.mono ?_; rintro e w2 ⟨rfl, h2⟩
      have h12 := Add.trans h1 h2
      go_wp2_with fail
      refine (TA _ h12).out.mono ?_; rintro e w3 ⟨v3, rfl, n3, h3⟩
      have h13 := Add.trans h12 h3
      go_wp2_with fail
      refine (TB _ h13).out.mono ?_; rintro e w4 ⟨v4, rfl, n4, h4⟩
      have hst : GSt w G B v3 v4 w4 := ⟨val xs, n3.num.mono h4, by rw [HBE.out]; exact n4.num, bA.out, by rw [HBE.out]; exact bB.out, by rw [HBE.out]; exact HG.out.symm, Add.trans h13 h4⟩
      clear n3 n4 h1 h2 h12 h3 h13 h4 LA LB TA TB
      go_wp2_with fail
      go_loopg [6, 7] B (fun R x y wr => ∃ xv yv : Value, xv = x ∧ yv = y ∧ GSt w G R xv yv wr)
      case atStart => exact ⟨_, _, rfl, rfl, hst⟩
      case round =>
        clear hst
        obtain ⟨xv, yv, rfl, rfl, X, nx, ny, hX, hR, hg, hadd⟩ := hrel
        obtain ⟨ao, n, c, rfl, -, hn0⟩ := num_shape ny hR
        by_cases h0 : gk = 0
        · obtain rfl : n = 0 := hn0.2 h0
          have hF : ResP w (gcdS (val xs) (val ys)) (.returned (.tuple #[xv, .int .i64 0])) wr := by
            rw [HS.out]
            refine ⟨_, rfl, ?_, hadd⟩
            rw [h0, Nat.gcd_zero_right] at hg
            rw [← hg]; exact nx
          clear nx ny hX hR hg hadd hn0 h0
          go_wp2_with fail
          go_ret2
          exact hF
        · have hn : 0 < n := by omega
          have dn : decide (0 < n) = true := decide_eq_true hn
          have HC := Lib.hid (refDivideN nx ny (Lib.hid ⟨lt_up hX (by decide), lt_up hR (by decide), h0⟩))
          have HG2 := Lib.hid hg
          have HR := Lib.hid hR
          have H0 := Lib.hid h0
          have hnst : ∀ (vr : Value) (w' : World), Num w' vr (X % gk) → Add wr w' → GSt w G (X % gk) (.slice ao n c) vr w' := fun vr w' h1 h2 =>
            ⟨gk, ny.mono h2, h1, HR.out, Nat.lt_trans (Nat.mod_lt _ (Nat.pos_of_ne_zero H0.out)) HR.out, by rw [← HG2.out, Nat.gcd_comm gk, ← Nat.gcd_rec, Nat.gcd_comm], Add.trans hadd h2⟩
          have HNST := Lib.hid hnst
          clear nx ny hX hR hg hadd hn0 h0 hnst
          go_wp2_with fail
          refine HC.out.mono ?_; rintro e w5 ⟨vq, vr, rfl, -, nr5, h5⟩
          have hst5 := HNST.out vr w5 nr5.num h5
          clear nr5 h5 HC
          go_wp2_with fail
          go_roundg (X % gk)
          case measure => exact Nat.mod_lt _ (Nat.pos_of_ne_zero H0.out)
          case rel => exact ⟨_, _, rfl, rfl, hst5⟩
end Go.Proofs.YtfoffjnffkgnaaaDoor

namespace Go.Proofs.YtfoffjnffkgnaaaDoor
open Go.RowKit NatM Go.Proofs.YtfoffjnffkgnaaaDoor.Api

def shiftS (A : Nat) (n : Int) : Nat × Nat :=
  if pw 512 ≤ A then (0, 2) else if A = 0 ∨ n < -16384 then (0, 0) else if n < 0 then (A / 2 ^ (-n).toNat, 0) else if 16384 < n then (0, 2) else if pw 512 ≤ A * 2 ^ n.toNat then (0, 2) else (A * 2 ^ n.toNat, 0)
set_option maxRecDepth 100000 in
set_option maxHeartbeats 2000000 in
theorem refShift_any (va : Value) (xs : List Nat) (n : Int) (w : World) (ha : Reads w va xs) (hs : xs.length ≤ 100000) (hn1 : -9223372036854775808 ≤ n) (hn2 : n ≤ 9223372036854775807) :
    Calls Tryd.prog 21 #[va, .int .i64 n] w (ResP w (shiftS (val xs) n)) := by
  by_cases hA : pw 512 ≤ val xs
  · have HS : Hid (shiftS (val xs) n = (0, 2)) := Lib.hid (by unfold shiftS; rw [if_pos hA])
    have LA := Lib.hid (refLarge_is true va xs w ha (by omega) (Lib.hid (decide_eq_true hA)))
    clear hA
    go_enter Tryd.func21, Tryd.ntmps21
    go_wp2_with fail
    refine LA.out.mono ?_; rintro e w1 ⟨rfl, h1⟩
    go_wp2_with fail
    go_ret2
    rw [HS.out]
    exact ⟨_, rfl, Num.nil _, h1⟩
  · have LA := Lib.hid (refLarge_is false va xs w ha (by omega) (Lib.hid (decide_eq_false hA)))
    have TA := fun w1 (h : Add w w1) => Lib.hid (refTrim_any va xs w1 (ha.mono h) (by omega))
    have bA : Hid (val xs < pw 512) := Lib.hid (by omega)
    obtain ⟨A, hAe⟩ : ∃ A, A = val xs := ⟨_, rfl⟩
    rw [← hAe] at bA ⊢
    simp only [← hAe] at TA
    obtain ⟨p, hp⟩ : ∃ p, p = shiftS A n := ⟨_, rfl⟩
    rw [← hp]
    have HP : Hid (p = if A = 0 ∨ n < -16384 then (0, 0) else if n < 0 then (A / 2 ^ (-n).toNat, 0) else if 16384 < n then (0, 2) else if pw 512 ≤ A * 2 ^ n.toNat then (0, 2) else (A * 2 ^ n.toNat, 0)) := Lib.hid (by rw [hp]; unfold shiftS; rw [if_neg (by rw [hAe]; exact hA)])
    clear hA hAe hp ha
    by_cases h0 : A = 0
    · have HS : Hid (p = (0, 0)) := Lib.hid (by rw [HP.out, if_pos (.inl h0)])
      have H0 := Lib.hid h0
      clear h0
      go_enter Tryd.func21, Tryd.ntmps21
      go_wp2_with fail
      refine LA.out.mono ?_; rintro e w1 ⟨rfl, h1⟩
      go_wp2_with fail
      refine (TA _ h1).out.mono ?_; rintro e w3 ⟨v3, rfl, n3, h3⟩
      rw [H0.out] at n3
      obtain ⟨ao, c, rfl⟩ := num_nil n3.num
      have h13 := Add.trans h1 h3
      clear n3 h1 h3
      go_wp2_with fail
      go_ret2
      rw [HS.out]
      exact ⟨_, rfl, Num.nil _, h13⟩
    · have H0 := Lib.hid h0
      by_cases hl : n < -16384
      · have HS : Hid (p = (0, 0)) := Lib.hid (by rw [HP.out, if_pos (.inr hl)])
        have dl : decide (n < -16384) = true := decide_eq_true hl
        clear h0
        go_enter Tryd.func21, Tryd.ntmps21
        go_wp2_with fail
        refine LA.out.mono ?_; rintro e w1 ⟨rfl, h1⟩
        go_wp2_with fail
        refine (TA _ h1).out.mono ?_; rintro e w3 ⟨v3, rfl, n3, h3⟩
        obtain ⟨ao, m, c, rfl, -, hm0⟩ := num_shape n3.num bA.out
        have hne : ((m : Int) == 0) = false := by rw [beq_eq_false_iff_ne]; have := H0.out; omega
        have h13 := Add.trans h1 h3
        clear n3 h1 h3 hm0
        go_wp2_with fail
        go_ret2
        rw [HS.out]
        exact ⟨_, rfl, Num.nil _, h13⟩
      · have dl : decide (n < -16384) = false := decide_eq_false hl
        by_cases hneg : n < 0
        · obtain ⟨k, hk⟩ : ∃ k : Nat, -n = (k : Int) := ⟨(-n).toNat, by omega⟩
          have HS : Hid (p = (A / 2 ^ k, 0)) := Lib.hid (by rw [HP.out, if_neg (by omega), if_pos hneg, hk, Int.toNat_natCast])
          have dneg : decide (n < 0) = true := decide_eq_true hneg
          clear h0
          go_enter Tryd.func21, Tryd.ntmps21
          go_wp2_with fail
          refine LA.out.mono ?_; rintro e w1 ⟨rfl, h1⟩
          go_wp2_with fail
          refine (TA _ h1).out.mono ?_; rintro e w3 ⟨v3, rfl, n3, h3⟩
          obtain ⟨zs, rz, -, ez, lz⟩ := n3.reads bA.out
          obtain ⟨ao, m, c, rfl, -, hm0⟩ := num_shape n3.num bA.out
          have hne : ((m : Int) == 0) = false := by rw [beq_eq_false_iff_ne]; have := H0.out; omega
          have h13 := Add.trans h1 h3
          have HD := Lib.hid (refDown_any _ zs k w3 rz (by omega) (by omega))
          rw [ez] at HD
          clear n3 h1 h3 hm0 rz ez
          go_wp2_with fail
          refine HD.out.mono ?_; rintro e w4 ⟨v4, rfl, n4, h4⟩
          have n4' := n4.num
          clear n4
          go_wp2_with fail
          go_ret2
          rw [HS.out]
          exact ⟨_, rfl, n4', Add.trans h13 h4⟩
        · obtain ⟨k, rfl⟩ : ∃ k : Nat, n = (k : Int) := ⟨n.toNat, by omega⟩
          have dneg : decide ((k : Int) < 0) = false := decide_eq_false hneg
          by_cases hbig : 16384 < k
          · have HS : Hid (p = (0, 2)) := Lib.hid (by rw [HP.out, if_neg (by omega), if_neg (by omega), if_pos (by omega)])
            have dbig : decide (16384 < k) = true := decide_eq_true hbig
            clear h0
            go_enter Tryd.func21, Tryd.ntmps21
            go_wp2_with fail
            refine LA.out.mono ?_; rintro e w1 ⟨rfl, h1⟩
            go_wp2_with fail
            refine (TA _ h1).out.mono ?_; rintro e w3 ⟨v3, rfl, n3, h3⟩
            obtain ⟨ao, m, c, rfl, -, hm0⟩ := num_shape n3.num bA.out
            have hne : ((m : Int) == 0) = false := by rw [beq_eq_false_iff_ne]; have := H0.out; omega
            have h13 := Add.trans h1 h3
            clear n3 h1 h3 hm0
            go_wp2_with fail
            go_ret2
            rw [HS.out]
            exact ⟨_, rfl, Num.nil _, h13⟩
          · have dbig : decide (16384 < k) = false := decide_eq_false hbig
            obtain ⟨N, hN⟩ : ∃ N, N = A * 2 ^ k := ⟨_, rfl⟩
            have HS2 : Hid (p = if pw 512 ≤ N then (0, 2) else (N, 0)) := Lib.hid (by rw [HP.out, if_neg (by omega), if_neg (by omega), if_neg (by omega), Int.toNat_natCast, hN])
            have hNb : Hid (N < pw 2000) := Lib.hid (by
              rw [hN]
              have h3 : ∀ L, 512 < L → 2 ^ k < pw L := fun L hL => by
                rw [pw_two]; exact Nat.pow_lt_pow_right (by decide) (by omega)
              have h2 := h3 513 (by decide)
              exact lt_up (lt_mul bA.out h2) (by decide))
            have HN := Lib.hid hN
            clear h0 hN
            go_enter Tryd.func21, Tryd.ntmps21
            go_wp2_with fail
            refine LA.out.mono ?_; rintro e w1 ⟨rfl, h1⟩
            go_wp2_with fail
            refine (TA _ h1).out.mono ?_; rintro e w3 ⟨v3, rfl, n3, h3⟩
            obtain ⟨zs, rz, -, ez, lz⟩ := n3.reads bA.out
            obtain ⟨ao, m, c, rfl, -, hm0⟩ := num_shape n3.num bA.out
            have hne : ((m : Int) == 0) = false := by rw [beq_eq_false_iff_ne]; have := H0.out; omega
            have h13 := Add.trans h1 h3
            have HD := Lib.hid (refUp_any _ zs k w3 rz (by omega) (by omega))
            rw [ez, ← HN.out] at HD
            clear n3 h1 h3 hm0 rz ez
            go_wp2_with fail
            refine HD.out.mono ?_; rintro e w4 ⟨v4, rfl, n4, h4⟩
            have h14 := Add.trans h13 h4
            have n4' := n4.num
            clear n4 h13 h4 HD
            by_cases hb2 : pw 512 ≤ N
            · have HS : Hid (p = (0, 2)) := Lib.hid (by rw [HS2.out, if_pos hb2])
              have HL := Lib.hid (refLargeN true n4' hNb (Lib.hid (decide_eq_true hb2)))
              clear hb2
              go_wp2_with fail
              refine HL.out.mono ?_; rintro e w5 ⟨rfl, h5⟩
              go_wp2_with fail
              go_ret2
              rw [HS.out]
              exact ⟨_, rfl, Num.nil _, Add.trans h14 h5⟩
            · have HS : Hid (p = (N, 0)) := Lib.hid (by rw [HS2.out, if_neg hb2])
              have HL := Lib.hid (refLargeN false n4' hNb (Lib.hid (decide_eq_false hb2)))
              clear hb2
              go_wp2_with fail
              refine HL.out.mono ?_; rintro e w5 ⟨rfl, h5⟩
              go_wp2_with fail
              go_ret2
              rw [HS.out]
              exact ⟨_, rfl, n4'.mono h5, Add.trans h14 h5⟩
end Go.Proofs.YtfoffjnffkgnaaaDoor

namespace Go.Proofs.YtfoffjnffkgnaaaDoor
open Go.RowKit NatM Go.Proofs.YtfoffjnffkgnaaaDoor.Api

theorem natAdd_any (va vb : Value) (xs ys : List Nat) (w : World) (ha : Reads w va xs) (hb : Reads w vb ys) (hs : xs.length ≤ 100000) (hs' : ys.length ≤ 100000) :
    Calls Tryd.prog 9 #[va, vb] w (ResP w (addS (val xs) (val ys))) := by
  by_cases h : val xs + val ys < pw 512
  · unfold addS; rw [if_pos h]
    exact (add_ok va vb xs ys w ha hb (by omega) (by omega) h).mono fun e w' g => okP_res g
  · unfold addS; rw [if_neg h]
    exact (add_big va vb xs ys w ha hb (by omega) (by omega) (by omega)).mono fun e w' g => errP_res (k := 2) g
theorem natSub_any (va vb : Value) (xs ys : List Nat) (w : World) (ha : Reads w va xs) (hb : Reads w vb ys) (hs : xs.length ≤ 100000) (_hs' : ys.length ≤ 100000) :
    Calls Tryd.prog 11 #[va, vb] w (ResP w (subS (val xs) (val ys))) := by
  unfold subS
  by_cases h : pw 512 ≤ val xs ∨ pw 512 ≤ val ys
  · rw [if_pos h]
    exact (sub_big va vb xs ys w ha hb h).mono fun e w' g => errP_res (k := 2) g
  · rw [if_neg h]
    by_cases hl : val xs < val ys
    · rw [if_pos hl]
      exact (sub_neg va vb xs ys w ha hb (by omega) (by omega) hl).mono fun e w' g => errP_res (k := 4) g
    · rw [if_neg hl]
      exact (sub_ok va vb xs ys w ha hb (by omega) (by omega) (by omega) (by omega)).mono fun e w' g => okP_res g
theorem natMul_any (va vb : Value) (xs ys : List Nat) (w : World) (ha : Reads w va xs) (hb : Reads w vb ys) (hs : xs.length ≤ 100000) (hs' : ys.length ≤ 100000) :
    Calls Tryd.prog 13 #[va, vb] w (ResP w (mulS (val xs) (val ys))) := by
  unfold mulS
  by_cases h : pw 512 ≤ val xs ∨ pw 512 ≤ val ys
  · rw [if_pos (by omega)]
    exact (mul_big va vb xs ys w ha hb h).mono fun e w' g => errP_res (k := 2) g
  · obtain ⟨N, hN⟩ : ∃ N, N = val xs * val ys := ⟨_, rfl⟩
    by_cases hl : pw 512 ≤ val xs * val ys
    · rw [if_pos (.inr (.inr hl))]
      exact (mul_over va vb xs ys w ha hb (by omega) (by omega) (by omega) (by omega) hl).mono fun e w' g => errP_res (k := 2) g
    · rw [if_neg (by rw [← hN] at hl ⊢; omega)]
      exact (mul_ok va vb xs ys w ha hb (by omega) (by omega) (by omega) (by omega) (by rw [← hN] at hl ⊢; omega)).mono fun e w' g => okP_res g
theorem natDiv_any (va vb : Value) (xs ys : List Nat) (w : World) (ha : Reads w va xs) (hb : Reads w vb ys) (hs : xs.length ≤ 100000) (hs' : ys.length ≤ 100000) :
    Calls Tryd.prog 16 #[va, vb] w (ResP2 w (divS (val xs) (val ys))) := by
  unfold divS
  by_cases h : pw 512 ≤ val xs ∨ pw 512 ≤ val ys
  · rw [if_pos h]
    refine (div_big va vb xs ys w ha hb h).mono ?_
    rintro e w' ⟨rfl, g⟩
    exact ⟨_, _, rfl, Num.nil _, Num.nil _, g⟩
  · rw [if_neg h]
    by_cases h0 : val ys = 0
    · rw [if_pos h0]
      refine (div_zero va vb xs ys w ha hb (by omega) h0).mono ?_
      rintro e w' ⟨rfl, g⟩
      exact ⟨_, _, rfl, Num.nil _, Num.nil _, g⟩
    · rw [if_neg h0]
      refine (div_ok va vb xs ys w ha hb (by omega) (by omega) (by omega) (by omega) h0).mono ?_
      rintro e w' ⟨vq, vr, rfl, g1, g2, g3⟩
      exact ⟨_, _, rfl, g1, g2, g3⟩
theorem natGcd_any (va vb : Value) (xs ys : List Nat) (w : World) (ha : Reads w va xs) (hb : Reads w vb ys) (hs : xs.length ≤ 100000) (hs' : ys.length ≤ 100000) :
    Calls Tryd.prog 18 #[va, vb] w (ResP w (gcdS (val xs) (val ys))) := by
  unfold gcdS
  by_cases h : pw 512 ≤ val xs ∨ pw 512 ≤ val ys
  · rw [if_pos h]
    exact (gcd_big va vb xs ys w ha hb h).mono fun e w' g => errP_res (k := 2) g
  · rw [if_neg h]
    exact (gcd_ok va vb xs ys w ha hb (by omega) (by omega) (by omega) (by omega)).mono fun e w' g => okP_res g
theorem natShift_any (va : Value) (xs : List Nat) (n : Int) (w : World) (ha : Reads w va xs) (hs : xs.length ≤ 100000) :
    Calls Tryd.prog 20 #[va, .int .i64 n] w (ResP w (shiftS (val xs) n)) := by
  unfold shiftS
  by_cases hA : pw 512 ≤ val xs
  · rw [if_pos hA]
    exact (shift_big va xs n w ha (by omega) hA).mono fun e w' g => errP_res (k := 2) g
  · rw [if_neg hA]
    have hA' : val xs < pw 512 := by omega
    have hnb : nb (val xs) ≤ 16384 := nb_lt_pw.1 hA'
    by_cases h0 : val xs = 0 ∨ n < -16384
    · rw [if_pos h0]
      have hz : nb (val xs) = 0 ∨ n ≤ -(nb (val xs) : Int) := by
        rcases h0 with h | h
        · exact .inl (nb_eq_zero.2 h)
        · exact .inr (by omega)
      exact (shift_zero va xs n w ha (by omega) hA' hz).mono fun e w' g => okP_res g
    · rw [if_neg h0]
      have hnz : nb (val xs) ≠ 0 := fun e => h0 (.inl (nb_eq_zero.1 e))
      have hvz : val xs ≠ 0 := fun e => h0 (.inl e)
      by_cases hneg : n < 0
      · rw [if_pos hneg]
        obtain ⟨k, hk⟩ : ∃ k : Nat, -n = (k : Int) := ⟨(-n).toNat, by omega⟩
        rw [hk, Int.toNat_natCast]
        obtain rfl : n = -(k : Int) := by omega
        rcases Nat.lt_or_ge k (nb (val xs)) with h | h
        · exact (shift_down va xs k w ha (by omega) hA' (by omega) h).mono fun e w' g => okP_res g
        · rw [shift_out h]
          exact (shift_zero va xs _ w ha (by omega) hA' (.inr (by omega))).mono fun e w' g => okP_res g
      · rw [if_neg hneg]
        obtain ⟨k, rfl⟩ : ∃ k : Nat, n = (k : Int) := ⟨n.toNat, by omega⟩
        rw [Int.toNat_natCast]
        have hsh : val xs * 2 ^ k < pw 512 ↔ nb (val xs) + k ≤ 16384 := by rw [nb_lt_pw, nb_shift hvz]
        obtain ⟨N, hN⟩ : ∃ N, N = val xs * 2 ^ k := ⟨_, rfl⟩
        rw [← hN] at hsh ⊢
        rcases Nat.lt_or_ge 16384 (nb (val xs) + k) with h | h
        · have hb : pw 512 ≤ N := by
            rcases Nat.lt_or_ge N (pw 512) with h2 | h2
            · have := hsh.1 h2; omega
            · exact h2
          rw [show (if (16384 : Int) < (k : Int) then ((0, 2) : Nat × Nat) else if pw 512 ≤ N then (0, 2) else (N, 0)) = (0, 2) from by
            rw [if_pos hb]; exact ite_self _]
          exact (shift_over va xs k w ha (by omega) hA' hnz (by omega)).mono fun e w' g => errP_res (k := 2) g
        · have hb := hsh.2 h
          rw [if_neg (by omega), if_neg (by omega), hN]
          exact (shift_up va xs k w ha (by omega) hA' hnz h).mono fun e w' g => okP_res g
end Go.Proofs.YtfoffjnffkgnaaaDoor

namespace Go.Proofs.YtfoffjnffkgnaaaDoor.Api
open Go.Proofs.YtfoffjnffkgnaaaDoor Go.RowKit NatM

/-- v reads in w as a list of limbs with the value N, and is not monstrously long. -/
def Nv (w : World) (v : Value) (N : Nat) : Prop := ∃ xs, Reads w v xs ∧ val xs = N ∧ xs.length ≤ 100000
theorem Nv.mono {w w' : World} {v : Value} {N : Nat} (h : Nv w v N) (hb : Add w w') : Nv w' v N := by
  obtain ⟨xs, h1, h2, h3⟩ := h; exact ⟨xs, h1.mono hb, h2, h3⟩
theorem Nv.nu {w : World} {v : Value} {N : Nat} (h : Nv w v N) : Nu w v N := by
  obtain ⟨xs, h1, h2, h3⟩ := h; exact ⟨xs, h1, h2, by omega⟩
theorem num_nv {w : World} {v : Value} {N : Nat} (h : Num w v N) (hN : N < pw 1000) : Nv w v N := by
  obtain ⟨zs, h1, h2, h3⟩ := h
  refine ⟨zs, h1, h3, ?_⟩
  have : tlen zs ≤ 1000 := tlen_le_of_val 1000 (by rw [h3]; exact hN)
  unfold Canon at h2; omega
theorem Nv.nil (w : World) : Nv w (.slice none 0 0) 0 := ⟨[], Reads.nil w, rfl, by decide⟩
end Go.Proofs.YtfoffjnffkgnaaaDoor.Api

namespace Go.Proofs.YtfoffjnffkgnaaaDoor.Api
open Go.Proofs.YtfoffjnffkgnaaaDoor Go.RowKit NatM

theorem natAddX (p : Nat × Nat) {va vb : Value} {A B : Nat} {w : World} (ha : Nv w va A) (hb : Nv w vb B) (h : Hid (addS A B = p)) : Calls Tryd.prog 9 #[va, vb] w (ResP w p) := by
  obtain ⟨xs, r, rfl, l⟩ := ha
  obtain ⟨ys, r', rfl, l'⟩ := hb
  have := h.out
  subst this
  exact natAdd_any va vb xs ys w r r' l l'
theorem refAddX (p : Nat × Nat) {va vb : Value} {A B : Nat} {w : World} (ha : Nv w va A) (hb : Nv w vb B) (h : Hid (addS A B = p)) : Calls Tryd.prog 10 #[va, vb] w (ResP w p) := by
  obtain ⟨xs, r, rfl, l⟩ := ha
  obtain ⟨ys, r', rfl, l'⟩ := hb
  have := h.out
  subst this
  exact refAdd_any va vb xs ys w r r' l l'
theorem natSubX (p : Nat × Nat) {va vb : Value} {A B : Nat} {w : World} (ha : Nv w va A) (hb : Nv w vb B) (h : Hid (subS A B = p)) : Calls Tryd.prog 11 #[va, vb] w (ResP w p) := by
  obtain ⟨xs, r, rfl, l⟩ := ha
  obtain ⟨ys, r', rfl, l'⟩ := hb
  have := h.out
  subst this
  exact natSub_any va vb xs ys w r r' l l'
theorem refSubX (p : Nat × Nat) {va vb : Value} {A B : Nat} {w : World} (ha : Nv w va A) (hb : Nv w vb B) (h : Hid (subS A B = p)) : Calls Tryd.prog 12 #[va, vb] w (ResP w p) := by
  obtain ⟨xs, r, rfl, l⟩ := ha
  obtain ⟨ys, r', rfl, l'⟩ := hb
  have := h.out
  subst this
  exact refSub_any va vb xs ys w r r' l l'
theorem natMulX (p : Nat × Nat) {va vb : Value} {A B : Nat} {w : World} (ha : Nv w va A) (hb : Nv w vb B) (h : Hid (mulS A B = p)) : Calls Tryd.prog 13 #[va, vb] w (ResP w p) := by
  obtain ⟨xs, r, rfl, l⟩ := ha
  obtain ⟨ys, r', rfl, l'⟩ := hb
  have := h.out
  subst this
  exact natMul_any va vb xs ys w r r' l l'
theorem refMulX (p : Nat × Nat) {va vb : Value} {A B : Nat} {w : World} (ha : Nv w va A) (hb : Nv w vb B) (h : Hid (mulS A B = p)) : Calls Tryd.prog 14 #[va, vb] w (ResP w p) := by
  obtain ⟨xs, r, rfl, l⟩ := ha
  obtain ⟨ys, r', rfl, l'⟩ := hb
  have := h.out
  subst this
  exact refMul_any va vb xs ys w r r' l l'
theorem natDivX (p : Nat × Nat × Nat) {va vb : Value} {A B : Nat} {w : World} (ha : Nv w va A) (hb : Nv w vb B) (h : Hid (divS A B = p)) : Calls Tryd.prog 16 #[va, vb] w (ResP2 w p) := by
  obtain ⟨xs, r, rfl, l⟩ := ha
  obtain ⟨ys, r', rfl, l'⟩ := hb
  have := h.out
  subst this
  exact natDiv_any va vb xs ys w r r' l l'
theorem refDivX (p : Nat × Nat × Nat) {va vb : Value} {A B : Nat} {w : World} (ha : Nv w va A) (hb : Nv w vb B) (h : Hid (divS A B = p)) : Calls Tryd.prog 17 #[va, vb] w (ResP2 w p) := by
  obtain ⟨xs, r, rfl, l⟩ := ha
  obtain ⟨ys, r', rfl, l'⟩ := hb
  have := h.out
  subst this
  exact refDiv_any va vb xs ys w r r' l l'
theorem natGcdX (p : Nat × Nat) {va vb : Value} {A B : Nat} {w : World} (ha : Nv w va A) (hb : Nv w vb B) (h : Hid (gcdS A B = p)) : Calls Tryd.prog 18 #[va, vb] w (ResP w p) := by
  obtain ⟨xs, r, rfl, l⟩ := ha
  obtain ⟨ys, r', rfl, l'⟩ := hb
  have := h.out
  subst this
  exact natGcd_any va vb xs ys w r r' l l'
theorem refGcdX (p : Nat × Nat) {va vb : Value} {A B : Nat} {w : World} (ha : Nv w va A) (hb : Nv w vb B) (h : Hid (gcdS A B = p)) : Calls Tryd.prog 19 #[va, vb] w (ResP w p) := by
  obtain ⟨xs, r, rfl, l⟩ := ha
  obtain ⟨ys, r', rfl, l'⟩ := hb
  have := h.out
  subst this
  exact refGcd_any va vb xs ys w r r' l l'
theorem natShiftX (p : Nat × Nat) {va : Value} {A : Nat} {n : Int} {w : World} (ha : Nv w va A) (h : Hid (shiftS A n = p)) : Calls Tryd.prog 20 #[va, .int .i64 n] w (ResP w p) := by
  obtain ⟨xs, r, rfl, l⟩ := ha
  have := h.out
  subst this
  exact natShift_any va xs n w r l
theorem refShiftX (p : Nat × Nat) {va : Value} {A : Nat} {n : Int} {w : World} (ha : Nv w va A) (h : Hid (shiftS A n = p ∧ -9223372036854775808 ≤ n ∧ n ≤ 9223372036854775807)) : Calls Tryd.prog 21 #[va, .int .i64 n] w (ResP w p) := by
  obtain ⟨xs, r, rfl, l⟩ := ha
  obtain ⟨h1, h2, h3⟩ := h.out
  subst h1
  exact refShift_any va xs n w r l h2 h3
theorem natCmpX (X : Int) {va vb : Value} {A B : Nat} {w : World} (ha : Nv w va A) (hb : Nv w vb B) (h : Hid (cmpI A B = X)) : Calls Tryd.prog 22 #[va, vb] w (IntIs w X) := cmpN X ha.nu hb.nu h
theorem refCmpX (X : Int) {va vb : Value} {A B : Nat} {w : World} (ha : Nv w va A) (hb : Nv w vb B) (h : Hid (cmpI A B = X)) : Calls Tryd.prog 23 #[va, vb] w (IntIs w X) := by
  obtain ⟨xs, r, rfl, l⟩ := ha
  obtain ⟨ys, r', rfl, l'⟩ := hb
  have := h.out
  subst this
  exact refCmp_any va vb xs ys w r r' (by omega) (by omega)
theorem natBitsX (X : Nat) {va : Value} {A : Nat} {w : World} (ha : Nv w va A) (h : Hid (nb A = X)) : Calls Tryd.prog 24 #[va] w (IntIs w (X : Nat)) := bitsN X ha.nu h
theorem refBitsX (X : Nat) {va : Value} {A : Nat} {w : World} (ha : Nv w va A) (h : Hid (nb A = X)) : Calls Tryd.prog 25 #[va] w (IntIs w (X : Nat)) := by
  obtain ⟨xs, r, rfl, l⟩ := ha
  have := h.out
  subst this
  exact refBits_any va xs w r l
theorem natMakeX (v : Nat) {w : World} (h : Hid (v < 18446744073709551616)) : Calls Tryd.prog 26 #[.int .u64 (v : Nat)] w (NumP w v) := by
  have h1 := h.out
  exact make_any (v : Nat) w (by omega) (by omega)
theorem natMakeZ (v : Nat) {z : Int} {w : World} (h : Hid (z = (v : Int) ∧ v < 18446744073709551616)) : Calls Tryd.prog 26 #[.int .u64 z] w (NumP w v) := by
  obtain ⟨rfl, h1⟩ := h.out
  exact make_any (v : Nat) w (by omega) (by omega)
theorem refMakeX (v : Nat) {w : World} (h : Hid (v < 18446744073709551616)) : Calls Tryd.prog 27 #[.int .u64 (v : Nat)] w (NumP w v) := by
  have h1 := h.out
  refine (refMake_any (v : Nat) w (by omega) (by omega)).mono ?_
  rintro e w' ⟨v1, rfl, n1, h1⟩
  exact ⟨v1, rfl, n1.num, h1⟩
theorem refMakeZ (v : Nat) {z : Int} {w : World} (h : Hid (z = (v : Int) ∧ v < 18446744073709551616)) : Calls Tryd.prog 27 #[.int .u64 z] w (NumP w v) := by
  obtain ⟨rfl, h1⟩ := h.out
  refine (refMake_any (v : Nat) w (by omega) (by omega)).mono ?_
  rintro e w' ⟨v1, rfl, n1, h1⟩
  exact ⟨v1, rfl, n1.num, h1⟩
theorem natTrimX {va : Value} {A : Nat} {w : World} (ha : Nv w va A) : Calls Tryd.prog 28 #[va] w (NumP w A) := by
  obtain ⟨xs, r, rfl, l⟩ := ha
  refine (trim_any va xs w r (by omega)).mono ?_
  rintro e w' ⟨g, n, rfl, h1, rfl, h3⟩
  refine ⟨_, rfl, ⟨_, h1.reads (by have := tlen_le xs; unfold maxLen; omega) (r.limbs.take _), Canon.trim xs, val_trim xs⟩, h3⟩
theorem refTrimX {va : Value} {A : Nat} {w : World} (ha : Nv w va A) : Calls Tryd.prog 29 #[va] w (NumP w A) := by
  obtain ⟨xs, r, rfl, l⟩ := ha
  refine (refTrim_any va xs w r (by omega)).mono ?_
  rintro e w' ⟨v1, rfl, n1, h1⟩
  exact ⟨v1, rfl, n1.num, h1⟩
end Go.Proofs.YtfoffjnffkgnaaaDoor.Api

namespace Go.Proofs.YtfoffjnffkgnaaaDoor.Api
open Go.Proofs.YtfoffjnffkgnaaaDoor Go.RowKit NatM

/-! The guard: long(a), long(a, b), long(a, b, c). -/
theorem cells1 (w : World) (va : Value) : ∀ i, i < 1 → (w.alloc (.cells #[va] 23)).cell? ⟨w.heap.size, i, none⟩ = some (([va] : List Value).getD i (.slice none 0 0)) := by
  intro i hi
  rw [World.cell?_alloc_new]
  obtain rfl : i = 0 := by omega
  rfl
theorem cells2 (w : World) (va vb : Value) : ∀ i, i < 2 → (w.alloc (.cells #[va, vb] 23)).cell? ⟨w.heap.size, i, none⟩ = some (([va, vb] : List Value).getD i (.slice none 0 0)) := by
  intro i hi
  rw [World.cell?_alloc_new]
  have : i = 0 ∨ i = 1 := by omega
  rcases this with rfl | rfl <;> rfl
theorem cells3 (w : World) (va vb vc : Value) : ∀ i, i < 3 → (w.alloc (.cells #[va, vb, vc] 23)).cell? ⟨w.heap.size, i, none⟩ = some (([va, vb, vc] : List Value).getD i (.slice none 0 0)) := by
  intro i hi
  rw [World.cell?_alloc_new]
  have : i = 0 ∨ i = 1 ∨ i = 2 := by omega
  rcases this with rfl | rfl | rfl <;> rfl
theorem slices1 {va : Value} (ha : IsSlice va) : ∀ i, i < 1 → IsSlice (([va] : List Value).getD i (.slice none 0 0)) := by
  intro i hi
  obtain rfl : i = 0 := by omega
  exact ha
theorem slices2 {va vb : Value} (ha : IsSlice va) (hb : IsSlice vb) : ∀ i, i < 2 → IsSlice (([va, vb] : List Value).getD i (.slice none 0 0)) := by
  intro i hi
  have : i = 0 ∨ i = 1 := by omega
  rcases this with rfl | rfl
  · exact ha
  · exact hb
theorem slices3 {va vb vc : Value} (ha : IsSlice va) (hb : IsSlice vb) (hc : IsSlice vc) : ∀ i, i < 3 → IsSlice (([va, vb, vc] : List Value).getD i (.slice none 0 0)) := by
  intro i hi
  have : i = 0 ∨ i = 1 ∨ i = 2 := by omega
  rcases this with rfl | rfl | rfl
  · exact ha
  · exact hb
  · exact hc
theorem long1 (b : Bool) {va : Value} {xs : List Nat} {w : World} (ha : Reads w va xs) (h : decide (60 < xs.length) = b) :
    Calls Tryd.prog 7 #[.slice (some ⟨w.heap.size, 0, none⟩) 1 1] (w.alloc (.cells #[va] 23)) (LongP (w.alloc (.cells #[va] 23)) b) :=
  long_is b w.heap.size 1 [va] _ rfl (by omega) (cells1 w _) (slices1 ha.isSlice) (by rw [← h]; simp [ha.lenV])
theorem long2 (b : Bool) {va vb : Value} {xs ys : List Nat} {w : World} (ha : Reads w va xs) (hb : Reads w vb ys) (h : decide (60 < xs.length ∨ 60 < ys.length) = b) :
    Calls Tryd.prog 7 #[.slice (some ⟨w.heap.size, 0, none⟩) 2 2] (w.alloc (.cells #[va, vb] 23)) (LongP (w.alloc (.cells #[va, vb] 23)) b) :=
  long_is b w.heap.size 2 [va, vb] _ rfl (by omega) (cells2 w _ _) (slices2 ha.isSlice hb.isSlice) (by rw [← h]; simp [ha.lenV, hb.lenV])
theorem long3 (b : Bool) {va vb vc : Value} {xs ys zs : List Nat} {w : World} (ha : Reads w va xs) (hb : Reads w vb ys) (hc : Reads w vc zs) (h : decide (60 < xs.length ∨ 60 < ys.length ∨ 60 < zs.length) = b) :
    Calls Tryd.prog 7 #[.slice (some ⟨w.heap.size, 0, none⟩) 3 3] (w.alloc (.cells #[va, vb, vc] 23)) (LongP (w.alloc (.cells #[va, vb, vc] 23)) b) :=
  long_is b w.heap.size 3 [va, vb, vc] _ rfl (by omega) (cells3 w _ _ _) (slices3 ha.isSlice hb.isSlice hc.isSlice) (by rw [← h]; simp [ha.lenV, hb.lenV, hc.lenV])
end Go.Proofs.YtfoffjnffkgnaaaDoor.Api

namespace Go.Proofs.YtfoffjnffkgnaaaDoor.Exact
open Go.Proofs.YtfoffjnffkgnaaaDoor Go.Proofs.YtfoffjnffkgnaaaDoor.Api Go.RowKit NatM
set_option maxRecDepth 100000 in
theorem exact_long (va : Value) (vb : Value) (xs : List Nat) (ys : List Nat) (w : World) (ra : Reads w va xs) (rb : Reads w vb ys)  (v : Nat) (n : Int) (hl : 60 < xs.length ∨ 60 < ys.length) :
    Calls Tryd.prog 3 #[va, vb, .int .u64 (v : Nat), .int .i64 n] w (LawP w) := by
  have hL : decide (60 < xs.length ∨ 60 < ys.length) = true := decide_eq_true hl
  have HLONG := Lib.hid (long2 true ra rb hL)
  obtain ⟨a0, n0, k0, rfl, -⟩ := ra.isSlice
  obtain ⟨a1, n1, k1, rfl, -⟩ := rb.isSlice
  clear hL hl ra rb
  go_enter Tryd.func3, Tryd.ntmps3
  go_wp2_with fail
  refine HLONG.out.mono ?_
  rintro e w' ⟨rfl, rfl⟩
  go_wp2_with fail
  refine (awake_any _).mono ?_
  rintro e w' ⟨rfl, hadd⟩
  go_wp2_with fail
  go_ret
  exact ⟨rfl, Add.trans ((Below.refl _ _).alloc (Nat.le_refl _) _) hadd⟩

set_option maxRecDepth 100000 in
set_option maxHeartbeats 8000000 in
theorem exact_short (va : Value) (vb : Value) (xs : List Nat) (ys : List Nat) (w : World) (ra : Reads w va xs) (rb : Reads w vb ys) (la : xs.length ≤ 60) (lb : ys.length ≤ 60)  (v : Nat) (hv : v < 18446744073709551616) (n : Int) (hn1 : -9223372036854775808 ≤ n) (hn2 : n ≤ 9223372036854775807) :
    Calls Tryd.prog 3 #[va, vb, .int .u64 (v : Nat), .int .i64 n] w (LawP w) := by
  have hL : decide (60 < xs.length ∨ 60 < ys.length) = false := decide_eq_false (by omega)
  have HLONG := Lib.hid (long2 false ra rb hL)
  obtain ⟨A, hA⟩ : ∃ A, A = val xs := ⟨_, rfl⟩
  have sA : A < pw 60 := by rw [hA]; exact small60 ra.limbs la
  have u_a : Nu w va A := ⟨xs, ra, hA.symm, by omega⟩
  obtain ⟨B, hB⟩ : ∃ B, B = val ys := ⟨_, rfl⟩
  have sB : B < pw 60 := by rw [hB]; exact small60 rb.limbs lb
  have u_b : Nu w vb B := ⟨ys, rb, hB.symm, by omega⟩
  obtain ⟨a0, n0, k0, rfl, -⟩ := ra.isSlice
  obtain ⟨a1, n1, k1, rfl, -⟩ := rb.isSlice
  have T : Add w (w.alloc (.cells #[.slice a0 n0 k0, .slice a1 n1 k1] 23)) := (Below.refl _ _).alloc (Nat.le_refl _) _
  replace u_a := u_a.mono T
  replace u_b := u_b.mono T
  replace u_a : Nv (w.alloc (.cells #[.slice a0 n0 k0, .slice a1 n1 k1] 23)) (.slice a0 n0 k0) A := ⟨xs, ra.mono T, hA.symm, by omega⟩
  replace u_b : Nv (w.alloc (.cells #[.slice a0 n0 k0, .slice a1 n1 k1] 23)) (.slice a1 n1 k1) B := ⟨ys, rb.mono T, hB.symm, by omega⟩
  obtain ⟨pa, hpa⟩ : ∃ p, addS A B = p := ⟨_, rfl⟩
  have Fpa := Lib.hid hpa
  obtain ⟨ps, hps⟩ : ∃ p, subS A B = p := ⟨_, rfl⟩
  have Fps := Lib.hid hps
  obtain ⟨pm, hpm⟩ : ∃ p, mulS A B = p := ⟨_, rfl⟩
  have Fpm := Lib.hid hpm
  obtain ⟨pd, hpd⟩ : ∃ p, divS A B = p := ⟨_, rfl⟩
  have Fpd := Lib.hid hpd
  obtain ⟨pg, hpg⟩ : ∃ p, gcdS A B = p := ⟨_, rfl⟩
  have Fpg := Lib.hid hpg
  obtain ⟨ph, hph⟩ : ∃ p, shiftS A n = p := ⟨_, rfl⟩
  have Fph := Lib.hid hph
  have Fph2 : Hid (shiftS A n = ph ∧ -9223372036854775808 ≤ n ∧ n ≤ 9223372036854775807) := Lib.hid ⟨hph, hn1, hn2⟩
  obtain ⟨X, hX⟩ : ∃ X, cmpI A B = X := ⟨_, rfl⟩
  have FX := Lib.hid hX
  obtain ⟨Y, hY⟩ : ∃ Y, nb A = Y := ⟨_, rfl⟩
  have FY := Lib.hid hY
  have FV : Hid (v < 18446744073709551616) := Lib.hid hv
  clear hpa hps hpm hpd hpg hph hX hY hv hn1 hn2
  clear hL hA ra la hB rb lb sA sB
  go_enter Tryd.func3, Tryd.ntmps3
  go_wp2_with fail
  refine HLONG.out.mono ?_
  rintro e w' ⟨rfl, rfl⟩
  clear HLONG
  go_wp2_with fail
  refine (natAddX pa u_a u_b Fpa).mono ?_
  rintro e w1 ⟨v_s, rfl, n_s, h1⟩
  replace u_a := u_a.mono h1
  replace u_b := u_b.mono h1
  replace T := Add.trans T h1
  clear h1
  go_wp2_with fail
  refine (refAddX pa u_a u_b Fpa).mono ?_
  rintro e w2 ⟨v_t, rfl, n_t, h2⟩
  replace u_a := u_a.mono h2
  replace u_b := u_b.mono h2
  replace n_s := n_s.mono h2
  replace T := Add.trans T h2
  clear h2
  go_wp2_with fail
  refine (natSubX ps u_a u_b Fps).mono ?_
  rintro e w3 ⟨v_d, rfl, n_d, h3⟩
  replace u_a := u_a.mono h3
  replace u_b := u_b.mono h3
  replace n_s := n_s.mono h3
  replace n_t := n_t.mono h3
  replace T := Add.trans T h3
  clear h3
  go_wp2_with fail
  refine (refSubX ps u_a u_b Fps).mono ?_
  rintro e w4 ⟨v_c, rfl, n_c, h4⟩
  replace u_a := u_a.mono h4
  replace u_b := u_b.mono h4
  replace n_s := n_s.mono h4
  replace n_t := n_t.mono h4
  replace n_d := n_d.mono h4
  replace T := Add.trans T h4
  clear h4
  go_wp2_with fail
  refine (natMulX pm u_a u_b Fpm).mono ?_
  rintro e w5 ⟨v_m, rfl, n_m, h5⟩
  replace u_a := u_a.mono h5
  replace u_b := u_b.mono h5
  replace n_s := n_s.mono h5
  replace n_t := n_t.mono h5
  replace n_d := n_d.mono h5
  replace n_c := n_c.mono h5
  replace T := Add.trans T h5
  clear h5
  go_wp2_with fail
  refine (refMulX pm u_a u_b Fpm).mono ?_
  rintro e w6 ⟨v_o, rfl, n_o, h6⟩
  replace u_a := u_a.mono h6
  replace u_b := u_b.mono h6
  replace n_s := n_s.mono h6
  replace n_t := n_t.mono h6
  replace n_d := n_d.mono h6
  replace n_c := n_c.mono h6
  replace n_m := n_m.mono h6
  replace T := Add.trans T h6
  clear h6
  go_wp2_with fail
  refine (sameN true n_s n_t (Lib.hid (decide_eq_true rfl))).mono ?_
  rintro e w7 ⟨rfl, h7⟩
  replace u_a := u_a.mono h7
  replace u_b := u_b.mono h7
  replace n_d := n_d.mono h7
  replace n_c := n_c.mono h7
  replace n_m := n_m.mono h7
  replace n_o := n_o.mono h7
  replace T := Add.trans T h7
  clear n_s n_t h7
  go_wp2_with fail
  refine (sameN true n_d n_c (Lib.hid (decide_eq_true rfl))).mono ?_
  rintro e w8 ⟨rfl, h8⟩
  replace u_a := u_a.mono h8
  replace u_b := u_b.mono h8
  replace n_m := n_m.mono h8
  replace n_o := n_o.mono h8
  replace T := Add.trans T h8
  clear n_d n_c h8
  go_wp2_with fail
  refine (sameN true n_m n_o (Lib.hid (decide_eq_true rfl))).mono ?_
  rintro e w9 ⟨rfl, h9⟩
  replace u_a := u_a.mono h9
  replace u_b := u_b.mono h9
  replace T := Add.trans T h9
  clear n_m n_o h9
  go_wp2_with fail
  refine (natDivX pd u_a u_b Fpd).mono ?_
  rintro e w10 ⟨v_q, v_r, rfl, n_q, n_r, h10⟩
  replace u_a := u_a.mono h10
  replace u_b := u_b.mono h10
  replace T := Add.trans T h10
  clear h10
  go_wp2_with fail
  refine (refDivX pd u_a u_b Fpd).mono ?_
  rintro e w11 ⟨v_x, v_y, rfl, n_x, n_y, h11⟩
  replace u_a := u_a.mono h11
  replace u_b := u_b.mono h11
  replace n_q := n_q.mono h11
  replace n_r := n_r.mono h11
  replace T := Add.trans T h11
  clear h11
  go_wp2_with fail
  refine (natGcdX pg u_a u_b Fpg).mono ?_
  rintro e w12 ⟨v_u, rfl, n_u, h12⟩
  replace u_a := u_a.mono h12
  replace u_b := u_b.mono h12
  replace n_q := n_q.mono h12
  replace n_r := n_r.mono h12
  replace n_x := n_x.mono h12
  replace n_y := n_y.mono h12
  replace T := Add.trans T h12
  clear h12
  go_wp2_with fail
  refine (refGcdX pg u_a u_b Fpg).mono ?_
  rintro e w13 ⟨v_g, rfl, n_g, h13⟩
  replace u_a := u_a.mono h13
  replace u_b := u_b.mono h13
  replace n_q := n_q.mono h13
  replace n_r := n_r.mono h13
  replace n_x := n_x.mono h13
  replace n_y := n_y.mono h13
  replace n_u := n_u.mono h13
  replace T := Add.trans T h13
  clear h13
  go_wp2_with fail
  refine (sameN true n_q n_x (Lib.hid (decide_eq_true rfl))).mono ?_
  rintro e w14 ⟨rfl, h14⟩
  replace u_a := u_a.mono h14
  replace u_b := u_b.mono h14
  replace n_r := n_r.mono h14
  replace n_y := n_y.mono h14
  replace n_u := n_u.mono h14
  replace n_g := n_g.mono h14
  replace T := Add.trans T h14
  clear n_q n_x h14
  go_wp2_with fail
  refine (sameN true n_r n_y (Lib.hid (decide_eq_true rfl))).mono ?_
  rintro e w15 ⟨rfl, h15⟩
  replace u_a := u_a.mono h15
  replace u_b := u_b.mono h15
  replace n_u := n_u.mono h15
  replace n_g := n_g.mono h15
  replace T := Add.trans T h15
  clear n_r n_y h15
  go_wp2_with fail
  refine (sameN true n_u n_g (Lib.hid (decide_eq_true rfl))).mono ?_
  rintro e w16 ⟨rfl, h16⟩
  replace u_a := u_a.mono h16
  replace u_b := u_b.mono h16
  replace T := Add.trans T h16
  clear n_u n_g h16
  go_wp2_with fail
  refine (natShiftX ph u_a Fph).mono ?_
  rintro e w17 ⟨v_up, rfl, n_up, h17⟩
  replace u_a := u_a.mono h17
  replace u_b := u_b.mono h17
  replace T := Add.trans T h17
  clear h17
  go_wp2_with fail
  refine (refShiftX ph u_a Fph2).mono ?_
  rintro e w18 ⟨v_want, rfl, n_want, h18⟩
  replace u_a := u_a.mono h18
  replace u_b := u_b.mono h18
  replace n_up := n_up.mono h18
  replace T := Add.trans T h18
  clear h18
  go_wp2_with fail
  refine (sameN true n_up n_want (Lib.hid (decide_eq_true rfl))).mono ?_
  rintro e w19 ⟨rfl, h19⟩
  replace u_a := u_a.mono h19
  replace u_b := u_b.mono h19
  replace T := Add.trans T h19
  clear n_up n_want h19
  go_wp2_with fail
  refine (natCmpX X u_a u_b FX).mono ?_
  rintro e w20 ⟨rfl, h20⟩
  replace u_a := u_a.mono h20
  replace u_b := u_b.mono h20
  replace T := Add.trans T h20
  clear h20
  go_wp2_with fail
  refine (refCmpX X u_a u_b FX).mono ?_
  rintro e w21 ⟨rfl, h21⟩
  replace u_a := u_a.mono h21
  replace T := Add.trans T h21
  clear u_b h21
  go_wp2_with fail
  refine (natBitsX Y u_a FY).mono ?_
  rintro e w22 ⟨rfl, h22⟩
  replace u_a := u_a.mono h22
  replace T := Add.trans T h22
  clear h22
  go_wp2_with fail
  refine (refBitsX Y u_a FY).mono ?_
  rintro e w23 ⟨rfl, h23⟩
  replace u_a := u_a.mono h23
  replace T := Add.trans T h23
  clear h23
  go_wp2_with fail
  refine (natMakeX v FV).mono ?_
  rintro e w24 ⟨v_k1, rfl, n_k1, h24⟩
  replace u_a := u_a.mono h24
  replace T := Add.trans T h24
  clear h24
  go_wp2_with fail
  refine (refMakeX v FV).mono ?_
  rintro e w25 ⟨v_k2, rfl, n_k2, h25⟩
  replace u_a := u_a.mono h25
  replace n_k1 := n_k1.mono h25
  replace T := Add.trans T h25
  clear h25
  go_wp2_with fail
  refine (sameN true n_k1 n_k2 (Lib.hid (decide_eq_true rfl))).mono ?_
  rintro e w26 ⟨rfl, h26⟩
  replace u_a := u_a.mono h26
  replace T := Add.trans T h26
  clear n_k1 n_k2 h26
  go_wp2_with fail
  refine (natTrimX u_a).mono ?_
  rintro e w27 ⟨v_t1, rfl, n_t1, h27⟩
  replace u_a := u_a.mono h27
  replace T := Add.trans T h27
  clear h27
  go_wp2_with fail
  refine (refTrimX u_a).mono ?_
  rintro e w28 ⟨v_t2, rfl, n_t2, h28⟩
  replace n_t1 := n_t1.mono h28
  replace T := Add.trans T h28
  clear u_a h28
  go_wp2_with fail
  refine (sameN true n_t1 n_t2 (Lib.hid (decide_eq_true rfl))).mono ?_
  rintro e w29 ⟨rfl, h29⟩
  replace T := Add.trans T h29
  clear n_t1 n_t2 h29
  go_wp2_with fail
  refine (awake_any _).mono ?_
  rintro e w' ⟨rfl, hadd⟩
  go_wp2_with fail
  go_ret
  exact ⟨rfl, Add.trans T hadd⟩
end Go.Proofs.YtfoffjnffkgnaaaDoor.Exact

namespace Go.Proofs.YtfoffjnffkgnaaaDoor
open Go.ChangeShapes Go.WideShapes Go.ChangeAt Go.RowKit NatM

theorem own : ownKnob Tryd.prog.godebug = none := by kernel_rfl
theorem laidOut : laidOutB Tryd.prog = true := by kernel_rfl
theorem cells44 : Tryd.prog.cellsOf 50 = 1 := by kernel_rfl

theorem wf_nat {z : Int} (h : (Lit.int .u32 z).wf = true) : 0 ≤ z ∧ z < 4294967296 := by
  have h1 : IntKind.u32.min = 0 := rfl
  have h2 : IntKind.u32.max = 4294967295 := rfl
  simp only [Lit.wf, Bool.and_eq_true, decide_eq_true_eq] at h
  omega

set_option maxRecDepth 100000 in
/-- An argument of type api.Nat reads as a list of limbs. -/
theorem open_nat {H : Type} {enc : TypeId × Value → H} {W : World} {base : Nat} {v : Value} {d : DataW H} {ps : List MemPlace} (hok : Value.okWide Tryd.prog W .any base 23 v) (h : DataW.Trod enc Tryd.prog W 0 (fun _ => true) true 23 v d ps) :
    ∃ xs, Reads W v xs := by
  obtain ⟨fuel, hf⟩ := h
  obtain ⟨a0, len0, cap0, rfl⟩ := okWide_slice Tryd.underlying23 hok
  rcases open_ints Tryd.underlying23 Tryd.underlying50 cells44 hf with ⟨hcs, _⟩ | ⟨a, len, cap, zs, hcs, _, hl, hm, hz, _, hcell, hwz⟩
  · simp [Value.cells] at hcs
    obtain ⟨rfl, rfl, rfl⟩ := hcs
    exact ⟨[], Reads.nil W⟩
  · simp [Value.cells] at hcs
    obtain ⟨rfl, rfl, rfl⟩ := hcs
    simp only [if_true] at hz
    refine ⟨(zs.take len0).map Int.toNat, some a, len0, cap0, rfl, by simp; omega, hl, hm, ?_, ?_⟩
    · intro x hx
      obtain ⟨z, hz', rfl⟩ := List.mem_map.1 hx
      have := wf_nat (hwz z (List.mem_of_mem_take hz'))
      omega
    · intro hn
      obtain ⟨b, off, rfl, hc⟩ := ints_at hcell (by omega)
      refine ⟨b, off, rfl, fun i hi => ?_⟩
      rw [hc i (by omega)]
      have hi' : i < zs.length := by omega
      have hw := wf_nat (hwz (zs.getD i 0) (by simp [List.getD, hi']))
      have : ((zs.take len0).map Int.toNat).getD i 0 = (zs.getD i 0).toNat := by
        simp [List.getD, hi, hi']
      rw [this, Int.toNat_of_nonneg hw.1]

/-- A world for the witness: the settled one, with Go's two tables of package utf8 in their blocks. -/
def layRow (l : List Nat) : Obj → Obj
  | .cells _ t frozen => .cells (l.map fun n => Value.int .u8 (n : Nat)).toArray t frozen
  | o => o
noncomputable def laidWorld (os : Os) : World :=
  { World.holding Tryd.prog os ⟨#[], #[], []⟩ with heap := ((World.holding Tryd.prog os ⟨#[], #[], []⟩).heap.modify 1 (layRow Pinned.utf8FirstZ)).modify 2 (layRow ([128, 191, 160, 191, 128, 159, 144, 191, 128, 143] ++ List.replicate 22 0)) }
theorem laid_met (os : Os) (args : Array Value) : laidMet Tryd.prog [("unicode/utf8.acceptRanges", Rows.laid_unicode_utf8_acceptRanges), ("unicode/utf8.first", Rows.laid_unicode_utf8_first)] ((laidWorld os).forCall (fun _ _ => 0) ⟨#[], args, []⟩).memory :=
  laidMet_of_run' 8 (by kernel_rfl) (by kernel_rfl)

/-- An argument reads behind the call as it read before. -/
theorem kept_arg {H : Type} {enc : TypeId × Value → H} {W W' : World} {t : TypeId} {v : Value} {d : DataW H} {ps : List MemPlace} (hr : Tryd.prog.readableRec t = true) (ht : t < Tryd.prog.types.size)
    (h : DataW.Trod enc Tryd.prog W 0 (fun _ => true) true t v d ps) (hb : Add W W') (hlt : ∀ x ∈ ps, x.block < W.heap.size) : DataW.Trod enc Tryd.prog W' 0 (fun b => decide (b < W.heap.size)) true t v d ps :=
  Below.trod laidOut hr ht h hb hlt
theorem readNat : Tryd.prog.readableRec 23 = true := by kernel_rfl
theorem ltNat : 23 < Tryd.prog.types.size := of_decide_eq_true (by kernel_rfl)
end Go.Proofs.YtfoffjnffkgnaaaDoor

namespace Go.Proofs.YtfoffjnffkgnaaaDoor
open NatM
theorem byte_nat {z : Int} (h : (Lit.int .u8 z).wf = true) : ∃ n : Nat, n ≤ 255 ∧ z = (n : Int) := by
  have h1 : IntKind.u8.min = 0 := rfl
  have h2 : IntKind.u8.max = 255 := rfl
  simp only [Lit.wf, Bool.and_eq_true, decide_eq_true_eq] at h
  exact ⟨z.toNat, by omega, by omega⟩
theorem word_nat {z : Int} (h : (Lit.int .u16 z).wf = true) : ∃ n : Nat, n ≤ 65535 ∧ z = (n : Int) := by
  have h1 : IntKind.u16.min = 0 := rfl
  have h2 : IntKind.u16.max = 65535 := rfl
  simp only [Lit.wf, Bool.and_eq_true, decide_eq_true_eq] at h
  exact ⟨z.toNat, by omega, by omega⟩
theorem long_nat {z : Int} (h : (Lit.int .u64 z).wf = true) : ∃ n : Nat, n < 18446744073709551616 ∧ z = (n : Int) := by
  have h1 : IntKind.u64.min = 0 := rfl
  have h2 : IntKind.u64.max = 18446744073709551615 := rfl
  simp only [Lit.wf, Bool.and_eq_true, decide_eq_true_eq] at h
  exact ⟨z.toNat, by omega, by omega⟩
theorem int_bounds {z : Int} (h : (Lit.int .i64 z).wf = true) : -9223372036854775808 ≤ z ∧ z ≤ 9223372036854775807 := by
  have h1 : IntKind.i64.min = -9223372036854775808 := rfl
  have h2 : IntKind.i64.max = 9223372036854775807 := rfl
  simp only [Lit.wf, Bool.and_eq_true, decide_eq_true_eq] at h
  omega
end Go.Proofs.YtfoffjnffkgnaaaDoor

namespace Go.Proofs.YtfoffjnffkgnaaaDoor.fnNaturalExact
open Go.Proofs.YtfoffjnffkgnaaaDoor Go.Proofs.YtfoffjnffkgnaaaDoor.Api Go.ChangeShapes Go.WideShapes Go.ChangeAt Go.RowKit NatM
set_option maxRecDepth 100000 in
/-- What the walk gives, for every argument. -/
theorem contract (H : Type) (enc : TypeId × Value → H) (W : World) (base : Nat) (args : Array Value) (ds gs : List (DataW H)) (before : List MemPlace)
    (hval : ∀ (j : Nat) t v, Tryd.f3.params[j]? = some t → args[j]? = some v → Value.okWide Tryd.prog W .any base t v)
    (hW : DataW.Whole enc Tryd.prog Tryd.f3.params.toList Rows.naturalExactSpec.vars false W args.toList ds gs before) :
    Calls Tryd.prog 3 args W fun e W' => ∃ v, e = .returned v ∧ Rows.naturalExactSpec.post enc Tryd.prog Tryd.f3 false true false false W args v W' := by
  have hW' := hW
  obtain ⟨p, q, hA0, hV, rfl, -, -⟩ := hW
  have hA : DataW.TrodAll enc Tryd.prog W 0 (fun _ => true) true Tryd.f3.params.toList args.toList ds p := hA0
  rw [Tryd.params3] at hA hval
  obtain ⟨v0, vs0, d0, ds0, p0, q0, hargs0, rfl, rfl, h0, t0⟩ := trodAll_cons hA
  obtain ⟨v1, vs1, d1, ds1, p1, q1, hargs1, rfl, rfl, h1, t1⟩ := trodAll_cons t0
  obtain ⟨v2, vs2, d2, ds2, p2, q2, hargs2, rfl, rfl, h2, t2⟩ := trodAll_cons t1
  obtain ⟨v3, vs3, d3, ds3, p3, q3, hargs3, rfl, rfl, h3, t3⟩ := trodAll_cons t2
  obtain ⟨rfl, rfl, rfl⟩ := trodAll_nil t3
  obtain rfl : args = #[v0, v1, v2, v3] := by cases args; simp_all
  obtain ⟨rfl, rfl⟩ := trodVars_none hV
  obtain ⟨xs0, r0⟩ := open_nat (hval 0 23 v0 rfl rfl) h0
  obtain ⟨xs1, r1⟩ := open_nat (hval 1 23 v1 rfl rfl) h1
  obtain ⟨m2, rfl, rfl, rfl, wf2⟩ := open_int Tryd.underlying24 (hval 2 24 v2 rfl rfl) h2
  obtain ⟨m3, rfl, rfl, rfl, wf3⟩ := open_int Tryd.underlying3 (hval 3 3 v3 rfl rfl) h3
  clear hA0
  simp only [List.append_nil] at hW'
  have hlt : ∀ x, x ∈ p0 ++ p1 → x.block < W.heap.size := fun x hx => by simpa using hW'.lt x (by simpa using hx)
  have walk : Calls Tryd.prog 3 #[v0, v1, (.int .u64 m2), (.int .i64 m3)] W (LawP W) := by
    obtain ⟨v, hv, rfl⟩ := long_nat wf2
    obtain ⟨hn1, hn2⟩ := int_bounds wf3
    by_cases hl : 60 < xs0.length ∨ 60 < xs1.length
    · exact Exact.exact_long _ _ xs0 xs1 W r0 r1 v m3 hl
    · exact Exact.exact_short _ _ xs0 xs1 W r0 r1 (by omega) (by omega) v hv m3 hn1 hn2
  refine walk.mono fun e W' ⟨he, hb⟩ => ?_
  subst he
  have hargs := trodAll_cons_mk (kept_arg readNat ltNat h0 hb fun x hx => hlt x (by simp [hx])) (trodAll_cons_mk (kept_arg readNat ltNat h1 hb fun x hx => hlt x (by simp [hx])) (trodAll_cons_mk (shut_int Tryd.underlying24 wf2) (trodAll_cons_mk (shut_int Tryd.underlying3 wf3) (trodAll_mk0))))
  exact ⟨_, rfl, _, _, _, [], _, [], hW', trodAll_cons_mk (shut_bool Tryd.underlying4 _) trodAll_mk0, hargs, rfl, Below.frame hb _, fun h => by cases h⟩

def wArgs : Array Value := #[.slice none 0 0, .slice none 0 0, .int .u64 0, .int .i64 0]
theorem reads (os : Os) {H : Type} (enc : TypeId × Value → H) : ∃ places, DataW.whole enc Tryd.prog ((laidWorld os).forCall (fun _ _ => 0) ⟨#[], wArgs, []⟩).memory Tryd.f3.params.toList Rows.naturalExactSpec.vars false wArgs.toList 8 = some ([.nil, .nil, .lit (.int .u64 0), .lit (.int .i64 0)], [], places) :=
  ⟨[], by kernel_rfl⟩

set_option maxRecDepth 100000 in
theorem lifted (os : Os) (started : os.Started) (H : Type) (enc : TypeId × Value → H) (F : Stop.Interp) :
    ReturnsInHanded {} Tryd.checked os 3 .any ((OpenSpec.ofChange Rows.naturalExactSpec).preRow enc Tryd.prog Tryd.f3 Rows.naturalExactRow.domain false Rows.naturalExactRow.laid) (((OpenSpec.ofChange Rows.naturalExactSpec).at F).post enc Tryd.prog Tryd.f3 false true false false) := by
  obtain ⟨places, hx⟩ := reads os enc
  refine returnsInHanded_of_row (C := Tryd.checked) (s := OpenSpec.ofChange Rows.naturalExactSpec) own started (by kernel_rfl) Tryd.func3
    (witness_row_at (enc := enc) (C := Tryd.checked) false (laidWorld os) wArgs rfl (by kernel_rfl) (by kernel_rfl) (by kernel_rfl)
      (OpenSpec.preRow_of_cond 8 hx (by kernel_rfl) (fun k hk => by cases hk) (by kernel_rfl) (laid_met os _))) ?_
  intro W base args ds gs before hval hW _ _ _ _ _ _
  exact contract H enc W base args ds gs before hval hW

theorem said : Rows.NaturalExactSaid :=
  OpenClaim.holds_of_cond 3 Tryd.f3 rfl rfl rfl rfl rfl rfl rfl ⟨rfl, rfl, rfl, rfl, rfl⟩ rfl rfl rfl rfl rfl (by kernel_rfl) Tryd.func3 (by kernel_rfl)
    (of_decide_eq_true (by kernel_rfl)) (by unfold Func.isWrapper; first | (rw [if_pos (by decide +kernel)]; kernel_rfl) | (rw [if_neg (by decide +kernel)]; exact ⟨rfl, rfl⟩))
    (fun os started H enc _ F => by rw [OpenClaim.pre_eq_preRow]; exact lifted os started H enc F)

theorem plain (f : FuncId) (fn : Func) (hf : Tryd.pinned.checked.prog.funcNamed "drydock/drydocklaw01.NaturalExact" = some f) (hfn : Tryd.pinned.checked.prog.funcs[f]? = some fn) :
    false = Tryd.pinned.checked.prog.looks [] ∧ ∀ (j : Nat) t, fn.params[j]? = some t → Tryd.pinned.checked.prog.wantsStandIn t = false := by
  obtain rfl : f = 3 := Option.some.inj ((show Tryd.prog.funcNamed "drydock/drydocklaw01.NaturalExact" = some 3 by kernel_rfl).symm.trans hf) |>.symm
  obtain rfl : fn = Tryd.f3 := (Option.some.inj (Tryd.func3.symm.trans hfn)).symm
  refine ⟨by kernel_rfl, fun j t ht => ?_⟩
  rw [Tryd.params3] at ht
  have hm : t ∈ [23, 23, 24, 3] := by
    have := Array.mem_of_getElem? ht
    simpa using this
  have hall : ([23, 23, 24, 3].all fun u => !Tryd.prog.wantsStandIn u) = true := by kernel_rfl
  exact (show Tryd.prog.wantsStandIn t = false by simpa using List.all_eq_true.1 hall t hm)

/-- The card. -/
theorem card : Rows.NaturalExactCardSaid :=
  Claim7.holds_tied_plain_at .later [] _ _ _ _ said (fun _ h => by cases h) (by kernel_rfl) (fun _ h => by cases h) naturalExact_row_tie rfl ⟨rfl, rfl⟩ (by kernel_rfl) rfl plain (by kernel_rfl)
end Go.Proofs.YtfoffjnffkgnaaaDoor.fnNaturalExact
namespace Go.Proofs.YtfoffjnffkgnaaaDoor
theorem naturalExact_card : Rows.NaturalExactCardSaid := fnNaturalExact.card
end Go.Proofs.YtfoffjnffkgnaaaDoor
