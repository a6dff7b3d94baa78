/- The law NaturalLimits returns true for all arguments, and leaves them as they were: the row and its card.
(With the texts that only this claim joins: Results and errors, in one form. | The shape of a canonical row. | The reference's divide for all divisors, and its Div. | The reference's Gcd. | The reference's Shift. | The operations of package natural, with their errors, answer what the reference answers. | Numbers as the callers of package natural hold them. | Every operation on numbers, of package natural and of the reference, by one answer; the premises are hidden. | What the laws of layer 1 share: the guard on long lists. | The law NaturalLimits: its walk, for all arguments. | What the cards of the laws share: how arguments open, a world for the witness, and what stays of the arguments. | Arguments that are numbers.) -/
import Derived.Test.YtfoffjnffkgnaaaDoorR5
import Derived.Test.YtfoffjnffkgnaaaDoorR7
import Derived.Test.YtfoffjnffkgnaaaDoorR11
import Derived.Deep.LoopGhost
import Derived.Test.YtfoffjnffkgnaaaDoorW23
import Derived.Test.YtfoffjnffkgnaaaDoorA2
import Derived.Test.YtfoffjnffkgnaaaDoorA
import Derived.Test.YtfoffjnffkgnaaaDoorCards
import Derived.Test.YtfoffjnffkgnaaaDoorTie
import Derived.Test.YtfoffjnffkgnaaaDoorW9
import Derived.WalkKit
import Derived.ProofKit
import Derived.OpenShut
import Derived.Deep.DeepHandedRow

namespace Go.Proofs.YtfoffjnffkgnaaaDoor
open Go.RowKit NatM Go.Proofs.YtfoffjnffkgnaaaDoor.Api

theorem okP_res {w : World} {N : Nat} {e : Ending} {w' : World} (h : OkP w N e w') : ResP w (N, 0) e w' := by
  obtain ⟨v, rfl, h1, h2⟩ := h
  exact ⟨v, rfl, h1, h2⟩
theorem errP_res {w : World} {k : Nat} {e : Ending} {w' : World} (h : ErrP w (k : Nat) e w') : ResP w (0, k) e w' := by
  obtain ⟨rfl, h2⟩ := h
  exact ⟨_, rfl, Num.nil _, h2⟩
end Go.Proofs.YtfoffjnffkgnaaaDoor

namespace Go.Proofs.YtfoffjnffkgnaaaDoor
open Go.RowKit NatM Go.Proofs.YtfoffjnffkgnaaaDoor.Api

theorem num_shape {w : World} {v : Value} {N k : Nat} (h : Num w v N) (hN : N < pw k) : ∃ ao n c, v = .slice ao n c ∧ n ≤ k ∧ (n = 0 ↔ N = 0) := by
  obtain ⟨zs, ⟨ao, n, c, rfl, hl, -⟩, hc, e, l⟩ := num_reads h hN
  refine ⟨ao, n, c, rfl, by omega, ?_⟩
  unfold Canon at hc
  rw [← e, val_eq_zero]; omega
theorem num_nil {w : World} {v : Value} (h : Num w v 0) : ∃ ao c, v = .slice ao 0 c := by
  obtain ⟨ao, n, c, rfl, hn, -⟩ := num_shape (k := 0) h (by decide)
  obtain rfl : n = 0 := by omega
  exact ⟨_, _, rfl⟩
end Go.Proofs.YtfoffjnffkgnaaaDoor

namespace Go.Proofs.YtfoffjnffkgnaaaDoor
open Go.RowKit NatM Go.Proofs.YtfoffjnffkgnaaaDoor.Api

theorem refDivide_any (va vb : Value) (xs ys : List Nat) (w : World) (ha : Reads w va xs) (hb : Reads w vb ys) (hs : xs.length ≤ 2000) (hs' : ys.length ≤ 2000) (hc : Canon ys) (h0 : val ys ≠ 0) :
    Calls Tryd.prog 54 #[va, vb] w (DivO w (val xs) (val ys)) := by
  rcases Nat.lt_or_ge (val xs) (val ys) with h | h
  · exact refDivide_less va vb xs ys w ha hb (by omega) (by omega) h
  · match hl : ys.length with
    | 0 => exact absurd (by rw [List.length_eq_zero_iff.1 hl]; rfl) h0
    | 1 =>
      obtain ⟨d, rfl⟩ : ∃ d, ys = [d] := List.length_eq_one_iff.1 hl
      have e : val [d] = d := by simp [val]
      rw [e] at h h0 ⊢
      exact refDivide_one va vb xs d w ha hb (by omega) (by omega) h
    | m + 2 => exact refDivide_long va vb xs ys m w ha hb hs hl hc (by omega) h
theorem refDivideN {v1 v2 : Value} {A B : Nat} {w : World} (h1 : Num w v1 A) (h2 : Num w v2 B) (h : Hid (A < pw 2000 ∧ B < pw 2000 ∧ B ≠ 0)) : Calls Tryd.prog 54 #[v1, v2] w (DivO w A B) := by
  obtain ⟨xs, r1, -, rfl, l1⟩ := num_reads h1 h.out.1
  obtain ⟨ys, r2, c2, rfl, l2⟩ := num_reads h2 h.out.2.1
  exact refDivide_any v1 v2 xs ys w r1 r2 l1 l2 c2 h.out.2.2

/-- Two results and an error number: with an error both are 0. -/
def ResP2 (w : World) (p : Nat × Nat × Nat) (e : Ending) (w' : World) : Prop := ∃ v u, e = .returned (.tuple #[v, u, .int .i64 (p.2.2 : Nat)]) ∧ Num w' v p.1 ∧ Num w' u p.2.1 ∧ Add w w'
def divS (A B : Nat) : Nat × Nat × Nat := if pw 512 ≤ A ∨ pw 512 ≤ B then (0, 0, 2) else if B = 0 then (0, 0, 3) else (A / B, A % B, 0)
set_option maxRecDepth 100000 in
set_option maxHeartbeats 2000000 in
theorem refDiv_any (va vb : Value) (xs ys : List Nat) (w : World) (ha : Reads w va xs) (hb : Reads w vb ys) (hs : xs.length ≤ 100000) (hs' : ys.length ≤ 100000) :
    Calls Tryd.prog 17 #[va, vb] w (ResP2 w (divS (val xs) (val ys))) := by
  by_cases hA : pw 512 ≤ val xs
  · have HS : Hid (divS (val xs) (val ys) = (0, 0, 2)) := Lib.hid (by unfold divS; rw [if_pos (.inl hA)])
    have LA := Lib.hid (refLarge_is true va xs w ha (by omega) (Lib.hid (decide_eq_true hA)))
    clear hA
    go_enter Tryd.func17, Tryd.ntmps17
    go_wp2_with fail
    refine LA.out.mono ?_; rintro e w1 ⟨rfl, h1⟩
    go_wp2_with fail
    go_ret3
    rw [HS.out]
    exact ⟨_, _, rfl, Num.nil _, Num.nil _, h1⟩
  · have LA := Lib.hid (refLarge_is false va xs w ha (by omega) (Lib.hid (decide_eq_false hA)))
    by_cases hB : pw 512 ≤ val ys
    · have HS : Hid (divS (val xs) (val ys) = (0, 0, 2)) := Lib.hid (by unfold divS; rw [if_pos (.inr hB)])
      have LB := fun w1 (h : Add w w1) => Lib.hid (refLarge_is true vb ys w1 (hb.mono h) (by omega) (Lib.hid (decide_eq_true hB)))
      clear hA hB
      go_enter Tryd.func17, Tryd.ntmps17
      go_wp2_with fail
      refine LA.out.mono ?_; rintro e w1 ⟨rfl, h1⟩
      go_wp2_with fail
      refine (LB _ h1).out.mono ?_; rintro e w2 ⟨rfl, h2⟩
      go_wp2_with fail
      go_ret3
      rw [HS.out]
      exact ⟨_, _, rfl, Num.nil _, Num.nil _, Add.trans h1 h2⟩
    · have LB := fun w1 (h : Add w w1) => Lib.hid (refLarge_is false vb ys w1 (hb.mono h) (by omega) (Lib.hid (decide_eq_false hB)))
      have TA := fun w1 (h : Add w w1) => Lib.hid (refTrim_any va xs w1 (ha.mono h) (by omega))
      have TB := fun w1 (h : Add w w1) => Lib.hid (refTrim_any vb ys w1 (hb.mono h) (by omega))
      have bA : Hid (val xs < pw 512) := Lib.hid (by omega)
      have bB : Hid (val ys < pw 512) := Lib.hid (by omega)
      have HSD : Hid (divS (val xs) (val ys) = if val ys = 0 then (0, 0, 3) else (val xs / val ys, val xs % val ys, 0)) := Lib.hid (by unfold divS; rw [if_neg (by omega)])
      clear hA hB
      by_cases h0 : val ys = 0
      · have HS : Hid (divS (val xs) (val ys) = (0, 0, 3)) := Lib.hid (by rw [HSD.out, if_pos h0])
        have H0 := Lib.hid h0
        clear h0
        go_enter Tryd.func17, Tryd.ntmps17
        go_wp2_with fail
        refine LA.out.mono ?_; rintro e w1 ⟨rfl, h1⟩
        go_wp2_with fail
        refine (LB _ h1).out.mono ?_; rintro e w2 ⟨rfl, h2⟩
        have h12 := Add.trans h1 h2
        go_wp2_with fail
        refine (TB _ h12).out.mono ?_; rintro e w3 ⟨v3, rfl, n3, h3⟩
        rw [H0.out] at n3
        obtain ⟨ao, c, rfl⟩ := num_nil n3.num
        have h13 := Add.trans h12 h3
        clear n3 h1 h2 h12 h3
        go_wp2_with fail
        go_ret3
        rw [HS.out]
        exact ⟨_, _, rfl, Num.nil _, Num.nil _, h13⟩
      · have HS : Hid (divS (val xs) (val ys) = (val xs / val ys, val xs % val ys, 0)) := Lib.hid (by rw [HSD.out, if_neg h0])
        have H0 := Lib.hid h0
        clear h0
        go_enter Tryd.func17, Tryd.ntmps17
        go_wp2_with fail
        refine LA.out.mono ?_; rintro e w1 ⟨rfl, h1⟩
        go_wp2_with fail
        refine (LB _ h1).out.mono ?_; rintro e w2 ⟨rfl, h2⟩
        have h12 := Add.trans h1 h2
        go_wp2_with fail
        refine (TB _ h12).out.mono ?_; rintro e w3 ⟨v3, rfl, n3, h3⟩
        obtain ⟨ao, n, c, rfl, -, hn0⟩ := num_shape n3.num bB.out
        have hne : ((n : Int) == 0) = false := by rw [beq_eq_false_iff_ne]; have := H0.out; omega
        have h13 := Add.trans h12 h3
        clear n3 h1 h2 h12 h3 hn0
        go_wp2_with fail
        refine (TA _ h13).out.mono ?_; rintro e w4 ⟨v4, rfl, n4, h4⟩
        have h14 := Add.trans h13 h4
        go_wp2_with fail
        refine (TB _ h14).out.mono ?_; rintro e w5 ⟨v5, rfl, n5, h5⟩
        have h15 := Add.trans h14 h5
        have n4' := n4.num.mono h5
        have n5' := n5.num
        clear h13 h14 h4 h5 n4 n5
        go_wp2_with fail
        refine (refDivideN n4' n5' (Lib.hid ⟨lt_up bA.out (by decide), lt_up bB.out (by decide), H0.out⟩)).mono ?_; rintro e w6 ⟨vq, vr, rfl, nq6, nr6, h6⟩
        have h16 := Add.trans h15 h6
        have q6 := nq6.num
        have r6 := nr6.num
        clear nq6 nr6 h15 h6 n4' n5'
        go_wp2_with fail
        go_ret3
        rw [HS.out]
        exact ⟨_, _, rfl, q6, r6, h16⟩
end Go.Proofs.YtfoffjnffkgnaaaDoor

namespace Go.Proofs.YtfoffjnffkgnaaaDoor
open Go.RowKit NatM Go.Proofs.YtfoffjnffkgnaaaDoor.Api

def gcdS (A B : Nat) : Nat × Nat := if pw 512 ≤ A ∨ pw 512 ≤ B then (0, 2) else (Nat.gcd A B, 0)
/-- What the loop of Gcd keeps. -/
def GSt (w : World) (G R : Nat) (x y : Value) (wr : World) : Prop := ∃ X, Num wr x X ∧ Num wr y R ∧ X < pw 512 ∧ R < pw 512 ∧ Nat.gcd X R = G ∧ Add w wr
set_option maxRecDepth 100000 in
set_option maxHeartbeats 2000000 in
theorem refGcd_any (va vb : Value) (xs ys : List Nat) (w : World) (ha : Reads w va xs) (hb : Reads w vb ys) (hs : xs.length ≤ 100000) (hs' : ys.length ≤ 100000) :
    Calls Tryd.prog 19 #[va, vb] w (ResP w (gcdS (val xs) (val ys))) := by
  by_cases hA : pw 512 ≤ val xs
  · have HS : Hid (gcdS (val xs) (val ys) = (0, 2)) := Lib.hid (by unfold gcdS; rw [if_pos (.inl hA)])
    have LA := Lib.hid (refLarge_is true va xs w ha (by omega) (Lib.hid (decide_eq_true hA)))
    clear hA
    go_enter Tryd.func19, Tryd.ntmps19
    go_wp2_with fail
    refine LA.out.mono ?_; rintro e w1 ⟨rfl, h1⟩
    go_wp2_with fail
    go_ret2
    rw [HS.out]
    exact ⟨_, rfl, Num.nil _, h1⟩
  · have LA := Lib.hid (refLarge_is false va xs w ha (by omega) (Lib.hid (decide_eq_false hA)))
    by_cases hB : pw 512 ≤ val ys
    · have HS : Hid (gcdS (val xs) (val ys) = (0, 2)) := Lib.hid (by unfold gcdS; rw [if_pos (.inr hB)])
      have LB := fun w1 (h : Add w w1) => Lib.hid (refLarge_is true vb ys w1 (hb.mono h) (by omega) (Lib.hid (decide_eq_true hB)))
      clear hA hB
      go_enter Tryd.func19, Tryd.ntmps19
      go_wp2_with fail
      refine LA.out.mono ?_; rintro e w1 ⟨rfl, h1⟩
      go_wp2_with fail
      refine (LB _ h1).out.mono ?_; rintro e w2 ⟨rfl, h2⟩
      go_wp2_with fail
      go_ret2
      rw [HS.out]
      exact ⟨_, rfl, Num.nil _, Add.trans h1 h2⟩
    · have LB := fun w1 (h : Add w w1) => Lib.hid (refLarge_is false vb ys w1 (hb.mono h) (by omega) (Lib.hid (decide_eq_false hB)))
      have TA := fun w1 (h : Add w w1) => Lib.hid (refTrim_any va xs w1 (ha.mono h) (by omega))
      have TB := fun w1 (h : Add w w1) => Lib.hid (refTrim_any vb ys w1 (hb.mono h) (by omega))
      have bA : Hid (val xs < pw 512) := Lib.hid (by omega)
      have bB : Hid (val ys < pw 512) := Lib.hid (by omega)
      obtain ⟨G, hG⟩ : ∃ G, G = Nat.gcd (val xs) (val ys) := ⟨_, rfl⟩
      have HS : Hid (gcdS (val xs) (val ys) = (G, 0)) := Lib.hid (by unfold gcdS; rw [if_neg (by omega), hG])
      have HG := Lib.hid hG
      obtain ⟨B, hBe⟩ : ∃ B, B = val ys := ⟨_, rfl⟩
      have HBE := Lib.hid hBe
      clear hA hB hG hBe
      go_enter Tryd.func19, Tryd.ntmps19
      go_wp2_with fail
      refine LA.out.mono ?_; rintro e w1 ⟨rfl, h1⟩
      go_wp2_with fail
      refine (LB _ h1).out.mono ?_; rintro e w2 ⟨rfl, h2⟩
      have h12 := Add.trans h1 h2
      go_wp2_with fail
      refine (TA _ h12).out.mono ?_; rintro e w3 ⟨v3, rfl, n3, h3⟩
      have h13 := Add.trans h12 h3
      go_wp2_with fail
      refine (TB _ h13).out.mono ?_; rintro e w4 ⟨v4, rfl, n4, h4⟩
      have hst : GSt w G B v3 v4 w4 := ⟨val xs, n3.num.mono h4, by rw [HBE.out]; exact n4.num, bA.out, by rw [HBE.out]; exact bB.out, by rw [HBE.out]; exact HG.out.symm, Add.trans h13 h4⟩
      clear n3 n4 h1 h2 h12 h3 h13 h4 LA LB TA TB
      go_wp2_with fail
      go_loopg [6, 7] B (fun R x y wr => ∃ xv yv : Value, xv = x ∧ yv = y ∧ GSt w G R xv yv wr)
      case atStart => exact ⟨_, _, rfl, rfl, hst⟩
      case round =>
        clear hst
        obtain ⟨xv, yv, rfl, rfl, X, nx, ny, hX, hR, hg, hadd⟩ := hrel
        obtain ⟨ao, n, c, rfl, -, hn0⟩ := num_shape ny hR
        by_cases h0 : gk = 0
        · obtain rfl : n = 0 := hn0.2 h0
          have hF : ResP w (gcdS (val xs) (val ys)) (.returned (.tuple #[xv, .int .i64 0])) wr := by
            rw [HS.out]
            refine ⟨_, rfl, ?_, hadd⟩
            rw [h0, Nat.gcd_zero_right] at hg
            rw [← hg]; exact nx
          clear nx ny hX hR hg hadd hn0 h0
          go_wp2_with fail
          go_ret2
          exact hF
        · have hn : 0 < n := by omega
          have dn : decide (0 < n) = true := decide_eq_true hn
          have HC := Lib.hid (refDivideN nx ny (Lib.hid ⟨lt_up hX (by decide), lt_up hR (by decide), h0⟩))
          have HG2 := Lib.hid hg
          have HR := Lib.hid hR
          have H0 := Lib.hid h0
          have hnst : ∀ (vr : Value) (w' : World), Num w' vr (X % gk) → Add wr w' → GSt w G (X % gk) (.slice ao n c) vr w' := fun vr w' h1 h2 =>
            ⟨gk, ny.mono h2, h1, HR.out, Nat.lt_trans (Nat.mod_lt _ (Nat.pos_of_ne_zero H0.out)) HR.out, by rw [← HG2.out, Nat.gcd_comm gk, ← Nat.gcd_rec, Nat.gcd_comm], Add.trans hadd h2⟩
          have HNST := Lib.hid hnst
          clear nx ny hX hR hg hadd hn0 h0 hnst
          go_wp2_with fail
          refine HC.out.mono ?_; rintro e w5 ⟨vq, vr, rfl, -, nr5, h5⟩
          have hst5 := HNST.out vr w5 nr5.num h5
          clear nr5 h5 HC
          go_wp2_with fail
          go_roundg (X % gk)
          case measure => exact Nat.mod_lt _ (Nat.pos_of_ne_zero H0.out)
          case rel => exact ⟨_, _, rfl, rfl, hst5⟩
end Go.Proofs.YtfoffjnffkgnaaaDoor

namespace Go.Proofs.YtfoffjnffkgnaaaDoor
open Go.RowKit NatM Go.Proofs.YtfoffjnffkgnaaaDoor.Api

def shiftS (A : Nat) (n : Int) : Nat × Nat :=
  if pw 512 ≤ A then (0, 2) else if A = 0 ∨ n < -16384 then (0, 0) else if n < 0 then (A / 2 ^ (-n).toNat, 0) else if 16384 < n then (0, 2) else if pw 512 ≤ A * 2 ^ n.toNat then (0, 2) else (A * 2 ^ n.toNat, 0)
set_option maxRecDepth 100000 in
set_option maxHeartbeats 2000000 in
theorem refShift_any (va : Value) (xs : List Nat) (n : Int) (w : World) (ha : Reads w va xs) (hs : xs.length ≤ 100000) (hn1 : -9223372036854775808 ≤ n) (hn2 : n ≤ 9223372036854775807) :
    Calls Tryd.prog 21 #[va, .int .i64 n] w (ResP w (shiftS (val xs) n)) := by
  by_cases hA : pw 512 ≤ val xs
  · have HS : Hid (shiftS (val xs) n = (0, 2)) := Lib.hid (by unfold shiftS; rw [if_pos hA])
    have LA := Lib.hid (refLarge_is true va xs w ha (by omega) (Lib.hid (decide_eq_true hA)))
    clear hA
    go_enter Tryd.func21, Tryd.ntmps21
    go_wp2_with fail
    refine LA.out.mono ?_; rintro e w1 ⟨rfl, h1⟩
    go_wp2_with fail
    go_ret2
    rw [HS.out]
    exact ⟨_, rfl, Num.nil _, h1⟩
  · have LA := Lib.hid (refLarge_is false va xs w ha (by omega) (Lib.hid (decide_eq_false hA)))
    have TA := fun w1 (h : Add w w1) => Lib.hid (refTrim_any va xs w1 (ha.mono h) (by omega))
    have bA : Hid (val xs < pw 512) := Lib.hid (by omega)
    obtain ⟨A, hAe⟩ : ∃ A, A = val xs := ⟨_, rfl⟩
    rw [← hAe] at bA ⊢
    simp only [← hAe] at TA
    obtain ⟨p, hp⟩ : ∃ p, p = shiftS A n := ⟨_, rfl⟩
    rw [← hp]
    have HP : Hid (p = if A = 0 ∨ n < -16384 then (0, 0) else if n < 0 then (A / 2 ^ (-n).toNat, 0) else if 16384 < n then (0, 2) else if pw 512 ≤ A * 2 ^ n.toNat then (0, 2) else (A * 2 ^ n.toNat, 0)) := Lib.hid (by rw [hp]; unfold shiftS; rw [if_neg (by rw [hAe]; exact hA)])
    clear hA hAe hp ha
    by_cases h0 : A = 0
    · have HS : Hid (p = (0, 0)) := Lib.hid (by rw [HP.out, if_pos (.inl h0)])
      have H0 := Lib.hid h0
      clear h0
      go_enter Tryd.func21, Tryd.ntmps21
      go_wp2_with fail
      refine LA.out.mono ?_; rintro e w1 ⟨rfl, h1⟩
      go_wp2_with fail
      refine (TA _ h1).out.mono ?_; rintro e w3 ⟨v3, rfl, n3, h3⟩
      rw [H0.out] at n3
      obtain ⟨ao, c, rfl⟩ := num_nil n3.num
      have h13 := Add.trans h1 h3
      clear n3 h1 h3
      go_wp2_with fail
      go_ret2
      rw [HS.out]
      exact ⟨_, rfl, Num.nil _, h13⟩
    · have H0 := Lib.hid h0
      by_cases hl : n < -16384
      · have HS : Hid (p = (0, 0)) := Lib.hid (by rw [HP.out, if_pos (.inr hl)])
        have dl : decide (n < -16384) = true := decide_eq_true hl
        clear h0
        go_enter Tryd.func21, Tryd.ntmps21
        go_wp2_with fail
        refine LA.out.mono ?_; rintro e w1 ⟨rfl, h1⟩
        go_wp2_with fail
        refine (TA _ h1).out.mono ?_; rintro e w3 ⟨v3, rfl, n3, h3⟩
        obtain ⟨ao, m, c, rfl, -, hm0⟩ := num_shape n3.num bA.out
        have hne : ((m : Int) == 0) = false := by rw [beq_eq_false_iff_ne]; have := H0.out; omega
        have h13 := Add.trans h1 h3
        clear n3 h1 h3 hm0
        go_wp2_with fail
        go_ret2
        rw [HS.out]
        exact ⟨_, rfl, Num.nil _, h13⟩
      · have dl : decide (n < -16384) = false := decide_eq_false hl
        by_cases hneg : n < 0
        · obtain ⟨k, hk⟩ : ∃ k : Nat, -n = (k : Int) := ⟨(-n).toNat, by omega⟩
          have HS : Hid (p = (A / 2 ^ k, 0)) := Lib.hid (by rw [HP.out, if_neg (by omega), if_pos hneg, hk, Int.toNat_natCast])
          have dneg : decide (n < 0) = true := decide_eq_true hneg
          clear h0
          go_enter Tryd.func21, Tryd.ntmps21
          go_wp2_with fail
          refine LA.out.mono ?_; rintro e w1 ⟨rfl, h1⟩
          go_wp2_with fail
          refine (TA _ h1).out.mono ?_; rintro e w3 ⟨v3, rfl, n3, h3⟩
          obtain ⟨zs, rz, -, ez, lz⟩ := n3.reads bA.out
          obtain ⟨ao, m, c, rfl, -, hm0⟩ := num_shape n3.num bA.out
          have hne : ((m : Int) == 0) = false := by rw [beq_eq_false_iff_ne]; have := H0.out; omega
          have h13 := Add.trans h1 h3
          have HD := Lib.hid (refDown_any _ zs k w3 rz (by omega) (by omega))
          rw [ez] at HD
          clear n3 h1 h3 hm0 rz ez
          go_wp2_with fail
          refine HD.out.mono ?_; rintro e w4 ⟨v4, rfl, n4, h4⟩
          have n4' := n4.num
          clear n4
          go_wp2_with fail
          go_ret2
          rw [HS.out]
          exact ⟨_, rfl, n4', Add.trans h13 h4⟩
        · obtain ⟨k, rfl⟩ : ∃ k : Nat, n = (k : Int) := ⟨n.toNat, by omega⟩
          have dneg : decide ((k : Int) < 0) = false := decide_eq_false hneg
          by_cases hbig : 16384 < k
          · have HS : Hid (p = (0, 2)) := Lib.hid (by rw [HP.out, if_neg (by omega), if_neg (by omega), if_pos (by omega)])
            have dbig : decide (16384 < k) = true := decide_eq_true hbig
            clear h0
            go_enter Tryd.func21, Tryd.ntmps21
            go_wp2_with fail
            refine LA.out.mono ?_; rintro e w1 ⟨rfl, h1⟩
            go_wp2_with fail
            refine (TA _ h1).out.mono ?_; rintro e w3 ⟨v3, rfl, n3, h3⟩
            obtain ⟨ao, m, c, rfl, -, hm0⟩ := num_shape n3.num bA.out
            have hne : ((m : Int) == 0) = false := by rw [beq_eq_false_iff_ne]; have := H0.out; omega
            have h13 := Add.trans h1 h3
            clear n3 h1 h3 hm0
            go_wp2_with fail
            go_ret2
            rw [HS.out]
            exact ⟨_, rfl, Num.nil _, h13⟩
          · have dbig : decide (16384 < k) = false := decide_eq_false hbig
            obtain ⟨N, hN⟩ : ∃ N, N = A * 2 ^ k := ⟨_, rfl⟩
            have HS2 : Hid (p = if pw 512 ≤ N then (0, 2) else (N, 0)) := Lib.hid (by rw [HP.out, if_neg (by omega), if_neg (by omega), if_neg (by omega), Int.toNat_natCast, hN])
            have hNb : Hid (N < pw 2000) := Lib.hid (by
              rw [hN]
              have h3 : ∀ L, 512 < L → 2 ^ k < pw L := fun L hL => by
                rw [pw_two]; exact Nat.pow_lt_pow_right (by decide) (by omega)
              have h2 := h3 513 (by decide)
              exact lt_up (lt_mul bA.out h2) (by decide))
            have HN := Lib.hid hN
            clear h0 hN
            go_enter Tryd.func21, Tryd.ntmps21
            go_wp2_with fail
            refine LA.out.mono ?_; rintro e w1 ⟨rfl, h1⟩
            go_wp2_with fail
            refine (TA _ h1).out.mono ?_; rintro e w3 ⟨v3, rfl, n3, h3⟩
            obtain ⟨zs, rz, -, ez, lz⟩ := n3.reads bA.out
            obtain ⟨ao, m, c, rfl, -, hm0⟩ := num_shape n3.num bA.out
            have hne : ((m : Int) == 0) = false := by rw [beq_eq_false_iff_ne]; have := H0.out; omega
            have h13 := Add.trans h1 h3
            have HD := Lib.hid (refUp_any _ zs k w3 rz (by omega) (by omega))
            rw [ez, ← HN.out] at HD
            clear n3 h1 h3 hm0 rz ez
            go_wp2_with fail
            refine HD.out.mono ?_; rintro e w4 ⟨v4, rfl, n4, h4⟩
            have h14 := Add.trans h13 h4
            have n4' := n4.num
            clear n4 h13 h4 HD
            by_cases hb2 : pw 512 ≤ N
            · have HS : Hid (p = (0, 2)) := Lib.hid (by rw [HS2.out, if_pos hb2])
              have HL := Lib.hid (refLargeN true n4' hNb (Lib.hid (decide_eq_true hb2)))
              clear hb2
              go_wp2_with fail
              refine HL.out.mono ?_; rintro e w5 ⟨rfl, h5⟩
              go_wp2_with fail
              go_ret2
              rw [HS.out]
              exact ⟨_, rfl, Num.nil _, Add.trans h14 h5⟩
            · have HS : Hid (p = (N, 0)) := Lib.hid (by rw [HS2.out, if_neg hb2])
              have HL := Lib.hid (refLargeN false n4' hNb (Lib.hid (decide_eq_false hb2)))
              clear hb2
              go_wp2_with fail
              refine HL.out.mono ?_; rintro e w5 ⟨rfl, h5⟩
              go_wp2_with fail
              go_ret2
              rw [HS.out]
              exact ⟨_, rfl, n4'.mono h5, Add.trans h14 h5⟩
end Go.Proofs.YtfoffjnffkgnaaaDoor

namespace Go.Proofs.YtfoffjnffkgnaaaDoor
open Go.RowKit NatM Go.Proofs.YtfoffjnffkgnaaaDoor.Api

theorem natAdd_any (va vb : Value) (xs ys : List Nat) (w : World) (ha : Reads w va xs) (hb : Reads w vb ys) (hs : xs.length ≤ 100000) (hs' : ys.length ≤ 100000) :
    Calls Tryd.prog 9 #[va, vb] w (ResP w (addS (val xs) (val ys))) := by
  by_cases h : val xs + val ys < pw 512
  · unfold addS; rw [if_pos h]
    exact (add_ok va vb xs ys w ha hb (by omega) (by omega) h).mono fun e w' g => okP_res g
  · unfold addS; rw [if_neg h]
    exact (add_big va vb xs ys w ha hb (by omega) (by omega) (by omega)).mono fun e w' g => errP_res (k := 2) g
theorem natSub_any (va vb : Value) (xs ys : List Nat) (w : World) (ha : Reads w va xs) (hb : Reads w vb ys) (hs : xs.length ≤ 100000) (_hs' : ys.length ≤ 100000) :
    Calls Tryd.prog 11 #[va, vb] w (ResP w (subS (val xs) (val ys))) := by
  unfold subS
  by_cases h : pw 512 ≤ val xs ∨ pw 512 ≤ val ys
  · rw [if_pos h]
    exact (sub_big va vb xs ys w ha hb h).mono fun e w' g => errP_res (k := 2) g
  · rw [if_neg h]
    by_cases hl : val xs < val ys
    · rw [if_pos hl]
      exact (sub_neg va vb xs ys w ha hb (by omega) (by omega) hl).mono fun e w' g => errP_res (k := 4) g
    · rw [if_neg hl]
      exact (sub_ok va vb xs ys w ha hb (by omega) (by omega) (by omega) (by omega)).mono fun e w' g => okP_res g
theorem natMul_any (va vb : Value) (xs ys : List Nat) (w : World) (ha : Reads w va xs) (hb : Reads w vb ys) (hs : xs.length ≤ 100000) (hs' : ys.length ≤ 100000) :
    Calls Tryd.prog 13 #[va, vb] w (ResP w (mulS (val xs) (val ys))) := by
  unfold mulS
  by_cases h : pw 512 ≤ val xs ∨ pw 512 ≤ val ys
  · rw [if_pos (by omega)]
    exact (mul_big va vb xs ys w ha hb h).mono fun e w' g => errP_res (k := 2) g
  · obtain ⟨N, hN⟩ : ∃ N, N = val xs * val ys := ⟨_, rfl⟩
    by_cases hl : pw 512 ≤ val xs * val ys
    · rw [if_pos (.inr (.inr hl))]
      exact (mul_over va vb xs ys w ha hb (by omega) (by omega) (by omega) (by omega) hl).mono fun e w' g => errP_res (k := 2) g
    · rw [if_neg (by rw [← hN] at hl ⊢; omega)]
      exact (mul_ok va vb xs ys w ha hb (by omega) (by omega) (by omega) (by omega) (by rw [← hN] at hl ⊢; omega)).mono fun e w' g => okP_res g
theorem natDiv_any (va vb : Value) (xs ys : List Nat) (w : World) (ha : Reads w va xs) (hb : Reads w vb ys) (hs : xs.length ≤ 100000) (hs' : ys.length ≤ 100000) :
    Calls Tryd.prog 16 #[va, vb] w (ResP2 w (divS (val xs) (val ys))) := by
  unfold divS
  by_cases h : pw 512 ≤ val xs ∨ pw 512 ≤ val ys
  · rw [if_pos h]
    refine (div_big va vb xs ys w ha hb h).mono ?_
    rintro e w' ⟨rfl, g⟩
    exact ⟨_, _, rfl, Num.nil _, Num.nil _, g⟩
  · rw [if_neg h]
    by_cases h0 : val ys = 0
    · rw [if_pos h0]
      refine (div_zero va vb xs ys w ha hb (by omega) h0).mono ?_
      rintro e w' ⟨rfl, g⟩
      exact ⟨_, _, rfl, Num.nil _, Num.nil _, g⟩
    · rw [if_neg h0]
      refine (div_ok va vb xs ys w ha hb (by omega) (by omega) (by omega) (by omega) h0).mono ?_
      rintro e w' ⟨vq, vr, rfl, g1, g2, g3⟩
      exact ⟨_, _, rfl, g1, g2, g3⟩
theorem natGcd_any (va vb : Value) (xs ys : List Nat) (w : World) (ha : Reads w va xs) (hb : Reads w vb ys) (hs : xs.length ≤ 100000) (hs' : ys.length ≤ 100000) :
    Calls Tryd.prog 18 #[va, vb] w (ResP w (gcdS (val xs) (val ys))) := by
  unfold gcdS
  by_cases h : pw 512 ≤ val xs ∨ pw 512 ≤ val ys
  · rw [if_pos h]
    exact (gcd_big va vb xs ys w ha hb h).mono fun e w' g => errP_res (k := 2) g
  · rw [if_neg h]
    exact (gcd_ok va vb xs ys w ha hb (by omega) (by omega) (by omega) (by omega)).mono fun e w' g => okP_res g
theorem natShift_any (va : Value) (xs : List Nat) (n : Int) (w : World) (ha : Reads w va xs) (hs : xs.length ≤ 100000) :
    Calls Tryd.prog 20 #[va, .int .i64 n] w (ResP w (shiftS (val xs) n)) := by
  unfold shiftS
  by_cases hA : pw 512 ≤ val xs
  · rw [if_pos hA]
    exact (shift_big va xs n w ha (by omega) hA).mono fun e w' g => errP_res (k := 2) g
  · rw [if_neg hA]
    have hA' : val xs < pw 512 := by omega
    have hnb : nb (val xs) ≤ 16384 := nb_lt_pw.1 hA'
    by_cases h0 : val xs = 0 ∨ n < -16384
    · rw [if_pos h0]
      have hz : nb (val xs) = 0 ∨ n ≤ -(nb (val xs) : Int) := by
        rcases h0 with h | h
        · exact .inl (nb_eq_zero.2 h)
        · exact .inr (by omega)
      exact (shift_zero va xs n w ha (by omega) hA' hz).mono fun e w' g => okP_res g
    · rw [if_neg h0]
      have hnz : nb (val xs) ≠ 0 := fun e => h0 (.inl (nb_eq_zero.1 e))
      have hvz : val xs ≠ 0 := fun e => h0 (.inl e)
      by_cases hneg : n < 0
      · rw [if_pos hneg]
        obtain ⟨k, hk⟩ : ∃ k : Nat, -n = (k : Int) := ⟨(-n).toNat, by omega⟩
        rw [hk, Int.toNat_natCast]
        obtain rfl : n = -(k : Int) := by omega
        rcases Nat.lt_or_ge k (nb (val xs)) with h | h
        · exact (shift_down va xs k w ha (by omega) hA' (by omega) h).mono fun e w' g => okP_res g
        · rw [shift_out h]
          exact (shift_zero va xs _ w ha (by omega) hA' (.inr (by omega))).mono fun e w' g => okP_res g
      · rw [if_neg hneg]
        obtain ⟨k, rfl⟩ : ∃ k : Nat, n = (k : Int) := ⟨n.toNat, by omega⟩
        rw [Int.toNat_natCast]
        have hsh : val xs * 2 ^ k < pw 512 ↔ nb (val xs) + k ≤ 16384 := by rw [nb_lt_pw, nb_shift hvz]
        obtain ⟨N, hN⟩ : ∃ N, N = val xs * 2 ^ k := ⟨_, rfl⟩
        rw [← hN] at hsh ⊢
        rcases Nat.lt_or_ge 16384 (nb (val xs) + k) with h | h
        · have hb : pw 512 ≤ N := by
            rcases Nat.lt_or_ge N (pw 512) with h2 | h2
            · have := hsh.1 h2; omega
            · exact h2
          rw [show (if (16384 : Int) < (k : Int) then ((0, 2) : Nat × Nat) else if pw 512 ≤ N then (0, 2) else (N, 0)) = (0, 2) from by
            rw [if_pos hb]; exact ite_self _]
          exact (shift_over va xs k w ha (by omega) hA' hnz (by omega)).mono fun e w' g => errP_res (k := 2) g
        · have hb := hsh.2 h
          rw [if_neg (by omega), if_neg (by omega), hN]
          exact (shift_up va xs k w ha (by omega) hA' hnz h).mono fun e w' g => okP_res g
end Go.Proofs.YtfoffjnffkgnaaaDoor

namespace Go.Proofs.YtfoffjnffkgnaaaDoor.Api
open Go.Proofs.YtfoffjnffkgnaaaDoor Go.RowKit NatM

/-- v reads in w as a list of limbs with the value N, and is not monstrously long. -/
def Nv (w : World) (v : Value) (N : Nat) : Prop := ∃ xs, Reads w v xs ∧ val xs = N ∧ xs.length ≤ 100000
theorem Nv.mono {w w' : World} {v : Value} {N : Nat} (h : Nv w v N) (hb : Add w w') : Nv w' v N := by
  obtain ⟨xs, h1, h2, h3⟩ := h; exact ⟨xs, h1.mono hb, h2, h3⟩
theorem Nv.nu {w : World} {v : Value} {N : Nat} (h : Nv w v N) : Nu w v N := by
  obtain ⟨xs, h1, h2, h3⟩ := h; exact ⟨xs, h1, h2, by omega⟩
theorem num_nv {w : World} {v : Value} {N : Nat} (h : Num w v N) (hN : N < pw 1000) : Nv w v N := by
  obtain ⟨zs, h1, h2, h3⟩ := h
  refine ⟨zs, h1, h3, ?_⟩
  have : tlen zs ≤ 1000 := tlen_le_of_val 1000 (by rw [h3]; exact hN)
  unfold Canon at h2; omega
theorem Nv.nil (w : World) : Nv w (.slice none 0 0) 0 := ⟨[], Reads.nil w, rfl, by decide⟩
end Go.Proofs.YtfoffjnffkgnaaaDoor.Api

namespace Go.Proofs.YtfoffjnffkgnaaaDoor.Api
open Go.Proofs.YtfoffjnffkgnaaaDoor Go.RowKit NatM

theorem natAddX (p : Nat × Nat) {va vb : Value} {A B : Nat} {w : World} (ha : Nv w va A) (hb : Nv w vb B) (h : Hid (addS A B = p)) : Calls Tryd.prog 9 #[va, vb] w (ResP w p) := by
  obtain ⟨xs, r, rfl, l⟩ := ha
  obtain ⟨ys, r', rfl, l'⟩ := hb
  have := h.out
  subst this
  exact natAdd_any va vb xs ys w r r' l l'
theorem refAddX (p : Nat × Nat) {va vb : Value} {A B : Nat} {w : World} (ha : Nv w va A) (hb : Nv w vb B) (h : Hid (addS A B = p)) : Calls Tryd.prog 10 #[va, vb] w (ResP w p) := by
  obtain ⟨xs, r, rfl, l⟩ := ha
  obtain ⟨ys, r', rfl, l'⟩ := hb
  have := h.out
  subst this
  exact refAdd_any va vb xs ys w r r' l l'
theorem natSubX (p : Nat × Nat) {va vb : Value} {A B : Nat} {w : World} (ha : Nv w va A) (hb : Nv w vb B) (h : Hid (subS A B = p)) : Calls Tryd.prog 11 #[va, vb] w (ResP w p) := by
  obtain ⟨xs, r, rfl, l⟩ := ha
  obtain ⟨ys, r', rfl, l'⟩ := hb
  have := h.out
  subst this
  exact natSub_any va vb xs ys w r r' l l'
theorem refSubX (p : Nat × Nat) {va vb : Value} {A B : Nat} {w : World} (ha : Nv w va A) (hb : Nv w vb B) (h : Hid (subS A B = p)) : Calls Tryd.prog 12 #[va, vb] w (ResP w p) := by
  obtain ⟨xs, r, rfl, l⟩ := ha
  obtain ⟨ys, r', rfl, l'⟩ := hb
  have := h.out
  subst this
  exact refSub_any va vb xs ys w r r' l l'
theorem natMulX (p : Nat × Nat) {va vb : Value} {A B : Nat} {w : World} (ha : Nv w va A) (hb : Nv w vb B) (h : Hid (mulS A B = p)) : Calls Tryd.prog 13 #[va, vb] w (ResP w p) := by
  obtain ⟨xs, r, rfl, l⟩ := ha
  obtain ⟨ys, r', rfl, l'⟩ := hb
  have := h.out
  subst this
  exact natMul_any va vb xs ys w r r' l l'
theorem refMulX (p : Nat × Nat) {va vb : Value} {A B : Nat} {w : World} (ha : Nv w va A) (hb : Nv w vb B) (h : Hid (mulS A B = p)) : Calls Tryd.prog 14 #[va, vb] w (ResP w p) := by
  obtain ⟨xs, r, rfl, l⟩ := ha
  obtain ⟨ys, r', rfl, l'⟩ := hb
  have := h.out
  subst this
  exact refMul_any va vb xs ys w r r' l l'
theorem natDivX (p : Nat × Nat × Nat) {va vb : Value} {A B : Nat} {w : World} (ha : Nv w va A) (hb : Nv w vb B) (h : Hid (divS A B = p)) : Calls Tryd.prog 16 #[va, vb] w (ResP2 w p) := by
  obtain ⟨xs, r, rfl, l⟩ := ha
  obtain ⟨ys, r', rfl, l'⟩ := hb
  have := h.out
  subst this
  exact natDiv_any va vb xs ys w r r' l l'
theorem refDivX (p : Nat × Nat × Nat) {va vb : Value} {A B : Nat} {w : World} (ha : Nv w va A) (hb : Nv w vb B) (h : Hid (divS A B = p)) : Calls Tryd.prog 17 #[va, vb] w (ResP2 w p) := by
  obtain ⟨xs, r, rfl, l⟩ := ha
  obtain ⟨ys, r', rfl, l'⟩ := hb
  have := h.out
  subst this
  exact refDiv_any va vb xs ys w r r' l l'
theorem natGcdX (p : Nat × Nat) {va vb : Value} {A B : Nat} {w : World} (ha : Nv w va A) (hb : Nv w vb B) (h : Hid (gcdS A B = p)) : Calls Tryd.prog 18 #[va, vb] w (ResP w p) := by
  obtain ⟨xs, r, rfl, l⟩ := ha
  obtain ⟨ys, r', rfl, l'⟩ := hb
  have := h.out
  subst this
  exact natGcd_any va vb xs ys w r r' l l'
theorem refGcdX (p : Nat × Nat) {va vb : Value} {A B : Nat} {w : World} (ha : Nv w va A) (hb : Nv w vb B) (h : Hid (gcdS A B = p)) : Calls Tryd.prog 19 #[va, vb] w (ResP w p) := by
  obtain ⟨xs, r, rfl, l⟩ := ha
  obtain ⟨ys, r', rfl, l'⟩ := hb
  have := h.out
  subst this
  exact refGcd_any va vb xs ys w r r' l l'
theorem natShiftX (p : Nat × Nat) {va : Value} {A : Nat} {n : Int} {w : World} (ha : Nv w va A) (h : Hid (shiftS A n = p)) : Calls Tryd.prog 20 #[va, .int .i64 n] w (ResP w p) := by
  obtain ⟨xs, r, rfl, l⟩ := ha
  have := h.out
  subst this
  exact natShift_any va xs n w r l
theorem refShiftX (p : Nat × Nat) {va : Value} {A : Nat} {n : Int} {w : World} (ha : Nv w va A) (h : Hid (shiftS A n = p ∧ -9223372036854775808 ≤ n ∧ n ≤ 9223372036854775807)) : Calls Tryd.prog 21 #[va, .int .i64 n] w (ResP w p) := by
  obtain ⟨xs, r, rfl, l⟩ := ha
  obtain ⟨h1, h2, h3⟩ := h.out
  subst h1
  exact refShift_any va xs n w r l h2 h3
theorem natCmpX (X : Int) {va vb : Value} {A B : Nat} {w : World} (ha : Nv w va A) (hb : Nv w vb B) (h : Hid (cmpI A B = X)) : Calls Tryd.prog 22 #[va, vb] w (IntIs w X) := cmpN X ha.nu hb.nu h
theorem refCmpX (X : Int) {va vb : Value} {A B : Nat} {w : World} (ha : Nv w va A) (hb : Nv w vb B) (h : Hid (cmpI A B = X)) : Calls Tryd.prog 23 #[va, vb] w (IntIs w X) := by
  obtain ⟨xs, r, rfl, l⟩ := ha
  obtain ⟨ys, r', rfl, l'⟩ := hb
  have := h.out
  subst this
  exact refCmp_any va vb xs ys w r r' (by omega) (by omega)
theorem natBitsX (X : Nat) {va : Value} {A : Nat} {w : World} (ha : Nv w va A) (h : Hid (nb A = X)) : Calls Tryd.prog 24 #[va] w (IntIs w (X : Nat)) := bitsN X ha.nu h
theorem refBitsX (X : Nat) {va : Value} {A : Nat} {w : World} (ha : Nv w va A) (h : Hid (nb A = X)) : Calls Tryd.prog 25 #[va] w (IntIs w (X : Nat)) := by
  obtain ⟨xs, r, rfl, l⟩ := ha
  have := h.out
  subst this
  exact refBits_any va xs w r l
theorem natMakeX (v : Nat) {w : World} (h : Hid (v < 18446744073709551616)) : Calls Tryd.prog 26 #[.int .u64 (v : Nat)] w (NumP w v) := by
  have h1 := h.out
  exact make_any (v : Nat) w (by omega) (by omega)
theorem natMakeZ (v : Nat) {z : Int} {w : World} (h : Hid (z = (v : Int) ∧ v < 18446744073709551616)) : Calls Tryd.prog 26 #[.int .u64 z] w (NumP w v) := by
  obtain ⟨rfl, h1⟩ := h.out
  exact make_any (v : Nat) w (by omega) (by omega)
theorem refMakeX (v : Nat) {w : World} (h : Hid (v < 18446744073709551616)) : Calls Tryd.prog 27 #[.int .u64 (v : Nat)] w (NumP w v) := by
  have h1 := h.out
  refine (refMake_any (v : Nat) w (by omega) (by omega)).mono ?_
  rintro e w' ⟨v1, rfl, n1, h1⟩
  exact ⟨v1, rfl, n1.num, h1⟩
theorem refMakeZ (v : Nat) {z : Int} {w : World} (h : Hid (z = (v : Int) ∧ v < 18446744073709551616)) : Calls Tryd.prog 27 #[.int .u64 z] w (NumP w v) := by
  obtain ⟨rfl, h1⟩ := h.out
  refine (refMake_any (v : Nat) w (by omega) (by omega)).mono ?_
  rintro e w' ⟨v1, rfl, n1, h1⟩
  exact ⟨v1, rfl, n1.num, h1⟩
theorem natTrimX {va : Value} {A : Nat} {w : World} (ha : Nv w va A) : Calls Tryd.prog 28 #[va] w (NumP w A) := by
  obtain ⟨xs, r, rfl, l⟩ := ha
  refine (trim_any va xs w r (by omega)).mono ?_
  rintro e w' ⟨g, n, rfl, h1, rfl, h3⟩
  refine ⟨_, rfl, ⟨_, h1.reads (by have := tlen_le xs; unfold maxLen; omega) (r.limbs.take _), Canon.trim xs, val_trim xs⟩, h3⟩
theorem refTrimX {va : Value} {A : Nat} {w : World} (ha : Nv w va A) : Calls Tryd.prog 29 #[va] w (NumP w A) := by
  obtain ⟨xs, r, rfl, l⟩ := ha
  refine (refTrim_any va xs w r (by omega)).mono ?_
  rintro e w' ⟨v1, rfl, n1, h1⟩
  exact ⟨v1, rfl, n1.num, h1⟩
end Go.Proofs.YtfoffjnffkgnaaaDoor.Api

namespace Go.Proofs.YtfoffjnffkgnaaaDoor.Api
open Go.Proofs.YtfoffjnffkgnaaaDoor Go.RowKit NatM

/-! The guard: long(a), long(a, b), long(a, b, c). -/
theorem cells1 (w : World) (va : Value) : ∀ i, i < 1 → (w.alloc (.cells #[va] 23)).cell? ⟨w.heap.size, i, none⟩ = some (([va] : List Value).getD i (.slice none 0 0)) := by
  intro i hi
  rw [World.cell?_alloc_new]
  obtain rfl : i = 0 := by omega
  rfl
theorem cells2 (w : World) (va vb : Value) : ∀ i, i < 2 → (w.alloc (.cells #[va, vb] 23)).cell? ⟨w.heap.size, i, none⟩ = some (([va, vb] : List Value).getD i (.slice none 0 0)) := by
  intro i hi
  rw [World.cell?_alloc_new]
  have : i = 0 ∨ i = 1 := by omega
  rcases this with rfl | rfl <;> rfl
theorem cells3 (w : World) (va vb vc : Value) : ∀ i, i < 3 → (w.alloc (.cells #[va, vb, vc] 23)).cell? ⟨w.heap.size, i, none⟩ = some (([va, vb, vc] : List Value).getD i (.slice none 0 0)) := by
  intro i hi
  rw [World.cell?_alloc_new]
  have : i = 0 ∨ i = 1 ∨ i = 2 := by omega
  rcases this with rfl | rfl | rfl <;> rfl
theorem slices1 {va : Value} (ha : IsSlice va) : ∀ i, i < 1 → IsSlice (([va] : List Value).getD i (.slice none 0 0)) := by
  intro i hi
  obtain rfl : i = 0 := by omega
  exact ha
theorem slices2 {va vb : Value} (ha : IsSlice va) (hb : IsSlice vb) : ∀ i, i < 2 → IsSlice (([va, vb] : List Value).getD i (.slice none 0 0)) := by
  intro i hi
  have : i = 0 ∨ i = 1 := by omega
  rcases this with rfl | rfl
  · exact ha
  · exact hb
theorem slices3 {va vb vc : Value} (ha : IsSlice va) (hb : IsSlice vb) (hc : IsSlice vc) : ∀ i, i < 3 → IsSlice (([va, vb, vc] : List Value).getD i (.slice none 0 0)) := by
  intro i hi
  have : i = 0 ∨ i = 1 ∨ i = 2 := by omega
  rcases this with rfl | rfl | rfl
  · exact ha
  · exact hb
  · exact hc
theorem long1 (b : Bool) {va : Value} {xs : List Nat} {w : World} (ha : Reads w va xs) (h : decide (60 < xs.length) = b) :
    Calls Tryd.prog 7 #[.slice (some ⟨w.heap.size, 0, none⟩) 1 1] (w.alloc (.cells #[va] 23)) (LongP (w.alloc (.cells #[va] 23)) b) :=
  long_is b w.heap.size 1 [va] _ rfl (by omega) (cells1 w _) (slices1 ha.isSlice) (by rw [← h]; simp [ha.lenV])
theorem long2 (b : Bool) {va vb : Value} {xs ys : List Nat} {w : World} (ha : Reads w va xs) (hb : Reads w vb ys) (h : decide (60 < xs.length ∨ 60 < ys.length) = b) :
    Calls Tryd.prog 7 #[.slice (some ⟨w.heap.size, 0, none⟩) 2 2] (w.alloc (.cells #[va, vb] 23)) (LongP (w.alloc (.cells #[va, vb] 23)) b) :=
  long_is b w.heap.size 2 [va, vb] _ rfl (by omega) (cells2 w _ _) (slices2 ha.isSlice hb.isSlice) (by rw [← h]; simp [ha.lenV, hb.lenV])
theorem long3 (b : Bool) {va vb vc : Value} {xs ys zs : List Nat} {w : World} (ha : Reads w va xs) (hb : Reads w vb ys) (hc : Reads w vc zs) (h : decide (60 < xs.length ∨ 60 < ys.length ∨ 60 < zs.length) = b) :
    Calls Tryd.prog 7 #[.slice (some ⟨w.heap.size, 0, none⟩) 3 3] (w.alloc (.cells #[va, vb, vc] 23)) (LongP (w.alloc (.cells #[va, vb, vc] 23)) b) :=
  long_is b w.heap.size 3 [va, vb, vc] _ rfl (by omega) (cells3 w _ _ _) (slices3 ha.isSlice hb.isSlice hc.isSlice) (by rw [← h]; simp [ha.lenV, hb.lenV, hc.lenV])
end Go.Proofs.YtfoffjnffkgnaaaDoor.Api

namespace Go.Proofs.YtfoffjnffkgnaaaDoor.Limits
open Go.Proofs.YtfoffjnffkgnaaaDoor Go.Proofs.YtfoffjnffkgnaaaDoor.Api Go.RowKit NatM

theorem val_ones (k : Nat) : val (List.replicate k 4294967295) + 1 = pw k := by
  induction k with
  | zero => simp [val]; decide
  | succ k ih => rw [List.replicate_succ, pw_succ]; simp only [val]; omega
theorem val_zeros (k : Nat) : val (List.replicate k 0) = 0 := by
  induction k with
  | zero => rfl
  | succ k ih => rw [List.replicate_succ]; simp only [val]; omega
theorem limbs_rep (k x : Nat) (hx : x < 4294967296) : Limbs (List.replicate k x) := by
  intro y hy
  rw [List.eq_of_mem_replicate hy]; exact hx
theorem canon_ones (k : Nat) : Canon (List.replicate k 4294967295) := by
  have h1 := val_lt ((limbs_rep k 4294967295 (by decide)).take (tlen (List.replicate k 4294967295)))
  have h2 := val_trim (List.replicate k 4294967295)
  have h3 := length_trim (List.replicate k 4294967295)
  unfold trim at h2 h3
  rw [h2, h3] at h1
  have h4 := val_ones k
  have h5 := tlen_le (List.replicate k 4294967295)
  rw [List.length_replicate] at h5
  unfold Canon
  rw [List.length_replicate]
  rcases Nat.lt_or_ge (tlen (List.replicate k 4294967295)) k with h | h
  · obtain ⟨m, rfl⟩ : ∃ m, k = m + 1 := ⟨k - 1, by omega⟩
    have h6 := pw_le (show tlen (List.replicate (m + 1) 4294967295) ≤ m by omega)
    have h7 := pw_succ m
    have h8 := pw_pos m
    omega
  · omega
/-- The length of the canonical row of pw k - 1. -/
theorem num_ones {w : World} {v : Value} {N k : Nat} (h : Num w v N) (hN : N + 1 = pw k) : ∃ ao c, v = .slice ao k c := by
  obtain ⟨zs, ⟨ao, n, c, rfl, hl, -, -, hx, -⟩, hc, hv⟩ := h
  have := canon_inj hx (limbs_rep k 4294967295 (by decide)) hc (canon_ones k) (by have := val_ones k; omega)
  rw [this, List.length_replicate] at hl
  subst hl
  exact ⟨_, _, rfl⟩
theorem nb_ones {N k : Nat} (hN : N + 1 = pw k) : nb N = 32 * k := by
  have h1 : nb N ≤ 32 * k := nb_lt_pw.1 (by omega)
  rcases Nat.eq_zero_or_pos k with h | h
  · omega
  · have e : pw k = 2 ^ (32 * k) := pw_two k
    have h2 : 2 ^ (32 * k - 1) ≤ N := by
      have : 2 ^ (32 * k) = 2 * 2 ^ (32 * k - 1) := by
        rw [← Nat.pow_succ']; congr 1; omega
      have := Nat.two_pow_pos (32 * k - 1)
      omega
    have := lt_nb_of_le h2
    omega

/-- What the loops of ones keep. -/
def OnesSt (w : World) (k j : Nat) (out : Value) (wr : World) : Prop := ∃ zs, zs = List.replicate k 4294967295 ++ List.replicate j 0 ∧ OwnL wr w.heap.size out zs ∧ Add w wr
def OnesP (w : World) (n : Nat) (e : Ending) (w' : World) : Prop := ∃ v, e = .returned v ∧ Nv w' v (pw n - 1) ∧ Add w w'
theorem onesSt_snoc1 {w wr : World} {k : Nat} {out : Value} {zs : List Nat} (hz : zs = List.replicate k 4294967295 ++ List.replicate 0 0) (h : OwnL wr w.heap.size out (zs ++ [4294967295])) (ha : Add w wr) : OnesSt w (k + 1) 0 out wr :=
  ⟨_, by rw [hz, List.replicate_zero, List.append_nil, List.append_nil, ← List.replicate_succ'], h, ha⟩
theorem onesSt_snoc0 {w wr : World} {k j : Nat} {out : Value} {zs : List Nat} (hz : zs = List.replicate k 4294967295 ++ List.replicate j 0) (h : OwnL wr w.heap.size out (zs ++ [0])) (ha : Add w wr) : OnesSt w k (j + 1) out wr :=
  ⟨_, by rw [hz, List.append_assoc, ← List.replicate_succ'], h, ha⟩
theorem onesSt_nv {w wr : World} {k j : Nat} {out : Value} (h : OnesSt w k j out wr) (hk : k ≤ 1000) (hj : j ≤ 10) : Nv wr out (pw k - 1) := by
  obtain ⟨zs, hz, ho, ha⟩ := h
  have hl : zs.length = k + j := by rw [hz]; simp
  refine ⟨zs, ho.reads ?_, ?_, by omega⟩
  · rw [hz]; exact (limbs_rep k _ (by decide)).append (limbs_rep j _ (by decide))
  · rw [hz, val_append, val_zeros, Nat.mul_zero]; have := val_ones k; omega

set_option maxRecDepth 100000 in
set_option maxHeartbeats 4000000 in
theorem ones_any (n z : Nat) (w : World) (hn : n ≤ 1000) (hz : z ≤ 10) :
    Calls Tryd.prog 30 #[.int .i64 (n : Nat), .int .i64 (z : Nat)] w (OnesP w n) := by
  obtain ⟨i0, hi, hz0, hz1, hz2⟩ := info_parts info50
  have hst : OnesSt w 0 0 (.slice none 0 0) w := ⟨[], rfl, OwnL.nil _ _, Below.refl _ _⟩
  go_enter Tryd.func30, Tryd.ntmps30
  go_wp2_with fail
  go_loopg [5, 6] n (fun r out i wr => ∃ ov : Value, ov = out ∧ ∃ k : Nat, i = .int .i64 (k : Nat) ∧ k + r = n ∧ OnesSt w k 0 ov wr)
  case atStart => exact ⟨_, rfl, 0, rfl, by omega, hst⟩
  case round =>
    clear hst
    obtain ⟨ov, rfl, k, rfl, hkr, zs, hzs, hown, hadd⟩ := hrel
    have hk : zs.length = k := by rw [hzs]; simp
    have HK := Lib.hid hk
    have HZ := Lib.hid hzs
    clear hk hzs
    by_cases hlt : k < n
    · have dlt : decide (k < n) = true := decide_eq_true hlt
      go_wp2_with (at_builtin; refine wpList_append_own _ rfl _ _ 23 rfl w.heap.size 50 i0 (.int .u32 0) 1 4 Tryd.underlying23 hi hz0 hz1 hz2 rfl (by decide) _ _ _ rfl (World.ownsRow.alloc hown _) ⟨wr.heap.size, 0, none⟩ 1 1 [_] rfl rfl (cell_one_new _ _ _) (by intro u hu; simp at hu; subst hu; rfl) (by have := HK.out; unfold maxLen; omega) (by have := HK.out; omega) (by have := hadd.size; simp; omega) ?_)
      intro v' w3 hown3 hgr3 _
      have hown4 : OwnL w3 w.heap.size v' (zs ++ [4294967295]) := OwnL.grown hown3 rfl rfl
      have hadd4 : Add w w3 := Below.grown (Below.alloc hadd hadd.size _) hgr3 (by have := hadd.size; simp; omega) (fun k hk => (World.ownsRow.lt hown k hk).1)
      have hst4 := onesSt_snoc1 HZ.out hown4 hadd4
      clear hown3 hgr3 hown hadd hown4 hadd4
      go_wp2_with fail
      go_roundg (gk - 1)
      case measure => omega
      case rel => exact ⟨v', rfl, k + 1, by go_num, by omega, hst4⟩
    · have dlt : decide (k < n) = false := decide_eq_false hlt
      obtain rfl : k = n := by omega
      have hst : OnesSt w k 0 ov wr := ⟨zs, HZ.out, hown, hadd⟩
      clear HZ HK hown hadd hkr hlt
      go_wp2_with fail
      go_loopg [5, 7] z (fun r out i wr => ∃ ov : Value, ov = out ∧ ∃ j : Nat, i = .int .i64 (j : Nat) ∧ j + r = z ∧ OnesSt w k j ov wr)
      case atStart => exact ⟨_, rfl, 0, rfl, by omega, hst⟩
      case round =>
        clear hst dlt
        obtain ⟨ov, rfl, j, rfl, hkr, zs, hzs, hown, hadd⟩ := hrel
        have hk : zs.length = k + j := by rw [hzs]; simp
        have HK := Lib.hid hk
        have HZ := Lib.hid hzs
        clear hk hzs
        by_cases hlt : j < z
        · have dlt : decide (j < z) = true := decide_eq_true hlt
          go_wp2_with (at_builtin; refine wpList_append_own _ rfl _ _ 23 rfl w.heap.size 50 i0 (.int .u32 0) 1 4 Tryd.underlying23 hi hz0 hz1 hz2 rfl (by decide) _ _ _ rfl (World.ownsRow.alloc hown _) ⟨wr.heap.size, 0, none⟩ 1 1 [_] rfl rfl (cell_one_new _ _ _) (by intro u hu; simp at hu; subst hu; rfl) (by have := HK.out; unfold maxLen; omega) (by have := HK.out; omega) (by have := hadd.size; simp; omega) ?_)
          intro v' w3 hown3 hgr3 _
          have hown4 : OwnL w3 w.heap.size v' (zs ++ [0]) := OwnL.grown hown3 rfl rfl
          have hadd4 : Add w w3 := Below.grown (Below.alloc hadd hadd.size _) hgr3 (by have := hadd.size; simp; omega) (fun k hk => (World.ownsRow.lt hown k hk).1)
          have hst4 := onesSt_snoc0 HZ.out hown4 hadd4
          clear hown3 hgr3 hown hadd hown4 hadd4
          go_wp2_with fail
          go_roundg (gk - 1)
          case measure => omega
          case rel => exact ⟨v', rfl, j + 1, by go_num, by omega, hst4⟩
        · have dlt : decide (j < z) = false := decide_eq_false hlt
          have hst : OnesSt w k j ov wr := ⟨zs, HZ.out, hown, hadd⟩
          have hF : OnesP w k (.returned ov) wr := ⟨_, rfl, onesSt_nv hst hn (by omega), hadd⟩
          clear HZ HK hown hadd hkr hst
          go_wp2_with fail
          go_ret
          exact hF
theorem onesN (n : Nat) {z : Nat} {w : World} (h : Hid (n ≤ 1000 ∧ z ≤ 10)) : Calls Tryd.prog 30 #[.int .i64 (n : Nat), .int .i64 (z : Nat)] w (OnesP w n) := ones_any n z w h.out.1 h.out.2
theorem onesM (n : Nat) {w : World} (h : Hid (n ≤ 1000)) : Calls Tryd.prog 30 #[.int .i64 (n : Nat), .int .i64 1] w (OnesP w n) := ones_any n 1 w h.out (by decide)

def FmtX (w : World) (x : Int) (e : Ending) (w' : World) : Prop := ∃ s, e = .returned (.tuple #[.string s, .int .i64 x]) ∧ Add w w'
theorem format_big (va : Value) (xs : List Nat) (w : World) (ha : Reads w va xs) (hN : pw 512 ≤ val xs) :
    Calls Tryd.prog 31 #[va] w (FmtX w 2) := by
  have LA := big_large ha hN
  clear hN
  go_enter Tryd.func31, Tryd.ntmps31
  go_wp2_with fail
  refine (large_is true _ _ _ ha LA.out).mono ?_; rintro e w' ⟨rfl, rfl⟩
  go_wp2_with fail
  go_ret2
  exact ⟨_, rfl, Below.refl _ _⟩
theorem natFormatS {va : Value} {A : Nat} {w : World} (ha : Nv w va A) (h : Hid (A < pw 512)) : Calls Tryd.prog 31 #[va] w (FmtX w 0) := by
  obtain ⟨xs, r, rfl, l⟩ := ha
  exact (format_ok va xs w r (by omega) h.out).mono fun e w' ⟨s, h1, _, _, h2⟩ => ⟨s, h1, h2⟩
theorem natFormatB {va : Value} {A : Nat} {w : World} (ha : Nv w va A) (h : Hid (pw 512 ≤ A)) : Calls Tryd.prog 31 #[va] w (FmtX w 2) := by
  obtain ⟨xs, r, rfl, l⟩ := ha
  exact format_big va xs w r h.out


set_option maxRecDepth 100000 in
set_option maxHeartbeats 8000000 in
theorem limits_small (n m z k : Nat) (w : World) (hn : n ≤ 255) (hm : m ≤ 255) (hz : z ≤ 255) (hk : 510 + (n : Int) % 4 = (k : Int)) (hb : k ≤ 512) :
    Calls Tryd.prog 4 #[.int .u8 (n : Nat), .int .u8 (m : Nat), .int .u8 (z : Nat)] w (LawP w) := by
  obtain ⟨j, hj⟩ : ∃ j : Nat, (m : Int) % 3 = (j : Int) := ⟨m % 3, by omega⟩
  obtain ⟨sh, hsh⟩ : ∃ sh : Nat, (m : Int) % 40 = (sh : Int) := ⟨m % 40, by omega⟩
  obtain ⟨zz, hzz⟩ : ∃ zz : Nat, (z : Int) % 3 = (zz : Int) := ⟨z % 3, by omega⟩
  have FO : Hid (k ≤ 1000 ∧ zz ≤ 10) := Lib.hid ⟨by omega, by omega⟩
  have FP : Hid (j ≤ 1000) := Lib.hid (by omega)
  obtain ⟨A, hA⟩ : ∃ A, A = pw k - 1 := ⟨_, rfl⟩
  obtain ⟨B, hB⟩ : ∃ B, B = pw j - 1 := ⟨_, rfl⟩
  have hpk := pw_pos k
  have FN : Hid (A + 1 = pw k) := Lib.hid (by omega)
  have HA := Lib.hid hA
  have HB := Lib.hid hB
  obtain ⟨pa, hpa⟩ : ∃ p, addS A B = p := ⟨_, rfl⟩
  have Fpa := Lib.hid hpa
  obtain ⟨ps, hps⟩ : ∃ p, subS B A = p := ⟨_, rfl⟩
  have Fps := Lib.hid hps
  obtain ⟨pm, hpm⟩ : ∃ p, mulS A B = p := ⟨_, rfl⟩
  have Fpm := Lib.hid hpm
  obtain ⟨pd, hpd⟩ : ∃ p, divS A B = p := ⟨_, rfl⟩
  have Fpd := Lib.hid hpd
  obtain ⟨pg, hpg⟩ : ∃ p, gcdS B A = p := ⟨_, rfl⟩
  have Fpg := Lib.hid hpg
  obtain ⟨ph, hph⟩ : ∃ p, shiftS A (sh : Int) = p := ⟨_, rfl⟩
  have Fph := Lib.hid hph
  have Fph2 : Hid (shiftS A (sh : Int) = ph ∧ -9223372036854775808 ≤ (sh : Int) ∧ (sh : Int) ≤ 9223372036854775807) := Lib.hid ⟨hph, by omega, by omega⟩
  obtain ⟨Y, hY⟩ : ∃ Y, Y = 32 * k := ⟨_, rfl⟩
  have FY : Hid (nb A = Y) := Lib.hid ((nb_ones FN.out).trans hY.symm)
  have eY : (32 : Int) * (k : Int) = (Y : Int) := by omega
  have FF : Hid (A < pw 512) := Lib.hid (by have := pw_le (show k ≤ 512 by omega); omega)
  have dbig : decide ((512 : Int) < (k : Nat)) = false := by simp; omega
  have T := Below.refl w.heap.size w
  clear hpa hps hpm hpd hpg hph hY hA hB hpk
  go_enter Tryd.func4, Tryd.ntmps4
  go_wp2_with fail
  refine (onesN k FO).mono ?_
  rintro e w1 ⟨v_a, rfl, n_a, h1⟩
  replace T := Add.trans T h1
  clear h1
  rw [← HA.out] at n_a
  go_wp2_with fail
  refine (onesM j FP).mono ?_
  rintro e w2 ⟨v_b, rfl, n_b, h2⟩
  replace n_a := n_a.mono h2
  replace T := Add.trans T h2
  clear h2
  rw [← HB.out] at n_b
  go_wp2_with fail
  refine (natAddX pa n_a n_b Fpa).mono ?_
  rintro e w3 ⟨v_s, rfl, n_s, h3⟩
  replace n_a := n_a.mono h3
  replace n_b := n_b.mono h3
  replace T := Add.trans T h3
  clear h3
  go_wp2_with fail
  refine (refAddX pa n_a n_b Fpa).mono ?_
  rintro e w4 ⟨v_t, rfl, n_t, h4⟩
  replace n_a := n_a.mono h4
  replace n_b := n_b.mono h4
  replace n_s := n_s.mono h4
  replace T := Add.trans T h4
  clear h4
  go_wp2_with fail
  refine (natMulX pm n_a n_b Fpm).mono ?_
  rintro e w5 ⟨v_p, rfl, n_p, h5⟩
  replace n_a := n_a.mono h5
  replace n_b := n_b.mono h5
  replace n_s := n_s.mono h5
  replace n_t := n_t.mono h5
  replace T := Add.trans T h5
  clear h5
  go_wp2_with fail
  refine (refMulX pm n_a n_b Fpm).mono ?_
  rintro e w6 ⟨v_q, rfl, n_q, h6⟩
  replace n_a := n_a.mono h6
  replace n_b := n_b.mono h6
  replace n_s := n_s.mono h6
  replace n_t := n_t.mono h6
  replace n_p := n_p.mono h6
  replace T := Add.trans T h6
  clear h6
  go_wp2_with fail
  refine (natSubX ps n_b n_a Fps).mono ?_
  rintro e w7 ⟨v_d, rfl, n_d, h7⟩
  replace n_a := n_a.mono h7
  replace n_b := n_b.mono h7
  replace n_s := n_s.mono h7
  replace n_t := n_t.mono h7
  replace n_p := n_p.mono h7
  replace n_q := n_q.mono h7
  replace T := Add.trans T h7
  clear h7
  go_wp2_with fail
  refine (refSubX ps n_b n_a Fps).mono ?_
  rintro e w8 ⟨v_c, rfl, n_c, h8⟩
  replace n_a := n_a.mono h8
  replace n_b := n_b.mono h8
  replace n_s := n_s.mono h8
  replace n_t := n_t.mono h8
  replace n_p := n_p.mono h8
  replace n_q := n_q.mono h8
  replace n_d := n_d.mono h8
  replace T := Add.trans T h8
  clear h8
  go_wp2_with fail
  refine (natDivX pd n_a n_b Fpd).mono ?_
  rintro e w9 ⟨v_x1, v_x2, rfl, n_x1, n_x2, h9⟩
  replace n_a := n_a.mono h9
  replace n_b := n_b.mono h9
  replace n_s := n_s.mono h9
  replace n_t := n_t.mono h9
  replace n_p := n_p.mono h9
  replace n_q := n_q.mono h9
  replace n_d := n_d.mono h9
  replace n_c := n_c.mono h9
  replace T := Add.trans T h9
  clear n_x1 n_x2 h9
  go_wp2_with fail
  refine (refDivX pd n_a n_b Fpd).mono ?_
  rintro e w10 ⟨v_x3, v_x4, rfl, n_x3, n_x4, h10⟩
  replace n_a := n_a.mono h10
  replace n_b := n_b.mono h10
  replace n_s := n_s.mono h10
  replace n_t := n_t.mono h10
  replace n_p := n_p.mono h10
  replace n_q := n_q.mono h10
  replace n_d := n_d.mono h10
  replace n_c := n_c.mono h10
  replace T := Add.trans T h10
  clear n_x3 n_x4 h10
  go_wp2_with fail
  refine (natGcdX pg n_b n_a Fpg).mono ?_
  rintro e w11 ⟨v_x5, rfl, n_x5, h11⟩
  replace n_a := n_a.mono h11
  replace n_b := n_b.mono h11
  replace n_s := n_s.mono h11
  replace n_t := n_t.mono h11
  replace n_p := n_p.mono h11
  replace n_q := n_q.mono h11
  replace n_d := n_d.mono h11
  replace n_c := n_c.mono h11
  replace T := Add.trans T h11
  clear n_x5 h11
  go_wp2_with fail
  refine (refGcdX pg n_b n_a Fpg).mono ?_
  rintro e w12 ⟨v_x6, rfl, n_x6, h12⟩
  replace n_a := n_a.mono h12
  replace n_s := n_s.mono h12
  replace n_t := n_t.mono h12
  replace n_p := n_p.mono h12
  replace n_q := n_q.mono h12
  replace n_d := n_d.mono h12
  replace n_c := n_c.mono h12
  replace T := Add.trans T h12
  clear n_b n_x6 h12
  go_wp2_with fail
  refine (natFormatS n_a FF).mono ?_
  rintro e w13 ⟨_, rfl, h13⟩
  replace n_a := n_a.mono h13
  replace n_s := n_s.mono h13
  replace n_t := n_t.mono h13
  replace n_p := n_p.mono h13
  replace n_q := n_q.mono h13
  replace n_d := n_d.mono h13
  replace n_c := n_c.mono h13
  replace T := Add.trans T h13
  clear h13
  go_wp2_with fail
  refine (refTrimX n_a).mono ?_
  rintro e w14 ⟨v_tr, rfl, n_tr, h14⟩
  replace n_a := n_a.mono h14
  replace n_s := n_s.mono h14
  replace n_t := n_t.mono h14
  replace n_p := n_p.mono h14
  replace n_q := n_q.mono h14
  replace n_d := n_d.mono h14
  replace n_c := n_c.mono h14
  replace T := Add.trans T h14
  clear h14
  obtain ⟨a_t, c_t, rfl⟩ := num_ones n_tr FN.out
  go_wp2_with fail
  refine (natShiftX ph n_a Fph).mono ?_
  rintro e w15 ⟨v_u, rfl, n_u, h15⟩
  replace n_a := n_a.mono h15
  replace n_s := n_s.mono h15
  replace n_t := n_t.mono h15
  replace n_p := n_p.mono h15
  replace n_q := n_q.mono h15
  replace n_d := n_d.mono h15
  replace n_c := n_c.mono h15
  replace T := Add.trans T h15
  clear n_tr h15
  go_wp2_with fail
  refine (refShiftX ph n_a Fph2).mono ?_
  rintro e w16 ⟨v_v, rfl, n_v, h16⟩
  replace n_a := n_a.mono h16
  replace n_s := n_s.mono h16
  replace n_t := n_t.mono h16
  replace n_p := n_p.mono h16
  replace n_q := n_q.mono h16
  replace n_d := n_d.mono h16
  replace n_c := n_c.mono h16
  replace n_u := n_u.mono h16
  replace T := Add.trans T h16
  clear h16
  go_wp2_with fail
  refine (sameN true n_s n_t (Lib.hid (decide_eq_true rfl))).mono ?_
  rintro e w17 ⟨rfl, h17⟩
  replace n_a := n_a.mono h17
  replace n_p := n_p.mono h17
  replace n_q := n_q.mono h17
  replace n_d := n_d.mono h17
  replace n_c := n_c.mono h17
  replace n_u := n_u.mono h17
  replace n_v := n_v.mono h17
  replace T := Add.trans T h17
  clear n_s n_t h17
  go_wp2_with fail
  refine (sameN true n_p n_q (Lib.hid (decide_eq_true rfl))).mono ?_
  rintro e w18 ⟨rfl, h18⟩
  replace n_a := n_a.mono h18
  replace n_d := n_d.mono h18
  replace n_c := n_c.mono h18
  replace n_u := n_u.mono h18
  replace n_v := n_v.mono h18
  replace T := Add.trans T h18
  clear n_p n_q h18
  go_wp2_with fail
  refine (sameN true n_d n_c (Lib.hid (decide_eq_true rfl))).mono ?_
  rintro e w19 ⟨rfl, h19⟩
  replace n_a := n_a.mono h19
  replace n_u := n_u.mono h19
  replace n_v := n_v.mono h19
  replace T := Add.trans T h19
  clear n_d n_c h19
  go_wp2_with fail
  refine (sameN true n_u n_v (Lib.hid (decide_eq_true rfl))).mono ?_
  rintro e w20 ⟨rfl, h20⟩
  replace n_a := n_a.mono h20
  replace T := Add.trans T h20
  clear n_u n_v h20
  go_wp2_with fail
  refine (natBitsX Y n_a FY).mono ?_
  rintro e w21 ⟨rfl, h21⟩
  replace n_a := n_a.mono h21
  replace T := Add.trans T h21
  clear h21
  go_wp2_with fail
  refine (refTrimX n_a).mono ?_
  rintro e w22 ⟨v_ts, rfl, n_ts, h22⟩
  replace T := Add.trans T h22
  clear n_a h22
  obtain ⟨a_u, c_u, rfl⟩ := num_ones n_ts FN.out
  go_wp2_with fail
  refine (awake_any _).mono ?_
  rintro e w' ⟨rfl, hadd⟩
  go_wp2_with fail
  go_ret
  exact ⟨rfl, Add.trans T hadd⟩

set_option maxRecDepth 100000 in
set_option maxHeartbeats 8000000 in
theorem limits_big (n m z k : Nat) (w : World) (hn : n ≤ 255) (hm : m ≤ 255) (hz : z ≤ 255) (hk : 510 + (n : Int) % 4 = (k : Int)) (hb : 512 < k) :
    Calls Tryd.prog 4 #[.int .u8 (n : Nat), .int .u8 (m : Nat), .int .u8 (z : Nat)] w (LawP w) := by
  obtain ⟨j, hj⟩ : ∃ j : Nat, (m : Int) % 3 = (j : Int) := ⟨m % 3, by omega⟩
  obtain ⟨sh, hsh⟩ : ∃ sh : Nat, (m : Int) % 40 = (sh : Int) := ⟨m % 40, by omega⟩
  obtain ⟨zz, hzz⟩ : ∃ zz : Nat, (z : Int) % 3 = (zz : Int) := ⟨z % 3, by omega⟩
  have FO : Hid (k ≤ 1000 ∧ zz ≤ 10) := Lib.hid ⟨by omega, by omega⟩
  have FP : Hid (j ≤ 1000) := Lib.hid (by omega)
  obtain ⟨A, hA⟩ : ∃ A, A = pw k - 1 := ⟨_, rfl⟩
  obtain ⟨B, hB⟩ : ∃ B, B = pw j - 1 := ⟨_, rfl⟩
  have hpk := pw_pos k
  have FN : Hid (A + 1 = pw k) := Lib.hid (by omega)
  have HA := Lib.hid hA
  have HB := Lib.hid hB
  obtain ⟨pa, hpa⟩ : ∃ p, addS A B = p := ⟨_, rfl⟩
  have Fpa := Lib.hid hpa
  obtain ⟨ps, hps⟩ : ∃ p, subS B A = p := ⟨_, rfl⟩
  have Fps := Lib.hid hps
  obtain ⟨pm, hpm⟩ : ∃ p, mulS A B = p := ⟨_, rfl⟩
  have Fpm := Lib.hid hpm
  obtain ⟨pd, hpd⟩ : ∃ p, divS A B = p := ⟨_, rfl⟩
  have Fpd := Lib.hid hpd
  obtain ⟨pg, hpg⟩ : ∃ p, gcdS B A = p := ⟨_, rfl⟩
  have Fpg := Lib.hid hpg
  obtain ⟨ph, hph⟩ : ∃ p, shiftS A (sh : Int) = p := ⟨_, rfl⟩
  have Fph := Lib.hid hph
  have Fph2 : Hid (shiftS A (sh : Int) = ph ∧ -9223372036854775808 ≤ (sh : Int) ∧ (sh : Int) ≤ 9223372036854775807) := Lib.hid ⟨hph, by omega, by omega⟩
  obtain ⟨Y, hY⟩ : ∃ Y, Y = 32 * k := ⟨_, rfl⟩
  have FY : Hid (nb A = Y) := Lib.hid ((nb_ones FN.out).trans hY.symm)
  have eY : (32 : Int) * (k : Int) = (Y : Int) := by omega
  have FF : Hid (pw 512 ≤ A) := Lib.hid (by have := pw_succ 512; have := pw_pos 512; rw [hA, show k = 512 + 1 from by omega]; omega)
  have dbig : decide ((512 : Int) < (k : Nat)) = true := by simp; omega
  have T := Below.refl w.heap.size w
  clear hpa hps hpm hpd hpg hph hY hA hB hpk
  go_enter Tryd.func4, Tryd.ntmps4
  go_wp2_with fail
  refine (onesN k FO).mono ?_
  rintro e w1 ⟨v_a, rfl, n_a, h1⟩
  replace T := Add.trans T h1
  clear h1
  rw [← HA.out] at n_a
  go_wp2_with fail
  refine (onesM j FP).mono ?_
  rintro e w2 ⟨v_b, rfl, n_b, h2⟩
  replace n_a := n_a.mono h2
  replace T := Add.trans T h2
  clear h2
  rw [← HB.out] at n_b
  go_wp2_with fail
  refine (natAddX pa n_a n_b Fpa).mono ?_
  rintro e w3 ⟨v_s, rfl, n_s, h3⟩
  replace n_a := n_a.mono h3
  replace n_b := n_b.mono h3
  replace T := Add.trans T h3
  clear h3
  go_wp2_with fail
  refine (refAddX pa n_a n_b Fpa).mono ?_
  rintro e w4 ⟨v_t, rfl, n_t, h4⟩
  replace n_a := n_a.mono h4
  replace n_b := n_b.mono h4
  replace n_s := n_s.mono h4
  replace T := Add.trans T h4
  clear h4
  go_wp2_with fail
  refine (natMulX pm n_a n_b Fpm).mono ?_
  rintro e w5 ⟨v_p, rfl, n_p, h5⟩
  replace n_a := n_a.mono h5
  replace n_b := n_b.mono h5
  replace n_s := n_s.mono h5
  replace n_t := n_t.mono h5
  replace T := Add.trans T h5
  clear h5
  go_wp2_with fail
  refine (refMulX pm n_a n_b Fpm).mono ?_
  rintro e w6 ⟨v_q, rfl, n_q, h6⟩
  replace n_a := n_a.mono h6
  replace n_b := n_b.mono h6
  replace n_s := n_s.mono h6
  replace n_t := n_t.mono h6
  replace n_p := n_p.mono h6
  replace T := Add.trans T h6
  clear h6
  go_wp2_with fail
  refine (natSubX ps n_b n_a Fps).mono ?_
  rintro e w7 ⟨v_d, rfl, n_d, h7⟩
  replace n_a := n_a.mono h7
  replace n_b := n_b.mono h7
  replace n_s := n_s.mono h7
  replace n_t := n_t.mono h7
  replace n_p := n_p.mono h7
  replace n_q := n_q.mono h7
  replace T := Add.trans T h7
  clear h7
  go_wp2_with fail
  refine (refSubX ps n_b n_a Fps).mono ?_
  rintro e w8 ⟨v_c, rfl, n_c, h8⟩
  replace n_a := n_a.mono h8
  replace n_b := n_b.mono h8
  replace n_s := n_s.mono h8
  replace n_t := n_t.mono h8
  replace n_p := n_p.mono h8
  replace n_q := n_q.mono h8
  replace n_d := n_d.mono h8
  replace T := Add.trans T h8
  clear h8
  go_wp2_with fail
  refine (natDivX pd n_a n_b Fpd).mono ?_
  rintro e w9 ⟨v_x1, v_x2, rfl, n_x1, n_x2, h9⟩
  replace n_a := n_a.mono h9
  replace n_b := n_b.mono h9
  replace n_s := n_s.mono h9
  replace n_t := n_t.mono h9
  replace n_p := n_p.mono h9
  replace n_q := n_q.mono h9
  replace n_d := n_d.mono h9
  replace n_c := n_c.mono h9
  replace T := Add.trans T h9
  clear n_x1 n_x2 h9
  go_wp2_with fail
  refine (refDivX pd n_a n_b Fpd).mono ?_
  rintro e w10 ⟨v_x3, v_x4, rfl, n_x3, n_x4, h10⟩
  replace n_a := n_a.mono h10
  replace n_b := n_b.mono h10
  replace n_s := n_s.mono h10
  replace n_t := n_t.mono h10
  replace n_p := n_p.mono h10
  replace n_q := n_q.mono h10
  replace n_d := n_d.mono h10
  replace n_c := n_c.mono h10
  replace T := Add.trans T h10
  clear n_x3 n_x4 h10
  go_wp2_with fail
  refine (natGcdX pg n_b n_a Fpg).mono ?_
  rintro e w11 ⟨v_x5, rfl, n_x5, h11⟩
  replace n_a := n_a.mono h11
  replace n_b := n_b.mono h11
  replace n_s := n_s.mono h11
  replace n_t := n_t.mono h11
  replace n_p := n_p.mono h11
  replace n_q := n_q.mono h11
  replace n_d := n_d.mono h11
  replace n_c := n_c.mono h11
  replace T := Add.trans T h11
  clear n_x5 h11
  go_wp2_with fail
  refine (refGcdX pg n_b n_a Fpg).mono ?_
  rintro e w12 ⟨v_x6, rfl, n_x6, h12⟩
  replace n_a := n_a.mono h12
  replace n_s := n_s.mono h12
  replace n_t := n_t.mono h12
  replace n_p := n_p.mono h12
  replace n_q := n_q.mono h12
  replace n_d := n_d.mono h12
  replace n_c := n_c.mono h12
  replace T := Add.trans T h12
  clear n_b n_x6 h12
  go_wp2_with fail
  refine (natFormatB n_a FF).mono ?_
  rintro e w13 ⟨_, rfl, h13⟩
  replace n_a := n_a.mono h13
  replace n_s := n_s.mono h13
  replace n_t := n_t.mono h13
  replace n_p := n_p.mono h13
  replace n_q := n_q.mono h13
  replace n_d := n_d.mono h13
  replace n_c := n_c.mono h13
  replace T := Add.trans T h13
  clear h13
  go_wp2_with fail
  refine (refTrimX n_a).mono ?_
  rintro e w14 ⟨v_tr, rfl, n_tr, h14⟩
  replace n_a := n_a.mono h14
  replace n_s := n_s.mono h14
  replace n_t := n_t.mono h14
  replace n_p := n_p.mono h14
  replace n_q := n_q.mono h14
  replace n_d := n_d.mono h14
  replace n_c := n_c.mono h14
  replace T := Add.trans T h14
  clear h14
  obtain ⟨a_t, c_t, rfl⟩ := num_ones n_tr FN.out
  go_wp2_with fail
  refine (natShiftX ph n_a Fph).mono ?_
  rintro e w15 ⟨v_u, rfl, n_u, h15⟩
  replace n_a := n_a.mono h15
  replace n_s := n_s.mono h15
  replace n_t := n_t.mono h15
  replace n_p := n_p.mono h15
  replace n_q := n_q.mono h15
  replace n_d := n_d.mono h15
  replace n_c := n_c.mono h15
  replace T := Add.trans T h15
  clear n_tr h15
  go_wp2_with fail
  refine (refShiftX ph n_a Fph2).mono ?_
  rintro e w16 ⟨v_v, rfl, n_v, h16⟩
  replace n_a := n_a.mono h16
  replace n_s := n_s.mono h16
  replace n_t := n_t.mono h16
  replace n_p := n_p.mono h16
  replace n_q := n_q.mono h16
  replace n_d := n_d.mono h16
  replace n_c := n_c.mono h16
  replace n_u := n_u.mono h16
  replace T := Add.trans T h16
  clear h16
  go_wp2_with fail
  refine (sameN true n_s n_t (Lib.hid (decide_eq_true rfl))).mono ?_
  rintro e w17 ⟨rfl, h17⟩
  replace n_a := n_a.mono h17
  replace n_p := n_p.mono h17
  replace n_q := n_q.mono h17
  replace n_d := n_d.mono h17
  replace n_c := n_c.mono h17
  replace n_u := n_u.mono h17
  replace n_v := n_v.mono h17
  replace T := Add.trans T h17
  clear n_s n_t h17
  go_wp2_with fail
  refine (sameN true n_p n_q (Lib.hid (decide_eq_true rfl))).mono ?_
  rintro e w18 ⟨rfl, h18⟩
  replace n_a := n_a.mono h18
  replace n_d := n_d.mono h18
  replace n_c := n_c.mono h18
  replace n_u := n_u.mono h18
  replace n_v := n_v.mono h18
  replace T := Add.trans T h18
  clear n_p n_q h18
  go_wp2_with fail
  refine (sameN true n_d n_c (Lib.hid (decide_eq_true rfl))).mono ?_
  rintro e w19 ⟨rfl, h19⟩
  replace n_a := n_a.mono h19
  replace n_u := n_u.mono h19
  replace n_v := n_v.mono h19
  replace T := Add.trans T h19
  clear n_d n_c h19
  go_wp2_with fail
  refine (sameN true n_u n_v (Lib.hid (decide_eq_true rfl))).mono ?_
  rintro e w20 ⟨rfl, h20⟩
  replace n_a := n_a.mono h20
  replace T := Add.trans T h20
  clear n_u n_v h20
  go_wp2_with fail
  refine (natBitsX Y n_a FY).mono ?_
  rintro e w21 ⟨rfl, h21⟩
  replace n_a := n_a.mono h21
  replace T := Add.trans T h21
  clear h21
  go_wp2_with fail
  refine (refTrimX n_a).mono ?_
  rintro e w22 ⟨v_ts, rfl, n_ts, h22⟩
  replace T := Add.trans T h22
  clear n_a h22
  obtain ⟨a_u, c_u, rfl⟩ := num_ones n_ts FN.out
  go_wp2_with fail
  refine (awake_any _).mono ?_
  rintro e w' ⟨rfl, hadd⟩
  go_wp2_with fail
  go_ret
  exact ⟨rfl, Add.trans T hadd⟩

theorem limits_any (n m z : Nat) (w : World) (hn : n ≤ 255) (hm : m ≤ 255) (hz : z ≤ 255) :
    Calls Tryd.prog 4 #[.int .u8 (n : Nat), .int .u8 (m : Nat), .int .u8 (z : Nat)] w (LawP w) := by
  have hk : 510 + (n : Int) % 4 = ((510 + n % 4 : Nat) : Int) := by omega
  rcases Nat.lt_or_ge 512 (510 + n % 4) with h | h
  · exact limits_big n m z _ w hn hm hz hk h
  · exact limits_small n m z _ w hn hm hz hk h
end Go.Proofs.YtfoffjnffkgnaaaDoor.Limits

namespace Go.Proofs.YtfoffjnffkgnaaaDoor
open Go.ChangeShapes Go.WideShapes Go.ChangeAt Go.RowKit NatM

theorem own : ownKnob Tryd.prog.godebug = none := by kernel_rfl
theorem laidOut : laidOutB Tryd.prog = true := by kernel_rfl
theorem cells44 : Tryd.prog.cellsOf 50 = 1 := by kernel_rfl

theorem wf_nat {z : Int} (h : (Lit.int .u32 z).wf = true) : 0 ≤ z ∧ z < 4294967296 := by
  have h1 : IntKind.u32.min = 0 := rfl
  have h2 : IntKind.u32.max = 4294967295 := rfl
  simp only [Lit.wf, Bool.and_eq_true, decide_eq_true_eq] at h
  omega

set_option maxRecDepth 100000 in
/-- An argument of type api.Nat reads as a list of limbs. -/
theorem open_nat {H : Type} {enc : TypeId × Value → H} {W : World} {base : Nat} {v : Value} {d : DataW H} {ps : List MemPlace} (hok : Value.okWide Tryd.prog W .any base 23 v) (h : DataW.Trod enc Tryd.prog W 0 (fun _ => true) true 23 v d ps) :
    ∃ xs, Reads W v xs := by
  obtain ⟨fuel, hf⟩ := h
  obtain ⟨a0, len0, cap0, rfl⟩ := okWide_slice Tryd.underlying23 hok
  rcases open_ints Tryd.underlying23 Tryd.underlying50 cells44 hf with ⟨hcs, _⟩ | ⟨a, len, cap, zs, hcs, _, hl, hm, hz, _, hcell, hwz⟩
  · simp [Value.cells] at hcs
    obtain ⟨rfl, rfl, rfl⟩ := hcs
    exact ⟨[], Reads.nil W⟩
  · simp [Value.cells] at hcs
    obtain ⟨rfl, rfl, rfl⟩ := hcs
    simp only [if_true] at hz
    refine ⟨(zs.take len0).map Int.toNat, some a, len0, cap0, rfl, by simp; omega, hl, hm, ?_, ?_⟩
    · intro x hx
      obtain ⟨z, hz', rfl⟩ := List.mem_map.1 hx
      have := wf_nat (hwz z (List.mem_of_mem_take hz'))
      omega
    · intro hn
      obtain ⟨b, off, rfl, hc⟩ := ints_at hcell (by omega)
      refine ⟨b, off, rfl, fun i hi => ?_⟩
      rw [hc i (by omega)]
      have hi' : i < zs.length := by omega
      have hw := wf_nat (hwz (zs.getD i 0) (by simp [List.getD, hi']))
      have : ((zs.take len0).map Int.toNat).getD i 0 = (zs.getD i 0).toNat := by
        simp [List.getD, hi, hi']
      rw [this, Int.toNat_of_nonneg hw.1]

/-- A world for the witness: the settled one, with Go's two tables of package utf8 in their blocks. -/
def layRow (l : List Nat) : Obj → Obj
  | .cells _ t frozen => .cells (l.map fun n => Value.int .u8 (n : Nat)).toArray t frozen
  | o => o
noncomputable def laidWorld (os : Os) : World :=
  { World.holding Tryd.prog os ⟨#[], #[], []⟩ with heap := ((World.holding Tryd.prog os ⟨#[], #[], []⟩).heap.modify 1 (layRow Pinned.utf8FirstZ)).modify 2 (layRow ([128, 191, 160, 191, 128, 159, 144, 191, 128, 143] ++ List.replicate 22 0)) }
theorem laid_met (os : Os) (args : Array Value) : laidMet Tryd.prog [("unicode/utf8.acceptRanges", Rows.laid_unicode_utf8_acceptRanges), ("unicode/utf8.first", Rows.laid_unicode_utf8_first)] ((laidWorld os).forCall (fun _ _ => 0) ⟨#[], args, []⟩).memory :=
  laidMet_of_run' 8 (by kernel_rfl) (by kernel_rfl)

/-- An argument reads behind the call as it read before. -/
theorem kept_arg {H : Type} {enc : TypeId × Value → H} {W W' : World} {t : TypeId} {v : Value} {d : DataW H} {ps : List MemPlace} (hr : Tryd.prog.readableRec t = true) (ht : t < Tryd.prog.types.size)
    (h : DataW.Trod enc Tryd.prog W 0 (fun _ => true) true t v d ps) (hb : Add W W') (hlt : ∀ x ∈ ps, x.block < W.heap.size) : DataW.Trod enc Tryd.prog W' 0 (fun b => decide (b < W.heap.size)) true t v d ps :=
  Below.trod laidOut hr ht h hb hlt
theorem readNat : Tryd.prog.readableRec 23 = true := by kernel_rfl
theorem ltNat : 23 < Tryd.prog.types.size := of_decide_eq_true (by kernel_rfl)
end Go.Proofs.YtfoffjnffkgnaaaDoor

namespace Go.Proofs.YtfoffjnffkgnaaaDoor
open NatM
theorem byte_nat {z : Int} (h : (Lit.int .u8 z).wf = true) : ∃ n : Nat, n ≤ 255 ∧ z = (n : Int) := by
  have h1 : IntKind.u8.min = 0 := rfl
  have h2 : IntKind.u8.max = 255 := rfl
  simp only [Lit.wf, Bool.and_eq_true, decide_eq_true_eq] at h
  exact ⟨z.toNat, by omega, by omega⟩
theorem word_nat {z : Int} (h : (Lit.int .u16 z).wf = true) : ∃ n : Nat, n ≤ 65535 ∧ z = (n : Int) := by
  have h1 : IntKind.u16.min = 0 := rfl
  have h2 : IntKind.u16.max = 65535 := rfl
  simp only [Lit.wf, Bool.and_eq_true, decide_eq_true_eq] at h
  exact ⟨z.toNat, by omega, by omega⟩
theorem long_nat {z : Int} (h : (Lit.int .u64 z).wf = true) : ∃ n : Nat, n < 18446744073709551616 ∧ z = (n : Int) := by
  have h1 : IntKind.u64.min = 0 := rfl
  have h2 : IntKind.u64.max = 18446744073709551615 := rfl
  simp only [Lit.wf, Bool.and_eq_true, decide_eq_true_eq] at h
  exact ⟨z.toNat, by omega, by omega⟩
theorem int_bounds {z : Int} (h : (Lit.int .i64 z).wf = true) : -9223372036854775808 ≤ z ∧ z ≤ 9223372036854775807 := by
  have h1 : IntKind.i64.min = -9223372036854775808 := rfl
  have h2 : IntKind.i64.max = 9223372036854775807 := rfl
  simp only [Lit.wf, Bool.and_eq_true, decide_eq_true_eq] at h
  omega
end Go.Proofs.YtfoffjnffkgnaaaDoor

namespace Go.Proofs.YtfoffjnffkgnaaaDoor.fnNaturalLimits
open Go.Proofs.YtfoffjnffkgnaaaDoor Go.Proofs.YtfoffjnffkgnaaaDoor.Api Go.ChangeShapes Go.WideShapes Go.ChangeAt Go.RowKit NatM
set_option maxRecDepth 100000 in
/-- What the walk gives, for every argument. -/
theorem contract (H : Type) (enc : TypeId × Value → H) (W : World) (base : Nat) (args : Array Value) (ds gs : List (DataW H)) (before : List MemPlace)
    (hval : ∀ (j : Nat) t v, Tryd.f4.params[j]? = some t → args[j]? = some v → Value.okWide Tryd.prog W .any base t v)
    (hW : DataW.Whole enc Tryd.prog Tryd.f4.params.toList Rows.naturalLimitsSpec.vars false W args.toList ds gs before) :
    Calls Tryd.prog 4 args W fun e W' => ∃ v, e = .returned v ∧ Rows.naturalLimitsSpec.post enc Tryd.prog Tryd.f4 false true false false W args v W' := by
  have hW' := hW
  obtain ⟨p, q, hA0, hV, rfl, -, -⟩ := hW
  have hA : DataW.TrodAll enc Tryd.prog W 0 (fun _ => true) true Tryd.f4.params.toList args.toList ds p := hA0
  rw [Tryd.params4] at hA hval
  obtain ⟨v0, vs0, d0, ds0, p0, q0, hargs0, rfl, rfl, h0, t0⟩ := trodAll_cons hA
  obtain ⟨v1, vs1, d1, ds1, p1, q1, hargs1, rfl, rfl, h1, t1⟩ := trodAll_cons t0
  obtain ⟨v2, vs2, d2, ds2, p2, q2, hargs2, rfl, rfl, h2, t2⟩ := trodAll_cons t1
  obtain ⟨rfl, rfl, rfl⟩ := trodAll_nil t2
  obtain rfl : args = #[v0, v1, v2] := by cases args; simp_all
  obtain ⟨rfl, rfl⟩ := trodVars_none hV
  obtain ⟨m0, rfl, rfl, rfl, wf0⟩ := open_int Tryd.underlying5 (hval 0 5 v0 rfl rfl) h0
  obtain ⟨m1, rfl, rfl, rfl, wf1⟩ := open_int Tryd.underlying5 (hval 1 5 v1 rfl rfl) h1
  obtain ⟨m2, rfl, rfl, rfl, wf2⟩ := open_int Tryd.underlying5 (hval 2 5 v2 rfl rfl) h2
  clear hA0
  simp only [List.append_nil] at hW'
  have walk : Calls Tryd.prog 4 #[(.int .u8 m0), (.int .u8 m1), (.int .u8 m2)] W (LawP W) := by
    obtain ⟨n, hn, rfl⟩ := byte_nat wf0
    obtain ⟨m, hm, rfl⟩ := byte_nat wf1
    obtain ⟨z, hz, rfl⟩ := byte_nat wf2
    exact Limits.limits_any n m z W hn hm hz
  refine walk.mono fun e W' ⟨he, hb⟩ => ?_
  subst he
  exact ⟨_, rfl, _, _, _, [], _, [], hW', trodAll_cons_mk (shut_bool Tryd.underlying4 _) trodAll_mk0, trodAll_cons_mk (shut_int Tryd.underlying5 wf0) (trodAll_cons_mk (shut_int Tryd.underlying5 wf1) (trodAll_cons_mk (shut_int Tryd.underlying5 wf2) (trodAll_mk0))), rfl, Below.frame hb _, fun h => by cases h⟩

def wArgs : Array Value := #[.int .u8 0, .int .u8 0, .int .u8 0]
theorem reads (os : Os) {H : Type} (enc : TypeId × Value → H) : ∃ places, DataW.whole enc Tryd.prog ((laidWorld os).forCall (fun _ _ => 0) ⟨#[], wArgs, []⟩).memory Tryd.f4.params.toList Rows.naturalLimitsSpec.vars false wArgs.toList 8 = some ([.lit (.int .u8 0), .lit (.int .u8 0), .lit (.int .u8 0)], [], places) :=
  ⟨[], by kernel_rfl⟩

set_option maxRecDepth 100000 in
theorem lifted (os : Os) (started : os.Started) (H : Type) (enc : TypeId × Value → H) (F : Stop.Interp) :
    ReturnsInHanded {} Tryd.checked os 4 .any ((OpenSpec.ofChange Rows.naturalLimitsSpec).preRow enc Tryd.prog Tryd.f4 Rows.naturalLimitsRow.domain false Rows.naturalLimitsRow.laid) (((OpenSpec.ofChange Rows.naturalLimitsSpec).at F).post enc Tryd.prog Tryd.f4 false true false false) := by
  obtain ⟨places, hx⟩ := reads os enc
  refine returnsInHanded_of_row (C := Tryd.checked) (s := OpenSpec.ofChange Rows.naturalLimitsSpec) own started (by kernel_rfl) Tryd.func4
    (witness_row_at (enc := enc) (C := Tryd.checked) false (laidWorld os) wArgs rfl (by kernel_rfl) (by kernel_rfl) (by kernel_rfl)
      (OpenSpec.preRow_of_cond 8 hx (by kernel_rfl) (fun k hk => by cases hk) (by kernel_rfl) (laid_met os _))) ?_
  intro W base args ds gs before hval hW _ _ _ _ _ _
  exact contract H enc W base args ds gs before hval hW

theorem said : Rows.NaturalLimitsSaid :=
  OpenClaim.holds_of_cond 4 Tryd.f4 rfl rfl rfl rfl rfl rfl rfl ⟨rfl, rfl, rfl, rfl, rfl⟩ rfl rfl rfl rfl rfl (by kernel_rfl) Tryd.func4 (by kernel_rfl)
    (of_decide_eq_true (by kernel_rfl)) (by unfold Func.isWrapper; first | (rw [if_pos (by decide +kernel)]; kernel_rfl) | (rw [if_neg (by decide +kernel)]; exact ⟨rfl, rfl⟩))
    (fun os started H enc _ F => by rw [OpenClaim.pre_eq_preRow]; exact lifted os started H enc F)

theorem plain (f : FuncId) (fn : Func) (hf : Tryd.pinned.checked.prog.funcNamed "drydock/drydocklaw01.NaturalLimits" = some f) (hfn : Tryd.pinned.checked.prog.funcs[f]? = some fn) :
    false = Tryd.pinned.checked.prog.looks [] ∧ ∀ (j : Nat) t, fn.params[j]? = some t → Tryd.pinned.checked.prog.wantsStandIn t = false := by
  obtain rfl : f = 4 := Option.some.inj ((show Tryd.prog.funcNamed "drydock/drydocklaw01.NaturalLimits" = some 4 by kernel_rfl).symm.trans hf) |>.symm
  obtain rfl : fn = Tryd.f4 := (Option.some.inj (Tryd.func4.symm.trans hfn)).symm
  refine ⟨by kernel_rfl, fun j t ht => ?_⟩
  rw [Tryd.params4] at ht
  have hm : t ∈ [5, 5, 5] := by
    have := Array.mem_of_getElem? ht
    simpa using this
  have hall : ([5, 5, 5].all fun u => !Tryd.prog.wantsStandIn u) = true := by kernel_rfl
  exact (show Tryd.prog.wantsStandIn t = false by simpa using List.all_eq_true.1 hall t hm)

/-- The card. -/
theorem card : Rows.NaturalLimitsCardSaid :=
  Claim7.holds_tied_plain_at .later [] _ _ _ _ said (fun _ h => by cases h) (by kernel_rfl) (fun _ h => by cases h) naturalLimits_row_tie rfl ⟨rfl, rfl⟩ (by kernel_rfl) rfl plain (by kernel_rfl)
end Go.Proofs.YtfoffjnffkgnaaaDoor.fnNaturalLimits
namespace Go.Proofs.YtfoffjnffkgnaaaDoor
theorem naturalLimits_card : Rows.NaturalLimitsCardSaid := fnNaturalLimits.card
end Go.Proofs.YtfoffjnffkgnaaaDoor
