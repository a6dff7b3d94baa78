/- Package mincost: refine. -/
import Derived.Test.YtaoibakbnimnkaaYe
namespace Go.Proofs.Ytaoibakbnimnkaa
open Go.RowKit NetM

theorem CB.to {w0 w : World} {A0 A B : List Arc} {N gr ga gs gf gp gx gt : Nat} {va sv : Value} {R : Nat → Int} {P X : List Int} {T : List Bool} (h : CB w0 w A0 A N gr ga gs gf gp gx gt va sv R P X T)
    (hl : A.length = B.length) (h1 : ∀ j, headS A j = headS B j) (h2 : ∀ j, costS A j = costS B j) (h3 : fromR A = fromR B) : CB w0 w A0 B N gr ga gs gf gp gx gt va sv R P X T := by
  obtain ⟨k1, k2, k3, k4, k5⟩ := h
  refine ⟨k1, k2, ?_, by rw [← h3]; exact k4, k5⟩
  obtain ⟨c, e, q1, q2, cur, q3, q4⟩ := k3
  rw [hl] at e q1
  refine ⟨c, e, q1, q2, cur, q3, fun j hj => ?_⟩
  rw [← hl] at hj
  rw [← h1, ← h2]; exact q4 j hj
theorem CB.up {w0 w : World} {A0 A : List Arc} {N gr ga gs gf gp gx gt : Nat} {va sv : Value} {R : Nat → Int} {P X : List Int} {T : List Bool} (h : CB w0 w A0 A N gr ga gs gf gp gx gt va sv R P X T) (d : Nat) : CB w0 w A0 (Ad A d) N gr ga gs gf gp gx gt va sv R P X T :=
  h.to (Ad_len A d).symm (fun j => (Ad_head A d j).symm) (fun j => (Ad_cost A d j).symm) (funext fun x => (Ad_from A d x).symm)
theorem CB.dn {w0 w : World} {A0 A : List Arc} {N gr ga gs gf gp gx gt : Nat} {va sv : Value} {R : Nat → Int} {P X : List Int} {T : List Bool} {d : Nat} (h : CB w0 w A0 (Ad A d) N gr ga gs gf gp gx gt va sv R P X T) : CB w0 w A0 A N gr ga gs gf gp gx gt va sv R P X T :=
  h.to (Ad_len A d) (fun j => Ad_head A d j) (fun j => Ad_cost A d j) (funext fun x => Ad_from A d x)
theorem and_bit (x : Int) (h0 : 0 ≤ x) (h1 : x < 9223372036854775808) : bits BinOp.and IntKind.i64 x 1 = x % 2 := by
  have two63 : (2 : Int) ^ 63 = 9223372036854775808 := by decide
  have h := bits_mask .i64 63 (by decide) (fun n h0 h1 => by rw [two63] at h1; rw [IntKind.wrap_i64]; omega) 1 (by decide) x h0 (by rw [two63]; omega)
  have e : ((2 : Int) ^ 1 - 1) = 1 := by decide
  rw [e] at h
  rw [h]
  omega
/-- The rooms when i arcs are done. -/
def refR (A : List Arc) (P F : List Int) (d i j : Nat) : Int := if j / 2 < i then roomS (Ad A d) (refF A P F d) j else roomS (Ad A (d + 1)) F j
def RefM (w0 wr : World) (A : List Arc) (N gr ga gs gf gp gx gt : Nat) (va sv : Value) (F P : List Int) (T : List Bool) (d i : Nat) : Prop :=
  ∃ X, CB w0 wr A A N gr ga gs gf gp gx gt va sv (refR A P F d i) P X T ∧ ∀ x : Nat, x < N → X.getD x 0 = - net x A (preF A P F d i)
theorem refR_zero (A : List Arc) (P F : List Int) (d j : Nat) : refR A P F d 0 j = roomS (Ad A (d + 1)) F j := by unfold refR; rw [if_neg (by omega)]
theorem refR_all {A : List Arc} {P F : List Int} {d j : Nat} (hj : j < 2 * A.length) : refR A P F d A.length j = roomS (Ad A d) (refF A P F d) j := by unfold refR; rw [if_pos (by omega)]
/-- An arc whose reduced cost is not below 0. -/
theorem refR_keep {A : List Arc} {P F : List Int} {d i : Nat} (hi : i < A.length) (hr : ¬ redS A P (2 * i) < 0) (j : Nat) :
    (if j = 2 * i + 1 then 2 * F.getD i 0 else if j = 2 * i then 2 * ((at' A i).2.2.1 / 2 ^ (d + 1) - F.getD i 0) + (at' A i).2.2.1 / 2 ^ d % 2 else refR A P F d i j) = refR A P F d (i + 1) j := by
  have k := half_digit (at' A i).2.2.1 d
  unfold refR
  by_cases c1 : j = 2 * i + 1
  · subst c1
    rw [if_pos rfl, if_pos (by omega), room_odd, refF_get hi, if_neg hr]
  · rw [if_neg c1]
    by_cases c2 : j = 2 * i
    · subst c2
      rw [if_pos rfl, if_pos (by omega), room_even, refF_get hi, if_neg hr, Ad_at]
      show _ = (at' A i).2.2.1 / 2 ^ d - 2 * F.getD i 0
      omega
    · rw [if_neg c2]
      by_cases c3 : j / 2 < i
      · rw [if_pos c3, if_pos (by omega)]
      · rw [if_neg c3, if_neg (by omega)]
/-- .. and one whose reduced cost is. -/
theorem refR_fill {A : List Arc} {P F : List Int} {d i : Nat} (hi : i < A.length) (hr : redS A P (2 * i) < 0) (j : Nat) (Q : Nat → Int)
    (hQ : ∀ j, Q j = if j = 2 * i + 1 then 2 * F.getD i 0 else if j = 2 * i then 2 * ((at' A i).2.2.1 / 2 ^ (d + 1) - F.getD i 0) + (at' A i).2.2.1 / 2 ^ d % 2 else refR A P F d i j) :
    roomR Q (2 * i) (Q (2 * i)) j = refR A P F d (i + 1) j := by
  have k := half_digit (at' A i).2.2.1 d
  have e0 : Q (2 * i) = 2 * ((at' A i).2.2.1 / 2 ^ (d + 1) - F.getD i 0) + (at' A i).2.2.1 / 2 ^ d % 2 := by rw [hQ, if_neg (by omega), if_pos rfl]
  have e1 : Q (2 * i + 1) = 2 * F.getD i 0 := by rw [hQ, if_pos rfl]
  unfold roomR
  rw [twin_even]
  unfold refR
  by_cases c1 : j = 2 * i + 1
  · subst c1
    rw [if_pos rfl, if_pos (by omega), room_odd, refF_get hi, if_pos hr]
    omega
  · rw [if_neg c1]
    by_cases c2 : j = 2 * i
    · subst c2
      rw [if_pos rfl, if_pos (by omega), room_even, refF_get hi, if_pos hr, Ad_at]
      show _ = (at' A i).2.2.1 / 2 ^ d - (at' A i).2.2.1 / 2 ^ d
      omega
    · rw [if_neg c2, hQ, if_neg c1, if_neg c2]
      unfold refR
      by_cases c3 : j / 2 < i
      · rw [if_pos c3, if_pos (by omega)]
      · rw [if_neg c3, if_neg (by omega)]
def RefP (w0 : World) (A : List Arc) (N gr ga gs gf gp gx gt : Nat) (va sv : Value) (F P : List Int) (T : List Bool) (d : Nat) (e : Ending) (w' : World) : Prop :=
  e = .returned (.tuple #[]) ∧ RefM w0 w' A N gr ga gs gf gp gx gt va sv F P T d A.length
set_option maxRecDepth 100000 in
set_option maxHeartbeats 4000000 in
theorem refine_any {w0 w : World} {A : List Arc} {N d gr ga gs gf gp gx gt : Nat} {va sv : Value} {F P X : List Int} {T : List Bool} (hCB : CB w0 w A A N gr ga gs gf gp gx gt va sv (roomS (Ad A (d + 1)) F) P X T) (hD : DigI A N (d + 1) F P)
    (hc : Cir A N) (hX : ∀ x, x < N → X.getD x 0 = 0) : Calls Try.prog 49 #[.pointer (some ⟨gr, 0, none⟩), .int .i64 d] w (RefP w0 A N gr ga gs gf gp gx gt va sv F P T d) := by
  have HM0 : Hid (RefM w0 w A N gr ga gs gf gp gx gt va sv F P T d 0) := Lib.hid ⟨X, hCB.congr fun j _ => (refR_zero A P F d j).symm, fun x hx => by rw [hX x hx, preF_zero]; rfl⟩
  have HC := Lib.hid hc
  have HD := Lib.hid hD
  have c0 := hCB.1.c0
  have l1 := hCB.1.lt
  obtain ⟨ac, rfl, ha1, ha2, -⟩ := hCB.2.1
  obtain ⟨m, hm⟩ : ∃ m, m = A.length := ⟨_, rfl⟩
  have HMM := Lib.hid hm
  have hm5 : m ≤ 2501 := by have := hc.len; omega
  have hd32 := hD.d32
  rw [← hm] at c0 ha1
  unfold maxLen at ha2
  clear hCB hD hc hX hm
  go_enter Try.func49, Try.ntmps49
  go_wp2_with fail
  clear c0 l1
  go_loopw [11] (fun iv wr => ∃ i : Nat, i ≤ m ∧ iv = .int .i64 i ∧ Hid (RefM w0 wr A N gr ga gs gf gp gx gt (.slice (some ⟨ga, 0, none⟩) A.length ac) sv F P T d i)) (fun iv _ => m - (intOf iv).toNat)
  case atStart => exact ⟨0, Nat.zero_le _, rfl, HM0⟩
  case round =>
    clear HM0
    obtain ⟨i, hi, rfl, HM⟩ := hrel
    obtain ⟨X, hC, hX⟩ := HM.out
    by_cases hlt : i < m
    · have hil : i < A.length := by rw [← HMM.out]; exact hlt
      obtain ⟨ac', e, -, -, a0, a1, a2, a3⟩ := hC.2.1.get hil
      have c1 := hC.1.c1
      obtain ⟨sc, hsv, hs1, hs2, s0, s1, s2, f1, sgl⟩ := hC.2.2.1.get (j := 2 * i) (by omega)
      rw [hsv] at c1
      have e0 : refR A P F d i (2 * i) = (at' A i).2.2.1 / 2 ^ (d + 1) - F.getD i 0 := by
        unfold refR; rw [if_neg (by omega), room_even, Ad_at]; rfl
      have e1 : refR A P F d i (2 * i + 1) = F.getD i 0 := by
        unfold refR; rw [if_neg (by omega), room_odd]
      rw [e0] at s1
      have hcap := HC.out.cap i hil
      have hF := (NetM.within_iff.1 HD.out.wi).2 i (by rw [Ad_len]; exact hil)
      rw [Ad_at] at hF
      have hF1 : F.getD i 0 ≤ (at' A i).2.2.1 / 2 ^ (d + 1) := hF.2
      have hF0 := hF.1
      have hq : (at' A i).2.2.1 / 2 ^ (d + 1) ≤ (at' A i).2.2.1 := Int.ediv_le_self _ hcap.1
      have hs := half_digit (at' A i).2.2.1 d
      have hdn : 0 ≤ (at' A i).2.2.1 / 2 ^ d := Int.ediv_nonneg hcap.1 (Int.le_of_lt (Int.pow_pos (by decide)))
      have hdl : (at' A i).2.2.1 / 2 ^ d ≤ (at' A i).2.2.1 := Int.ediv_le_self _ hcap.1
      have B1 := and_bit ((at' A i).2.2.1 / 2 ^ d) hdn (by omega)
      obtain ⟨r0, hr0⟩ : ∃ r0, r0 = (at' A i).2.2.1 / 2 ^ (d + 1) - F.getD i 0 := ⟨_, rfl⟩
      obtain ⟨r1, hr1⟩ : ∃ r1, r1 = F.getD i 0 := ⟨_, rfl⟩
      obtain ⟨bt, hbt⟩ : ∃ bt, bt = (at' A i).2.2.1 / 2 ^ d % 2 := ⟨_, rfl⟩
      have hb2 : 0 ≤ bt ∧ bt ≤ 1 := by omega
      have hr0b : 0 ≤ r0 ∧ r0 ≤ 4294967296 := by omega
      have hr1b : 0 ≤ r1 ∧ r1 ≤ 4294967296 := by omega
      -- the two stores
      have h1 := hC.room (2 * i) (2 * r0 + bt)
      obtain ⟨-, -, -, -, t0, t1, -, f2, -⟩ := h1.2.2.1.get (j := 2 * i + 1) (by omega)
      rw [if_neg (by omega), e1, ← hr1] at t1
      have d1 := h1.1.c1
      rw [hsv] at d1
      have h2 := h1.room (2 * i + 1) (r1 * 2)
      have HR2 : Hid (∀ W, Add ((wr.setCell ⟨gs, 2 * i * 3 + 1, none⟩ (.int .i64 (2 * r0 + bt))).setCell ⟨gs, (2 * i + 1) * 3 + 1, none⟩ (.int .i64 (r1 * 2))) W →
          ∃ Q : Nat → Int, CB w0 W A A N gr ga gs gf gp gx gt (.slice (some ⟨ga, 0, none⟩) A.length ac) sv Q P X T ∧ Q (2 * i) = 2 * r0 + bt ∧ Q (2 * i + 1) = 2 * r1 ∧
            (¬ redS A P (2 * i) < 0 → ∀ j, Q j = refR A P F d (i + 1) j) ∧ (redS A P (2 * i) < 0 → ∀ j, roomR Q (2 * i) (Q (2 * i)) j = refR A P F d (i + 1) j)) := Lib.hid fun W hA => by
        refine ⟨_, h2.add hA, ?_, ?_, fun hr j => ?_, fun hr j => ?_⟩
        · rw [if_neg (by omega), if_pos rfl]
        · rw [if_pos rfl, Int.mul_comm]
        · rw [Int.mul_comm r1 2, hr1, hr0, hbt]; exact refR_keep hil hr j
        · refine refR_fill hil hr j _ fun j => ?_
          rw [Int.mul_comm r1 2, hr1, hr0, hbt]
      have HXS : Hid (¬ redS A P (2 * i) < 0 → ∀ x : Nat, x < N → X.getD x 0 = - net x A (preF A P F d (i + 1))) := Lib.hid fun hr x hx => by
        rw [preF_net hil, refF_get hil, if_neg hr, hX x hx]
        split <;> split <;> omega
      have HXF : Hid (redS A P (2 * i) < 0 → (∀ x : Nat, x < N → (pushX A X (2 * i) (2 * r0 + bt)).getD x 0 = - net x A (preF A P F d (i + 1))) ∧ ∀ x, x < N → -200000000000000 ≤ X.getD x 0 ∧ X.getD x 0 ≤ 200000000000000) := Lib.hid fun hr => by
        have hXl := hC.2.2.2.2.2.2.2.2.1
        obtain ⟨q1, q2⟩ := tn_is HC.out.ok (j := 2 * i) (by omega)
        obtain ⟨q3, q4⟩ := hn_is HC.out.ok (j := 2 * i) (by omega)
        have q5 : tailS A (2 * i) = (at' A i).1 := by unfold tailS; rw [if_pos (by omega), show 2 * i / 2 = i by omega]
        have q6 : headS A (2 * i) = (at' A i).2.1 := by unfold headS; rw [if_pos (by omega), show 2 * i / 2 = i by omega]
        refine ⟨fun x hx => ?_, fun x hx => ?_⟩
        · rw [pushX_get _ (by omega) (by omega), preF_net hil, refF_get hil, if_pos hr, hX x hx, ← q5, ← q6, q1, q3]
          have z1 : ((tn A (2 * i) : Int) = (x : Int)) ↔ x = tn A (2 * i) := by omega
          have z2 : ((hn A (2 * i) : Int) = (x : Int)) ↔ x = hn A (2 * i) := by omega
          simp only [z1, z2]
          split <;> split <;> omega
        · have hb := net_le (x := (x : Int)) (B := 8589934592) (by decide) (l := A) (f := preF A P F d i) fun k hk => by
            rw [preF_get hk]
            split
            · have u1 := HC.out.cap k hk
              have u2 := (NetM.within_iff.1 HD.out.wi).2 k (by rw [Ad_len]; exact hk)
              rw [Ad_at] at u2
              have u3 : F.getD k 0 ≤ (at' A k).2.2.1 / 2 ^ (d + 1) := u2.2
              have u4 : (at' A k).2.2.1 / 2 ^ (d + 1) ≤ (at' A k).2.2.1 := Int.ediv_le_self _ u1.1
              have u5 : (at' A k).2.2.1 / 2 ^ d ≤ (at' A k).2.2.1 := Int.ediv_le_self _ u1.1
              have u6 : 0 ≤ (at' A k).2.2.1 / 2 ^ d := Int.ediv_nonneg u1.1 (Int.le_of_lt (Int.pow_pos (by decide)))
              rw [refF_get hk]
              split <;> omega
            · omega
          rw [hX x hx]
          have := HC.out.len
          omega
      have CR : Hid (∀ W, Add ((wr.setCell ⟨gs, 2 * i * 3 + 1, none⟩ (.int .i64 (2 * r0 + bt))).setCell ⟨gs, (2 * i + 1) * 3 + 1, none⟩ (.int .i64 (r1 * 2))) W → Calls Try.prog 52 #[.pointer (some ⟨gr, 0, none⟩), .int .i64 (2 * i : Nat)] W
          (fun e w'' => e = .returned (.int .i64 (redS A P (2 * i))) ∧ ∃ n, w'' = W.drewN n)) := Lib.hid fun W hA =>
        reduced_any (h2.add hA) HC.out (fun x hx => by have h3 := HD.out.pb x hx; have h4 := HD.out.d32; omega) (by omega)
      obtain ⟨cp, hcp⟩ : ∃ cp, cp = (at' A i).2.2.1 := ⟨_, rfl⟩
      rw [← hr0] at s1
      rw [← hbt] at B1
      rw [← hcp] at a2 B1 hdn hdl
      have HSV := Lib.hid hsv
      have i2 : 2 * i < 2 * A.length := by omega
      have i3 : 2 * i + 1 < 2 * A.length := by omega
      obtain ⟨m2, hm2⟩ : ∃ m2, m2 = 2 * A.length := ⟨_, rfl⟩
      have HM2 := Lib.hid hm2
      rw [← hm2] at c1 d1 hs1 i2 i3
      have W1 : IntKind.i64.wrap (2 * r0) = 2 * r0 := IntWalk.i64_in _ (by omega)
      have W2' : IntKind.i64.wrap (2 * r0 + bt) = 2 * r0 + bt := IntWalk.i64_in _ (by omega)
      have W3 : IntKind.i64.wrap (r1 * 2) = r1 * 2 := IntWalk.i64_in _ (by omega)
      have V1 : IntKind.i64.wrap (2 * (i : Int)) = 2 * (i : Int) := IntWalk.i64_in _ (by omega)
      have V2 : IntKind.i64.wrap (2 * (i : Int) + 1) = 2 * (i : Int) + 1 := IntWalk.i64_in _ (by omega)
      have l1 := hC.1.lt
      have l2 := (Array.getElem?_eq_some_iff.1 hC.2.1.blk.choose_spec).1
      unfold maxLen at hs2
      clear hC hX HM h1 h2 e e0 e1 hcap hF hF1 hF0 hq hs hr0 hr1 hbt hcp hsv s0 s2 t0 hil hm2
      go_upto_region 3 with fail
      go_region
      go_upto_region 5 with fail
      obtain ⟨W5, hW5⟩ : ∃ W5, W5 = (((wr.setCell ⟨gs, 2 * i * 3 + 1, none⟩ (.int .i64 (2 * r0 + bt))).setCell ⟨gs, (2 * i + 1) * 3 + 1, none⟩ (.int .i64 (r1 * 2))).alloc (.cells #[.int .i64 (at' A i).1, .int .i64 (at' A i).2.1, .int .i64 cp, .int .i64 (at' A i).2.2.2] 35)).drew := ⟨_, rfl⟩
      have hA5 : Add ((wr.setCell ⟨gs, 2 * i * 3 + 1, none⟩ (.int .i64 (2 * r0 + bt))).setCell ⟨gs, (2 * i + 1) * 3 + 1, none⟩ (.int .i64 (r1 * 2))) W5 := by rw [hW5]; exact b_drew ((Below.refl _ _).alloc (Nat.le_refl _) _)
      rw [← hW5]
      have HA5 := Lib.hid hA5
      have CR5 := Lib.hid (CR.out W5 hA5)
      have hcst : ((2 * i : Nat) : Int) = 2 * (i : Int) := by omega
      rw [hcst] at CR5
      clear hW5 hA5 CR hcst B1 W1 W2' W3 a0 a1 a2 a3 s1 t1 f1 f2 c1 d1 l1 l2
      by_cases hr : redS A P (2 * i) < 0
      · have HR := Lib.hid hr
        obtain ⟨rd, hrd⟩ : ∃ rd, rd = redS A P (2 * i) := ⟨_, rfl⟩
        rw [← hrd] at CR5 hr
        clear hrd
        have d2 : decide (rd < 0) = true := decide_eq_true hr
        have HSTEP : Hid (∀ n, (∃ sc', (W5.drewN n).cell? ⟨gr, 1, none⟩ = some (.slice (some ⟨gs, 0, none⟩) m2 sc') ∧ m2 ≤ sc' ∧ sc' ≤ 9223372036854775807) ∧ (W5.drewN n).cell? ⟨gs, 2 * i * 3 + 1, none⟩ = some (.int .i64 (2 * r0 + bt)) ∧
            Calls Try.prog 53 #[.pointer (some ⟨gr, 0, none⟩), .int .i64 (2 * (i : Int)), .int .i64 (2 * r0 + bt)] (W5.drewN n) fun e w' => e = .returned (.tuple #[]) ∧ RefM w0 w' A N gr ga gs gf gp gx gt (.slice (some ⟨ga, 0, none⟩) A.length ac) sv F P T d (i + 1)) := Lib.hid fun n => by
          obtain ⟨Q, k1, k2, k3, -, k5⟩ := HR2.out (W5.drewN n) (Add.trans HA5.out (add_drewN _ _))
          obtain ⟨k6, k7⟩ := HXF.out HR.out
          obtain ⟨sc', q1, q2, q3, -, q4, -, -, -⟩ := k1.2.2.1.get (j := 2 * i) (by rw [← HM2.out]; exact i2)
          refine ⟨⟨sc', ?_, ?_, ?_⟩, ?_, ?_⟩
          · have := k1.1.c1
            rw [q1] at this
            rw [HM2.out]; exact this
          · rw [HM2.out]; exact q2
          · unfold maxLen at q3; omega
          · rw [q4, k2]
          · rw [show (2 * (i : Int)) = ((2 * i : Nat) : Int) by omega]
            refine (cpush_any k1 HC.out (j := 2 * i) (by rw [← HM2.out]; exact i2) (p := 2 * r0 + bt) (by omega) (by rw [k2]; omega) (by rw [twin_even, k3]; omega) k7).mono ?_
            rintro e w' ⟨rfl, k8, -⟩
            refine ⟨rfl, pushX A X (2 * i) (2 * r0 + bt), k8.congr fun j _ => ?_, k6⟩
            rw [← k5 HR.out j, k2]
        clear HR2 HXS HXF HR
        go_upto_region 6 with (go_at_call 52; refine CR5.out.mono ?_; rintro e w6 ⟨rfl, n6, rfl⟩)
        obtain ⟨⟨sc', u1, u2, u3⟩, u4', u5'⟩ := HSTEP.out n6
        obtain ⟨W6, hW6⟩ : ∃ W6, W6 = W5.drewN n6 := ⟨_, rfl⟩
        rw [← hW6] at u1 u4' u5' ⊢
        have HU5 := Lib.hid u5'
        clear hW6 u5' HSTEP CR5 d2
        go_wp2_with (go_at_call 53; refine HU5.out.mono ?_; rintro e w9 ⟨rfl, k9⟩; have HK9 := Lib.hid k9; clear k9)
        go_roundw
        case rel => exact ⟨i + 1, by omega, by go_num, HK9⟩
        case measure => simp [intOf]; omega
      · have HR := Lib.hid hr
        obtain ⟨rd, hrd⟩ : ∃ rd, rd = redS A P (2 * i) := ⟨_, rfl⟩
        rw [← hrd] at CR5 hr
        clear hrd
        have d2 : decide (rd < 0) = false := decide_eq_false hr
        have HK9 : Hid (∀ n, RefM w0 (W5.drewN n) A N gr ga gs gf gp gx gt (.slice (some ⟨ga, 0, none⟩) A.length ac) sv F P T d (i + 1)) := Lib.hid fun n => by
          obtain ⟨Q, k1, k2, k3, k4, -⟩ := HR2.out (W5.drewN n) (Add.trans HA5.out (add_drewN _ _))
          exact ⟨X, k1.congr fun j _ => k4 HR.out j, HXS.out HR.out⟩
        clear HR2 HXS HXF HR
        go_wp2_with (go_at_call 52; refine CR5.out.mono ?_; rintro e w6 ⟨rfl, n6, rfl⟩)
        go_roundw
        case rel => exact ⟨i + 1, by omega, by go_num, Lib.hid (HK9.out _)⟩
        case measure => simp [intOf]; omega
    · obtain rfl : i = m := by omega
      have HF : Hid (RefP w0 A N gr ga gs gf gp gx gt (.slice (some ⟨ga, 0, none⟩) A.length ac) sv F P T d (.returned (.tuple #[])) wr) := Lib.hid ⟨rfl, by have h := HM.out; rw [HMM.out] at h; exact h⟩
      clear hC hX HM
      go_wp2_with fail
      go_end0
      exact HF.out
end Go.Proofs.Ytaoibakbnimnkaa
