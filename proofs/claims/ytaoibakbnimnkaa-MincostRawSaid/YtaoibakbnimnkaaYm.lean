/- Package mincost: slices.Min and Max, Check (made by gen/cminmax.py). -/
import Derived.Test.YtaoibakbnimnkaaYl
namespace Go.Proofs.Ytaoibakbnimnkaa
open Go.RowKit NetM

def MinP (w : World) (Q : List Int) (e : Ending) (w' : World) : Prop := ∃ r, e = .returned (.int .i64 r) ∧ w' = w ∧ (∀ i, i < Q.length → r ≤ Q.getD i 0) ∧ ∃ i, i < Q.length ∧ r = Q.getD i 0
def MaxP (w : World) (Q : List Int) (e : Ending) (w' : World) : Prop := ∃ r, e = .returned (.int .i64 r) ∧ w' = w ∧ (∀ i, i < Q.length → Q.getD i 0 ≤ r) ∧ ∃ i, i < Q.length ∧ r = Q.getD i 0

theorem has_min (f : Nat → Int) (q : Nat) (h : 0 < q) : ∃ j, j < q ∧ ∀ i, i < q → f j ≤ f i := by
  induction q with
  | zero => omega
  | succ n ih =>
    by_cases h0 : n = 0
    · subst h0
      exact ⟨0, by omega, fun i hi => by obtain rfl : i = 0 := by omega
                                         exact Int.le_refl _⟩
    · obtain ⟨j, hj, hm⟩ := ih (by omega)
      by_cases c : f n < f j
      · refine ⟨n, by omega, fun i hi => ?_⟩
        by_cases e : i = n
        · subst e; exact Int.le_refl _
        · have := hm i (by omega); omega
      · refine ⟨j, by omega, fun i hi => ?_⟩
        by_cases e : i = n
        · subst e; omega
        · exact hm i (by omega)
theorem has_max (f : Nat → Int) (q : Nat) (h : 0 < q) : ∃ j, j < q ∧ ∀ i, i < q → f i ≤ f j := by
  obtain ⟨j, hj, hm⟩ := has_min (fun i => - f i) q h
  exact ⟨j, hj, fun i hi => by have := hm i hi; omega⟩
set_option maxRecDepth 100000 in
theorem min_any {w : World} {vq : Value} {Q : List Int} (hq : RdI w vq Q) (h0 : 0 < Q.length) : Calls Try.prog 32 #[vq] w (MinP w Q) := by
  obtain ⟨qa, qc, rfl, hqc, hqm, -⟩ := id hq.open
  obtain ⟨n, hn⟩ : ∃ n, n = Q.length := ⟨_, rfl⟩
  have HN := Lib.hid hn
  have HQ := Lib.hid hq
  rw [← hn] at HQ hqc ⊢
  obtain ⟨qb, qoff, rfl, q0⟩ := RdI.cell HQ.out (k := 0) (by omega)
  rw [Nat.add_zero] at q0
  unfold maxLen at hqm
  have d1 : decide ((n : Int) < 1) = false := decide_eq_false (by omega)
  obtain ⟨x0, hx0⟩ : ∃ x, x = Q.getD 0 0 := ⟨_, rfl⟩
  rw [← hx0] at q0
  have HM0 : Hid ((∀ i, i < 1 → x0 ≤ Q.getD i 0) ∧ ∃ i, i < 1 ∧ x0 = Q.getD i 0) := Lib.hid ⟨fun i hi => by
    obtain rfl : i = 0 := by omega
    rw [hx0]; exact Int.le_refl _, 0, by omega, hx0⟩
  have hn0 : 0 < n := by omega
  clear hq hn hx0 h0
  go_enter Try.func32, Try.ntmps32
  go_wp2_with fail
  clear q0 d1
  go_loopw [3, 4] (fun mv iv wr => ∃ (k : Nat) (r : Int), 1 ≤ k ∧ k ≤ n ∧ mv = .int .i64 r ∧ iv = .int .i64 k ∧ Hid ((∀ i, i < k → r ≤ Q.getD i 0) ∧ ∃ i, i < k ∧ r = Q.getD i 0) ∧ wr = w) (fun _ iv _ => n - (intOf iv).toNat)
  case atStart => exact ⟨1, x0, Nat.le_refl _, by omega, rfl, rfl, HM0, rfl⟩
  case round =>
    clear HM0
    obtain ⟨k, r, hk1, hk, rfl, rfl, HM, rfl⟩ := hrel
    by_cases hlt : k < n
    · obtain ⟨qb', qoff', e', q0⟩ := RdI.cell HQ.out hlt
      simp only [Option.some.injEq, Addr.mk.injEq, and_true] at e'
      obtain ⟨rfl, rfl⟩ := e'
      obtain ⟨x, hx⟩ : ∃ x, x = Q.getD k 0 := ⟨_, rfl⟩
      rw [← hx] at q0
      obtain ⟨bm, hbm⟩ : ∃ bm, (if x < r then x else r) = bm := ⟨_, rfl⟩
      have HN1 : Hid ((∀ i, i < k + 1 → bm ≤ Q.getD i 0) ∧ ∃ i, i < k + 1 ∧ bm = Q.getD i 0) := Lib.hid (by
        obtain ⟨k1, j, k2, k3⟩ := HM.out
        have hcase : (bm = x ∧ x < r) ∨ (bm = r ∧ r ≤ x) := by rw [← hbm]; split <;> omega
        rcases hcase with ⟨e1, e2⟩ | ⟨e1, e2⟩
        · refine ⟨fun i hi => ?_, k, by omega, by rw [e1, hx]⟩
          by_cases c : i = k
          · subst c; rw [e1, hx]; exact Int.le_refl _
          · have := k1 i (by omega); rw [e1]; omega
        · refine ⟨fun i hi => ?_, j, by omega, by rw [e1, k3]⟩
          by_cases c : i = k
          · subst c; rw [e1, ← hx]; omega
          · have := k1 i (by omega); rw [e1]; omega)
      clear hx HM
      go_wp2_with fail
      go_roundw
      case rel => exact ⟨k + 1, bm, by omega, by omega, rfl, by go_num, HN1, by first | rfl | trivial⟩
      case measure => simp [intOf]; omega
    · obtain rfl : k = n := by omega
      have HF : Hid (MinP wr Q (.returned (.int .i64 r)) wr) := Lib.hid ⟨r, rfl, rfl, by rw [← HN.out]; exact HM.out.1, by rw [← HN.out]; exact HM.out.2⟩
      clear HM
      go_wp2_with fail
      go_ret
      exact HF.out
set_option maxRecDepth 100000 in
theorem max_any {w : World} {vq : Value} {Q : List Int} (hq : RdI w vq Q) (h0 : 0 < Q.length) : Calls Try.prog 33 #[vq] w (MaxP w Q) := by
  obtain ⟨qa, qc, rfl, hqc, hqm, -⟩ := id hq.open
  obtain ⟨n, hn⟩ : ∃ n, n = Q.length := ⟨_, rfl⟩
  have HN := Lib.hid hn
  have HQ := Lib.hid hq
  rw [← hn] at HQ hqc ⊢
  obtain ⟨qb, qoff, rfl, q0⟩ := RdI.cell HQ.out (k := 0) (by omega)
  rw [Nat.add_zero] at q0
  unfold maxLen at hqm
  have d1 : decide ((n : Int) < 1) = false := decide_eq_false (by omega)
  obtain ⟨x0, hx0⟩ : ∃ x, x = Q.getD 0 0 := ⟨_, rfl⟩
  rw [← hx0] at q0
  have HM0 : Hid ((∀ i, i < 1 → Q.getD i 0 ≤ x0) ∧ ∃ i, i < 1 ∧ x0 = Q.getD i 0) := Lib.hid ⟨fun i hi => by
    obtain rfl : i = 0 := by omega
    rw [hx0]; exact Int.le_refl _, 0, by omega, hx0⟩
  have hn0 : 0 < n := by omega
  clear hq hn hx0 h0
  go_enter Try.func33, Try.ntmps33
  go_wp2_with fail
  clear q0 d1
  go_loopw [3, 4] (fun mv iv wr => ∃ (k : Nat) (r : Int), 1 ≤ k ∧ k ≤ n ∧ mv = .int .i64 r ∧ iv = .int .i64 k ∧ Hid ((∀ i, i < k → Q.getD i 0 ≤ r) ∧ ∃ i, i < k ∧ r = Q.getD i 0) ∧ wr = w) (fun _ iv _ => n - (intOf iv).toNat)
  case atStart => exact ⟨1, x0, Nat.le_refl _, by omega, rfl, rfl, HM0, rfl⟩
  case round =>
    clear HM0
    obtain ⟨k, r, hk1, hk, rfl, rfl, HM, rfl⟩ := hrel
    by_cases hlt : k < n
    · obtain ⟨qb', qoff', e', q0⟩ := RdI.cell HQ.out hlt
      simp only [Option.some.injEq, Addr.mk.injEq, and_true] at e'
      obtain ⟨rfl, rfl⟩ := e'
      obtain ⟨x, hx⟩ : ∃ x, x = Q.getD k 0 := ⟨_, rfl⟩
      rw [← hx] at q0
      obtain ⟨bm, hbm⟩ : ∃ bm, (if r < x then x else r) = bm := ⟨_, rfl⟩
      have HN1 : Hid ((∀ i, i < k + 1 → Q.getD i 0 ≤ bm) ∧ ∃ i, i < k + 1 ∧ bm = Q.getD i 0) := Lib.hid (by
        obtain ⟨k1, j, k2, k3⟩ := HM.out
        have hcase : (bm = x ∧ r < x) ∨ (bm = r ∧ x ≤ r) := by rw [← hbm]; split <;> omega
        rcases hcase with ⟨e1, e2⟩ | ⟨e1, e2⟩
        · refine ⟨fun i hi => ?_, k, by omega, by rw [e1, hx]⟩
          by_cases c : i = k
          · subst c; rw [e1, hx]; exact Int.le_refl _
          · have := k1 i (by omega); rw [e1]; omega
        · refine ⟨fun i hi => ?_, j, by omega, by rw [e1, k3]⟩
          by_cases c : i = k
          · subst c; rw [e1, ← hx]; omega
          · have := k1 i (by omega); rw [e1]; omega)
      clear hx HM
      go_wp2_with fail
      go_roundw
      case rel => exact ⟨k + 1, bm, by omega, by omega, rfl, by go_num, HN1, by first | rfl | trivial⟩
      case measure => simp [intOf]; omega
    · obtain rfl : k = n := by omega
      have HF : Hid (MaxP wr Q (.returned (.int .i64 r)) wr) := Lib.hid ⟨r, rfl, rfl, by rw [← HN.out]; exact HM.out.1, by rw [← HN.out]; exact HM.out.2⟩
      clear HM
      go_wp2_with fail
      go_ret
      exact HF.out
/-! ### Check -/
set_option maxRecDepth 100000 in
set_option maxHeartbeats 1000000 in
theorem progCert_inv {w : World} {v vf vq : Value} {N s t am : Int} {A : List Arc} {F Q : List Int} (h : NetA w v N s t A) (hv : validC N s t A = false) (hf : RdI w vf F) (hq : RdI w vq Q) : Calls Try.prog 15 #[v, .int .i64 am, vf, vq] w (RetB w false) := by
  cases hb : validB N s t A with
  | false =>
    have CL : Hid (∀ W1, Add w W1 → Calls Try.prog 26 #[v, vf] W1 (NoV W1)) := Lib.hid fun W1 ha => progValue_inv (h.add ha) hb (hf.add ha)
    obtain ⟨va, rfl, ⟨a, m, c, rfl, -⟩⟩ := h
    obtain ⟨fa, fc, rfl, -⟩ := hf.open
    obtain ⟨qa, qc, rfl, -⟩ := hq.open
    have T1 := add_new w (.cells #[.int .i64 N, .int .i64 s, .int .i64 t, .slice a m c] 24)
    clear hf hq hv hb
    go_enter Try.func15, Try.ntmps15
    go_wp2_with fail
    refine (CL.out _ T1).mono ?_
    rintro e w1 ⟨rfl, h1⟩
    have HF : Hid (RetB w false (.returned (.bool false)) w1) := Lib.hid ⟨rfl, Add.trans T1 h1⟩
    clear h1 T1
    go_wp2_with fail
    go_ret
    exact HF.out
  | true =>
    have CV : Hid (∀ W1, Add w W1 → Calls Try.prog 13 #[v] W1 (RetB W1 false)) := Lib.hid fun W1 ha => by have := progValidC_any (h.add ha); rw [hv] at this; exact this
    obtain ⟨N', s', t', rfl, rfl, rfl, hV⟩ := VNet.of hb
    have CL : Hid (∀ W1, Add w W1 → Calls Try.prog 26 #[v, vf] W1 (ValP W1 N' s' t' A F)) := Lib.hid fun W1 ha => progValue_any (h.add ha) hV (hf.add ha)
    obtain ⟨va, rfl, ⟨a, m, c, rfl, -⟩⟩ := h
    obtain ⟨fa, fc, rfl, -⟩ := hf.open
    obtain ⟨qa, qc, rfl, -⟩ := hq.open
    have T1 := add_new w (.cells #[.int .i64 N', .int .i64 s', .int .i64 t', .slice a m c] 24)
    have B1 := Lib.hid (nbox_new w N' s' t' a m c)
    clear hf hq hv hb hV
    go_enter Try.func15, Try.ntmps15
    go_wp2_with fail
    refine (CL.out _ T1).mono ?_
    rintro e w1 ⟨x, b, rfl, h1, -, -⟩
    have hB := B1.out.add h1
    have c0 := hB.c0
    have c1 := hB.c1
    have c2 := hB.c2
    have c3 := hB.c3
    have hT2 := Add.trans T1 h1
    have HT2 := Lib.hid hT2
    clear h1 T1 B1 hB hT2
    cases b with
    | false =>
      go_wp2_with fail
      go_ret
      exact ⟨rfl, HT2.out⟩
    | true =>
      by_cases hx : x = am
      · subst hx
        have dx : (x != x) = false := by simp
        go_wp2_with (go_at_call 13; refine (CV.out _ HT2.out).mono ?_; rintro e w2 ⟨rfl, h2⟩; have HT3 := Lib.hid (Add.trans HT2.out h2); clear h2)
        go_ret
        exact ⟨rfl, HT3.out⟩
      · have dx : (x != am) = true := by simpa using hx
        go_wp2_with fail
        go_ret
        exact ⟨rfl, HT2.out⟩
set_option maxRecDepth 100000 in
set_option maxHeartbeats 4000000 in
theorem progCert_any {w : World} {v vf vq : Value} {N s t : Nat} {am : Int} {A : List Arc} {F Q : List Int} (h : NetA w v N s t A) (hv : CNet N s t A) (hf : RdI w vf F) (hq : RdI w vq Q) : Calls Try.prog 15 #[v, .int .i64 am, vf, vq] w (CertP w N s t A am F Q) := by
  have CV : Hid (∀ W1, Add w W1 → Calls Try.prog 13 #[v] W1 (RetB W1 true)) := Lib.hid fun W1 ha => by have := progValidC_any (h.add ha); rw [hv.valid] at this; exact this
  have CL : Hid (∀ W1, Add w W1 → Calls Try.prog 26 #[v, vf] W1 (ValP W1 N s t A F)) := Lib.hid fun W1 ha => progValue_any (h.add ha) hv.1 (hf.add ha)
  obtain ⟨va, rfl, ha⟩ := h
  obtain ⟨a, m, c, rfl, hl, hmc, hm, -⟩ := id ha
  obtain ⟨fa, fc, rfl, -⟩ := id hf.open
  obtain ⟨qa, qc, rfl, -⟩ := id hq.open
  have CMIN : Hid (0 < Q.length → ∀ W1, Add w W1 → Calls Try.prog 32 #[.slice qa Q.length qc] W1 (MinP W1 Q)) := Lib.hid fun h0 W1 h1 => min_any (hq.add h1) h0
  have CMAX : Hid (0 < Q.length → ∀ W1, Add w W1 → Calls Try.prog 33 #[.slice qa Q.length qc] W1 (MaxP W1 Q)) := Lib.hid fun h0 W1 h1 => max_any (hq.add h1) h0
  obtain ⟨p, hp⟩ : ∃ p, F.length = p := ⟨_, rfl⟩
  obtain ⟨q, hqn⟩ : ∃ q, Q.length = q := ⟨_, rfl⟩
  rw [hp] at hf CL ⊢
  rw [hqn] at hq CMIN CMAX ⊢
  have HA := Lib.hid ha
  have HL := Lib.hid hl
  have HV := Lib.hid hv
  have HFL := Lib.hid hf
  have HP := Lib.hid hp
  have HQ := Lib.hid hq
  have HQN := Lib.hid hqn
  obtain ⟨⟨-, hs, ht, -, -, hN2, hm2⟩, -⟩ := hv
  rw [hl] at hm2
  clear ha hl hf hp hq hqn
  have B1 := Lib.hid (nbox_new w N s t a m c)
  have T1 := add_new w (.cells #[.int .i64 N, .int .i64 s, .int .i64 t, .slice a m c] 24)
  have HNO : Hid (¬ certOk N s t A am F Q → ∀ w', Add w w' → CertP w N s t A am F Q (.returned (.bool false)) w') := Lib.hid fun hn w' ha => ⟨false, rfl, ha, ⟨fun h => (Bool.false_ne_true h).elim, fun h => absurd h hn⟩⟩
  go_enter Try.func15, Try.ntmps15
  go_wp2_with fail
  refine (CL.out _ T1).mono ?_
  rintro e w2 ⟨x, b1, rfl, h2, y1, n1⟩
  have hB := B1.out.add h2
  have c0 := hB.c0
  have c1 := hB.c1
  have c2 := hB.c2
  have c3 := hB.c3
  have T2 := Lib.hid (Add.trans T1 h2)
  have B2 := Lib.hid hB
  clear h2 hB B1 T1 CL
  cases b1 with
  | false =>
    have HF := Lib.hid (HNO.out (fun h => (n1 rfl).1 h.1) w2 T2.out)
    clear y1 n1
    go_wp2_with fail
    go_ret
    exact HF.out
  | true =>
    obtain ⟨hfl, hval⟩ := y1 rfl
    have hpm : p = m := by rw [← HP.out, NetM.within_length hfl.1, HL.out]
    subst hpm
    have HFLOW := Lib.hid hfl
    have HVAL := Lib.hid hval
    clear y1 n1 hfl hval
    by_cases hxa : x = am
    · subst hxa
      have da2 : (x != x) = false := by simp
      by_cases hqN : q = N
      · subst hqN
        have dq2 : ((q : Int) != (q : Int)) = false := by simp
        have BX : Hid (∀ W, Add w2 W → W.cell? ⟨w.heap.size, 0, none⟩ = some (.int .i64 (q : Nat))) := Lib.hid fun W h => (B2.out.add h).c0
        go_upto_region 4 with (go_at_call 13; refine (CV.out _ T2.out).mono ?_; rintro e w3 ⟨rfl, h3⟩; have T3 := Lib.hid (Add.trans T2.out h3); have B3 := Lib.hid (B2.out.add h3); have e0 := BX.out _ h3; clear h3)
        clear da2 dq2 c0 c1 c2 c3 e0 BX CV
        obtain ⟨j1, hj1, hmin⟩ := has_min (fun i => Q.getD i 0) q (by omega)
        obtain ⟨j2, hj2, hmax⟩ := has_max (fun i => Q.getD i 0) q (by omega)
        obtain ⟨r1, hr1⟩ : ∃ r, Q.getD j1 0 = r := ⟨_, rfl⟩
        obtain ⟨r2, hr2⟩ : ∃ r, Q.getD j2 0 = r := ⟨_, rfl⟩
        rw [hr1] at hmin
        rw [hr2] at hmax
        have CMI : Hid (Calls Try.prog 32 #[.slice qa q qc] w3 (fun e w' => e = .returned (.int .i64 r1) ∧ w3 = w')) := Lib.hid ((CMIN.out (by omega) _ T3.out).mono fun e w' h => by
          obtain ⟨r, e1, e2, a1, j, a2, a3⟩ := h
          rw [HQN.out] at a1 a2
          have b1 := a1 j1 hj1
          have b2 := hmin j a2
          obtain rfl : r = r1 := by omega
          exact ⟨e1, e2.symm⟩)
        have CMA : Hid (Calls Try.prog 33 #[.slice qa q qc] w3 (fun e w' => e = .returned (.int .i64 r2) ∧ w3 = w')) := Lib.hid ((CMAX.out (by omega) _ T3.out).mono fun e w' h => by
          obtain ⟨r, e1, e2, a1, j, a2, a3⟩ := h
          rw [HQN.out] at a1 a2
          have b1 := a1 j2 hj2
          have b2 := hmax j a2
          obtain rfl : r = r2 := by omega
          exact ⟨e1, e2.symm⟩)
        clear CMIN CMAX
        by_cases c1 : r1 < -1000000000
        · have HF : Hid (CertP w q s t A x F Q (.returned (.bool false)) w3) := Lib.hid (HNO.out (fun h => by have := (h.2.2.2.1 j1 hj1).1; omega) _ T3.out)
          have d1 : decide (r1 < -1000000000) = true := decide_eq_true c1
          clear c1 hmin hmax hr1 hr2
          go_wp2_with (go_at_call 32; refine CMI.out.mono ?_; rintro e w4 ⟨rfl, rfl⟩)
          go_ret
          exact HF.out
        · have d1 : decide (r1 < -1000000000) = false := decide_eq_false c1
          by_cases c2 : 1000000000 < r2
          · have HF : Hid (CertP w q s t A x F Q (.returned (.bool false)) w3) := Lib.hid (HNO.out (fun h => by have := (h.2.2.2.1 j2 hj2).2; omega) _ T3.out)
            have d2 : decide (1000000000 < r2) = true := decide_eq_true c2
            clear c1 c2 hmin hmax hr1 hr2
            go_wp2_with (first | (go_at_call 32; refine CMI.out.mono ?_; rintro e w4 ⟨rfl, rfl⟩) | (go_at_call 33; refine CMA.out.mono ?_; rintro e w4 ⟨rfl, rfl⟩))
            go_ret
            exact HF.out
          · have d2 : decide (1000000000 < r2) = false := decide_eq_false c2
            have hz : Hid (∀ i, i < q → lowQ (Q.getD i 0)) := Lib.hid fun i hi => by
              have := hmin i hi
              have := hmax i hi
              exact ⟨by omega, by omega⟩
            clear c1 c2 hmin hmax hr1 hr2
            have b3' := B3.out.c3
            go_wp2_with (first | (go_at_call 32; refine CMI.out.mono ?_; rintro e w4 ⟨rfl, rfl⟩) | (go_at_call 33; refine CMA.out.mono ?_; rintro e w4 ⟨rfl, rfl⟩))
            clear b3' d1 d2 CMI CMA
            go_loopw [50] (fun i wr => ∃ k : Nat, k ≤ p ∧ i = .int .i64 k ∧ Hid (∀ i, i < k → fitsA A F Q i) ∧ Hid (Add w3 wr)) (fun i _ => p - (intOf i).toNat)
            case atStart => exact ⟨0, Nat.zero_le _, rfl, Lib.hid fun k hk => absurd hk (Nat.not_lt_zero _), Lib.hid (Below.refl _ _)⟩
            case round =>
              obtain ⟨k, hk, rfl, hpre, hadd⟩ := hrel
              have T4 := Lib.hid (Add.trans T3.out hadd.out)
              have b3 := (B3.out.add hadd.out).c3
              by_cases hlt2 : k < p
              · obtain ⟨ab, aoff, rfl, g0, g1, g2, g3⟩ := (HA.out.add T4.out).cell hlt2
                obtain ⟨fb, foff, rfl, q0⟩ := RdI.cell (Rd.add HFL.out T4.out) hlt2
                obtain ⟨X, Y, z, u, hx, hxN, hyN, hz0, hz1⟩ := HV.out.1.at (k := k) (by rw [HL.out]; exact hlt2)
                have hm1 := at_mem (A := A) (k := k) (by rw [HL.out]; exact hlt2)
                have hok := HV.out.2 _ hm1
                unfold okCost at hok
                obtain ⟨qb, qoff, rfl, p0⟩ := RdI.cell (Rd.add HQ.out T4.out) hxN
                obtain ⟨qb', qoff', e', p1⟩ := RdI.cell (Rd.add HQ.out T4.out) hyN
                simp only [Option.some.injEq, Addr.mk.injEq, and_true] at e'
                obtain ⟨rfl, rfl⟩ := e'
                rw [hx] at g0 g1 g2 g3 hok
                dsimp only at g0 g1 g2 g3 hok
                obtain ⟨f, hf⟩ : ∃ f, F.getD k 0 = f := ⟨_, rfl⟩
                rw [hf] at q0
                have l1 := hz.out X hxN
                have l2 := hz.out Y hyN
                unfold lowQ at l1 l2
                have hfit : fitsA A F Q k ↔ (f < z → 0 ≤ u + Q.getD X 0 - Q.getD Y 0) ∧ (0 < f → u + Q.getD X 0 - Q.getD Y 0 ≤ 0) := by
                  unfold fitsA rc
                  rw [hx, hf]
                  dsimp only
                  rw [potL_nat, potL_nat]
                obtain ⟨px, hpx⟩ : ∃ px, Q.getD X 0 = px := ⟨_, rfl⟩
                obtain ⟨py, hpy⟩ : ∃ py, Q.getD Y 0 = py := ⟨_, rfl⟩
                rw [hpx] at p0 l1 hfit
                rw [hpy] at p1 l2 hfit
                have W1 : IntKind.i64.wrap (u + px) = u + px := IntWalk.i64_in _ (by omega)
                have W2 : IntKind.i64.wrap (u + px - py) = u + px - py := IntWalk.i64_in _ (by omega)
                obtain ⟨r, hr⟩ : ∃ r, u + px - py = r := ⟨_, rfl⟩
                rw [hr] at W2 hfit
                have HFIT := Lib.hid hfit
                have hbf : fb < wr.heap.size := World.block_lt_of_cell? _ _ q0
                have hbq : qb < wr.heap.size := World.block_lt_of_cell? _ _ p0
                have HNO2 : Hid (¬ fitsA A F Q k → ∀ w', Add w w' → CertP w q s t A x F Q (.returned (.bool false)) w') := Lib.hid fun hn => HNO.out fun h => hn ((pot_iff (by rw [HL.out, HP.out])).1 h.2.2.2.2 k (by rw [HL.out]; exact hlt2))
                have HNEXT : Hid (fitsA A F Q k → Hid (∀ i, i < k + 1 → fitsA A F Q i)) := Lib.hid fun h => Lib.hid fun i hi => by
                  by_cases e : i = k
                  · subst e; exact h
                  · exact hpre.out i (by omega)
                have HADD : Hid (∀ q, Add w3 ((wr.alloc (.cells #[.int .i64 (X : Nat), .int .i64 (Y : Nat), .int .i64 z, .int .i64 u] 35)).drewN q)) := Lib.hid fun q => Add.trans hadd.out (Add.trans (add_new _ _) (add_drewN _ _))
                clear hx hf hpx hpy hm1 hok hfit l1 l2
                go_wp2_with fail
                go_quiet (fail)
                clear W1 W2 p0 p1 g0 g1 g2 g3 hr
                have HADD2 : Hid (∀ q q2, Add w3 (((wr.alloc (.cells #[.int .i64 (X : Nat), .int .i64 (Y : Nat), .int .i64 z, .int .i64 u] 35)).drewN q).drewN q2)) := Lib.hid fun q q2 => Add.trans (HADD.out q) (add_drewN _ _)
                have hcase : (r < 0 ∧ f < z) ∨ (r < 0 ∧ ¬ f < z ∧ ¬ 0 < r) ∨ (¬ r < 0 ∧ 0 < r ∧ 0 < f) ∨ (¬ r < 0 ∧ 0 < r ∧ ¬ 0 < f) ∨ (¬ r < 0 ∧ ¬ 0 < r) := by omega
                rcases hcase with ⟨e1, e2⟩ | ⟨e1, e2, e3⟩ | ⟨e1, e2, e3⟩ | ⟨e1, e2, e3⟩ | ⟨e1, e2⟩
                · have HF := Lib.hid (HNO2.out (fun h => by have := HFIT.out.1 h; omega))
                  have d1 : decide (r < 0) = true := decide_eq_true e1
                  have d2 : decide (f < z) = true := decide_eq_true e2
                  clear HFIT HNO2 HNEXT e1 e2
                  go_wp2_with fail
                  go_quiet (fail)
                  clear d1 d2
                  go_wp2_with fail
                  go_ret
                  exact HF.out _ (Add.trans T3.out (by first | exact HADD.out _ | exact HADD2.out _ _))
                · have HN := HNEXT.out (HFIT.out.2 (by omega))
                  have d1 : decide (r < 0) = true := decide_eq_true e1
                  have d2 : decide (f < z) = false := decide_eq_false e2
                  have d3 : decide (0 < r) = false := decide_eq_false e3
                  clear HFIT HNO2 HNEXT e1 e2 e3
                  go_wp2_with fail
                  go_quiet (fail)
                  clear d1 d2 d3
                  go_wp2_with fail
                  go_roundw
                  case rel => exact ⟨k + 1, by omega, by go_num, HN, Lib.hid (by first | exact HADD.out _ | exact HADD2.out _ _)⟩
                  case measure => simp [intOf]; omega
                · have HF := Lib.hid (HNO2.out (fun h => by have := HFIT.out.1 h; omega))
                  have d1 : decide (r < 0) = false := decide_eq_false e1
                  have d2 : decide (0 < r) = true := decide_eq_true e2
                  have d3 : decide (0 < f) = true := decide_eq_true e3
                  clear HFIT HNO2 HNEXT e1 e2 e3
                  go_wp2_with fail
                  go_quiet (fail)
                  clear d1 d2 d3
                  go_wp2_with fail
                  go_ret
                  exact HF.out _ (Add.trans T3.out (by first | exact HADD.out _ | exact HADD2.out _ _))
                · have HN := HNEXT.out (HFIT.out.2 (by omega))
                  have d1 : decide (r < 0) = false := decide_eq_false e1
                  have d2 : decide (0 < r) = true := decide_eq_true e2
                  have d3 : decide (0 < f) = false := decide_eq_false e3
                  clear HFIT HNO2 HNEXT e1 e2 e3
                  go_wp2_with fail
                  go_quiet (fail)
                  clear d1 d2 d3
                  go_wp2_with fail
                  go_roundw
                  case rel => exact ⟨k + 1, by omega, by go_num, HN, Lib.hid (by first | exact HADD.out _ | exact HADD2.out _ _)⟩
                  case measure => simp [intOf]; omega
                · have HN := HNEXT.out (HFIT.out.2 (by omega))
                  have d1 : decide (r < 0) = false := decide_eq_false e1
                  have d2 : decide (0 < r) = false := decide_eq_false e2
                  clear HFIT HNO2 HNEXT e1 e2
                  go_wp2_with fail
                  go_quiet (fail)
                  clear d1 d2
                  go_wp2_with fail
                  go_roundw
                  case rel => exact ⟨k + 1, by omega, by go_num, HN, Lib.hid (by first | exact HADD.out _ | exact HADD2.out _ _)⟩
                  case measure => simp [intOf]; omega
              · obtain rfl : k = p := by omega
                have HYES : Hid (CertP w q s t A x F Q (.returned (.bool true)) wr) := Lib.hid ⟨true, rfl, T4.out, ⟨fun _ => ⟨HFLOW.out, HVAL.out.symm, HQN.out, hz.out, (pot_iff (by rw [HL.out, HP.out])).2 (fun i hi => hpre.out i (by rw [← HL.out]; exact hi))⟩, fun _ => rfl⟩⟩
                clear hpre hadd
                go_wp2_with fail
                go_ret
                exact HYES.out
      · have dq2 : ((q : Int) != (N : Int)) = true := by simp; omega
        have BX : Hid (∀ W, Add w2 W → W.cell? ⟨w.heap.size, 0, none⟩ = some (.int .i64 (N : Nat))) := Lib.hid fun W h => (B2.out.add h).c0
        have HF : Hid (∀ W, Add w W → CertP w N s t A x F Q (.returned (.bool false)) W) := Lib.hid (HNO.out (fun h => hqN (by rw [← HQN.out]; exact h.2.2.1)))
        go_wp2_with (go_at_call 13; refine (CV.out _ T2.out).mono ?_; rintro e w3 ⟨rfl, h3⟩; have T3 := Lib.hid (Add.trans T2.out h3); have e0 := BX.out _ h3; clear h3)
        go_ret
        exact HF.out _ T3.out
    · have da2 : (x != am) = true := by simpa using hxa
      have HF := Lib.hid (HNO.out (fun h => hxa (by rw [HVAL.out]; exact h.2.1)) w2 T2.out)
      go_wp2_with fail
      go_ret
      exact HF.out
end Go.Proofs.Ytaoibakbnimnkaa
