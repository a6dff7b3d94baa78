/- The law MincostExact. -/
import Derived.Test.YtaoibakbnimnkaaM11
import Derived.Deep.RegionHeld3
namespace Go.Proofs.Ytaoibakbnimnkaa
open Go.RowKit NetM

/-- A number and a bool are returned. -/
def IsT (w : World) (x : Int) (b : Bool) (e : Ending) (w' : World) : Prop := e = .returned (.tuple #[.int .i64 x, .bool b]) ∧ Add w w'
theorem cost_both {w : World} {v vf : Value} {N s t : Int} {A : List Arc} {F : List Int} (h : NetA w v N s t A) (hf : RdI w vf F) : ∃ x b,
    (∀ W1, Add w W1 → Calls Try.prog 11 #[v, vf] W1 (IsT W1 x b)) ∧ (∀ W1, Add w W1 → Calls Try.prog 12 #[v, vf] W1 (IsT W1 x b)) := by
  cases hv : validC N s t A with
  | false => exact ⟨0, false, fun W1 ha => progCost_inv (h.add ha) hv (hf.add ha), fun W1 ha => refCost_inv (h.add ha) hv (hf.add ha)⟩
  | true =>
    obtain ⟨N', s', t', rfl, rfl, rfl, hok⟩ := CNet.of hv
    by_cases hfl : isFlow N' s' t' A F
    · have key : ∀ W e W', CostP W N' s' t' A F e W' → IsT W (costF A F) true e W' := by
        rintro W e W' ⟨x, b, rfl, ha, h1, h2⟩
        cases b with
        | true => exact ⟨by rw [(h1 rfl).2], ha⟩
        | false => exact absurd hfl (h2 rfl).1
      exact ⟨_, true, fun W1 ha => (progCost_any (h.add ha) hok (hf.add ha)).mono fun e W' => key _ e W', fun W1 ha => (refCost_any (h.add ha) hok (hf.add ha)).mono fun e W' => key _ e W'⟩
    · have key : ∀ W e W', CostP W N' s' t' A F e W' → IsT W 0 false e W' := by
        rintro W e W' ⟨x, b, rfl, ha, h1, h2⟩
        cases b with
        | true => exact absurd (h1 rfl).1 hfl
        | false => exact ⟨by rw [(h2 rfl).2], ha⟩
      exact ⟨_, false, fun W1 ha => (progCost_any (h.add ha) hok (hf.add ha)).mono fun e W' => key _ e W', fun W1 ha => (refCost_any (h.add ha) hok (hf.add ha)).mono fun e W' => key _ e W'⟩
open Classical in
theorem cert_both {w : World} {v vf vq : Value} {N s t am : Int} {A : List Arc} {F Q : List Int} (h : NetA w v N s t A) (hf : RdI w vf F) (hq : RdI w vq Q) : ∃ b,
    (∀ W1, Add w W1 → Calls Try.prog 15 #[v, .int .i64 am, vf, vq] W1 (RetB W1 b)) ∧ (∀ W1, Add w W1 → Calls Try.prog 16 #[v, .int .i64 am, vf, vq] W1 (RetB W1 b)) := by
  cases hv : validC N s t A with
  | false => exact ⟨false, fun W1 ha => progCert_inv (h.add ha) hv (hf.add ha) (hq.add ha), fun W1 ha => refCert_inv (h.add ha) hv (hf.add ha) (hq.add ha)⟩
  | true =>
    obtain ⟨N', s', t', rfl, rfl, rfl, hok⟩ := CNet.of hv
    have key : ∀ W e W', CertP W N' s' t' A am F Q e W' → RetB W (decide (certOk N' s' t' A am F Q)) e W' := by
      rintro W e W' ⟨b, rfl, ha, h1⟩
      refine ⟨?_, ha⟩
      have : b = decide (certOk N' s' t' A am F Q) := by rw [Bool.eq_iff_iff, h1, decide_eq_true_iff]
      rw [this]
    exact ⟨_, fun W1 ha => (progCert_any (h.add ha) hok (hf.add ha) (hq.add ha)).mono fun e W' => key _ e W', fun W1 ha => (refCert_any (h.add ha) hok (hf.add ha) (hq.add ha)).mono fun e W' => key _ e W'⟩
set_option maxRecDepth 100000 in
set_option maxHeartbeats 4000000 in
theorem exactC_any {w : World} {v vf vq : Value} {N s t am : Int} {A : List Arc} {F Q : List Int} (h : NetA w v N s t A) (hf : RdI w vf F) (hq : RdI w vq Q) : Calls Try.prog 3 #[v, .int .i64 am, vf, vq] w (LawB w) := by
  have CA : Hid (∀ W, Calls Try.prog 10 #[] W (LawB W)) := Lib.hid awakeC_any
  obtain ⟨hv, ehv⟩ : ∃ b, (decide (40 < A.length) || (decide (40 < N) && decide (N ≤ 700))) = b := ⟨_, rfl⟩
  have CH : Hid (∀ W1, Add w W1 → Calls Try.prog 9 #[v] W1 (RetB W1 hv)) := Lib.hid fun W1 hh => heavyC_any hv (h.add hh) ehv
  obtain ⟨vb, evb⟩ : ∃ b, validC N s t A = b := ⟨_, rfl⟩
  have CV1 : Hid (∀ W1, Add w W1 → Calls Try.prog 13 #[v] W1 (RetB W1 vb)) := Lib.hid fun W1 hh => by rw [← evb]; exact progValidC_any (h.add hh)
  have CV2 : Hid (∀ W1, Add w W1 → Calls Try.prog 14 #[v] W1 (RetB W1 vb)) := Lib.hid fun W1 hh => by rw [← evb]; exact refValidC_any (h.add hh)
  obtain ⟨x, xb, cx1, cx2⟩ := cost_both h hf
  obtain ⟨kb, ck1, ck2⟩ := cert_both (am := am) h hf hq
  have CX1 := Lib.hid cx1
  have CX2 := Lib.hid cx2
  have CK1 := Lib.hid ck1
  have CK2 := Lib.hid ck2
  obtain ⟨va, rfl, ⟨a, m, c, rfl, -⟩⟩ := h
  obtain ⟨fa, fc, rfl, hfc, hfm, -⟩ := hf.open
  obtain ⟨ca, cc, rfl, hcc, hcm, -⟩ := hq.open
  unfold maxLen at hfm hcm
  obtain ⟨nf, enf⟩ : ∃ n, n = F.length := ⟨_, rfl⟩
  obtain ⟨nc, enc⟩ : ∃ n, n = Q.length := ⟨_, rfl⟩
  rw [← enf] at hfc CX1 CX2 CK1 CK2 ⊢
  rw [← enc] at hcc CK1 CK2 ⊢
  have B1 := Lib.hid (nbox_new w N s t a m c)
  have T1 := add_new w (.cells #[.int .i64 N, .int .i64 s, .int .i64 t, .slice a m c] 24)
  clear ehv evb cx1 cx2 ck1 ck2 hf hq enf enc
  have d1 : (vb == vb) = true := by cases vb <;> rfl
  have d2 : (x == x) = true := by simp
  have d3 : (xb == xb) = true := by cases xb <;> rfl
  have d6 : (kb == kb) = true := by cases kb <;> rfl
  have hcase : (hv = true ∨ (hv = false ∧ 100 < nf) ∨ (hv = false ∧ nf ≤ 100 ∧ 100 < nc)) ∨ (hv = false ∧ nf ≤ 100 ∧ nc ≤ 100) := by
    cases hv with
    | true => exact .inl (.inl rfl)
    | false =>
      by_cases h1 : 100 < nf
      · exact .inl (.inr (.inl ⟨rfl, h1⟩))
      · by_cases h2 : 100 < nc
        · exact .inl (.inr (.inr ⟨rfl, by omega, h2⟩))
        · exact .inr ⟨rfl, by omega, by omega⟩
  go_enter Try.func3, Try.ntmps3
  go_wp2_with fail
  refine (CH.out _ T1).mono ?_
  rintro e w1 ⟨rfl, h1⟩
  have hT1 := Add.trans T1 h1
  have hB1 := B1.out.add h1
  have c0 := hB1.c0
  have c1 := hB1.c1
  have c2 := hB1.c2
  have c3 := hB1.c3
  have HB1 := Lib.hid hB1
  clear h1 T1 B1 hB1
  rcases hcase with (rfl | ⟨rfl, h2⟩ | ⟨rfl, h2, h3⟩) | ⟨rfl, h2, h3⟩
  · have HT := Lib.hid hT1
    clear hT1 c0 c1 c2 c3
    go_wp2_with fail
    refine (CA.out _).mono ?_
    rintro e w5 ⟨rfl, h5⟩
    have HE : Hid (LawB w (.returned (.bool true)) w5) := Lib.hid ⟨rfl, Add.trans HT.out h5⟩
    clear h5
    go_wp2_with fail
    go_ret
    exact HE.out
  · have HT := Lib.hid hT1
    have e1 : decide ((100 : Int) < (nf : Int)) = true := decide_eq_true (by omega)
    clear hT1 c0 c1 c2 c3 h2
    go_wp2_with fail
    refine (CA.out _).mono ?_
    rintro e w5 ⟨rfl, h5⟩
    have HE : Hid (LawB w (.returned (.bool true)) w5) := Lib.hid ⟨rfl, Add.trans HT.out h5⟩
    clear h5
    go_wp2_with fail
    go_ret
    exact HE.out
  · have HT := Lib.hid hT1
    have e1 : decide ((100 : Int) < (nf : Int)) = false := decide_eq_false (by omega)
    have e2 : decide ((100 : Int) < (nc : Int)) = true := decide_eq_true (by omega)
    clear hT1 c0 c1 c2 c3 h2 h3
    go_wp2_with fail
    refine (CA.out _).mono ?_
    rintro e w5 ⟨rfl, h5⟩
    have HE : Hid (LawB w (.returned (.bool true)) w5) := Lib.hid ⟨rfl, Add.trans HT.out h5⟩
    clear h5
    go_wp2_with fail
    go_ret
    exact HE.out
  · have e1 : decide ((100 : Int) < (nf : Int)) = false := decide_eq_false (by omega)
    have e2 : decide ((100 : Int) < (nc : Int)) = false := decide_eq_false (by omega)
    clear h2 h3
    go_wp2_with fail
    clear e1 e2
    refine (CX1.out _ hT1).mono ?_
    rintro e w2 ⟨rfl, h2⟩
    have hT2 := Add.trans hT1 h2
    have HB2 := Lib.hid (HB1.out.add h2)
    clear h2 hT1 c0 c1 c2 c3
    have c0 := HB2.out.c0
    have c1 := HB2.out.c1
    have c2 := HB2.out.c2
    have c3 := HB2.out.c3
    go_wp2_with fail
    refine (CX2.out _ hT2).mono ?_
    rintro e w5 ⟨rfl, h3⟩
    have hT5 := Add.trans hT2 h3
    have HB5 := Lib.hid (HB2.out.add h3)
    clear h3 hT2 c0 c1 c2 c3
    have c0 := HB5.out.c0
    have c1 := HB5.out.c1
    have c2 := HB5.out.c2
    have c3 := HB5.out.c3
    have t0 : Add w w5.drew := b_drew hT5
    have HT5 := Lib.hid t0
    have HB6 := Lib.hid (HB5.out.add (b_drew (Below.refl _ _)))
    clear hT5 t0
    go_wp2_with fail
    go_region_held3 (fun w' => w'.cell? ⟨w.heap.size, 0, none⟩ = some (.int .i64 N) ∧ w'.cell? ⟨w.heap.size, 1, none⟩ = some (.int .i64 s) ∧ w'.cell? ⟨w.heap.size, 2, none⟩ = some (.int .i64 t) ∧ w'.cell? ⟨w.heap.size, 3, none⟩ = some (.slice a m c))
      (first | exact ⟨n5.c0, n5.c1, n5.c2, n5.c3⟩ | exact ⟨n4.c0, n4.c1, n4.c2, n4.c3⟩ | exact ⟨n3.c0, n3.c1, n3.c2, n3.c3⟩ | exact ⟨n2.c0, n2.c1, n2.c2, n2.c3⟩ | exact ⟨n1.c0, n1.c1, n1.c2, n1.c3⟩ | go_keep)
      (first
        | (go_at_call 13; ((with_reducible refine (CV1.out _ HT5.out).mono ?_); rintro e z1 ⟨rfl, q1⟩; have n1 := HB6.out.add q1; have t1 := Add.trans HT5.out q1))
        | (go_at_call 14; ((with_reducible refine (CV2.out _ t1).mono ?_); rintro e z2 ⟨rfl, q2⟩; have n2 := n1.add q2; have t2 := Add.trans t1 q2))
        | (go_at_call 15; ((with_reducible refine (CK1.out _ t2).mono ?_); rintro e z3 ⟨rfl, q3⟩; have n3 := n2.add q3; have t3 := Add.trans t2 q3))
        | (go_at_call 16; ((with_reducible refine (CK2.out _ t3).mono ?_); rintro e z4 ⟨rfl, q4⟩; have n4 := n3.add q4; have t4 := Add.trans t3 q4))
        | (go_at_call 10; ((with_reducible refine (CA.out _).mono ?_); rintro e z5 ⟨rfl, q5⟩; have n5 := n4.add q5; have t5 := Add.trans t4 q5)))
    all_goals
      have HE := Lib.hid t5
      clear n1 n2 n3 n4 n5 t1 t2 t3 t4 t5 q1 q2 q3 q4 q5
      go_wp2_with fail
      go_ret
      exact ⟨rfl, HE.out⟩
end Go.Proofs.Ytaoibakbnimnkaa
