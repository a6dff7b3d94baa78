/- The law MincostRaw. -/
import Derived.Test.YtaoibakbnimnkaaM9
namespace Go.Proofs.Ytaoibakbnimnkaa
open Go.RowKit NetM

theorem opt_bound {N s t : Nat} {A : List Arc} {x : Int} (hv : VNet N s t A) (h : Opt N s t A x) : 0 ≤ x ∧ x ≤ 5368709117500 := by
  obtain ⟨f, S, h1, -, -, -, h4, h5⟩ := h
  have h6 := cap_nonneg (cutOf S) A hv.1
  have h7 := cap_le (cutOf S) A hv.1
  have h8 : (A.length : Int) * 2147483647 ≤ 2500 * 2147483647 := Int.mul_le_mul_of_nonneg_right (by have := hv.2.2.2.2.2.2; omega) (by decide)
  omega
set_option maxRecDepth 100000 in
set_option maxHeartbeats 2000000 in
theorem rawC_any {w : World} {v : Value} {N s t am : Int} {A : List Arc} (h : NetA w v N s t A) (ham : am ≤ 9223372036854775807) : Calls Try.prog 4 #[v, .int .i64 am] w (LawB w) := by
  have CA : Hid (∀ W, Calls Try.prog 10 #[] W (LawB W)) := Lib.hid awakeC_any
  obtain ⟨hv, ehv⟩ : ∃ b, (decide (40 < A.length) || (decide (40 < N) && decide (N ≤ 700))) = b := ⟨_, rfl⟩
  have CH : Hid (∀ W1, Add w W1 → Calls Try.prog 9 #[v] W1 (RetB W1 hv)) := Lib.hid fun W1 hh => heavyC_any hv (h.add hh) ehv
  obtain ⟨vb, evb⟩ : ∃ b, validC N s t A = b := ⟨_, rfl⟩
  have CV : Hid (∀ W1, Add w W1 → Calls Try.prog 14 #[v] W1 (RetB W1 vb)) := Lib.hid fun W1 hh => by rw [← evb]; exact refValidC_any (h.add hh)
  have CSI : Hid (∀ W1, (vb = false ∨ am < 0) → Add w W1 → Calls Try.prog 17 #[v, .int .i64 am] W1 (SolveCN W1)) := Lib.hid fun W1 hn hh => progSolveC_inv (h.add hh) (by rw [evb]; exact hn)
  have HN := Lib.hid h
  obtain ⟨va, rfl, hat⟩ := h
  obtain ⟨a, m, c, rfl, hl, hmc, hm, -⟩ := id hat
  have HAT := Lib.hid hat
  have HL := Lib.hid hl
  unfold maxLen at hm
  have B1 := Lib.hid (nbox_new w N s t a m c)
  have T1 := add_new w (.cells #[.int .i64 N, .int .i64 s, .int .i64 t, .slice a m c] 24)
  have HEV := Lib.hid evb
  clear ehv evb hat hl
  have hcase : (hv = true ∨ (hv = false ∧ 60 < am ∧ am ≤ 100000000)) ∨ (hv = false ∧ ¬ (60 < am ∧ am ≤ 100000000)) := by
    cases hv with
    | true => exact .inl (.inl rfl)
    | false =>
      by_cases h1 : 60 < am ∧ am ≤ 100000000
      · exact .inl (.inr ⟨rfl, h1⟩)
      · exact .inr ⟨rfl, h1⟩
  go_enter Try.func4, Try.ntmps4
  go_wp2_with fail
  refine (CH.out _ T1).mono ?_
  rintro e w1 ⟨rfl, h1⟩
  have hT1 := Add.trans T1 h1
  have hB1 := B1.out.add h1
  have c0 := hB1.c0
  have c1 := hB1.c1
  have c2 := hB1.c2
  have c3 := hB1.c3
  have HB1 := Lib.hid hB1
  clear h1 T1 B1 hB1
  rcases hcase with (rfl | ⟨rfl, h2, h3⟩) | ⟨rfl, h2⟩
  · have HT := Lib.hid hT1
    clear hT1 c0 c1 c2 c3
    go_wp2_with fail
    refine (CA.out _).mono ?_
    rintro e w5 ⟨rfl, h5⟩
    have HE : Hid (LawB w (.returned (.bool true)) w5) := Lib.hid ⟨rfl, Add.trans HT.out h5⟩
    clear h5
    go_wp2_with fail
    go_ret
    exact HE.out
  · have HT := Lib.hid hT1
    have e1 : decide (60 < am) = true := decide_eq_true h2
    have e2 : decide (am ≤ 100000000) = true := decide_eq_true h3
    clear hT1 c0 c1 c2 c3 h2 h3
    go_wp2_with fail
    refine (CA.out _).mono ?_
    rintro e w5 ⟨rfl, h5⟩
    have HE : Hid (LawB w (.returned (.bool true)) w5) := Lib.hid ⟨rfl, Add.trans HT.out h5⟩
    clear h5
    go_wp2_with fail
    go_ret
    exact HE.out
  · have HN60 : Hid (60 < am → 100000000 < am) := Lib.hid fun hx => by omega
    clear h2
    have hcase : (60 < am ∧ ¬ am ≤ 100000000) ∨ ¬ 60 < am := by have := HN60.out; omega
    rcases hcase with ⟨g1, g2⟩ | g1
    · have d60 : decide (60 < am) = true := decide_eq_true g1
      have d100 : decide (am ≤ 100000000) = false := decide_eq_false g2
      have G1 := Lib.hid g1
      clear g1 g2
      go_wp2_with fail
      refine (CV.out _ hT1).mono ?_
      rintro e w2 ⟨rfl, h2⟩
      have hT2 := Add.trans hT1 h2
      have hB2 := HB1.out.add h2
      clear h2 hT1 c0 c1 c2 c3
      have c0 := hB2.c0
      have c1 := hB2.c1
      have c2 := hB2.c2
      have c3 := hB2.c3
      have HB2 := Lib.hid hB2
      clear hB2
      have hcase : (vb = false) ∨ (vb = true ∧ am < 0) ∨ (vb = true ∧ ¬ am < 0) := by
        cases vb with
        | false => exact .inl rfl
        | true =>
          by_cases h : am < 0
          · exact .inr (.inl ⟨rfl, h⟩)
          · exact .inr (.inr ⟨rfl, h⟩)
      rcases hcase with rfl | ⟨rfl, h0⟩ | ⟨rfl, h0⟩
      · have CSI2 := Lib.hid fun W1 hh => CSI.out W1 (.inl rfl) hh
        clear CSI
        go_wp2_with fail
        refine (CSI2.out _ hT2).mono ?_
        rintro e w3 ⟨aa, ka, ab, kb, rfl, h3⟩
        have HT3 := Lib.hid (Add.trans hT2 h3)
        clear h3 hT2 c0 c1 c2 c3
        go_wp2_with fail
        refine (CA.out _).mono ?_
        rintro e w5 ⟨rfl, h5⟩
        have HE : Hid (LawB w (.returned (.bool true)) w5) := Lib.hid ⟨rfl, Add.trans HT3.out h5⟩
        clear h5
        go_wp2_with fail
        go_ret
        exact HE.out
      · have d0 : decide (am < 0) = true := decide_eq_true h0
        have H0 := Lib.hid h0
        clear h0
        have CSI2 := Lib.hid fun W1 hh => CSI.out W1 (.inr H0.out) hh
        clear CSI
        go_wp2_with fail
        refine (CSI2.out _ hT2).mono ?_
        rintro e w3 ⟨aa, ka, ab, kb, rfl, h3⟩
        have HT3 := Lib.hid (Add.trans hT2 h3)
        clear h3 hT2 c0 c1 c2 c3
        go_wp2_with fail
        refine (CA.out _).mono ?_
        rintro e w5 ⟨rfl, h5⟩
        have HE : Hid (LawB w (.returned (.bool true)) w5) := Lib.hid ⟨rfl, Add.trans HT3.out h5⟩
        clear h5
        go_wp2_with fail
        go_ret
        exact HE.out
      · have d0 : decide (am < 0) = false := decide_eq_false h0
        obtain ⟨N', s', t', rfl, rfl, rfl, hok⟩ := CNet.of HEV.out
        have HOK := Lib.hid hok
        have HT2 := Lib.hid hT2
        have HAT2 := Lib.hid (HAT.out.add hT2)
        have H0 := Lib.hid h0
        clear hok hT2 CSI h0
        have hm2 : m ≤ 2500 := by have := HOK.out.1.2.2.2.2.2.2; rw [HL.out] at this; exact this
        go_wp2_with fail
        clear c0 c1 c2 d0
        go_loop [9] (fun i => ∃ k : Nat, k ≤ m ∧ i = .int .i64 k) (fun i => m - (intOf i).toNat)
        case atStart => exact ⟨0, Nat.zero_le _, rfl⟩
        case round =>
          obtain ⟨k, hk, rfl⟩ := hrel
          by_cases hlt : k < m
          · obtain ⟨ab, aoff, rfl, -, -, g2, -⟩ := HAT2.out.cell hlt
            obtain ⟨z, hz⟩ : ∃ z, (at' A k).2.2.1 = z := ⟨_, rfl⟩
            rw [hz] at g2
            clear hz
            by_cases h5 : 50 < z
            · have d5 : decide (50 < z) = true := decide_eq_true h5
              clear h5
              go_wp2_with fail
              refine (CA.out _).mono ?_
              rintro e w5 ⟨rfl, h5⟩
              have HE : Hid (LawB w (.returned (.bool true)) w5) := Lib.hid ⟨rfl, Add.trans HT2.out h5⟩
              clear h5
              go_wp2_with fail
              go_ret
              exact HE.out
            · have d5 : decide (50 < z) = false := decide_eq_false h5
              clear h5
              go_wp2_with fail
              go_round
              case rel => exact ⟨k + 1, by omega, by go_num⟩
              case measure => simp [intOf]; omega
          · obtain rfl : k = m := by omega
            have c0 := HB2.out.c0
            have c1 := HB2.out.c1
            have c2 := HB2.out.c2
            have CM : Hid (∀ W1, Add w W1 → Calls Try.prog 18 #[.agg #[.int .i64 (N' : Nat), .int .i64 (s' : Nat), .int .i64 (t' : Nat), .slice a k c]] W1 (MostP W1 N' s' t' A)) := Lib.hid fun W1 hh => most_any (HN.out.add hh) HOK.out.1
            go_wp2_with fail
            refine (CM.out _ HT2.out).mono ?_
            rintro e w3 ⟨x, rfl, hopt, h3⟩
            have hxb := opt_bound HOK.out.1 hopt
            have HOP := Lib.hid hopt
            have HT3 := Lib.hid (Add.trans HT2.out h3)
            have hB3 := HB2.out.add h3
            clear c0 c1 c2 c3 h3 hopt
            have c0 := hB3.c0
            have c1 := hB3.c1
            have c2 := hB3.c2
            have c3 := hB3.c3
            clear hB3
            by_cases hgt : x < am
            · have dg : decide (x < am) = true := decide_eq_true hgt
              have CS : Hid (∀ W1, Add w W1 → Calls Try.prog 17 #[.agg #[.int .i64 (N' : Nat), .int .i64 (s' : Nat), .int .i64 (t' : Nat), .slice a k c], .int .i64 am] W1 (SolvePC W1 N' s' t' A am)) := Lib.hid fun W1 hh => progSolveC_any (HN.out.add hh) HOK.out (by have := H0.out; omega) ham
              have HGT := Lib.hid hgt
              clear hgt hxb
              go_wp2_with fail
              refine (CS.out _ HT3.out).mono ?_
              rintro e w4 (⟨vf, dd, vq, F, Q, rfl, -, -, hce, -, -⟩ | ⟨aa, ka, ab, kb, rfl, -, h4⟩)
              · have := hce.min.most HOP.out HOK.out.1.2.1 HOK.out.1.1
                have := HGT.out
                omega
              · have HT4 := Lib.hid (Add.trans HT3.out h4)
                clear h4 c0 c1 c2 c3 dg
                go_wp2_with fail
                refine (CA.out _).mono ?_
                rintro e w5 ⟨rfl, h5⟩
                have HE : Hid (LawB w (.returned (.bool true)) w5) := Lib.hid ⟨rfl, Add.trans HT4.out h5⟩
                clear h5
                go_wp2_with fail
                go_ret
                exact HE.out
            · have dg : decide (x < am) = false := decide_eq_false hgt
              have CS : Hid (∀ W1, Add w W1 → Calls Try.prog 19 #[.agg #[.int .i64 (N' : Nat), .int .i64 (s' : Nat), .int .i64 (t' : Nat), .slice a k c], .int .i64 am] W1 (SolvedC W1 N' s' t' A am)) := Lib.hid fun W1 hh => solvedC_any (HN.out.add hh) HOK.out (by have := H0.out; omega) ham fun y hy => by
                have := HOP.out.unique hy HOK.out.1.2.1 HOK.out.1.1
                omega
              clear hgt hxb
              go_wp2_with fail
              refine (CS.out _ HT3.out).mono ?_
              rintro e w4 ⟨cc, rfl, -, h4⟩
              have HT4 := Lib.hid (Add.trans HT3.out h4)
              clear h4 c0 c1 c2 c3 dg
              go_wp2_with fail
              refine (CA.out _).mono ?_
              rintro e w5 ⟨rfl, h5⟩
              have HE : Hid (LawB w (.returned (.bool true)) w5) := Lib.hid ⟨rfl, Add.trans HT4.out h5⟩
              clear h5
              go_wp2_with fail
              go_ret
              exact HE.out
    · have d60 : decide (60 < am) = false := decide_eq_false g1
      have G1 := Lib.hid g1
      clear g1
      go_wp2_with fail
      refine (CV.out _ hT1).mono ?_
      rintro e w2 ⟨rfl, h2⟩
      have hT2 := Add.trans hT1 h2
      have hB2 := HB1.out.add h2
      clear h2 hT1 c0 c1 c2 c3
      have c0 := hB2.c0
      have c1 := hB2.c1
      have c2 := hB2.c2
      have c3 := hB2.c3
      have HB2 := Lib.hid hB2
      clear hB2
      have hcase : (vb = false) ∨ (vb = true ∧ am < 0) ∨ (vb = true ∧ ¬ am < 0) := by
        cases vb with
        | false => exact .inl rfl
        | true =>
          by_cases h : am < 0
          · exact .inr (.inl ⟨rfl, h⟩)
          · exact .inr (.inr ⟨rfl, h⟩)
      rcases hcase with rfl | ⟨rfl, h0⟩ | ⟨rfl, h0⟩
      · have CSI2 := Lib.hid fun W1 hh => CSI.out W1 (.inl rfl) hh
        clear CSI
        go_wp2_with fail
        refine (CSI2.out _ hT2).mono ?_
        rintro e w3 ⟨aa, ka, ab, kb, rfl, h3⟩
        have HT3 := Lib.hid (Add.trans hT2 h3)
        clear h3 hT2 c0 c1 c2 c3
        go_wp2_with fail
        refine (CA.out _).mono ?_
        rintro e w5 ⟨rfl, h5⟩
        have HE : Hid (LawB w (.returned (.bool true)) w5) := Lib.hid ⟨rfl, Add.trans HT3.out h5⟩
        clear h5
        go_wp2_with fail
        go_ret
        exact HE.out
      · have d0 : decide (am < 0) = true := decide_eq_true h0
        have H0 := Lib.hid h0
        clear h0
        have CSI2 := Lib.hid fun W1 hh => CSI.out W1 (.inr H0.out) hh
        clear CSI
        go_wp2_with fail
        refine (CSI2.out _ hT2).mono ?_
        rintro e w3 ⟨aa, ka, ab, kb, rfl, h3⟩
        have HT3 := Lib.hid (Add.trans hT2 h3)
        clear h3 hT2 c0 c1 c2 c3
        go_wp2_with fail
        refine (CA.out _).mono ?_
        rintro e w5 ⟨rfl, h5⟩
        have HE : Hid (LawB w (.returned (.bool true)) w5) := Lib.hid ⟨rfl, Add.trans HT3.out h5⟩
        clear h5
        go_wp2_with fail
        go_ret
        exact HE.out
      · have d0 : decide (am < 0) = false := decide_eq_false h0
        obtain ⟨N', s', t', rfl, rfl, rfl, hok⟩ := CNet.of HEV.out
        have HOK := Lib.hid hok
        have HT2 := Lib.hid hT2
        have HAT2 := Lib.hid (HAT.out.add hT2)
        have H0 := Lib.hid h0
        clear hok hT2 CSI h0
        have hm2 : m ≤ 2500 := by have := HOK.out.1.2.2.2.2.2.2; rw [HL.out] at this; exact this
        go_wp2_with fail
        clear c0 c1 c2 d0
        go_loop [9] (fun i => ∃ k : Nat, k ≤ m ∧ i = .int .i64 k) (fun i => m - (intOf i).toNat)
        case atStart => exact ⟨0, Nat.zero_le _, rfl⟩
        case round =>
          obtain ⟨k, hk, rfl⟩ := hrel
          by_cases hlt : k < m
          · go_wp2_with fail
            go_round
            case rel => exact ⟨k + 1, by omega, by go_num⟩
            case measure => simp [intOf]; omega
          · obtain rfl : k = m := by omega
            have c0 := HB2.out.c0
            have c1 := HB2.out.c1
            have c2 := HB2.out.c2
            have CM : Hid (∀ W1, Add w W1 → Calls Try.prog 18 #[.agg #[.int .i64 (N' : Nat), .int .i64 (s' : Nat), .int .i64 (t' : Nat), .slice a k c]] W1 (MostP W1 N' s' t' A)) := Lib.hid fun W1 hh => most_any (HN.out.add hh) HOK.out.1
            go_wp2_with fail
            refine (CM.out _ HT2.out).mono ?_
            rintro e w3 ⟨x, rfl, hopt, h3⟩
            have hxb := opt_bound HOK.out.1 hopt
            have HOP := Lib.hid hopt
            have HT3 := Lib.hid (Add.trans HT2.out h3)
            have hB3 := HB2.out.add h3
            clear c0 c1 c2 c3 h3 hopt
            have c0 := hB3.c0
            have c1 := hB3.c1
            have c2 := hB3.c2
            have c3 := hB3.c3
            clear hB3
            by_cases hgt : x < am
            · have dg : decide (x < am) = true := decide_eq_true hgt
              have CS : Hid (∀ W1, Add w W1 → Calls Try.prog 17 #[.agg #[.int .i64 (N' : Nat), .int .i64 (s' : Nat), .int .i64 (t' : Nat), .slice a k c], .int .i64 am] W1 (SolvePC W1 N' s' t' A am)) := Lib.hid fun W1 hh => progSolveC_any (HN.out.add hh) HOK.out (by have := H0.out; omega) ham
              have HGT := Lib.hid hgt
              clear hgt hxb
              go_wp2_with fail
              refine (CS.out _ HT3.out).mono ?_
              rintro e w4 (⟨vf, dd, vq, F, Q, rfl, -, -, hce, -, -⟩ | ⟨aa, ka, ab, kb, rfl, -, h4⟩)
              · have := hce.min.most HOP.out HOK.out.1.2.1 HOK.out.1.1
                have := HGT.out
                omega
              · have HT4 := Lib.hid (Add.trans HT3.out h4)
                clear h4 c0 c1 c2 c3 dg
                go_wp2_with fail
                refine (CA.out _).mono ?_
                rintro e w5 ⟨rfl, h5⟩
                have HE : Hid (LawB w (.returned (.bool true)) w5) := Lib.hid ⟨rfl, Add.trans HT4.out h5⟩
                clear h5
                go_wp2_with fail
                go_ret
                exact HE.out
            · have dg : decide (x < am) = false := decide_eq_false hgt
              have CS : Hid (∀ W1, Add w W1 → Calls Try.prog 19 #[.agg #[.int .i64 (N' : Nat), .int .i64 (s' : Nat), .int .i64 (t' : Nat), .slice a k c], .int .i64 am] W1 (SolvedC W1 N' s' t' A am)) := Lib.hid fun W1 hh => solvedC_any (HN.out.add hh) HOK.out (by have := H0.out; omega) ham fun y hy => by
                have := HOP.out.unique hy HOK.out.1.2.1 HOK.out.1.1
                omega
              clear hgt hxb
              go_wp2_with fail
              refine (CS.out _ HT3.out).mono ?_
              rintro e w4 ⟨cc, rfl, -, h4⟩
              have HT4 := Lib.hid (Add.trans HT3.out h4)
              clear h4 c0 c1 c2 c3 dg
              go_wp2_with fail
              refine (CA.out _).mono ?_
              rintro e w5 ⟨rfl, h5⟩
              have HE : Hid (LawB w (.returned (.bool true)) w5) := Lib.hid ⟨rfl, Add.trans HT4.out h5⟩
              clear h5
              go_wp2_with fail
              go_ret
              exact HE.out
theorem i64_of {z : Int} (h : (Lit.int .i64 z).wf = true) : -9223372036854775808 ≤ z ∧ z ≤ 9223372036854775807 := by
  have h1 : IntKind.i64.min = -9223372036854775808 := rfl
  have h2 : IntKind.i64.max = 9223372036854775807 := rfl
  simp only [Lit.wf, Bool.and_eq_true, decide_eq_true_eq] at h
  omega
end Go.Proofs.Ytaoibakbnimnkaa
