/- The laws MincostConvex and MincostSolves. -/
import Derived.Test.YtaoibakbnimnkaaM9
import Derived.Test.YtaoibakbnimnkaaNu
namespace Go.Proofs.Ytaoibakbnimnkaa
open Go.RowKit NetM

/-- A network made of a tape: what a law knows of it. -/
def MadeP (w w' : World) (v : Value) (N s t : Nat) (A : List Arc) : Prop := NetA w' v N s t A ∧ Small N s t A ∧ Add w w'
theorem made_of {w w1 w2 : World} {g : Nat} {e : Ending} (h1 : Add w w1) (hg : w.heap.size ≤ g) (h : NetworkP w1 g e w2) : ∃ v N s t A, e = .returned v ∧ MadeP w w2 v N s t A := by
  obtain ⟨v, N, s, t, A, rfl, h2, h3, h4⟩ := h
  exact ⟨v, N, s, t, A, rfl, h2, h3, Below.grown h1 h4 h1.size (fun k e => by have := Option.some.inj e; omega)⟩
theorem Small.cnet {N s t : Nat} {A : List Arc} (h : Small N s t A) : CNet N s t A := ⟨h.1, fun a ha => by
  have := h.2.2.2.2 a ha
  unfold okCost; omega⟩
theorem opt_nat {N s t : Nat} {A : List Arc} {x : Int} (hv : VNet N s t A) (h : Opt N s t A x) : ∃ X : Nat, x = (X : Int) ∧ X ≤ 5368709117500 := by
  obtain ⟨f, S, h1, -, -, -, h4, h5⟩ := h
  have h6 := cap_nonneg (cutOf S) A hv.1
  have h7 := cap_le (cutOf S) A hv.1
  have h8 : (A.length : Int) * 2147483647 ≤ 2500 * 2147483647 := Int.mul_le_mul_of_nonneg_right (by have := hv.2.2.2.2.2.2; omega) (by decide)
  exact ⟨x.toNat, by omega, by omega⟩
theorem minc_bound {N s t : Nat} {A : List Arc} {v c : Int} (hv : CNet N s t A) (h : MinC N s t A v c) : 0 ≤ c ∧ c ≤ 2500000000000 := by
  obtain ⟨f, p, h1, -, -, h4⟩ := h
  have := cost_bound hv.2 h1.1
  have h8 : (A.length : Int) * 1000000000 ≤ 2500 * 1000000000 := Int.mul_le_mul_of_nonneg_right (by have := hv.1.2.2.2.2.2.2; omega) (by decide)
  omega
theorem minc_zero {N s t : Nat} {A : List Arc} {c : Int} (hv : CNet N s t A) (h : MinC N s t A 0 c) : c = 0 := by
  have h1 := (minc_bound hv h).1
  have h2 := h.le hv.1.2.1 hv.1.2.2.1 hv.1.2.2.2.1 hv.1.1 (zero_flow hv.1.1) (zero_net _ _)
  rw [cost_zero] at h2
  omega
/-- What the loop of MincostConvex knows ahead of round j. -/
def CvI (N s t : Nat) (A : List Arc) (j : Nat) (last step : Int) : Prop :=
  (j = 0 ∧ last = 0 ∧ step = 0) ∨ (j = 1 ∧ step = 0 ∧ MinC N s t A 0 last) ∨ (2 ≤ j ∧ MinC N s t A ((j : Int) - 1) last ∧ ∃ c0, MinC N s t A ((j : Int) - 2) c0 ∧ step = last - c0)
theorem CvI.bound {N s t : Nat} {A : List Arc} {j : Nat} {last step : Int} (h : CvI N s t A j last step) (hv : CNet N s t A) : 0 ≤ last ∧ last ≤ 2500000000000 ∧ -2500000000000 ≤ step ∧ step ≤ 2500000000000 := by
  rcases h with ⟨-, rfl, rfl⟩ | ⟨-, rfl, h⟩ | ⟨-, h, c0, h0, rfl⟩
  · decide
  · have := minc_bound hv h; omega
  · have := minc_bound hv h
    have := minc_bound hv h0
    omega
theorem CvI.le {N s t : Nat} {A : List Arc} {j : Nat} {last step c : Int} (h : CvI N s t A j last step) (hv : CNet N s t A) (hc : MinC N s t A (j : Int) c) (hj : 0 < j) : step ≤ c - last := by
  rcases h with ⟨rfl, -⟩ | ⟨rfl, rfl, h⟩ | ⟨h2, h, c0, h0, rfl⟩
  · omega
  · have := minc_zero hv h
    have := (minc_bound hv hc).1
    omega
  · have e : (j : Int) - 2 = ((j : Int) - 1) - 1 := by omega
    have e2 : (j : Int) = ((j : Int) - 1) + 1 := by omega
    rw [e] at h0
    rw [e2] at hc
    exact h0.convex h hc hv.1.2.1 hv.1.2.2.1 hv.1.2.2.2.1 hv.1.1
theorem CvI.next {N s t : Nat} {A : List Arc} {j : Nat} {last step c : Int} (h : CvI N s t A j last step) (hc : MinC N s t A (j : Int) c) (hj : 0 < j) : CvI N s t A (j + 1) c (c - last) := by
  refine .inr (.inr ⟨by omega, ?_, last, ?_, rfl⟩)
  · have e : ((j + 1 : Nat) : Int) - 1 = (j : Int) := by omega
    rw [e]; exact hc
  · have e : ((j + 1 : Nat) : Int) - 2 = (j : Int) - 1 := by omega
    rw [e]
    rcases h with ⟨rfl, -⟩ | ⟨rfl, -, h⟩ | ⟨-, h, -⟩
    · omega
    · exact h
    · exact h
set_option maxRecDepth 100000 in
set_option maxHeartbeats 2000000 in
theorem convex_any {w : World} {v : Value} {bs : List Nat} (h : RdU w v bs) (hb : ∀ x ∈ bs, x < 256) : Calls Try.prog 6 #[v] w (LawB w) := by
  have CT := Lib.hid (new_any h hb)
  have CN : Hid (∀ W g, Tp W g → Calls Try.prog 21 #[.pointer (some ⟨g, 0, none⟩)] W (NetworkP W g)) := Lib.hid fun W g h => network_any h
  have CA : Hid (∀ W, Calls Try.prog 10 #[] W (LawB W)) := Lib.hid awakeC_any
  clear h hb
  go_enter Try.func6, Try.ntmps6
  go_wp2_with fail
  refine CT.out.mono ?_
  rintro e w1 ⟨g, rfl, ht, h1, hg⟩
  have HT := Lib.hid ht
  have H1 := Lib.hid h1
  have HG := Lib.hid hg
  clear ht h1 hg
  go_wp2_with fail
  refine (CN.out _ _ HT.out).mono ?_
  intro e w2 hnet
  obtain ⟨vn, N, s, t, A, rfl, hA, hsm, h2⟩ := made_of H1.out HG.out hnet
  obtain ⟨va, rfl, ha⟩ := id hA
  obtain ⟨a, m, c, rfl, -⟩ := id ha
  have hcn := hsm.cnet
  have CM : Hid (∀ W1, Add w2 W1 → Calls Try.prog 18 #[.agg #[.int .i64 (N : Nat), .int .i64 (s : Nat), .int .i64 (t : Nat), .slice a m c]] W1 (MostP W1 N s t A)) := Lib.hid fun W1 hh => most_any (hA.add hh) hsm.1
  have CS : Hid (∀ W1 am, Add w2 W1 → 0 ≤ am → am ≤ 9223372036854775807 → (∀ x, Opt N s t A x → am ≤ x) → Calls Try.prog 19 #[.agg #[.int .i64 (N : Nat), .int .i64 (s : Nat), .int .i64 (t : Nat), .slice a m c], .int .i64 am] W1 (SolvedC W1 N s t A am)) := Lib.hid fun W1 am hh h0 h1 h2 => solvedC_any (hA.add hh) hcn h0 h1 h2
  have HCN := Lib.hid hcn
  have hB := nbox_new w2 N s t a m c
  have hT := add_new w2 (.cells #[.int .i64 (N : Nat), .int .i64 (s : Nat), .int .i64 (t : Nat), .slice a m c] 24)
  have HB := Lib.hid hB
  have H2 := Lib.hid h2
  clear hA ha hsm hnet h2 hB HT H1 HG CT CN hcn
  go_wp2_with fail
  refine (CM.out _ hT).mono ?_
  rintro e w3 ⟨x, rfl, hopt, h3⟩
  obtain ⟨X, rfl, hX⟩ := opt_nat HCN.out.1 hopt
  have HOPT : Hid (∀ j : Nat, j ≤ X → ∀ y, Opt N s t A y → (j : Int) ≤ y) := Lib.hid fun j hj y hy => by
    have := hopt.unique hy HCN.out.1.2.1 HCN.out.1.1
    omega
  have HT3 := Lib.hid (Add.trans hT h3)
  have HB3 := Lib.hid (HB.out.add h3)
  clear h3 hT hopt HB
  go_wp2_with fail
  go_loopw [5, 6, 7] (fun lv sv av wr => ∃ (j : Nat) (last step : Int), lv = .int .i64 last ∧ sv = .int .i64 step ∧ av = .int .i64 j ∧ j ≤ X + 1 ∧ Hid (CvI N s t A j last step) ∧ Hid (Add w3 wr)) (fun _ _ av _ => X + 1 - (intOf av).toNat)
  case atStart => exact ⟨0, 0, 0, rfl, rfl, rfl, Nat.zero_le _, Lib.hid (.inl ⟨rfl, rfl, rfl⟩), Lib.hid (add_refl _)⟩
  case round =>
    obtain ⟨j, last, step, rfl, rfl, rfl, hj, hci, hadd⟩ := hrel
    by_cases hjX : j ≤ X
    · have dj : decide ((j : Int) ≤ (X : Int)) = true := decide_eq_true (by omega)
      have hB4 := HB3.out.add hadd.out
      have c0 := hB4.c0
      have c1 := hB4.c1
      have c2 := hB4.c2
      have c3 := hB4.c3
      clear hB4
      go_wp2_with fail
      refine (CS.out _ _ (Add.trans HT3.out hadd.out) (by omega) (by omega) (HOPT.out j hjX)).mono ?_
      rintro e w4 ⟨cc, rfl, hmin, h4⟩
      have hb1 := hci.out.bound HCN.out
      have hb2 := minc_bound HCN.out hmin
      have W1 : IntKind.i64.wrap (cc - last) = cc - last := IntWalk.i64_in _ (by omega)
      have HADD := Lib.hid (Add.trans hadd.out h4)
      have HMIN := Lib.hid hmin
      clear hmin h4 c0 c1 c2 c3 dj
      by_cases h0 : 0 < j
      · have d0 : decide ((0 : Int) < (j : Int)) = true := decide_eq_true (by omega)
        have hle := hci.out.le HCN.out HMIN.out h0
        have d1 : decide (cc - last < step) = false := decide_eq_false (by omega)
        have HNX := Lib.hid (hci.out.next HMIN.out h0)
        clear hle hb1 hb2
        go_wp2_with fail
        go_roundw
        case rel => exact ⟨j + 1, cc, cc - last, rfl, rfl, by go_num, by omega, HNX, HADD⟩
        case measure => simp [intOf]; omega
      · obtain rfl : j = 0 := by omega
        have hs0 : step = 0 := by
          rcases hci.out with ⟨-, -, h⟩ | ⟨h, -⟩ | ⟨h, -⟩
          · exact h
          · omega
          · omega
        subst hs0
        have HNX : Hid (CvI N s t A (0 + 1) cc 0) := Lib.hid (.inr (.inl ⟨rfl, rfl, HMIN.out⟩))
        clear h0 hb1 hb2
        go_wp2_with fail
        go_roundw
        case rel => exact ⟨0 + 1, cc, 0, rfl, rfl, by go_num, by omega, HNX, HADD⟩
        case measure => simp [intOf]
    · have dj : decide ((j : Int) ≤ (X : Int)) = false := decide_eq_false (by omega)
      have HTT := Lib.hid (Add.trans H2.out (Add.trans HT3.out hadd.out))
      clear hadd hci
      go_wp2_with fail
      refine (CA.out _).mono ?_
      rintro e w5 ⟨rfl, h5⟩
      have HE : Hid (LawB w (.returned (.bool true)) w5) := Lib.hid ⟨rfl, Add.trans HTT.out h5⟩
      clear h5
      go_wp2_with fail
      go_ret
      exact HE.out
set_option maxRecDepth 100000 in
set_option maxHeartbeats 2000000 in
theorem solvesC_any {w : World} {v : Value} {bs : List Nat} (h : RdU w v bs) (hb : ∀ x ∈ bs, x < 256) : Calls Try.prog 5 #[v] w (LawB w) := by
  have CT := Lib.hid (new_any h hb)
  have CN : Hid (∀ W g, Tp W g → Calls Try.prog 21 #[.pointer (some ⟨g, 0, none⟩)] W (NetworkP W g)) := Lib.hid fun W g h => network_any h
  have CA : Hid (∀ W, Calls Try.prog 10 #[] W (LawB W)) := Lib.hid awakeC_any
  clear h hb
  go_enter Try.func5, Try.ntmps5
  go_wp2_with fail
  refine CT.out.mono ?_
  rintro e w1 ⟨g, rfl, ht, h1, hg⟩
  have HT := Lib.hid ht
  have H1 := Lib.hid h1
  have HG := Lib.hid hg
  clear ht h1 hg
  go_wp2_with fail
  refine (CN.out _ _ HT.out).mono ?_
  intro e w2 hnet
  obtain ⟨vn, N, s, t, A, rfl, hA, hsm, h2⟩ := made_of H1.out HG.out hnet
  obtain ⟨va, rfl, ha⟩ := id hA
  obtain ⟨a, m, c, rfl, -⟩ := id ha
  have hcn := hsm.cnet
  have CM : Hid (∀ W1, Add w2 W1 → Calls Try.prog 18 #[.agg #[.int .i64 (N : Nat), .int .i64 (s : Nat), .int .i64 (t : Nat), .slice a m c]] W1 (MostP W1 N s t A)) := Lib.hid fun W1 hh => most_any (hA.add hh) hsm.1
  have CS : Hid (∀ W1 am, Add w2 W1 → 0 ≤ am → am ≤ 9223372036854775807 → (∀ x, Opt N s t A x → am ≤ x) → Calls Try.prog 19 #[.agg #[.int .i64 (N : Nat), .int .i64 (s : Nat), .int .i64 (t : Nat), .slice a m c], .int .i64 am] W1 (SolvedC W1 N s t A am)) := Lib.hid fun W1 am hh h0 h1 h2 => solvedC_any (hA.add hh) hcn h0 h1 h2
  have CR : Hid (∀ W1 am, Add w2 W1 → 0 ≤ am → am ≤ 4611686018427387904 → Calls Try.prog 22 #[.agg #[.int .i64 (N : Nat), .int .i64 (s : Nat), .int .i64 (t : Nat), .slice a m c], .int .i64 am] W1 (SolveC W1 N s t A am)) := Lib.hid fun W1 am hh h0 h1 => refSolveC_any (hA.add hh) hcn h0 h1
  have CP : Hid (∀ W1 am, Add w2 W1 → 0 ≤ am → am ≤ 9223372036854775807 → Calls Try.prog 17 #[.agg #[.int .i64 (N : Nat), .int .i64 (s : Nat), .int .i64 (t : Nat), .slice a m c], .int .i64 am] W1 (SolvePC W1 N s t A am)) := Lib.hid fun W1 am hh h0 h1 => progSolveC_any (hA.add hh) hcn h0 h1
  have HCN := Lib.hid hcn
  have hB := nbox_new w2 N s t a m c
  have hT := add_new w2 (.cells #[.int .i64 (N : Nat), .int .i64 (s : Nat), .int .i64 (t : Nat), .slice a m c] 24)
  have HB := Lib.hid hB
  have H2 := Lib.hid h2
  clear hA ha hsm hnet h2 hB HT H1 HG CT CN hcn
  go_wp2_with fail
  refine (CM.out _ hT).mono ?_
  rintro e w3 ⟨x, rfl, hopt, h3⟩
  obtain ⟨X, rfl, hX⟩ := opt_nat HCN.out.1 hopt
  have HOPT : Hid (∀ j : Nat, j ≤ X → ∀ y, Opt N s t A y → (j : Int) ≤ y) := Lib.hid fun j hj y hy => by
    have := hopt.unique hy HCN.out.1.2.1 HCN.out.1.1
    omega
  have HOX := Lib.hid hopt
  have HT3 := Lib.hid (Add.trans hT h3)
  have HB3 := Lib.hid (HB.out.add h3)
  clear h3 hT hopt HB
  go_wp2_with fail
  go_loopw [5] (fun av wr => ∃ (j : Nat), av = .int .i64 j ∧ j ≤ X + 1 ∧ Hid (Add w3 wr)) (fun av _ => X + 1 - (intOf av).toNat)
  case atStart => exact ⟨0, rfl, Nat.zero_le _, Lib.hid (add_refl _)⟩
  case round =>
    obtain ⟨j, rfl, hj, hadd⟩ := hrel
    have hB4 := HB3.out.add hadd.out
    have HB4 := Lib.hid hB4
    have c0 := hB4.c0
    have c1 := hB4.c1
    have c2 := hB4.c2
    have c3 := hB4.c3
    clear hB4
    by_cases hjX : j ≤ X
    · have dj : decide ((j : Int) ≤ (X : Int)) = true := decide_eq_true (by omega)
      go_wp2_with fail
      refine (CS.out _ _ (Add.trans HT3.out hadd.out) (by omega) (by omega) (HOPT.out j hjX)).mono ?_
      rintro e w4 ⟨cc, rfl, hmin, h4⟩
      have HADD := Lib.hid (Add.trans hadd.out h4)
      have HMIN := Lib.hid hmin
      have hB5 := HB4.out.add h4
      clear hmin h4 c0 c1 c2 c3 dj
      have c0 := hB5.c0
      have c1 := hB5.c1
      have c2 := hB5.c2
      have c3 := hB5.c3
      clear hB5
      go_wp2_with fail
      refine (CR.out _ (j : Int) (Add.trans HT3.out HADD.out) (by omega) (by omega)).mono ?_
      rintro e w5 (⟨vf, dd, vq, rfl, hm2, h5⟩ | ⟨rfl, ⟨y, hy, hyj⟩, h5⟩)
      · obtain rfl := HMIN.out.unique hm2 HCN.out.1.2.1 HCN.out.1.2.2.1 HCN.out.1.2.2.2.1 HCN.out.1.1
        have d1 : (cc == cc) = true := by simp
        have d2 : (cc != cc) = false := by simp
        have HADD2 := Lib.hid (Add.trans HADD.out h5)
        clear hm2 h5 c0 c1 c2 c3
        go_wp2_with fail
        go_roundw
        case rel => exact ⟨j + 1, by go_num, by omega, HADD2⟩
        case measure => simp [intOf]; omega
      · have := HOPT.out j hjX y hy
        omega
    · have dj : decide ((j : Int) ≤ (X : Int)) = false := decide_eq_false (by omega)
      have W1 : IntKind.i64.wrap ((X : Int) + 1) = (X : Int) + 1 := IntWalk.i64_in _ (by omega)
      go_wp2_with fail
      refine (CP.out _ ((X : Int) + 1) (Add.trans HT3.out hadd.out) (by omega) (by omega)).mono ?_
      rintro e w5 (⟨vf, dd, vq, F, Q, rfl, -, -, hce, -, -⟩ | ⟨aa, ka, ab, kb, rfl, -, h5⟩)
      · have := hce.min.most HOX.out HCN.out.1.2.1 HCN.out.1.1
        omega
      · have HTT := Lib.hid (Add.trans H2.out (Add.trans (Add.trans HT3.out hadd.out) h5))
        clear hadd h5 c0 c1 c2 c3
        go_wp2_with fail
        refine (CA.out _).mono ?_
        rintro e w6 ⟨rfl, h6⟩
        have HE : Hid (LawB w (.returned (.bool true)) w6) := Lib.hid ⟨rfl, Add.trans HTT.out h6⟩
        clear h6
        go_wp2_with fail
        go_ret
        exact HE.out
end Go.Proofs.Ytaoibakbnimnkaa
