/- The laws of layer 13: their helpers most, solved, heavy and awake. The program's functions come in by the contracts of text Mp. -/
import Derived.Test.YtaoibakbnimnkaaMp
namespace Go.Proofs.Ytaoibakbnimnkaa
open Go.RowKit NetM

/-- What most returns for a valid network. -/
def MostP (w : World) (N s t : Nat) (A : List Arc) (e : Ending) (w' : World) : Prop := ∃ v, e = .returned (.int .i64 v) ∧ Opt N s t A v ∧ Add w w'
set_option maxRecDepth 100000 in
set_option maxHeartbeats 1000000 in
theorem most_any {w : World} {v : Value} {N s t : Nat} {A : List Arc} (h : NetA w v N s t A) (hv : VNet N s t A) : Calls Try.prog 18 #[v] w (MostP w N s t A) := by
  have CS : Hid (∀ W1, Add w W1 → Calls Try.prog 25 #[v] W1 (SolveP W1 N s t A)) := Lib.hid fun W1 ha => refSolve_any (h.add ha) hv
  obtain ⟨va, rfl, ⟨a, m, c, rfl, -⟩⟩ := h
  have T1 := add_new w (.cells #[.int .i64 N, .int .i64 s, .int .i64 t, .slice a m c] 24)
  clear hv
  go_enter Try.func18, Try.ntmps18
  go_wp2_with fail
  refine (CS.out _ T1).mono ?_
  intro e w1 hs
  obtain ⟨vf, x, vc, rfl, ho, h5⟩ := hs.opt
  have HE : Hid (MostP w N s t A (.returned (.int .i64 x)) w1) := Lib.hid ⟨x, rfl, ho, Add.trans T1 h5⟩
  clear hs h5 T1 ho
  go_wp2_with fail
  go_ret
  exact HE.out
/-- What solved returns where there is a flow. -/
def SolvedC (w : World) (N s t : Nat) (A : List Arc) (am : Int) (e : Ending) (w' : World) : Prop := ∃ c, e = .returned (.tuple #[.int .i64 c, .bool true]) ∧ MinC N s t A am c ∧ Add w w'
set_option maxRecDepth 100000 in
set_option maxHeartbeats 1000000 in
theorem solvedC_any {w : World} {v : Value} {N s t : Nat} {A : List Arc} {am : Int} (h : NetA w v N s t A) (hv : CNet N s t A) (h0 : 0 ≤ am) (h1 : am ≤ 9223372036854775807) (hfe : ∀ x, Opt N s t A x → am ≤ x) :
    Calls Try.prog 19 #[v, .int .i64 am] w (SolvedC w N s t A am) := by
  have CS : Hid (∀ W1, Add w W1 → Calls Try.prog 17 #[v, .int .i64 am] W1 (SolvePC W1 N s t A am)) := Lib.hid fun W1 ha => progSolveC_any (h.add ha) hv h0 h1
  have CV : Hid (∀ W1 vf F, Add w W1 → RdI W1 vf F → Calls Try.prog 12 #[v, vf] W1 (CostP W1 N s t A F)) := Lib.hid fun W1 vf F ha hf => refCost_any (h.add ha) hv hf
  have CC : Hid (∀ W1 vf vq F Q, Add w W1 → RdI W1 vf F → RdI W1 vq Q → Calls Try.prog 16 #[v, .int .i64 am, vf, vq] W1 (CertP W1 N s t A am F Q)) := Lib.hid fun W1 vf vq F Q ha hf hq => refCert_any (h.add ha) hv hf hq
  have HFE := Lib.hid hfe
  obtain ⟨va, rfl, ⟨a, m, c, rfl, -⟩⟩ := h
  have B1 := Lib.hid (nbox_new w N s t a m c)
  have T1 := add_new w (.cells #[.int .i64 N, .int .i64 s, .int .i64 t, .slice a m c] 24)
  clear hv hfe
  go_enter Try.func19, Try.ntmps19
  go_wp2_with fail
  refine (CS.out _ T1).mono ?_
  rintro e w1 (⟨vf, x, vq, F, Q, rfl, hf, hq, hce, hco, h5⟩ | ⟨aa, ka, ab, kb, rfl, ⟨x, ho, hx⟩, h5⟩)
  · obtain ⟨fa, fc, rfl, -⟩ := hf.open
    obtain ⟨qa, qc, rfl, -⟩ := hq.open
    have hB := B1.out.add h5
    have c0 := hB.c0
    have c1 := hB.c1
    have c2 := hB.c2
    have c3 := hB.c3
    have hT := Add.trans T1 h5
    have HF := Lib.hid hf
    have HQ := Lib.hid hq
    have HCE := Lib.hid hce
    have HCO := Lib.hid hco
    have HB := Lib.hid hB
    clear hf hq hce hco h5 T1 B1 hB
    go_wp2_with fail
    refine (CV.out _ _ _ hT HF.out).mono ?_
    rintro e w2 ⟨y, b1, rfl, h2, y1, n1⟩
    have hb1 : b1 = true := by
      cases b1 with
      | true => rfl
      | false => exact absurd HCE.out.1 (n1 rfl).1
    subst hb1
    have hyx : y = x := by rw [(y1 rfl).2, HCO.out]
    subst hyx
    have d1 : (y == y) = true := by simp
    have hT2 := Add.trans hT h2
    have hB2 := HB.out.add h2
    have HF2 := Lib.hid (Rd.add HF.out h2)
    have HQ2 := Lib.hid (Rd.add HQ.out h2)
    clear c0 c1 c2 c3 y1 n1 h2 hT
    have c0 := hB2.c0
    have c1 := hB2.c1
    have c2 := hB2.c2
    have c3 := hB2.c3
    clear hB2
    go_wp2_with fail
    refine (CC.out _ _ _ _ _ hT2 HF2.out HQ2.out).mono ?_
    rintro e w3 ⟨b2, rfl, h3, hiff⟩
    have hb2 : b2 = true := hiff.2 HCE.out
    subst hb2
    have HE : Hid (SolvedC w N s t A am (.returned (.tuple #[.int .i64 y, .bool true])) w3) := Lib.hid ⟨y, rfl, by rw [HCO.out]; exact HCE.out.min, Add.trans hT2 h3⟩
    clear h3 hiff hT2 c0 c1 c2 c3
    go_wp2_with fail
    go_ret2
    exact HE.out
  · have := HFE.out x ho
    omega
set_option maxRecDepth 100000 in
set_option maxHeartbeats 1000000 in
theorem heavyC_any (b : Bool) {w : World} {v : Value} {N s t : Int} {A : List Arc} (h : NetA w v N s t A) (hb : (decide (40 < A.length) || (decide (40 < N) && decide (N ≤ 700))) = b) : Calls Try.prog 9 #[v] w (RetB w b) := by
  obtain ⟨va, rfl, ⟨a, m, c, rfl, hl, hc, hm, -⟩⟩ := h
  unfold maxLen at hm
  rw [hl] at hb
  have T1 := Lib.hid (add_new w (.cells #[.int .i64 N, .int .i64 s, .int .i64 t, .slice a m c] 24))
  clear hl
  by_cases h1 : 40 < m
  · rw [decide_eq_true h1, Bool.true_or] at hb
    subst hb
    have e1 : decide ((40 : Int) < (m : Int)) = true := decide_eq_true (by omega)
    go_enter Try.func9, Try.ntmps9
    go_wp2
    go_ret
    exact ⟨rfl, T1.out⟩
  · rw [decide_eq_false h1, Bool.false_or] at hb
    have e1 : decide ((40 : Int) < (m : Int)) = false := decide_eq_false (by omega)
    have e1' : decide (40 < m) = false := decide_eq_false h1
    by_cases h2 : 40 < N
    · rw [decide_eq_true h2, Bool.true_and] at hb
      by_cases h3 : N ≤ 700
      · rw [decide_eq_true h3] at hb
        subst hb
        have e2 : decide (40 < N) = true := decide_eq_true h2
        have e3 : decide (N ≤ 700) = true := decide_eq_true h3
        go_enter Try.func9, Try.ntmps9
        go_wp2
        go_ret
        exact ⟨rfl, T1.out⟩
      · rw [decide_eq_false h3] at hb
        subst hb
        have e2 : decide (40 < N) = true := decide_eq_true h2
        have e3 : decide (N ≤ 700) = false := decide_eq_false h3
        clear h3
        go_enter Try.func9, Try.ntmps9
        go_wp2
        go_ret
        exact ⟨rfl, T1.out⟩
    · rw [decide_eq_false h2, Bool.false_and] at hb
      subst hb
      have e2 : decide (40 < N) = false := decide_eq_false h2
      clear h2
      go_enter Try.func9, Try.ntmps9
      go_wp2
      go_ret
      exact ⟨rfl, T1.out⟩
/-- The network of the sanity check. -/
def net1 : List Arc := [(0, 1, 1, 3), (0, 1, 1, 1)]
theorem net1_ok : CNet 2 0 1 net1 := by
  refine ⟨⟨?_, by decide, by decide, by decide, by decide, by decide, by decide⟩, ?_⟩
  · intro a ha
    simp only [net1, List.mem_cons, List.not_mem_nil, or_false] at ha
    rcases ha with rfl | rfl <;> (unfold okArc; decide)
  · intro a ha
    simp only [net1, List.mem_cons, List.not_mem_nil, or_false] at ha
    rcases ha with rfl | rfl <;> (unfold okCost; decide)
theorem net1_opt {v : Int} (h : Opt 2 0 1 net1 v) : v = 2 := by
  obtain ⟨f, S, -, hl, h1, h2, -, h4⟩ := h
  match S, hl with
  | [s0, s1], _ =>
    have e0 : s0 = true := by simpa [cutOf, getB] using h1
    have e1 : s1 = false := by simpa [cutOf, getB] using h2
    subst e0 e1
    simp [capF, net1, cutOf, getB] at h4
    omega
theorem net1_flow {F : List Int} {v : Int} (h : isFlow 2 0 1 net1 F) (hv : net (0 : Nat) net1 F = v) : ∃ f0 f1, F = [f0, f1] ∧ 0 ≤ f0 ∧ f0 ≤ 1 ∧ 0 ≤ f1 ∧ f1 ≤ 1 ∧ f0 + f1 = v := by
  have hl := NetM.within_length h.1
  match F, hl with
  | [f0, f1], _ =>
    obtain ⟨⟨⟨w1, w2⟩, ⟨w3, w4⟩, -⟩, -⟩ := h
    simp [net, net1] at hv w2 w4
    exact ⟨f0, f1, rfl, w1, w2, w3, w4, hv⟩
theorem net1_cost (f0 f1 : Int) : costF net1 [f0, f1] = f0 * 3 + f1 := by simp [costF, net1]
theorem net1_one {F Q : List Int} (h : certOk 2 0 1 net1 1 F Q) : costF net1 F = 1 ∧ F = [0, 1] ∧ Q.length = 2 := by
  obtain ⟨f0, f1, rfl, h1, h2, h3, h4, h5⟩ := net1_flow h.1 h.2.1
  have hle := h.min.le (by decide) (by decide) (by decide) net1_ok.1.1 (g := [0, 1]) ?_ ?_
  · rw [net1_cost, net1_cost] at hle
    have e0 : f0 = 0 := by omega
    have e1 : f1 = 1 := by omega
    subst e0 e1
    exact ⟨by rw [net1_cost]; rfl, rfl, h.2.2.1⟩
  · refine ⟨⟨⟨by decide, by decide⟩, ⟨by decide, by decide⟩, trivial⟩, fun x hx h1 h2 => by omega⟩
  · decide
theorem net1_two {F Q : List Int} (h : certOk 2 0 1 net1 2 F Q) : costF net1 F = 4 := by
  obtain ⟨f0, f1, rfl, h1, h2, h3, h4, h5⟩ := net1_flow h.1 h.2.1
  rw [net1_cost]; omega
theorem net1_three {F Q : List Int} (h : certOk 2 0 1 net1 3 F Q) : False := by
  obtain ⟨f0, f1, rfl, h1, h2, h3, h4, h5⟩ := net1_flow h.1 h.2.1
  omega
theorem arcs_block1 {w : World} {g : Nat} (h : w.heap[g]? = some (.cells #[.int .i64 0, .int .i64 1, .int .i64 1, .int .i64 3, .int .i64 0, .int .i64 1, .int .i64 1, .int .i64 1] 35 (0, 0))) : ArcsA w (.slice (some ⟨g, 0, none⟩) 2 2) net1 := by
  refine ⟨_, 2, 2, rfl, rfl, Nat.le_refl _, by unfold maxLen; omega, fun i hi => ⟨g, 0, rfl, ?_⟩⟩
  have k := fun j => cell_of_row w g j _ 35 (0, 0) h
  have e : i = 0 ∨ i = 1 := by omega
  rcases e with rfl | rfl
  · exact ⟨(k 0).trans rfl, (k 1).trans rfl, (k 2).trans rfl, (k 3).trans rfl⟩
  · exact ⟨(k 4).trans rfl, (k 5).trans rfl, (k 6).trans rfl, (k 7).trans rfl⟩
set_option maxRecDepth 100000 in
set_option maxHeartbeats 2000000 in
theorem awakeC_any (w : World) : Calls Try.prog 10 #[] w (LawB w) := by
  obtain ⟨g, hg⟩ : ∃ g, g = w.heap.size := ⟨_, rfl⟩
  obtain ⟨W0, hW0⟩ : ∃ W0, W0 = w.alloc (.cells #[.int .i64 0, .int .i64 1, .int .i64 1, .int .i64 3, .int .i64 0, .int .i64 1, .int .i64 1, .int .i64 1] 35) := ⟨_, rfl⟩
  have hA0 : ArcsA W0 (.slice (some ⟨g, 0, none⟩) 2 2) net1 := arcs_block1 (by rw [hW0, hg]; exact heap_alloc_new w _)
  have CS : Hid (∀ W1 am, Add W0 W1 → 0 ≤ am → am ≤ 9223372036854775807 → Calls Try.prog 17 #[.agg #[.int .i64 2, .int .i64 0, .int .i64 1, .slice (some ⟨g, 0, none⟩) 2 2], .int .i64 am] W1 (SolvePC W1 2 0 1 net1 am)) := Lib.hid fun W1 am ha h0 h1 => progSolveC_any ⟨_, rfl, hA0.add ha⟩ net1_ok h0 h1
  have T0 : Hid (Add w W0) := Lib.hid (by rw [hW0]; exact add_new _ _)
  have HG : Hid (W0.heap.size = g + 1) := Lib.hid (by rw [hW0, hg]; simp)
  clear hA0
  go_enter Try.func10, Try.ntmps10
  go_upto_region 2 with fail
  rw [← hW0, ← hg]
  clear hW0 hg
  obtain ⟨W1, hW1⟩ : ∃ W1, W1 = W0.alloc (.cells #[.int .i64 2, .int .i64 0, .int .i64 1, .slice (some ⟨g, 0, none⟩) 2 2] 24) := ⟨_, rfl⟩
  have hB : NBox W1 (g + 1) 2 0 1 (some ⟨g, 0, none⟩) 2 2 := by rw [hW1, ← HG.out]; exact nbox_new W0 2 0 1 _ 2 2
  have hT1 : Add W0 W1 := by rw [hW1]; exact add_new _ _
  rw [← hW1]
  have c0 := hB.c0
  have c1 := hB.c1
  have c2 := hB.c2
  have c3 := hB.c3
  have HB := Lib.hid hB
  clear hW1 hB
  go_wp2_with fail
  refine (CS.out _ 1 hT1 (by decide) (by decide)).mono ?_
  rintro e w1 (⟨vf, x, vq, F, Q, rfl, hf, hq, hce, hco, h5⟩ | ⟨aa, ka, ab, kb, rfl, ⟨x, ho, hx⟩, h5⟩)
  · obtain ⟨n1, rfl, n3⟩ := net1_one hce
    rw [n1] at hco
    subst hco
    obtain ⟨fa, fc, rfl, -⟩ := hf.open
    obtain ⟨qa, qc, rfl, -⟩ := hq.open
    rw [n3] at hq ⊢
    have hT2 := Add.trans hT1 h5
    have hB2 := HB.out.add h5
    have HF := Lib.hid hf
    clear hf hq hce n1 n3 h5 hT1 c0 c1 c2 c3 HB
    have c0 := hB2.c0
    have c1 := hB2.c1
    have c2 := hB2.c2
    have c3 := hB2.c3
    have HB := Lib.hid hB2
    clear hB2
    go_wp2_with fail
    refine (CS.out _ 2 hT2 (by decide) (by decide)).mono ?_
    rintro e w2 (⟨vf2, x2, vq2, F2, Q2, rfl, hf2, hq2, hce2, hco2, h6⟩ | ⟨aa, ka, ab, kb, rfl, ⟨x, ho, hx⟩, h6⟩)
    · have n1 := net1_two hce2
      rw [n1] at hco2
      subst hco2
      obtain ⟨fa2, fc2, rfl, -⟩ := hf2.open
      obtain ⟨qa2, qc2, rfl, -⟩ := hq2.open
      have hT3 := Add.trans hT2 h6
      have hB3 := HB.out.add h6
      have HF2 := Lib.hid (Rd.add HF.out h6)
      clear hf2 hq2 hce2 n1 h6 hT2 c0 c1 c2 c3 HB
      have c0 := hB3.c0
      have c1 := hB3.c1
      have c2 := hB3.c2
      have c3 := hB3.c3
      clear hB3
      go_wp2_with fail
      refine (CS.out _ 3 hT3 (by decide) (by decide)).mono ?_
      rintro e w3 (⟨vf3, x3, vq3, F3, Q3, rfl, -, -, hce3, -, -⟩ | ⟨aa, ka, ab, kb, rfl, -, h7⟩)
      · exact absurd hce3 net1_three
      · obtain ⟨fb, foff, rfl, q1⟩ := RdI.cell (Rd.add HF2.out h7) (k := 1) (by decide)
        have q2 : w3.cell? ⟨fb, foff + 1, none⟩ = some (.int .i64 1) := q1
        have HE : Hid (LawB w (.returned (.bool true)) w3) := Lib.hid ⟨rfl, Add.trans T0.out (Add.trans hT3 h7)⟩
        clear q1 h7 hT3 c0 c1 c2 c3
        go_wp2_with fail
        go_ret
        exact HE.out
    · have := net1_opt ho
      omega
  · have := net1_opt ho
    omega
end Go.Proofs.Ytaoibakbnimnkaa
