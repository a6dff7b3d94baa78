/- The law MaxflowRaw. -/
import Derived.Test.YtdihmbbkmbnomaaNh
namespace Go.Proofs.Ytdihmbbkmbnomaa
open Go.RowKit NetM

theorem refValid_all {w : World} {v : Value} {N s t : Int} {A : List Arc} (h : NetA w v N s t A) : Calls Try.prog 16 #[v] w (RetB w (validB N s t A)) := by
  cases hv : validB N s t A with
  | false => exact refValid_not h hv
  | true =>
    obtain ⟨N', s', t', rfl, rfl, rfl, h2⟩ := VNet.of hv
    exact refValid_yes h h2
set_option maxRecDepth 100000 in
set_option maxHeartbeats 1000000 in
theorem raw_any {w : World} {v : Value} {N s t : Int} {A : List Arc} (h : NetA w v N s t A) : Calls Try.prog 4 #[v] w (LawB w) := by
  have CA : Hid (∀ W, Calls Try.prog 10 #[] W (LawB W)) := Lib.hid awake_any
  obtain ⟨hv, ehv⟩ : ∃ b, (decide (60 < A.length) || (decide (60 < N) && decide (N ≤ 700))) = b := ⟨_, rfl⟩
  have CH : Hid (∀ W1, Add w W1 → Calls Try.prog 9 #[v] W1 (RetB W1 hv)) := Lib.hid fun W1 hh => heavy_any hv (h.add hh) ehv
  obtain ⟨vb, evb⟩ : ∃ b, validB N s t A = b := ⟨_, rfl⟩
  have CV : Hid (∀ W1, Add w W1 → Calls Try.prog 16 #[v] W1 (RetB W1 vb)) := Lib.hid fun W1 hh => by rw [← evb]; exact refValid_all (h.add hh)
  have HN := Lib.hid h
  obtain ⟨va, rfl, ⟨a, m, c, rfl, -⟩⟩ := h
  have B1 := Lib.hid (nbox_new w N s t a m c)
  have T1 := add_new w (.cells #[.int .i64 N, .int .i64 s, .int .i64 t, .slice a m c] 24)
  have HEV := Lib.hid evb
  clear ehv evb
  go_enter Try.func4, Try.ntmps4
  go_wp2_with fail
  refine (CH.out _ T1).mono ?_
  rintro e w1 ⟨rfl, h1⟩
  have hT1 := Add.trans T1 h1
  have hB1 := B1.out.add h1
  have c0 := hB1.c0
  have c1 := hB1.c1
  have c2 := hB1.c2
  have c3 := hB1.c3
  have HB1 := Lib.hid hB1
  clear h1 T1 B1 hB1
  cases hv with
  | true =>
    have HT := Lib.hid hT1
    clear hT1 c0 c1 c2 c3
    go_wp2_with fail
    refine (CA.out _).mono ?_
    rintro e w5 ⟨rfl, h5⟩
    have HE : Hid (LawB w (.returned (.bool true)) w5) := Lib.hid ⟨rfl, Add.trans HT.out h5⟩
    clear h5
    go_wp2_with fail
    go_ret
    exact HE.out
  | false =>
    go_wp2_with fail
    refine (CV.out _ hT1).mono ?_
    rintro e w2 ⟨rfl, h2⟩
    have hT2 := Add.trans hT1 h2
    have hB2 := HB1.out.add h2
    clear h2 hT1 c0 c1 c2 c3
    have c0 := hB2.c0
    have c1 := hB2.c1
    have c2 := hB2.c2
    have c3 := hB2.c3
    clear hB2
    cases vb with
    | false =>
      have CS : Hid (∀ W1, Add w W1 → Calls Try.prog 19 #[.agg #[.int .i64 N, .int .i64 s, .int .i64 t, .slice a m c]] W1 (SolveN W1)) := Lib.hid fun W1 hh => progSolve_inv (HN.out.add hh) HEV.out
      go_wp2_with fail
      refine (CS.out _ hT2).mono ?_
      rintro e w3 ⟨a3, c3', a4, c4, rfl, h3⟩
      have HT3 := Lib.hid (Add.trans hT2 h3)
      clear h3 hT2 c0 c1 c2 c3
      go_wp2_with fail
      refine (CA.out _).mono ?_
      rintro e w5 ⟨rfl, h5⟩
      have HE : Hid (LawB w (.returned (.bool true)) w5) := Lib.hid ⟨rfl, Add.trans HT3.out h5⟩
      clear h5
      go_wp2_with fail
      go_ret
      exact HE.out
    | true =>
      obtain ⟨N', s', t', rfl, rfl, rfl, hok⟩ := VNet.of HEV.out
      have CS : Hid (∀ W1, Add w W1 → Calls Try.prog 20 #[.agg #[.int .i64 (N' : Nat), .int .i64 (s' : Nat), .int .i64 (t' : Nat), .slice a m c]] W1 (SolvedP W1 N' s' t' A)) := Lib.hid fun W1 hh => solved_any (HN.out.add hh) hok
      clear hok
      go_wp2_with fail
      refine (CS.out _ hT2).mono ?_
      rintro e w3 ⟨x, rfl, -, h3⟩
      have HT3 := Lib.hid (Add.trans hT2 h3)
      clear h3 hT2 c0 c1 c2 c3
      go_wp2_with fail
      refine (CA.out _).mono ?_
      rintro e w5 ⟨rfl, h5⟩
      have HE : Hid (LawB w (.returned (.bool true)) w5) := Lib.hid ⟨rfl, Add.trans HT3.out h5⟩
      clear h5
      go_wp2_with fail
      go_ret
      exact HE.out
end Go.Proofs.Ytdihmbbkmbnomaa
