/- The law MaxflowSolves. -/
import Derived.Test.YtdihmbbkmbnomaaNh
import Derived.Test.YtdihmbbkmbnomaaNu
namespace Go.Proofs.Ytdihmbbkmbnomaa
open Go.RowKit NetM

/-- A network made of a tape: what a law knows of it. -/
def MadeP (w w' : World) (v : Value) (N s t : Nat) (A : List Arc) : Prop := NetA w' v N s t A ∧ Small N s t A ∧ Add w w'
theorem made_of {w w1 w2 : World} {g : Nat} {e : Ending} (h1 : Add w w1) (hg : w.heap.size ≤ g) (h : NetworkP w1 g e w2) : ∃ v N s t A, e = .returned v ∧ MadeP w w2 v N s t A := by
  obtain ⟨v, N, s, t, A, rfl, h2, h3, h4⟩ := h
  exact ⟨v, N, s, t, A, rfl, h2, h3, Below.grown h1 h4 h1.size (fun k e => by have := Option.some.inj e; omega)⟩
set_option maxRecDepth 100000 in
set_option maxHeartbeats 1000000 in
theorem solves_any {w : World} {v : Value} {bs : List Nat} (h : RdU w v bs) (hb : ∀ x ∈ bs, x < 256) : Calls Try.prog 5 #[v] w (LawB w) := by
  have CT := Lib.hid (new_any h hb)
  have CN : Hid (∀ W g, Tp W g → Calls Try.prog 22 #[.pointer (some ⟨g, 0, none⟩)] W (NetworkP W g)) := Lib.hid fun W g h => network_any h
  have CA : Hid (∀ W, Calls Try.prog 10 #[] W (LawB W)) := Lib.hid awake_any
  clear h hb
  go_enter Try.func5, Try.ntmps5
  go_wp2_with fail
  refine CT.out.mono ?_
  rintro e w1 ⟨g, rfl, ht, h1, hg⟩
  have HT := Lib.hid ht
  have H1 := Lib.hid h1
  have HG := Lib.hid hg
  clear ht h1 hg
  go_wp2_with fail
  refine (CN.out _ _ HT.out).mono ?_
  intro e w2 hnet
  obtain ⟨vn, N, s, t, A, rfl, hA, hsm, h2⟩ := made_of H1.out HG.out hnet
  obtain ⟨va, rfl, ha⟩ := id hA
  obtain ⟨a, m, c, rfl, -⟩ := id ha
  have CS : Hid (∀ W1, Add w2 W1 → Calls Try.prog 20 #[.agg #[.int .i64 (N : Nat), .int .i64 (s : Nat), .int .i64 (t : Nat), .slice a m c]] W1 (SolvedP W1 N s t A)) := Lib.hid fun W1 hh => solved_any (hA.add hh) hsm.1
  have CR : Hid (∀ W1, Add w2 W1 → Calls Try.prog 23 #[.agg #[.int .i64 (N : Nat), .int .i64 (s : Nat), .int .i64 (t : Nat), .slice a m c]] W1 (SolveP W1 N s t A)) := Lib.hid fun W1 hh => refSolve_any (hA.add hh) hsm.1
  have HSM := Lib.hid hsm
  have hB := nbox_new w2 N s t a m c
  have hT := add_new w2 (.cells #[.int .i64 (N : Nat), .int .i64 (s : Nat), .int .i64 (t : Nat), .slice a m c] 24)
  have HB := Lib.hid hB
  have H2 := Lib.hid h2
  clear hA ha hsm hnet h2 hB HT H1 HG CT CN
  go_wp2_with fail
  refine (CS.out _ hT).mono ?_
  rintro e w3 ⟨x, rfl, hopt, h3⟩
  have hT3 := Add.trans hT h3
  have hB3 := HB.out.add h3
  have c0 := hB3.c0
  have c1 := hB3.c1
  have c2 := hB3.c2
  have c3 := hB3.c3
  have HO := Lib.hid hopt
  clear h3 hT hB3 hopt
  go_wp2_with fail
  refine (CR.out _ hT3).mono ?_
  intro e w4 hsol
  obtain ⟨vf, y, vc, rfl, hopt2, h4⟩ := hsol.opt
  have hxy : x = y := HO.out.unique hopt2 HSM.out.1.2.1 HSM.out.1.1
  subst hxy
  have d1 : (x == x) = true := by simp
  have H4 := Lib.hid (Add.trans H2.out (Add.trans hT3 h4))
  clear hsol hopt2 h4 hT3 c0 c1 c2 c3
  go_wp2_with fail
  refine (CA.out _).mono ?_
  rintro e w5 ⟨rfl, h5⟩
  have HE : Hid (LawB w (.returned (.bool true)) w5) := Lib.hid ⟨rfl, Add.trans H4.out h5⟩
  clear h5
  go_wp2_with fail
  go_ret
  exact HE.out
end Go.Proofs.Ytdihmbbkmbnomaa
