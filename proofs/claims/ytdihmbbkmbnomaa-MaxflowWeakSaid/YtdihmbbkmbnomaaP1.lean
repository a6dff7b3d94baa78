/- Package maxflow: Valid. -/
import Derived.Test.YtdihmbbkmbnomaaN4
import Derived.Deep.LoopGhost
namespace Go.Proofs.Ytdihmbbkmbnomaa
open Go.RowKit NetM

def inB (N i : Int) : Bool := decide (0 ≤ i ∧ i < N)
/-- The closure isNode over the variable n in block g. -/
def nodeF (g : Nat) : Value := .func (.func 24) #[] #[.pointer (some ⟨g, 0, none⟩)]
theorem isNode_any {w : World} {g : Nat} {N s t : Int} {a : Option Addr} {m c : Nat} (hB : NBox w g N s t a m c) (i : Int) :
    Calls Try.prog 24 #[.int .i64 i, .pointer (some ⟨g, 0, none⟩)] w fun e w' => e = .returned (.bool (inB N i)) ∧ w = w' := by
  have c0 := hB.c0
  by_cases h1 : 0 ≤ i
  · have d1 : decide (0 ≤ i) = true := decide_eq_true h1
    by_cases h2 : i < N
    · have e : inB N i = true := decide_eq_true ⟨h1, h2⟩
      have d2 : decide (i < N) = true := decide_eq_true h2
      rw [e]
      clear hB e
      go_enter Try.func24, Try.ntmps24
      go_wp2
      go_ret
      exact ⟨rfl, rfl⟩
    · have e : inB N i = false := decide_eq_false (fun h => h2 h.2)
      have d2 : decide (i < N) = false := decide_eq_false h2
      rw [e]
      clear hB e
      go_enter Try.func24, Try.ntmps24
      go_wp2
      go_ret
      exact ⟨rfl, rfl⟩
  · have e : inB N i = false := decide_eq_false (fun h => h1 h.1)
    have d1 : decide (0 ≤ i) = false := decide_eq_false h1
    rw [e]
    clear hB e
    go_enter Try.func24, Try.ntmps24
    go_wp2
    go_ret
    exact ⟨rfl, rfl⟩
theorem okB_in {N x y z u : Int} : okB N (x, y, z, u) = (inB N x && inB N y && decide (0 ≤ z) && decide (z ≤ 2147483647)) := by
  unfold okB inB
  rw [Bool.eq_iff_iff]
  simp only [Bool.and_eq_true, decide_eq_true_eq]
  omega
/-- The closure that finds fault with an arc. -/
def badF (g : Nat) : Value := .func (.func 26) #[] #[.pointer (some ⟨g, 0, none⟩)]
set_option maxRecDepth 100000 in
set_option maxHeartbeats 1000000 in
theorem badArc_any {w : World} {g g1 : Nat} {N s t : Int} {a : Option Addr} {m c : Nat} (hB : NBox w g N s t a m c) (hF : w.heap[g1]? = some (.cells #[nodeF g] 46 (0, 0))) (x y z u : Int) :
    Calls Try.prog 26 #[.agg #[.int .i64 x, .int .i64 y, .int .i64 z, .int .i64 u], .pointer (some ⟨g1, 0, none⟩)] w fun e w' => e = .returned (.bool (!okB N (x, y, z, u))) ∧ Add w w' := by
  have hA := add_new w (.cells #[.int .i64 x, .int .i64 y, .int .i64 z, .int .i64 u] 44)
  have hB1 := hB.add hA
  have hlt := (Array.getElem?_eq_some_iff.1 hF).1
  have hc : (w.alloc (.cells #[.int .i64 x, .int .i64 y, .int .i64 z, .int .i64 u] 44)).cell? ⟨g1, 0, none⟩ = some (nodeF g) := (World.cell?_of_block (a := ⟨g1, 0, none⟩) (heap_alloc_old w _ hlt)).trans ((cell_of_row w g1 0 _ _ _ hF).trans rfl)
  unfold nodeF at hc
  have CN := Lib.hid (fun i => isNode_any hB1 i)
  rw [okB_in]
  have HA := Lib.hid hA
  clear hA hB hB1 hF
  cases h1 : inB N x with
  | false =>
    have H1 := Lib.hid h1
    clear h1
    go_enter Try.func26, Try.ntmps26
    go_wp2_with (go_at_call 24; refine (CN.out x).mono ?_; rw [H1.out]; rintro e w' ⟨rfl, rfl⟩)
    go_ret
    exact ⟨rfl, HA.out⟩
  | true =>
    have H1 := Lib.hid h1
    clear h1
    cases h2 : inB N y with
    | false =>
      have H2 := Lib.hid h2
      clear h2
      go_enter Try.func26, Try.ntmps26
      go_wp2_with fail
      refine (CN.out x).mono ?_; rw [H1.out]; rintro e w' ⟨rfl, rfl⟩
      go_wp2_with fail
      refine (CN.out y).mono ?_; rw [H2.out]; rintro e w' ⟨rfl, rfl⟩
      go_wp2_with fail
      go_ret
      exact ⟨rfl, HA.out⟩
    | true =>
      have H2 := Lib.hid h2
      clear h2
      by_cases h3 : 0 ≤ z
      · by_cases h4 : z ≤ 2147483647
        · have d3 : decide (z < 0) = false := decide_eq_false (by omega)
          have d4 : decide (2147483647 < z) = false := decide_eq_false (by omega)
          rw [decide_eq_true h3, decide_eq_true h4]
          go_enter Try.func26, Try.ntmps26
          go_wp2_with fail
          refine (CN.out x).mono ?_; rw [H1.out]; rintro e w' ⟨rfl, rfl⟩
          go_wp2_with fail
          refine (CN.out y).mono ?_; rw [H2.out]; rintro e w' ⟨rfl, rfl⟩
          go_wp2_with fail
          go_ret
          exact ⟨rfl, HA.out⟩
        · have d3 : decide (z < 0) = false := decide_eq_false (by omega)
          have d4 : decide (2147483647 < z) = true := decide_eq_true (by omega)
          rw [decide_eq_true h3, decide_eq_false h4]
          go_enter Try.func26, Try.ntmps26
          go_wp2_with fail
          refine (CN.out x).mono ?_; rw [H1.out]; rintro e w' ⟨rfl, rfl⟩
          go_wp2_with fail
          refine (CN.out y).mono ?_; rw [H2.out]; rintro e w' ⟨rfl, rfl⟩
          go_wp2_with fail
          go_ret
          exact ⟨rfl, HA.out⟩
      · have d3 : decide (z < 0) = true := decide_eq_true (by omega)
        rw [decide_eq_false h3]
        go_enter Try.func26, Try.ntmps26
        go_wp2_with fail
        refine (CN.out x).mono ?_; rw [H1.out]; rintro e w' ⟨rfl, rfl⟩
        go_wp2_with fail
        refine (CN.out y).mono ?_; rw [H2.out]; rintro e w' ⟨rfl, rfl⟩
        go_wp2_with fail
        go_ret
        exact ⟨by simp, HA.out⟩
end Go.Proofs.Ytdihmbbkmbnomaa
