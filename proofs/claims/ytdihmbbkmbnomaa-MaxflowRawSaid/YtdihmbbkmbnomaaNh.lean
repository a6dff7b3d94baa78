/- The laws of layer 12: their helper heavy. -/
import Derived.Test.YtdihmbbkmbnomaaN10
namespace Go.Proofs.Ytdihmbbkmbnomaa
open Go.RowKit NetM

set_option maxRecDepth 100000 in
set_option maxHeartbeats 1000000 in
theorem heavy_any (b : Bool) {w : World} {v : Value} {N s t : Int} {A : List Arc} (h : NetA w v N s t A) (hb : (decide (60 < A.length) || (decide (60 < N) && decide (N ≤ 700))) = b) : Calls Try.prog 9 #[v] w (RetB w b) := by
  obtain ⟨va, rfl, ⟨a, m, c, rfl, hl, hc, hm, -⟩⟩ := h
  unfold maxLen at hm
  rw [hl] at hb
  have T1 := Lib.hid (add_new w (.cells #[.int .i64 N, .int .i64 s, .int .i64 t, .slice a m c] 24))
  clear hl
  by_cases h1 : 60 < m
  · rw [decide_eq_true h1, Bool.true_or] at hb
    subst hb
    have e1 : decide ((60 : Int) < (m : Int)) = true := decide_eq_true (by omega)
    go_enter Try.func9, Try.ntmps9
    go_wp2
    go_ret
    exact ⟨rfl, T1.out⟩
  · rw [decide_eq_false h1, Bool.false_or] at hb
    have e1 : decide ((60 : Int) < (m : Int)) = false := decide_eq_false (by omega)
    have e1' : decide (60 < m) = false := decide_eq_false h1
    by_cases h2 : 60 < N
    · rw [decide_eq_true h2, Bool.true_and] at hb
      by_cases h3 : N ≤ 700
      · rw [decide_eq_true h3] at hb
        subst hb
        have e2 : decide (60 < N) = true := decide_eq_true h2
        have e3 : decide (N ≤ 700) = true := decide_eq_true h3
        go_enter Try.func9, Try.ntmps9
        go_wp2
        go_ret
        exact ⟨rfl, T1.out⟩
      · rw [decide_eq_false h3] at hb
        subst hb
        have e2 : decide (60 < N) = true := decide_eq_true h2
        have e3 : decide (N ≤ 700) = false := decide_eq_false h3
        clear h3
        go_enter Try.func9, Try.ntmps9
        go_wp2
        go_ret
        exact ⟨rfl, T1.out⟩
    · rw [decide_eq_false h2, Bool.false_and] at hb
      subst hb
      have e2 : decide (60 < N) = false := decide_eq_false h2
      clear h2
      go_enter Try.func9, Try.ntmps9
      go_wp2
      go_ret
      exact ⟨rfl, T1.out⟩
end Go.Proofs.Ytdihmbbkmbnomaa
