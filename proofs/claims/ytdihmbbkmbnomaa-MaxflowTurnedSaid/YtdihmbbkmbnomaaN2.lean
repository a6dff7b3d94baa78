/- The reference of layer 12: Valid. -/
import Derived.Test.YtdihmbbkmbnomaaN1
import Derived.LoopTactic
import Derived.Deep.QuietTactic
import Derived.BigQuiet
namespace Go.Proofs.Ytdihmbbkmbnomaa
open Go.RowKit NetM

/-- A bool is returned; new blocks are laid at most. -/
def RetB (w : World) (b : Bool) (e : Ending) (w' : World) : Prop := e = .returned (.bool b) ∧ Add w w'
def okB (N : Int) (a : Arc) : Bool := decide (0 ≤ a.1 ∧ a.1 < N ∧ 0 ≤ a.2.1 ∧ a.2.1 < N ∧ 0 ≤ a.2.2.1 ∧ a.2.2.1 ≤ 2147483647)
def headB (N s t : Int) (m : Nat) : Bool := decide (2 ≤ N ∧ N ≤ 700 ∧ m ≤ 2500 ∧ 0 ≤ s ∧ s < N ∧ 0 ≤ t ∧ t < N ∧ s ≠ t)
def validB (N s t : Int) (A : List Arc) : Bool := headB N s t A.length && A.all (okB N)

theorem headB_cases {N s t : Int} {m : Nat} (h : headB N s t m = false) : N < 2 ∨ (2 ≤ N ∧ 700 < N) ∨ (2 ≤ N ∧ N ≤ 700 ∧ 2500 < m) ∨ (2 ≤ N ∧ N ≤ 700 ∧ m ≤ 2500 ∧ s < 0) ∨ (2 ≤ N ∧ N ≤ 700 ∧ m ≤ 2500 ∧ 0 ≤ s ∧ N ≤ s) ∨
    (2 ≤ N ∧ N ≤ 700 ∧ m ≤ 2500 ∧ 0 ≤ s ∧ s < N ∧ t < 0) ∨ (2 ≤ N ∧ N ≤ 700 ∧ m ≤ 2500 ∧ 0 ≤ s ∧ s < N ∧ 0 ≤ t ∧ N ≤ t) ∨ (2 ≤ N ∧ N ≤ 700 ∧ m ≤ 2500 ∧ 0 ≤ s ∧ s < N ∧ 0 ≤ t ∧ t < N ∧ s = t) := by
  have := of_decide_eq_false h
  omega
theorem okB_cases {N x y z u : Int} (h : okB N (x, y, z, u) = false) : x < 0 ∨ (0 ≤ x ∧ N ≤ x) ∨ (0 ≤ x ∧ x < N ∧ y < 0) ∨ (0 ≤ x ∧ x < N ∧ 0 ≤ y ∧ N ≤ y) ∨ (0 ≤ x ∧ x < N ∧ 0 ≤ y ∧ y < N ∧ z < 0) ∨ (0 ≤ x ∧ x < N ∧ 0 ≤ y ∧ y < N ∧ 0 ≤ z ∧ 2147483647 < z) := by
  have := of_decide_eq_false h
  dsimp only at this
  omega
theorem at_take {A : List Arc} {k : Nat} (h : k < A.length) : A.take (k + 1) = A.take k ++ [at' A k] := by
  rw [List.take_add_one]; simp [at', List.getD, h]
theorem at_mem {A : List Arc} {k : Nat} (h : k < A.length) : at' A k ∈ A := by unfold at'; simp [List.getD, h]

set_option maxRecDepth 100000 in
set_option maxHeartbeats 1000000 in
theorem refValid_no {w : World} {v : Value} {N s t : Int} {A : List Arc} (h : NetA w v N s t A) (hh : Hid (headB N s t A.length = false)) :
    Calls Try.prog 16 #[v] w (RetB w false) := by
  obtain ⟨va, rfl, ⟨a, m, c, rfl, hl, hc, hm, hcell⟩⟩ := h
  have h1 := headB_cases hh.out
  rw [hl] at h1
  clear hl hcell hh
  unfold maxLen at hm
  rcases h1 with h1 | ⟨h1, h2⟩ | ⟨h1, h2, h3⟩ | ⟨h1, h2, h3, h4⟩ | ⟨h1, h2, h3, h4, h5⟩ | ⟨h1, h2, h3, h4, h5, h6⟩ | ⟨h1, h2, h3, h4, h5, h6, h7⟩ | ⟨h1, h2, h3, h4, h5, h6, h7, rfl⟩
  all_goals
    go_enter Try.func16, Try.ntmps16
    go_wp2
    go_ret
    exact ⟨rfl, add_new _ _⟩
set_option maxRecDepth 100000 in
set_option maxHeartbeats 1000000 in
theorem refValid_head {w : World} {v : Value} {N s t : Int} {A : List Arc} (h : NetA w v N s t A) (hh : Hid (headB N s t A.length = true)) :
    Calls Try.prog 16 #[v] w (RetB w (A.all (okB N))) := by
  obtain ⟨va, rfl, ⟨a, m, c, rfl, hl, hc, hm, hcell⟩⟩ := h
  obtain ⟨k1, k2, k3, k4, k5, k6, k7, k8⟩ := of_decide_eq_true hh.out
  have HL := Lib.hid hl
  have HC := Lib.hid hcell
  rw [hl] at k3
  have d8 : (s == t) = false := by simpa using k8
  clear hl hcell hm hh k8
  obtain ⟨W0, hW0⟩ : ∃ W0, W0 = w.alloc (.cells #[.int .i64 N, .int .i64 s, .int .i64 t, .slice a m c] 24) := ⟨_, rfl⟩
  have HW0 : Hid (Add w W0 ∧ W0.heap[w.heap.size]? = some (.cells #[.int .i64 N, .int .i64 s, .int .i64 t, .slice a m c] 24 (0, 0))) := Lib.hid (by rw [hW0]; exact ⟨add_new _ _, heap_alloc_new _ _⟩)
  go_enter Try.func16, Try.ntmps16
  go_wp2
  rw [← hW0]
  clear hW0
  go_loopw [3] (fun i wr => ∃ k : Nat, k ≤ m ∧ i = .int .i64 k ∧ Hid ((A.take k).all (okB N) = true) ∧ Add W0 wr) (fun i _ => m - (intOf i).toNat)
  case atStart => exact ⟨0, Nat.zero_le _, rfl, Lib.hid (by simp), Below.refl _ _⟩
  case round =>
    obtain ⟨k, hk, rfl, hpre, hadd⟩ := hrel
    have hbox : wr.heap[w.heap.size]? = some (.cells #[.int .i64 N, .int .i64 s, .int .i64 t, .slice a m c] 24 (0, 0)) := (hadd.block _ (Array.getElem?_eq_some_iff.1 HW0.out.2).1).trans HW0.out.2
    have b0 : wr.cell? ⟨w.heap.size, 0, none⟩ = some (.int .i64 N) := (cell_of_row wr w.heap.size 0 _ _ _ hbox).trans rfl
    have b3 : wr.cell? ⟨w.heap.size, 3, none⟩ = some (.slice a m c) := (cell_of_row wr w.heap.size 3 _ _ _ hbox).trans rfl
    have hsz : w.heap.size < wr.heap.size := (Array.getElem?_eq_some_iff.1 hbox).1
    have hT := Add.trans HW0.out.1 hadd
    clear hbox
    by_cases hlt : k < m
    · obtain ⟨b, off, rfl, q0, q1, q2, q3⟩ := HC.out k hlt
      have kk := fun (p : Addr) (u : Value) (q : w.cell? p = some u) => (hT.cell (p := p) (World.block_lt_of_cell? w _ q)).trans q
      replace q0 := kk _ _ q0
      replace q1 := kk _ _ q1
      replace q2 := kk _ _ q2
      replace q3 := kk _ _ q3
      have hm1 := at_mem (A := A) (k := k) (by rw [HL.out]; exact hlt)
      have ht1 := at_take (A := A) (k := k) (by rw [HL.out]; exact hlt)
      obtain ⟨⟨x, y, z, u⟩, hx⟩ : ∃ x, at' A k = x := ⟨_, rfl⟩
      rw [hx] at q0 q1 q2 q3 hm1 ht1
      dsimp only at q0 q1 q2 q3
      have HM := Lib.hid hm1
      have HTK := Lib.hid ht1
      clear kk hx hm1 ht1
      have HT := Lib.hid hT
      clear hT
      cases hb : okB N (x, y, z, u) with
      | true =>
        obtain ⟨r1, r2, r3, r4, r5, r6⟩ := of_decide_eq_true hb
        dsimp only at r1 r2 r3 r4 r5 r6
        have HB := Lib.hid hb
        clear hb
        go_wp2
        go_roundw
        case rel => exact ⟨k + 1, by omega, by go_num, Lib.hid (by rw [HTK.out, List.all_append, hpre.out]; simp [HB.out]), hadd.alloc hadd.size _⟩
        case measure => simp [intOf]; omega
      | false =>
        have hF : RetB w (A.all (okB N)) (.returned (.bool false)) (wr.alloc (.cells #[.int .i64 x, .int .i64 y, .int .i64 z, .int .i64 u] 44)) := by
          refine ⟨?_, Add.trans HT.out (add_new _ _)⟩
          have : A.all (okB N) = false := by
            rw [Bool.eq_false_iff]
            intro h
            have := List.all_eq_true.1 h _ HM.out
            rw [hb] at this; cases this
          rw [this]
        have h1 := okB_cases hb
        have HF := Lib.hid hF
        clear hF hb
        rcases h1 with h1 | ⟨h1, h2⟩ | ⟨h1, h2, h3⟩ | ⟨h1, h2, h3, h4⟩ | ⟨h1, h2, h3, h4, h5⟩ | ⟨h1, h2, h3, h4, h5, h6⟩
        all_goals
          go_wp2
          go_ret
          exact HF.out
    · obtain rfl : k = m := by omega
      have hF : RetB w (A.all (okB N)) (.returned (.bool true)) wr := by
        refine ⟨?_, hT⟩
        have := hpre.out
        rw [List.take_of_length_le (by rw [HL.out]; exact Nat.le_refl _)] at this
        rw [this]
      have HF := Lib.hid hF
      clear hF hT hpre
      go_wp2
      go_ret
      exact HF.out
end Go.Proofs.Ytdihmbbkmbnomaa
