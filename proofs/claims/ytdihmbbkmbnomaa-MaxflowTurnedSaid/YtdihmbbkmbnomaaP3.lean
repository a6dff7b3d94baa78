/- Package maxflow: Valid, whole. -/
import Derived.Test.YtdihmbbkmbnomaaP2
import Derived.Deep.Cut
import Derived.Laws.EntriesVeiled
namespace Go.Proofs.Ytdihmbbkmbnomaa
open Go.RowKit NetM

theorem headB_split {N s t : Int} {m : Nat} : headB N s t m = (decide (N ≤ 700) && decide (m ≤ 2500) && inB N s && inB N t && decide (s ≠ t)) := by
  unfold headB inB
  rw [Bool.eq_iff_iff]
  simp only [Bool.and_eq_true, decide_eq_true_eq]
  omega
/-- The worlds in which Valid's variables are laid. -/
def twoW (w : World) (N s t : Int) (a : Option Addr) (m c : Nat) : World := (w.alloc (.cells #[.int .i64 N, .int .i64 s, .int .i64 t, .slice a m c] 24)).alloc (.cells #[nodeF w.heap.size] 46)
theorem twoW_ok (w : World) (N s t : Int) (a : Option Addr) (m c : Nat) : NBox (twoW w N s t a m c) w.heap.size N s t a m c ∧ (twoW w N s t a m c).heap[w.heap.size + 1]? = some (.cells #[nodeF w.heap.size] 46 (0, 0)) ∧ Add w (twoW w N s t a m c) := by
  unfold twoW
  refine ⟨(nbox_new w N s t a m c).add (add_new _ _), ?_, Add.trans (add_new _ _) (add_new _ _)⟩
  have := heap_alloc_new (w.alloc (.cells #[.int .i64 N, .int .i64 s, .int .i64 t, .slice a m c] 24)) (.cells #[nodeF w.heap.size] 46)
  rwa [show (w.alloc (.cells #[.int .i64 N, .int .i64 s, .int .i64 t, .slice a m c] 24)).heap.size = w.heap.size + 1 by simp] at this
set_option maxRecDepth 100000 in
set_option maxHeartbeats 2000000 in
theorem progValid_any {w : World} {v : Value} {N s t : Int} {A : List Arc} (h : NetA w v N s t A) : Calls Try.prog 15 #[v] w (RetB w (validB N s t A)) := by
  have hmf : ∀ (fn : Fn) (first cap : Array Value) (w : World), (Instr.makeFunc fn first cap).run Try.prog w = .ok (.func fn first cap) w := fun _ _ _ _ => rfl
  obtain ⟨va, rfl, ha⟩ := h
  obtain ⟨a, m, c, rfl, hl, hc, hm, -⟩ := id ha
  obtain ⟨hB, hF, hT⟩ := twoW_ok w N s t a m c
  have CN := Lib.hid (fun i => isNode_any hB i)
  have CC := Lib.hid (fun b hb => containsArc_any (ha.add hT) hB hF b hb)
  have c0 := hB.c0
  have c1 := hB.c1
  have c2 := hB.c2
  have c3 := hB.c3
  have cf : (twoW w N s t a m c).cell? ⟨w.heap.size + 1, 0, none⟩ = some (nodeF w.heap.size) := (cell_of_row _ _ 0 _ _ _ hF).trans rfl
  have HT := Lib.hid hT
  have HL := Lib.hid hl
  have hsz : (twoW w N s t a m c).heap.size = w.heap.size + 2 := by simp [twoW]
  unfold maxLen at hm
  clear hB hF hT
  unfold validB
  rw [headB_split, hl]
  clear hl ha
  unfold nodeF at cf
  obtain ⟨W, hW⟩ : ∃ W, W = twoW w N s t a m c := ⟨_, rfl⟩
  have HW : Hid (W = twoW w N s t a m c) := Lib.hid hW
  rw [← hW] at CN CC c0 c1 c2 c3 cf HT hsz
  have HSZ := Lib.hid hsz
  clear hsz hW
  have HWW : Hid ((w.alloc (.cells #[.int .i64 N, .int .i64 s, .int .i64 t, .slice a m c] 24)).alloc (.cells #[Value.func (.func 24) #[] #[.pointer (some ⟨w.heap.size, 0, none⟩)]] 46) = W) := Lib.hid (by rw [HW.out]; rfl)
  have HNO : Hid (RetB w false (.returned (.bool false)) W) := Lib.hid ⟨rfl, HT.out⟩
  clear HW HT
  by_cases k1 : 700 < N
  · rw [decide_eq_false (p := N ≤ 700) (by omega)]
    go_enter Try.func15, Try.ntmps15
    go_upto_region 2 with fail
    rw [HWW.out]
    go_wp2_with fail
    go_ret
    exact HNO.out
  rw [decide_eq_true (p := N ≤ 700) (by omega)]
  by_cases k2 : 2500 < m
  · rw [decide_eq_false (p := m ≤ 2500) (by omega)]
    have k1' : N ≤ 700 := by omega
    clear k1
    go_enter Try.func15, Try.ntmps15
    go_upto_region 2 with fail
    rw [HWW.out]
    go_wp2_with fail
    go_ret
    exact HNO.out
  rw [decide_eq_true (p := m ≤ 2500) (by omega)]
  have k1' : N ≤ 700 := by omega
  have k2' : m ≤ 2500 := by omega
  clear k1 k2
  cases h1 : inB N s with
  | false =>
    have H1 := Lib.hid h1
    clear h1
    go_enter Try.func15, Try.ntmps15
    go_upto_region 2 with fail
    rw [HWW.out]
    go_wp2_with fail
    refine (CN.out s).mono ?_; rw [H1.out]; rintro e w' ⟨rfl, rfl⟩
    go_wp2_with fail
    go_ret
    exact HNO.out
  | true =>
    have H1 := Lib.hid h1
    clear h1
    cases h2 : inB N t with
    | false =>
      have H2 := Lib.hid h2
      clear h2
      go_enter Try.func15, Try.ntmps15
      go_upto_region 2 with fail
      rw [HWW.out]
      go_wp2_with fail
      refine (CN.out s).mono ?_; rw [H1.out]; rintro e w' ⟨rfl, rfl⟩
      go_wp2_with fail
      refine (CN.out t).mono ?_; rw [H2.out]; rintro e w' ⟨rfl, rfl⟩
      go_wp2_with fail
      go_ret
      exact HNO.out
    | true =>
      have H2 := Lib.hid h2
      clear h2
      by_cases h3 : s = t
      · subst h3
        rw [decide_eq_false (p := s ≠ s) (by simp)]
        go_enter Try.func15, Try.ntmps15
        go_upto_region 2 with fail
        rw [HWW.out]
        go_wp2_with fail
        refine (CN.out s).mono ?_; rw [H1.out]; rintro e w' ⟨rfl, rfl⟩
        go_wp2_with fail
        refine (CN.out s).mono ?_; rw [H2.out]; rintro e w' ⟨rfl, rfl⟩
        go_wp2_with fail
        go_ret
        exact HNO.out
      · have d3 : (s == t) = false := by simpa using h3
        rw [decide_eq_true (p := s ≠ t) h3]
        clear h3
        cases h4 : A.all (okB N) with
        | false =>
          have C4 := Lib.hid (CC.out true (by rw [h4]; rfl))
          unfold badF at C4
          clear h4 CC
          go_enter Try.func15, Try.ntmps15
          go_upto_region 2 with fail
          rw [HWW.out]
          go_wp2_with fail
          refine (CN.out s).mono ?_; rw [H1.out]; rintro e w' ⟨rfl, rfl⟩
          go_wp2_with fail
          refine (CN.out t).mono ?_; rw [H2.out]; rintro e w' ⟨rfl, rfl⟩
          go_wp2_with fail
          refine C4.out.mono ?_; rintro e w' ⟨rfl, hb⟩
          have HE := Lib.hid (Add.trans HNO.out.2 hb)
          clear hb
          go_wp2_with fail
          go_ret
          exact ⟨rfl, HE.out⟩
        | true =>
          have C4 := Lib.hid (CC.out false (by rw [h4]; rfl))
          unfold badF at C4
          clear h4 CC
          go_enter Try.func15, Try.ntmps15
          go_upto_region 2 with fail
          rw [HWW.out]
          go_wp2_with fail
          refine (CN.out s).mono ?_; rw [H1.out]; rintro e w' ⟨rfl, rfl⟩
          go_wp2_with fail
          refine (CN.out t).mono ?_; rw [H2.out]; rintro e w' ⟨rfl, rfl⟩
          go_wp2_with fail
          refine C4.out.mono ?_; rintro e w' ⟨rfl, hb⟩
          have HE := Lib.hid (Add.trans HNO.out.2 hb)
          clear hb
          go_wp2_with fail
          go_ret
          exact ⟨rfl, HE.out⟩
end Go.Proofs.Ytdihmbbkmbnomaa
