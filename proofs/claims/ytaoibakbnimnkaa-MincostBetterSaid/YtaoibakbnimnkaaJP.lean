/- Package maxflow: Valid. | Package maxflow: Valid, whole. | Package maxflow: Valid, whole. -/
import Derived.Test.YtaoibakbnimnkaaJO
import Derived.Deep.LoopGhost
import Derived.Deep.Cut
import Derived.Laws.EntriesVeiled

namespace Go.Proofs.Ytaoibakbnimnkaa
open Go.RowKit NetM

def inB (N i : Int) : Bool := decide (0 ≤ i ∧ i < N)
/-- The closure isNode over the variable n in block g. -/
def nodeF (g : Nat) : Value := .func (.func 40) #[] #[.pointer (some ⟨g, 0, none⟩)]
theorem isNode_any {w : World} {g : Nat} {N s t : Int} {a : Option Addr} {m c : Nat} (hB : NBox w g N s t a m c) (i : Int) :
    Calls Try.prog 40 #[.int .i64 i, .pointer (some ⟨g, 0, none⟩)] w fun e w' => e = .returned (.bool (inB N i)) ∧ w = w' := by
  have c0 := hB.c0
  by_cases h1 : 0 ≤ i
  · have d1 : decide (0 ≤ i) = true := decide_eq_true h1
    by_cases h2 : i < N
    · have e : inB N i = true := decide_eq_true ⟨h1, h2⟩
      have d2 : decide (i < N) = true := decide_eq_true h2
      rw [e]
      clear hB e
      go_enter Try.func40, Try.ntmps40
      go_wp2
      go_ret
      exact ⟨rfl, rfl⟩
    · have e : inB N i = false := decide_eq_false (fun h => h2 h.2)
      have d2 : decide (i < N) = false := decide_eq_false h2
      rw [e]
      clear hB e
      go_enter Try.func40, Try.ntmps40
      go_wp2
      go_ret
      exact ⟨rfl, rfl⟩
  · have e : inB N i = false := decide_eq_false (fun h => h1 h.1)
    have d1 : decide (0 ≤ i) = false := decide_eq_false h1
    rw [e]
    clear hB e
    go_enter Try.func40, Try.ntmps40
    go_wp2
    go_ret
    exact ⟨rfl, rfl⟩
theorem okB_in {N x y z u : Int} : okB N (x, y, z, u) = (inB N x && inB N y && decide (0 ≤ z) && decide (z ≤ 2147483647)) := by
  unfold okB inB
  rw [Bool.eq_iff_iff]
  simp only [Bool.and_eq_true, decide_eq_true_eq]
  omega
/-- The closure that finds fault with an arc. -/
def badF (g : Nat) : Value := .func (.func 41) #[] #[.pointer (some ⟨g, 0, none⟩)]
set_option maxRecDepth 100000 in
set_option maxHeartbeats 1000000 in
theorem badArc_any {w : World} {g g1 : Nat} {N s t : Int} {a : Option Addr} {m c : Nat} (hB : NBox w g N s t a m c) (hF : w.heap[g1]? = some (.cells #[nodeF g] 68 (0, 0))) (x y z u : Int) :
    Calls Try.prog 41 #[.agg #[.int .i64 x, .int .i64 y, .int .i64 z, .int .i64 u], .pointer (some ⟨g1, 0, none⟩)] w fun e w' => e = .returned (.bool (!okB N (x, y, z, u))) ∧ Add w w' := by
  have hA := add_new w (.cells #[.int .i64 x, .int .i64 y, .int .i64 z, .int .i64 u] 35)
  have hB1 := hB.add hA
  have hlt := (Array.getElem?_eq_some_iff.1 hF).1
  have hc : (w.alloc (.cells #[.int .i64 x, .int .i64 y, .int .i64 z, .int .i64 u] 35)).cell? ⟨g1, 0, none⟩ = some (nodeF g) := (World.cell?_of_block (a := ⟨g1, 0, none⟩) (heap_alloc_old w _ hlt)).trans ((cell_of_row w g1 0 _ _ _ hF).trans rfl)
  unfold nodeF at hc
  have CN := Lib.hid (fun i => isNode_any hB1 i)
  rw [okB_in]
  have HA := Lib.hid hA
  clear hA hB hB1 hF
  cases h1 : inB N x with
  | false =>
    have H1 := Lib.hid h1
    clear h1
    go_enter Try.func41, Try.ntmps41
    go_wp2_with (go_at_call 40; refine (CN.out x).mono ?_; rw [H1.out]; rintro e w' ⟨rfl, rfl⟩)
    go_ret
    exact ⟨rfl, HA.out⟩
  | true =>
    have H1 := Lib.hid h1
    clear h1
    cases h2 : inB N y with
    | false =>
      have H2 := Lib.hid h2
      clear h2
      go_enter Try.func41, Try.ntmps41
      go_wp2_with fail
      refine (CN.out x).mono ?_; rw [H1.out]; rintro e w' ⟨rfl, rfl⟩
      go_wp2_with fail
      refine (CN.out y).mono ?_; rw [H2.out]; rintro e w' ⟨rfl, rfl⟩
      go_wp2_with fail
      go_ret
      exact ⟨rfl, HA.out⟩
    | true =>
      have H2 := Lib.hid h2
      clear h2
      by_cases h3 : 0 ≤ z
      · by_cases h4 : z ≤ 2147483647
        · have d3 : decide (z < 0) = false := decide_eq_false (by omega)
          have d4 : decide (2147483647 < z) = false := decide_eq_false (by omega)
          rw [decide_eq_true h3, decide_eq_true h4]
          go_enter Try.func41, Try.ntmps41
          go_wp2_with fail
          refine (CN.out x).mono ?_; rw [H1.out]; rintro e w' ⟨rfl, rfl⟩
          go_wp2_with fail
          refine (CN.out y).mono ?_; rw [H2.out]; rintro e w' ⟨rfl, rfl⟩
          go_wp2_with fail
          go_ret
          exact ⟨rfl, HA.out⟩
        · have d3 : decide (z < 0) = false := decide_eq_false (by omega)
          have d4 : decide (2147483647 < z) = true := decide_eq_true (by omega)
          rw [decide_eq_true h3, decide_eq_false h4]
          go_enter Try.func41, Try.ntmps41
          go_wp2_with fail
          refine (CN.out x).mono ?_; rw [H1.out]; rintro e w' ⟨rfl, rfl⟩
          go_wp2_with fail
          refine (CN.out y).mono ?_; rw [H2.out]; rintro e w' ⟨rfl, rfl⟩
          go_wp2_with fail
          go_ret
          exact ⟨rfl, HA.out⟩
      · have d3 : decide (z < 0) = true := decide_eq_true (by omega)
        rw [decide_eq_false h3]
        go_enter Try.func41, Try.ntmps41
        go_wp2_with fail
        refine (CN.out x).mono ?_; rw [H1.out]; rintro e w' ⟨rfl, rfl⟩
        go_wp2_with fail
        refine (CN.out y).mono ?_; rw [H2.out]; rintro e w' ⟨rfl, rfl⟩
        go_wp2_with fail
        go_ret
        exact ⟨by simp, HA.out⟩
end Go.Proofs.Ytaoibakbnimnkaa

namespace Go.Proofs.Ytaoibakbnimnkaa
open Go.RowKit NetM

/-- What IndexFunc returns over arcs. -/
def IdxP (w : World) (b : Bool) (e : Ending) (w' : World) : Prop := ∃ r : Int, e = .returned (.int .i64 r) ∧ decide (0 ≤ r) = b ∧ Add w w'
set_option maxRecDepth 100000 in
set_option maxHeartbeats 1000000 in
theorem indexArc_any {w : World} {va : Value} {g g1 : Nat} {N s t : Int} {a : Option Addr} {m c : Nat} {A : List Arc} (hA : ArcsA w va A) (hB : NBox w g N s t a m c) (hF : w.heap[g1]? = some (.cells #[nodeF g] 68 (0, 0))) :
    Calls Try.prog 42 #[va, badF g1] w (IdxP w (!A.all (okB N))) := by
  obtain ⟨aa, mm, cc, rfl, hl, hc, hm, -⟩ := id hA
  have HA := Lib.hid hA
  have HL := Lib.hid hl
  have CB : Hid (∀ W1, Add w W1 → ∀ x y z u, Calls Try.prog 41 #[.agg #[.int .i64 x, .int .i64 y, .int .i64 z, .int .i64 u], .pointer (some ⟨g1, 0, none⟩)] W1 fun e w' => e = .returned (.bool (!okB N (x, y, z, u))) ∧ Add W1 w') :=
    Lib.hid fun W1 ha x y z u => badArc_any (hB.add ha) ((ha.block g1 (Array.getElem?_eq_some_iff.1 hF).1).trans hF) x y z u
  unfold badF
  unfold maxLen at hm
  clear hA hl hF hB
  go_enter Try.func42, Try.ntmps42
  go_wp2_with fail
  go_loopw [8] (fun i wr => ∃ k : Nat, k ≤ mm ∧ i = .int .i64 k ∧ Hid ((A.take k).all (okB N) = true) ∧ Hid (Add w wr)) (fun i _ => mm - (intOf i).toNat)
  case atStart => exact ⟨0, Nat.zero_le _, rfl, Lib.hid (by simp), Lib.hid (add_refl w)⟩
  case round =>
    obtain ⟨k, hk, rfl, hpre, hadd⟩ := hrel
    by_cases hlt : k < mm
    · obtain ⟨b, off, rfl, q0, q1, q2, q3⟩ := (HA.out.add hadd.out).cell hlt
      have hm1 := at_mem (A := A) (k := k) (by rw [HL.out]; exact hlt)
      have ht1 := at_take (A := A) (k := k) (by rw [HL.out]; exact hlt)
      obtain ⟨⟨x, y, z, u⟩, hx⟩ : ∃ x, at' A k = x := ⟨_, rfl⟩
      rw [hx] at q0 q1 q2 q3 hm1 ht1
      dsimp only at q0 q1 q2 q3
      have HM := Lib.hid hm1
      have HTK := Lib.hid ht1
      clear hx hm1 ht1
      cases hb : okB N (x, y, z, u) with
      | true =>
        have HB := Lib.hid hb
        clear hb
        go_wp2_with fail
        refine (CB.out _ hadd.out x y z u).mono ?_
        rw [HB.out]
        rintro e w2 ⟨rfl, h2⟩
        have HAD := Lib.hid (Add.trans hadd.out h2)
        clear h2
        go_wp2_with fail
        go_roundw
        case rel => exact ⟨k + 1, by omega, by go_num, Lib.hid (by rw [HTK.out, List.all_append, hpre.out]; simp [HB.out]), HAD⟩
        case measure => simp [intOf]; omega
      | false =>
        have HB := Lib.hid hb
        have hall : A.all (okB N) = false := by
          rw [Bool.eq_false_iff]
          intro h
          have := List.all_eq_true.1 h _ HM.out
          rw [hb] at this; cases this
        have HALL := Lib.hid hall
        clear hb hall
        go_wp2_with fail
        refine (CB.out _ hadd.out x y z u).mono ?_
        rw [HB.out]
        rintro e w2 ⟨rfl, h2⟩
        have HF : IdxP w (!A.all (okB N)) (.returned (.int .i64 (k : Nat))) w2 := ⟨_, rfl, by rw [HALL.out]; simp, Add.trans hadd.out h2⟩
        have HF := Lib.hid HF
        clear h2
        go_wp2_with fail
        go_ret
        exact HF.out
    · obtain rfl : k = mm := by omega
      have HF : IdxP w (!A.all (okB N)) (.returned (.int .i64 (-1))) wr := ⟨_, rfl, by
        have := hpre.out
        rw [List.take_of_length_le (by rw [HL.out]; exact Nat.le_refl _)] at this
        rw [this]; rfl, hadd.out⟩
      have HF := Lib.hid HF
      go_wp2_with fail
      go_ret
      exact HF.out
theorem containsArc_any {w : World} {va : Value} {g g1 : Nat} {N s t : Int} {a : Option Addr} {m c : Nat} {A : List Arc} (hA : ArcsA w va A) (hB : NBox w g N s t a m c) (hF : w.heap[g1]? = some (.cells #[nodeF g] 68 (0, 0))) (b : Bool) (hb : (!A.all (okB N)) = b) :
    Calls Try.prog 29 #[va, badF g1] w (RetB w b) := by
  have C := Lib.hid (indexArc_any hA hB hF)
  have HB := Lib.hid hb
  unfold badF at C ⊢
  clear hA hB hF hb
  go_enter Try.func29, Try.ntmps29
  go_wp2_with fail
  refine C.out.mono ?_
  rw [HB.out]
  rintro e w1 ⟨r, rfl, h1, h2⟩
  have H2 := Lib.hid h2
  clear h2
  cases b with
  | true =>
    have d := of_decide_eq_true h1
    clear h1
    go_wp2_with fail
    go_ret
    exact ⟨rfl, H2.out⟩
  | false =>
    have d := of_decide_eq_false h1
    go_wp2_with fail
    go_ret
    exact ⟨rfl, H2.out⟩
end Go.Proofs.Ytaoibakbnimnkaa

namespace Go.Proofs.Ytaoibakbnimnkaa
open Go.RowKit NetM

theorem headB_split {N s t : Int} {m : Nat} : headB N s t m = (decide (N ≤ 700) && decide (m ≤ 2500) && inB N s && inB N t && decide (s ≠ t)) := by
  unfold headB inB
  rw [Bool.eq_iff_iff]
  simp only [Bool.and_eq_true, decide_eq_true_eq]
  omega
/-- The worlds in which Valid's variables are laid. -/
def twoW (w : World) (N s t : Int) (a : Option Addr) (m c : Nat) : World := (w.alloc (.cells #[.int .i64 N, .int .i64 s, .int .i64 t, .slice a m c] 24)).alloc (.cells #[nodeF w.heap.size] 68)
theorem twoW_ok (w : World) (N s t : Int) (a : Option Addr) (m c : Nat) : NBox (twoW w N s t a m c) w.heap.size N s t a m c ∧ (twoW w N s t a m c).heap[w.heap.size + 1]? = some (.cells #[nodeF w.heap.size] 68 (0, 0)) ∧ Add w (twoW w N s t a m c) := by
  unfold twoW
  refine ⟨(nbox_new w N s t a m c).add (add_new _ _), ?_, Add.trans (add_new _ _) (add_new _ _)⟩
  have := heap_alloc_new (w.alloc (.cells #[.int .i64 N, .int .i64 s, .int .i64 t, .slice a m c] 24)) (.cells #[nodeF w.heap.size] 68)
  rwa [show (w.alloc (.cells #[.int .i64 N, .int .i64 s, .int .i64 t, .slice a m c] 24)).heap.size = w.heap.size + 1 by simp] at this
set_option maxRecDepth 100000 in
set_option maxHeartbeats 2000000 in
theorem progValid_any {w : World} {v : Value} {N s t : Int} {A : List Arc} (h : NetA w v N s t A) : Calls Try.prog 28 #[v] w (RetB w (validB N s t A)) := by
  have hmf : ∀ (fn : Fn) (first cap : Array Value) (w : World), (Instr.makeFunc fn first cap).run Try.prog w = .ok (.func fn first cap) w := fun _ _ _ _ => rfl
  obtain ⟨va, rfl, ha⟩ := h
  obtain ⟨a, m, c, rfl, hl, hc, hm, -⟩ := id ha
  obtain ⟨hB, hF, hT⟩ := twoW_ok w N s t a m c
  have CN := Lib.hid (fun i => isNode_any hB i)
  have CC := Lib.hid (fun b hb => containsArc_any (ha.add hT) hB hF b hb)
  have c0 := hB.c0
  have c1 := hB.c1
  have c2 := hB.c2
  have c3 := hB.c3
  have cf : (twoW w N s t a m c).cell? ⟨w.heap.size + 1, 0, none⟩ = some (nodeF w.heap.size) := (cell_of_row _ _ 0 _ _ _ hF).trans rfl
  have HT := Lib.hid hT
  have HL := Lib.hid hl
  have hsz : (twoW w N s t a m c).heap.size = w.heap.size + 2 := by simp [twoW]
  unfold maxLen at hm
  clear hB hF hT
  unfold validB
  rw [headB_split, hl]
  clear hl ha
  unfold nodeF at cf
  obtain ⟨W, hW⟩ : ∃ W, W = twoW w N s t a m c := ⟨_, rfl⟩
  have HW : Hid (W = twoW w N s t a m c) := Lib.hid hW
  rw [← hW] at CN CC c0 c1 c2 c3 cf HT hsz
  have HSZ := Lib.hid hsz
  clear hsz hW
  have HWW : Hid ((w.alloc (.cells #[.int .i64 N, .int .i64 s, .int .i64 t, .slice a m c] 24)).alloc (.cells #[Value.func (.func 40) #[] #[.pointer (some ⟨w.heap.size, 0, none⟩)]] 68) = W) := Lib.hid (by rw [HW.out]; rfl)
  have HNO : Hid (RetB w false (.returned (.bool false)) W) := Lib.hid ⟨rfl, HT.out⟩
  clear HW HT
  by_cases k1 : 700 < N
  · rw [decide_eq_false (p := N ≤ 700) (by omega)]
    go_enter Try.func28, Try.ntmps28
    go_upto_region 2 with fail
    rw [HWW.out]
    go_wp2_with fail
    go_ret
    exact HNO.out
  rw [decide_eq_true (p := N ≤ 700) (by omega)]
  by_cases k2 : 2500 < m
  · rw [decide_eq_false (p := m ≤ 2500) (by omega)]
    have k1' : N ≤ 700 := by omega
    clear k1
    go_enter Try.func28, Try.ntmps28
    go_upto_region 2 with fail
    rw [HWW.out]
    go_wp2_with fail
    go_ret
    exact HNO.out
  rw [decide_eq_true (p := m ≤ 2500) (by omega)]
  have k1' : N ≤ 700 := by omega
  have k2' : m ≤ 2500 := by omega
  clear k1 k2
  cases h1 : inB N s with
  | false =>
    have H1 := Lib.hid h1
    clear h1
    go_enter Try.func28, Try.ntmps28
    go_upto_region 2 with fail
    rw [HWW.out]
    go_wp2_with fail
    refine (CN.out s).mono ?_; rw [H1.out]; rintro e w' ⟨rfl, rfl⟩
    go_wp2_with fail
    go_ret
    exact HNO.out
  | true =>
    have H1 := Lib.hid h1
    clear h1
    cases h2 : inB N t with
    | false =>
      have H2 := Lib.hid h2
      clear h2
      go_enter Try.func28, Try.ntmps28
      go_upto_region 2 with fail
      rw [HWW.out]
      go_wp2_with fail
      refine (CN.out s).mono ?_; rw [H1.out]; rintro e w' ⟨rfl, rfl⟩
      go_wp2_with fail
      refine (CN.out t).mono ?_; rw [H2.out]; rintro e w' ⟨rfl, rfl⟩
      go_wp2_with fail
      go_ret
      exact HNO.out
    | true =>
      have H2 := Lib.hid h2
      clear h2
      by_cases h3 : s = t
      · subst h3
        rw [decide_eq_false (p := s ≠ s) (by simp)]
        go_enter Try.func28, Try.ntmps28
        go_upto_region 2 with fail
        rw [HWW.out]
        go_wp2_with fail
        refine (CN.out s).mono ?_; rw [H1.out]; rintro e w' ⟨rfl, rfl⟩
        go_wp2_with fail
        refine (CN.out s).mono ?_; rw [H2.out]; rintro e w' ⟨rfl, rfl⟩
        go_wp2_with fail
        go_ret
        exact HNO.out
      · have d3 : (s == t) = false := by simpa using h3
        rw [decide_eq_true (p := s ≠ t) h3]
        clear h3
        cases h4 : A.all (okB N) with
        | false =>
          have C4 := Lib.hid (CC.out true (by rw [h4]; rfl))
          unfold badF at C4
          clear h4 CC
          go_enter Try.func28, Try.ntmps28
          go_upto_region 2 with fail
          rw [HWW.out]
          go_wp2_with fail
          refine (CN.out s).mono ?_; rw [H1.out]; rintro e w' ⟨rfl, rfl⟩
          go_wp2_with fail
          refine (CN.out t).mono ?_; rw [H2.out]; rintro e w' ⟨rfl, rfl⟩
          go_wp2_with fail
          refine C4.out.mono ?_; rintro e w' ⟨rfl, hb⟩
          have HE := Lib.hid (Add.trans HNO.out.2 hb)
          clear hb
          go_wp2_with fail
          go_ret
          exact ⟨rfl, HE.out⟩
        | true =>
          have C4 := Lib.hid (CC.out false (by rw [h4]; rfl))
          unfold badF at C4
          clear h4 CC
          go_enter Try.func28, Try.ntmps28
          go_upto_region 2 with fail
          rw [HWW.out]
          go_wp2_with fail
          refine (CN.out s).mono ?_; rw [H1.out]; rintro e w' ⟨rfl, rfl⟩
          go_wp2_with fail
          refine (CN.out t).mono ?_; rw [H2.out]; rintro e w' ⟨rfl, rfl⟩
          go_wp2_with fail
          refine C4.out.mono ?_; rintro e w' ⟨rfl, hb⟩
          have HE := Lib.hid (Add.trans HNO.out.2 hb)
          clear hb
          go_wp2_with fail
          go_ret
          exact ⟨rfl, HE.out⟩
end Go.Proofs.Ytaoibakbnimnkaa
