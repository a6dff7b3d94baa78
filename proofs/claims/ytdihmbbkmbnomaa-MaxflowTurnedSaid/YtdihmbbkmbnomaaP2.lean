/- Package maxflow: Valid, whole. -/
import Derived.Test.YtdihmbbkmbnomaaP1
namespace Go.Proofs.Ytdihmbbkmbnomaa
open Go.RowKit NetM

/-- What IndexFunc returns over arcs. -/
def IdxP (w : World) (b : Bool) (e : Ending) (w' : World) : Prop := ∃ r : Int, e = .returned (.int .i64 r) ∧ decide (0 ≤ r) = b ∧ Add w w'
set_option maxRecDepth 100000 in
set_option maxHeartbeats 1000000 in
theorem indexArc_any {w : World} {va : Value} {g g1 : Nat} {N s t : Int} {a : Option Addr} {m c : Nat} {A : List Arc} (hA : ArcsA w va A) (hB : NBox w g N s t a m c) (hF : w.heap[g1]? = some (.cells #[nodeF g] 46 (0, 0))) :
    Calls Try.prog 34 #[va, badF g1] w (IdxP w (!A.all (okB N))) := by
  obtain ⟨aa, mm, cc, rfl, hl, hc, hm, -⟩ := id hA
  have HA := Lib.hid hA
  have HL := Lib.hid hl
  have CB : Hid (∀ W1, Add w W1 → ∀ x y z u, Calls Try.prog 26 #[.agg #[.int .i64 x, .int .i64 y, .int .i64 z, .int .i64 u], .pointer (some ⟨g1, 0, none⟩)] W1 fun e w' => e = .returned (.bool (!okB N (x, y, z, u))) ∧ Add W1 w') :=
    Lib.hid fun W1 ha x y z u => badArc_any (hB.add ha) ((ha.block g1 (Array.getElem?_eq_some_iff.1 hF).1).trans hF) x y z u
  unfold badF
  unfold maxLen at hm
  clear hA hl hF hB
  go_enter Try.func34, Try.ntmps34
  go_wp2_with fail
  go_loopw [8] (fun i wr => ∃ k : Nat, k ≤ mm ∧ i = .int .i64 k ∧ Hid ((A.take k).all (okB N) = true) ∧ Hid (Add w wr)) (fun i _ => mm - (intOf i).toNat)
  case atStart => exact ⟨0, Nat.zero_le _, rfl, Lib.hid (by simp), Lib.hid (add_refl w)⟩
  case round =>
    obtain ⟨k, hk, rfl, hpre, hadd⟩ := hrel
    by_cases hlt : k < mm
    · obtain ⟨b, off, rfl, q0, q1, q2, q3⟩ := (HA.out.add hadd.out).cell hlt
      have hm1 := at_mem (A := A) (k := k) (by rw [HL.out]; exact hlt)
      have ht1 := at_take (A := A) (k := k) (by rw [HL.out]; exact hlt)
      obtain ⟨⟨x, y, z, u⟩, hx⟩ : ∃ x, at' A k = x := ⟨_, rfl⟩
      rw [hx] at q0 q1 q2 q3 hm1 ht1
      dsimp only at q0 q1 q2 q3
      have HM := Lib.hid hm1
      have HTK := Lib.hid ht1
      clear hx hm1 ht1
      cases hb : okB N (x, y, z, u) with
      | true =>
        have HB := Lib.hid hb
        clear hb
        go_wp2_with fail
        refine (CB.out _ hadd.out x y z u).mono ?_
        rw [HB.out]
        rintro e w2 ⟨rfl, h2⟩
        have HAD := Lib.hid (Add.trans hadd.out h2)
        clear h2
        go_wp2_with fail
        go_roundw
        case rel => exact ⟨k + 1, by omega, by go_num, Lib.hid (by rw [HTK.out, List.all_append, hpre.out]; simp [HB.out]), HAD⟩
        case measure => simp [intOf]; omega
      | false =>
        have HB := Lib.hid hb
        have hall : A.all (okB N) = false := by
          rw [Bool.eq_false_iff]
          intro h
          have := List.all_eq_true.1 h _ HM.out
          rw [hb] at this; cases this
        have HALL := Lib.hid hall
        clear hb hall
        go_wp2_with fail
        refine (CB.out _ hadd.out x y z u).mono ?_
        rw [HB.out]
        rintro e w2 ⟨rfl, h2⟩
        have HF : IdxP w (!A.all (okB N)) (.returned (.int .i64 (k : Nat))) w2 := ⟨_, rfl, by rw [HALL.out]; simp, Add.trans hadd.out h2⟩
        have HF := Lib.hid HF
        clear h2
        go_wp2_with fail
        go_ret
        exact HF.out
    · obtain rfl : k = mm := by omega
      have HF : IdxP w (!A.all (okB N)) (.returned (.int .i64 (-1))) wr := ⟨_, rfl, by
        have := hpre.out
        rw [List.take_of_length_le (by rw [HL.out]; exact Nat.le_refl _)] at this
        rw [this]; rfl, hadd.out⟩
      have HF := Lib.hid HF
      go_wp2_with fail
      go_ret
      exact HF.out
theorem containsArc_any {w : World} {va : Value} {g g1 : Nat} {N s t : Int} {a : Option Addr} {m c : Nat} {A : List Arc} (hA : ArcsA w va A) (hB : NBox w g N s t a m c) (hF : w.heap[g1]? = some (.cells #[nodeF g] 46 (0, 0))) (b : Bool) (hb : (!A.all (okB N)) = b) :
    Calls Try.prog 25 #[va, badF g1] w (RetB w b) := by
  have C := Lib.hid (indexArc_any hA hB hF)
  have HB := Lib.hid hb
  unfold badF at C ⊢
  clear hA hB hF hb
  go_enter Try.func25, Try.ntmps25
  go_wp2_with fail
  refine C.out.mono ?_
  rw [HB.out]
  rintro e w1 ⟨r, rfl, h1, h2⟩
  have H2 := Lib.hid h2
  clear h2
  cases b with
  | true =>
    have d := of_decide_eq_true h1
    clear h1
    go_wp2_with fail
    go_ret
    exact ⟨rfl, H2.out⟩
  | false =>
    have d := of_decide_eq_false h1
    go_wp2_with fail
    go_ret
    exact ⟨rfl, H2.out⟩
end Go.Proofs.Ytdihmbbkmbnomaa
