/- The reference of layer 12: Check; what Value, Capacity and Check return for networks that are not valid. -/
import Derived.Test.YtdihmbbkmbnomaaN5
namespace Go.Proofs.Ytdihmbbkmbnomaa
open Go.RowKit NetM

def checkOk (N s t : Nat) (A : List Arc) (F : List Int) (S : List Bool) : Prop := isFlow N s t A F ∧ isCut N s t S ∧ net s A F = capF (cutOf S) A
/-- What Check returns for a valid network. -/
def CheckP (w : World) (N s t : Nat) (A : List Arc) (F : List Int) (S : List Bool) (e : Ending) (w' : World) : Prop := ∃ b : Bool, e = .returned (.bool b) ∧ Add w w' ∧ (b = true ↔ checkOk N s t A F S)

set_option maxRecDepth 100000 in
set_option maxHeartbeats 2000000 in
theorem refCheck_any {w : World} {v vf vc : Value} {N s t : Nat} {A : List Arc} {F : List Int} {S : List Bool} (h : NetA w v N s t A) (hv : VNet N s t A) (hf : RdI w vf F) (hc : RdB w vc S) :
    Calls Try.prog 18 #[v, vf, vc] w (CheckP w N s t A F S) := by
  have CV : Hid (∀ W1, Add w W1 → Calls Try.prog 12 #[v, vf] W1 (ValP W1 N s t A F)) := Lib.hid fun W1 ha => refValue_any (h.add ha) hv (hf.add ha)
  have CC : Hid (∀ W1, Add w W1 → Calls Try.prog 14 #[v, vc] W1 (CapP W1 N s t A S)) := Lib.hid fun W1 ha => refCapacity_any (h.add ha) hv (hc.add ha)
  obtain ⟨va, rfl, ⟨a, m, c, rfl, -⟩⟩ := h
  obtain ⟨fa, fc, rfl, -⟩ := hf.open
  obtain ⟨ca, cc, rfl, -⟩ := hc.open
  have B1 := Lib.hid (nbox_new w N s t a m c)
  have T1 := add_new w (.cells #[.int .i64 N, .int .i64 s, .int .i64 t, .slice a m c] 24)
  clear hf hc hv
  go_enter Try.func18, Try.ntmps18
  go_wp2_with fail
  refine (CV.out _ T1).mono ?_
  rintro e w1 ⟨x, b1, rfl, h1, y1, n1⟩
  have hB := B1.out.add h1
  have c0 := hB.c0
  have c1 := hB.c1
  have c2 := hB.c2
  have c3 := hB.c3
  have hT2 := Add.trans T1 h1
  have HY1 := Lib.hid y1
  have HN1 := Lib.hid n1
  have B2 := Lib.hid hB
  clear h1 hB y1 n1 B1 T1
  go_wp2_with fail
  refine (CC.out _ hT2).mono ?_
  rintro e w2 ⟨y, b2, rfl, h2, y2, n2⟩
  have hT3 := Add.trans hT2 h2
  have HY2 := Lib.hid y2
  have HN2 := Lib.hid n2
  have HT3 := Lib.hid hT3
  clear h2 hT2 hT3 y2 n2 c0 c1 c2 c3
  cases b1 with
  | false =>
    have hF : CheckP w N s t A F S (.returned (.bool false)) w2 := ⟨false, rfl, HT3.out, ⟨fun h => (Bool.false_ne_true h).elim, fun h => absurd h.1 (HN1.out rfl).1⟩⟩
    have HF := Lib.hid hF
    clear hF
    go_wp2_with fail
    go_ret
    exact HF.out
  | true =>
    cases b2 with
    | false =>
      have hF : CheckP w N s t A F S (.returned (.bool false)) w2 := ⟨false, rfl, HT3.out, ⟨fun h => (Bool.false_ne_true h).elim, fun h => absurd h.2.1 (HN2.out rfl).1⟩⟩
      have HF := Lib.hid hF
      clear hF
      go_wp2_with fail
      go_ret
      exact HF.out
    | true =>
      by_cases hxy : x = y
      · have hF : CheckP w N s t A F S (.returned (.bool true)) w2 := ⟨true, rfl, HT3.out, ⟨fun _ => ⟨(HY1.out rfl).1, (HY2.out rfl).1, by rw [← (HY1.out rfl).2, ← (HY2.out rfl).2]; exact hxy⟩, fun _ => rfl⟩⟩
        have HF := Lib.hid hF
        have d : (x == y) = true := by simpa using hxy
        clear hF hxy
        go_wp2_with fail
        go_ret
        exact HF.out
      · have hF : CheckP w N s t A F S (.returned (.bool false)) w2 := ⟨false, rfl, HT3.out, ⟨fun h => (Bool.false_ne_true h).elim, fun h => absurd (by rw [(HY1.out rfl).2, (HY2.out rfl).2]; exact h.2.2) hxy⟩⟩
        have HF := Lib.hid hF
        have d : (x == y) = false := by simpa using hxy
        clear hF hxy
        go_wp2_with fail
        go_ret
        exact HF.out

/-- For networks that are not valid. -/
def NoV (w : World) (e : Ending) (w' : World) : Prop := e = .returned (.tuple #[.int .i64 0, .bool false]) ∧ Add w w'
set_option maxRecDepth 100000 in
set_option maxHeartbeats 1000000 in
theorem refValue_inv {w : World} {v vf : Value} {N s t : Int} {A : List Arc} {F : List Int} (h : NetA w v N s t A) (hv : validB N s t A = false) (hf : RdI w vf F) :
    Calls Try.prog 12 #[v, vf] w (NoV w) := by
  have CV : Hid (∀ W1, Add w W1 → Calls Try.prog 16 #[v] W1 (RetB W1 false)) := Lib.hid fun W1 ha => refValid_not (h.add ha) hv
  obtain ⟨va, rfl, ⟨a, m, c, rfl, -⟩⟩ := h
  obtain ⟨fa, fc, rfl, -⟩ := hf.open
  have T1 := add_new w (.cells #[.int .i64 N, .int .i64 s, .int .i64 t, .slice a m c] 24)
  clear hf hv
  go_enter Try.func12, Try.ntmps12
  go_wp2_with fail
  refine (CV.out _ T1).mono ?_
  rintro e w1 ⟨rfl, h1⟩
  have HF : Hid (NoV w (.returned (.tuple #[.int .i64 0, .bool false])) w1) := Lib.hid ⟨rfl, Add.trans T1 h1⟩
  clear h1 T1
  go_wp2_with fail
  go_ret2
  exact HF.out
set_option maxRecDepth 100000 in
set_option maxHeartbeats 1000000 in
theorem refCapacity_inv {w : World} {v vf : Value} {N s t : Int} {A : List Arc} {S : List Bool} (h : NetA w v N s t A) (hv : validB N s t A = false) (hf : RdB w vf S) :
    Calls Try.prog 14 #[v, vf] w (NoV w) := by
  have CV : Hid (∀ W1, Add w W1 → Calls Try.prog 16 #[v] W1 (RetB W1 false)) := Lib.hid fun W1 ha => refValid_not (h.add ha) hv
  obtain ⟨va, rfl, ⟨a, m, c, rfl, -⟩⟩ := h
  obtain ⟨fa, fc, rfl, -⟩ := hf.open
  have T1 := add_new w (.cells #[.int .i64 N, .int .i64 s, .int .i64 t, .slice a m c] 24)
  clear hf hv
  go_enter Try.func14, Try.ntmps14
  go_wp2_with fail
  refine (CV.out _ T1).mono ?_
  rintro e w1 ⟨rfl, h1⟩
  have HF : Hid (NoV w (.returned (.tuple #[.int .i64 0, .bool false])) w1) := Lib.hid ⟨rfl, Add.trans T1 h1⟩
  clear h1 T1
  go_wp2_with fail
  go_ret2
  exact HF.out
set_option maxRecDepth 100000 in
set_option maxHeartbeats 1000000 in
theorem refCheck_inv {w : World} {v vf vc : Value} {N s t : Int} {A : List Arc} {F : List Int} {S : List Bool} (h : NetA w v N s t A) (hv : validB N s t A = false) (hf : RdI w vf F) (hc : RdB w vc S) :
    Calls Try.prog 18 #[v, vf, vc] w (RetB w false) := by
  have CV : Hid (∀ W1, Add w W1 → Calls Try.prog 12 #[v, vf] W1 (NoV W1)) := Lib.hid fun W1 ha => refValue_inv (h.add ha) hv (hf.add ha)
  have CC : Hid (∀ W1, Add w W1 → Calls Try.prog 14 #[v, vc] W1 (NoV W1)) := Lib.hid fun W1 ha => refCapacity_inv (h.add ha) hv (hc.add ha)
  obtain ⟨va, rfl, ⟨a, m, c, rfl, -⟩⟩ := h
  obtain ⟨fa, fc, rfl, -⟩ := hf.open
  obtain ⟨ca, cc, rfl, -⟩ := hc.open
  have B1 := Lib.hid (nbox_new w N s t a m c)
  have T1 := add_new w (.cells #[.int .i64 N, .int .i64 s, .int .i64 t, .slice a m c] 24)
  clear hf hc hv
  go_enter Try.func18, Try.ntmps18
  go_wp2_with fail
  refine (CV.out _ T1).mono ?_
  rintro e w1 ⟨rfl, h1⟩
  have hB := B1.out.add h1
  have c0 := hB.c0
  have c1 := hB.c1
  have c2 := hB.c2
  have c3 := hB.c3
  have hT2 := Add.trans T1 h1
  clear h1 hB B1 T1
  go_wp2_with fail
  refine (CC.out _ hT2).mono ?_
  rintro e w2 ⟨rfl, h2⟩
  have HF : Hid (RetB w false (.returned (.bool false)) w2) := Lib.hid ⟨rfl, Add.trans hT2 h2⟩
  clear h2 hT2 c0 c1 c2 c3
  go_wp2_with fail
  go_ret
  exact HF.out
end Go.Proofs.Ytdihmbbkmbnomaa
