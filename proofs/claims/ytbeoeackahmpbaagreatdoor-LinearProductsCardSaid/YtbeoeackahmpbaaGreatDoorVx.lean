/- Package linear: what Solve and Identity refuse. -/
import Derived.Test.YtbeoeackahmpbaaGreatDoorJV7
import Derived.Test.YtbeoeackahmpbaaGreatDoorJU
namespace Go.Proofs.YtbeoeackahmpbaaGreatDoor
open Go.RowKit NatM Go.Proofs.YtbeoeackahmpbaaGreatDoor.Api LinM

/-- Nothing and an error. -/
def RefP (w : World) (k : Nat) (e : Ending) (w' : World) : Prop := e = .returned (.tuple #[.slice none 0 0, .int .i64 (k : Nat)]) ∧ Add w w'
theorem refP1 {w w' : World} (h : Add w w') : RefP w 1 (.returned (.tuple #[.slice none 0 0, .int .i64 1])) w' := ⟨rfl, h⟩
theorem refP2 {w w' : World} (h : Add w w') : RefP w 2 (.returned (.tuple #[.slice none 0 0, .int .i64 2])) w' := ⟨rfl, h⟩
set_option maxRecDepth 100000 in
theorem identityN_arg {w : World} {z : Int} (h : z < 1 ∨ 24 < z) : Calls Tryz.prog 30 #[.int .i64 z] w (RefP w 1) := by
  have CO : Hid (Calls Tryz.prog 41 #[.int .i64 z] w (RetBs w false)) := Lib.hid (by
    rcases h with h | h
    · have d1 : decide ((1 : Int) ≤ z) = false := by simp; omega
      clear h
      go_enter Tryz.func41, Tryz.ntmps41
      go_wp2_with fail
      go_ret
      exact ⟨rfl, rfl⟩
    · have d1 : decide ((1 : Int) ≤ z) = true := by simp; omega
      have d2 : decide (z ≤ 24) = false := by simp; omega
      have h1 : (1 : Int) ≤ z := by omega
      have h2 : ¬ (z ≤ 24) := by omega
      clear h
      go_enter Tryz.func41, Tryz.ntmps41
      go_wp2_with fail
      go_ret
      exact ⟨rfl, rfl⟩)
  clear h
  go_enter Tryz.func30, Tryz.ntmps30
  go_wp2_with fail
  refine CO.out.mono ?_
  rintro e w1 ⟨rfl, rfl⟩
  go_wp2_with fail
  go_ret2
  exact refP1 (Below.refl _ _)
set_option maxRecDepth 100000 in
set_option maxHeartbeats 1000000 in
theorem solveN_arg {w : World} {va vb : Value} {n q : Nat} {m : Nat → Nat} {X : Nat → Nat → Tri} {y : Nat → Tri} (h : MatP false w va n m X) (hv : RowP false w vb q y) (hn : n ≤ 9223372036854775807) (hb : sqOkL X m n = false ∨ vecOk y q n = false) :
    Calls Tryz.prog 15 #[va, vb] w (RefP w 1) := by
  by_cases hs : sqOkL X m n = true
  · have hy : vecOk y q n = false := by
      rcases hb with e | e
      · rw [hs] at e; cases e
      · exact e
    have CS := Lib.hid (isSquareN true h (Lib.hid hs))
    have CV := Lib.hid (fun w' (ha : Add w w') => isVectorN false (hv.add ha) hn (Lib.hid hy))
    obtain ⟨ao, ca, rfl, hl⟩ := h.isSlice
    obtain ⟨bo, cb, rfl, -, -, -⟩ := hv
    clear h hb hs hy
    go_enter Tryz.func15, Tryz.ntmps15
    go_wp2_with fail
    refine CS.out.mono ?_
    rintro e w1 ⟨rfl, h1⟩
    go_wp2_with fail
    refine (CV.out w1 h1).mono ?_
    rintro e w2 ⟨rfl, h2⟩
    have H2 := Lib.hid (Add.trans h1 h2)
    clear h1 h2 CS CV
    go_wp2_with fail
    go_ret2
    exact refP1 H2.out
  · have CS := Lib.hid (isSquareN false h (Lib.hid (by simpa using hs)))
    obtain ⟨ao, ca, rfl, hl⟩ := h.isSlice
    obtain ⟨bo, cb, rfl, -, -, -⟩ := hv
    clear h hb hs
    go_enter Tryz.func15, Tryz.ntmps15
    go_wp2_with fail
    refine CS.out.mono ?_
    rintro e w1 ⟨rfl, h1⟩
    have H2 := Lib.hid h1
    clear h1 CS
    go_wp2_with fail
    go_ret2
    exact refP1 H2.out
end Go.Proofs.YtbeoeackahmpbaaGreatDoor
