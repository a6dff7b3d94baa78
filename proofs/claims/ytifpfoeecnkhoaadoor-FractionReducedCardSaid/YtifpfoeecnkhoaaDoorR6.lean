/- The reference's Make; its operations said of numbers. -/
import Derived.Test.YtifpfoeecnkhoaaDoorR5
namespace Go.Proofs.YtifpfoeecnkhoaaDoor
open Go.RowKit NatM Go.Proofs.YtifpfoeecnkhoaaDoor.Api

theorem reads_lit (w : World) (g : Nat) (hg : w.heap.size = g) (x : Nat) (z : Int) (hz : z = (x : Nat)) (hx : x < 4294967296) : Reads (w.alloc (.cells #[.int .u32 z] 26)) (.slice (some ⟨g, 0, none⟩) 1 1) [x] := by
  subst hg
  subst hz
  have hrow : Row (w.alloc (.cells #[.int .u32 (x : Int)] 26)) w.heap.size [x] := heap_alloc_new w _
  exact hrow.reads (m := 1) (c := 1) (Nat.le_refl _) (Nat.le_refl _) (by unfold maxLen; omega) (Limbs.cons hx Limbs.nil)
theorem add_drew_alloc (w : World) (o : Obj) : Add w (w.drew.alloc o) := (Below.drew (Below.refl _ _)).alloc (by simp) _
theorem lt_pw1 {x : Nat} (h : x < 4294967296) : x < pw 1 := by rw [show pw 1 = 4294967296 from by decide]; exact h
theorem add_alloc_drew (w : World) (o : Obj) : Add w (w.alloc o).drew := Below.drew ((Below.refl _ _).alloc (Nat.le_refl _) _)
theorem refTimesN {v1 v2 : Value} {A B : Nat} {w : World} (h1 : Num w v1 A) (h2 : Num w v2 B) (h : Hid (A < pw 2000 ∧ B < pw 2000)) : Calls Tryd.prog 17 #[v1, v2] w (RetO w (A * B)) := by
  obtain ⟨xs, r1, -, rfl, l1⟩ := num_reads h1 h.out.1
  obtain ⟨ys, r2, -, rfl, l2⟩ := num_reads h2 h.out.2
  exact refTimes_any v1 v2 xs ys w r1 r2 (by omega) (by omega)
theorem refTrimN {v1 : Value} {A : Nat} {w : World} (h1 : Num w v1 A) (h : Hid (A < pw 2000)) : Calls Tryd.prog 13 #[v1] w (RetO w A) := by
  obtain ⟨xs, r1, -, rfl, l1⟩ := num_reads h1 h.out
  exact refTrim_any v1 xs w r1 (by omega)
theorem refLargeN (b : Bool) {v1 : Value} {A : Nat} {w : World} (h1 : Num w v1 A) (h : Hid (A < pw 2000)) (hb : Hid (decide (pw 512 ≤ A) = b)) : Calls Tryd.prog 16 #[v1] w (fun e w' => e = .returned (.bool b) ∧ Add w w') := by
  obtain ⟨xs, r1, -, rfl, l1⟩ := num_reads h1 h.out
  exact refLarge_is b v1 xs w r1 (by omega) hb
theorem num_lit (w : World) (g : Nat) (hg : w.heap.size = g) (x : Nat) (z : Int) (hz : z = (x : Nat)) (hx : x < 4294967296) (h0 : x ≠ 0) : Num (w.alloc (.cells #[.int .u32 z] 26)) (.slice (some ⟨g, 0, none⟩) 1 1) x := by
  refine ⟨[x], reads_lit w g hg x z hz hx, ?_, by simp [val]⟩
  simp [Canon, tlen, h0]
end Go.Proofs.YtifpfoeecnkhoaaDoor
