/- The reference's Make; its operations said of numbers. -/
import Derived.Test.YtifpfoeecnkhoaaGreatDoorR5
namespace Go.Proofs.YtifpfoeecnkhoaaGreatDoor
open Go.RowKit NatM Go.Proofs.YtifpfoeecnkhoaaGreatDoor.Api

theorem reads_lit (w : World) (g : Nat) (hg : w.heap.size = g) (x : Nat) (z : Int) (hz : z = (x : Nat)) (hx : x < 4294967296) : Reads (w.alloc (.cells #[.int .u32 z] 77)) (.slice (some ⟨g, 0, none⟩) 1 1) [x] := by
  subst hg
  subst hz
  have hrow : Row (w.alloc (.cells #[.int .u32 (x : Int)] 77)) w.heap.size [x] := heap_alloc_new w _
  exact hrow.reads (m := 1) (c := 1) (Nat.le_refl _) (Nat.le_refl _) (by unfold maxLen; omega) (Limbs.cons hx Limbs.nil)
theorem add_drew_alloc (w : World) (o : Obj) : Add w (w.drew.alloc o) := (Below.drew (Below.refl _ _)).alloc (by simp) _
theorem lt_pw1 {x : Nat} (h : x < 4294967296) : x < pw 1 := by rw [show pw 1 = 4294967296 from by decide]; exact h
theorem add_alloc_drew (w : World) (o : Obj) : Add w (w.alloc o).drew := Below.drew ((Below.refl _ _).alloc (Nat.le_refl _) _)
theorem refPlusN {v1 v2 : Value} {A B : Nat} {w : World} (h1 : Num w v1 A) (h2 : Num w v2 B) (h : Hid (A < pw 2000 ∧ B < pw 2000)) : Calls Tryz.prog 87 #[v1, v2] w (RetO w (A + B)) := by
  obtain ⟨xs, r1, -, rfl, l1⟩ := num_reads h1 h.out.1
  obtain ⟨ys, r2, -, rfl, l2⟩ := num_reads h2 h.out.2
  exact refPlus_any v1 v2 xs ys w r1 r2 (by omega) (by omega)
theorem refTimesN {v1 v2 : Value} {A B : Nat} {w : World} (h1 : Num w v1 A) (h2 : Num w v2 B) (h : Hid (A < pw 2000 ∧ B < pw 2000)) : Calls Tryz.prog 105 #[v1, v2] w (RetO w (A * B)) := by
  obtain ⟨xs, r1, -, rfl, l1⟩ := num_reads h1 h.out.1
  obtain ⟨ys, r2, -, rfl, l2⟩ := num_reads h2 h.out.2
  exact refTimes_any v1 v2 xs ys w r1 r2 (by omega) (by omega)
theorem refMinusN {v1 v2 : Value} {A B : Nat} {w : World} (h1 : Num w v1 A) (h2 : Num w v2 B) (h : Hid (A < pw 2000 ∧ B ≤ A)) : Calls Tryz.prog 91 #[v1, v2] w (RetO w (A - B)) := by
  obtain ⟨xs, r1, -, rfl, l1⟩ := num_reads h1 h.out.1
  obtain ⟨ys, r2, -, rfl, l2⟩ := num_reads h2 (Nat.lt_of_le_of_lt h.out.2 h.out.1)
  exact refMinus_any v1 v2 xs ys w r1 r2 (by omega) (by omega) h.out.2
theorem refCmpN {v1 v2 : Value} {A B : Nat} {w : World} (h1 : Num w v1 A) (h2 : Num w v2 B) (h : Hid (A < pw 2000 ∧ B < pw 2000)) : Calls Tryz.prog 65 #[v1, v2] w (IntIs w (cmpI A B)) := by
  obtain ⟨xs, r1, -, rfl, l1⟩ := num_reads h1 h.out.1
  obtain ⟨ys, r2, -, rfl, l2⟩ := num_reads h2 h.out.2
  exact refCmp_any v1 v2 xs ys w r1 r2 (by omega) (by omega)
theorem refTrimN {v1 : Value} {A : Nat} {w : World} (h1 : Num w v1 A) (h : Hid (A < pw 2000)) : Calls Tryz.prog 72 #[v1] w (RetO w A) := by
  obtain ⟨xs, r1, -, rfl, l1⟩ := num_reads h1 h.out
  exact refTrim_any v1 xs w r1 (by omega)
theorem refLargeN (b : Bool) {v1 : Value} {A : Nat} {w : World} (h1 : Num w v1 A) (h : Hid (A < pw 2000)) (hb : Hid (decide (pw 512 ≤ A) = b)) : Calls Tryz.prog 86 #[v1] w (fun e w' => e = .returned (.bool b) ∧ Add w w') := by
  obtain ⟨xs, r1, -, rfl, l1⟩ := num_reads h1 h.out
  exact refLarge_is b v1 xs w r1 (by omega) hb
theorem num_lit (w : World) (g : Nat) (hg : w.heap.size = g) (x : Nat) (z : Int) (hz : z = (x : Nat)) (hx : x < 4294967296) (h0 : x ≠ 0) : Num (w.alloc (.cells #[.int .u32 z] 77)) (.slice (some ⟨g, 0, none⟩) 1 1) x := by
  refine ⟨[x], reads_lit w g hg x z hz hx, ?_, by simp [val]⟩
  simp [Canon, tlen, h0]
theorem refMake_any (z : Int) (w : World) (h0 : 0 ≤ z) (hv : z < 18446744073709551616) :
    Calls Tryz.prog 75 #[.int .u64 z] w (RetO w z.toNat) := by
  obtain ⟨v, rfl⟩ := Int.eq_ofNat_of_zero_le h0
  have hr := reads_two w (v % 4294967296) (v / 4294967296) (by omega) (by omega)
  have e1 : ((v % 4294967296 : Nat) : Int) = (v : Int) % 4294967296 := by omega
  have e2 : ((v / 4294967296 : Nat) : Int) = (v : Int) / 4294967296 := by omega
  rw [e1, e2] at hr
  clear e1 e2
  have hval : val [v % 4294967296, v / 4294967296] = (Int.ofNat v).toNat := by
    simp only [val, Int.ofNat_eq_natCast, Int.toNat_natCast]; omega
  have HC := Lib.hid (refTrim_any _ _ _ hr (by simp))
  rw [hval] at HC
  clear hval hr
  go_enter Tryz.func75, Tryz.ntmps75
  go_wp2_with fail
  refine HC.out.mono ?_; rintro e w' ⟨v', rfl, h1, h2⟩
  have hF : RetO w (Int.ofNat v).toNat (.returned v') w' := ⟨v', rfl, h1.base (by simp), Add.trans ((Below.refl _ _).alloc (Nat.le_refl _) _) h2⟩
  clear HC h1 h2
  go_wp2_with fail
  go_ret
  exact hF
end Go.Proofs.YtifpfoeecnkhoaaGreatDoor
