/- Layer 8: the law's helper row. -/
import Derived.Test.YtdgpcijiempmdaaK15
import Derived.Laws.BytesArg
import Derived.Laws.Concat
import Derived.Laws.MakeOwn
namespace Go.Proofs.Ytdgpcijiempmdaa
open Go.RowKit LxM

def lim (x : Nat) : Value := .int .u8 (x : Nat)
/-- A string of n bytes is returned; new blocks are laid. -/
def RetS (w : World) (n : Nat) (e : Ending) (w' : World) : Prop := ∃ s : ByteArray, e = .returned (.string s) ∧ s.size = n ∧ Add w w'
/-- Block g is a row of bytes. -/
def RowU (w : World) (g : Nat) (zs : List Nat) : Prop := w.heap[g]? = some (.cells (zs.map lim).toArray 5 (0, 0))
theorem RowU.cell {w : World} {g : Nat} {zs : List Nat} (h : RowU w g zs) {i : Nat} (hi : i < zs.length) : w.cell? ⟨g, i, none⟩ = some (.int .u8 (zs.getD i 0 : Nat)) := by
  rw [cell_of_row w g i _ _ (0, 0) h]
  simp [List.getD, hi, lim]
theorem RowU.set {w : World} {g : Nat} {zs : List Nat} (h : RowU w g zs) (i x : Nat) : RowU (w.setCell ⟨g, i, none⟩ (.int .u8 (x : Nat))) g (zs.set i x) := by
  unfold RowU at h ⊢
  rw [heap_setCell_same w g i _ _ _ h]
  congr 2
  simp [List.map_set, lim]
theorem infoU8 : (Try.prog.info? 5).map (fun i => (i.zero, i.size, i.bytes)) = some (some (.int .u8 0), 1, 1) := by kernel_rfl

set_option maxRecDepth 100000 in
set_option maxHeartbeats 2000000 in
theorem row_of (c n : Nat) (hn : n ≤ 100000) (w : World) : Calls Try.prog 14 #[.int .u8 (c : Nat), .int .i64 (n : Nat)] w (RetS w n) := by
  have hmk : ∃ M : World, (Instr.makeSlice 33 (.int .i64 (n : Nat)) (.int .i64 (n : Nat))).run Try.prog w = .ok (.slice (some ⟨w.heap.size, 0, none⟩) n n) M ∧ RowU M w.heap.size (List.replicate n 0) ∧ Add w M := by
    obtain ⟨i0, hi, hz0, hz1, hz2⟩ : ∃ i, Try.prog.info? 5 = some i ∧ i.zero = some (.int .u8 0) ∧ i.size = 1 ∧ i.bytes = 1 := by
      have h := infoU8
      cases e : Try.prog.info? 5 with
      | none => rw [e] at h; cases h
      | some i =>
        rw [e] at h
        simp only [Option.map_some, Option.some.injEq, Prod.mk.injEq] at h
        exact ⟨i, rfl, h.1, h.2.1, h.2.2⟩
    have h := run_make (P := Try.prog) w 33 5 i0 (.int .u8 0) Try.underlying33 hi hz0 .i64 .i64 (n : Int) (n : Int) (by omega) (by omega) (by rw [hz2]; omega) (by omega)
    refine ⟨_, h, ?_, add_new _ _⟩
    unfold RowU
    rw [heap_alloc_new]
    congr 2
    rw [hz1]
    apply Array.ext
    · simp [size_madeCells]
    · intro i h1 h2
      have e : i % 1 = 0 := Nat.mod_one i
      simp [madeCells, lim, Value.cells, e]
  obtain ⟨M, hM, hrow, hadd⟩ := hmk
  have HROW := Lib.hid hrow
  have HADD := Lib.hid hadd
  have hl0 : (List.replicate n 0).length = n := by simp
  have HST := Lib.hid (show ∃ zs : List Nat, zs.length = n ∧ RowU M w.heap.size zs ∧ Add w M from ⟨_, hl0, hrow, hadd⟩)
  clear hrow hadd hl0
  go_enter Try.func14, Try.ntmps14
  go_wp2_with fail
  go_loopw [6] (fun i wr => ∃ k : Nat, k ≤ n ∧ i = .int .i64 (k : Nat) ∧ ∃ zs : List Nat, zs.length = n ∧ RowU wr w.heap.size zs ∧ Add w wr) (fun i _ => n - (intOf i).toNat)
  case atStart => exact ⟨0, Nat.zero_le _, rfl, HST.out⟩
  case round =>
    obtain ⟨k, hk, rfl, zs, hz, hr, ha⟩ := hrel
    by_cases hlt : k < n
    · have hc0 := hr.cell (i := k) (by omega)
      have hf0 := frozen_of_row wr w.heap.size k _ _ hr
      have HN := Lib.hid (show ∃ zs : List Nat, zs.length = n ∧ RowU (wr.setCell ⟨w.heap.size, k, none⟩ (.int .u8 (c : Nat))) w.heap.size zs ∧ Add w (wr.setCell ⟨w.heap.size, k, none⟩ (.int .u8 (c : Nat))) from ⟨zs.set k c, by simp [hz], hr.set k c, ha.setCell (Nat.le_refl _) _⟩)
      obtain ⟨y, ey⟩ : ∃ y, y = zs.getD k 0 := ⟨_, rfl⟩
      rw [← ey] at hc0
      clear hr ha hz ey
      go_wp2_with fail
      go_roundw
      case rel => exact ⟨k + 1, by omega, by go_num, HN.out⟩
      case measure => simp [intOf]; omega
    · obtain rfl : k = n := by omega
      have hcv : (convert 33 9 (.slice (some ⟨w.heap.size, 0, none⟩) k k)).run Try.prog wr = .ok (.string (strOfNums (zs.map fun x : Nat => (x : Int)))) wr :=
        run_convert_bytes_arg (P := Try.prog) wr 33 5 Try.underlying33 Try.underlying5 w.heap.size 0 k k (zs.map fun x : Nat => (x : Int)) (by rw [List.length_map, hz]) (fun i hi => by
          rw [Nat.zero_add, hr.cell (by omega)]
          simp [List.getD, hz, hi]) 9 Try.underlying9
      have HS := Lib.hid (show (strOfNums (zs.map fun x : Nat => (x : Int))).size = k by rw [strOfNums_size, List.length_map, hz])
      have HA := Lib.hid ha
      clear hr ha hz
      go_wp2_with fail
      go_ret
      exact ⟨_, rfl, HS.out, HA.out⟩
theorem rowS_any (c z : Int) (hc : 0 ≤ c) (hz : 0 ≤ z ∧ z ≤ 100000) (w : World) : Calls Try.prog 14 #[.int .u8 c, .int .i64 z] w (RetS w z.toNat) := by
  have := row_of c.toNat z.toNat (by omega) w
  rw [Int.toNat_of_nonneg hc, Int.toNat_of_nonneg hz.1] at this
  exact this
end Go.Proofs.Ytdgpcijiempmdaa
