/- Package lexer: strings.Clone (the library's own contract, at this program). -/
import Derived.Test.YtdgpcijiempmdaaK4
import Derived.Shelf.Strconv.Clone
namespace Go.Proofs.Ytdgpcijiempmdaa
open Go.RowKit LxM Go.Shelf

/-- The numbers that the library's contract uses, and those of this program. -/
def renC : Ren := ⟨fun n => if n = 316 then 39 else n, fun n => if n = 37 then 33 else if n = 127 then 54 else n, fun n => n⟩
theorem laysC : LaysM.n316 Try.prog renC := {
  mixed := by kernel_rfl
  f316 := by kernel_rfl
  t0 := by kernel_rfl
  a0 := fun _ => by kernel_rfl
  z0 := fun _ => by kernel_rfl
  v0 := fun _ => by kernel_rfl
  i0 := by kernel_rfl
  t3 := by kernel_rfl
  a3 := fun _ => by kernel_rfl
  z3 := fun _ => by kernel_rfl
  v3 := fun _ => by kernel_rfl
  i3 := by kernel_rfl
  t4 := by kernel_rfl
  a4 := fun _ => by kernel_rfl
  z4 := fun _ => by kernel_rfl
  v4 := fun _ => by kernel_rfl
  i4 := by kernel_rfl
  t5 := by kernel_rfl
  a5 := fun _ => by kernel_rfl
  z5 := fun _ => by kernel_rfl
  v5 := fun _ => by kernel_rfl
  i5 := by kernel_rfl
  t9 := by kernel_rfl
  a9 := fun _ => by kernel_rfl
  z9 := fun _ => by kernel_rfl
  v9 := fun _ => by kernel_rfl
  i9 := by kernel_rfl
  t37 := by kernel_rfl
  a37 := fun _ => by kernel_rfl
  z37 := fun _ => by kernel_rfl
  v37 := fun _ => by kernel_rfl
  i37 := by kernel_rfl
  t127 := by kernel_rfl
  a127 := fun _ => by kernel_rfl
  z127 := fun _ => by kernel_rfl
  v127 := fun _ => by kernel_rfl
  i127 := by kernel_rfl
}
theorem cloneS_any (s : ByteArray) (w : World) (hs : s.size ≤ 1000000) : Calls Try.prog 37 #[.string s] w (fun e w' => e = .returned (.string s) ∧ Add w w') := by
  have C : Hid (Calls Try.prog 39 #[.string s] w (fun e w' => e = .returned (.string s) ∧ Below w.heap.size w w')) := Lib.hid (Any.stringslite_Clone laysC s w (by omega))
  go_enter Try.func37, Try.ntmps37
  go_wp2_with (go_at_call 39; (with_reducible refine C.out.mono ?_); rintro e w' ⟨rfl, hb⟩)
  go_ret
  exact ⟨rfl, by assumption⟩
end Go.Proofs.Ytdgpcijiempmdaa
