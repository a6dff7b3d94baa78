/- Package lexer: awake; IsName. -/
import Derived.Test.YtdgpcijiempmdaaK13
namespace Go.Proofs.Ytdgpcijiempmdaa
open Go.RowKit LxM

/-- True is returned; new blocks are laid at most. -/
def LawB (w : World) (e : Ending) (w' : World) : Prop := e = .returned (.bool true) ∧ Add w w'
/-- What Scan returns for the text of the sanity check. -/
def ScA (w : World) (e : Ending) (w' : World) : Prop :=
  ∃ b c, e = .returned (.tuple #[.slice (some ⟨b, 0, none⟩) 6 c, .int .i64 0, .agg #[.int .i64 0, .int .i64 0]]) ∧ b < w'.heap.size ∧ w'.cell? ⟨b, 0, none⟩ = some (.int .i64 1) ∧ w'.cell? ⟨b, 1, none⟩ = some (.string ⟨#[97, 45, 49]⟩) ∧
    w'.cell? ⟨b, 14, none⟩ = some (.int .i64 1) ∧ w'.cell? ⟨b, 15, none⟩ = some (.int .i64 7) ∧ w'.cell? ⟨b, 20, none⟩ = some (.int .i64 4) ∧ w'.cell? ⟨b, 22, none⟩ = some (.int .i64 1) ∧ w'.cell? ⟨b, 23, none⟩ = some (.int .i64 13) ∧ Add w w'
theorem scanA_any (w : World) : Calls Try.prog 9 #[.string ⟨#[97, 45, 49, 32, 49, 47, 50, 59, 32, 35, 32, 120]⟩] w (ScA w) := by
  have h := scan_any sA w (by decide)
  rw [scan_A] at h
  refine h.mono fun e w1 ⟨v, he, hT, ha⟩ => ?_
  subst he
  obtain ⟨ao, c, rfl, -⟩ := hT.isSlice
  have hT' : ToksB w1 (.slice ao 6 c) tsA := hT
  obtain ⟨b, rfl, x0, x1, -, -⟩ := hT'.cell (i := 0) (by decide)
  obtain ⟨b', eb, -, -, x2, x3⟩ := hT'.cell (i := 3) (by decide)
  obtain rfl : b = b' := by injection eb with eb; injection eb
  obtain ⟨b', eb, x4, -, x5, x6⟩ := hT'.cell (i := 5) (by decide)
  obtain rfl : b = b' := by injection eb with eb; injection eb
  exact ⟨b, c, rfl, World.block_lt_of_cell? w1 _ x0, x0, x1, x2, x3, x4, x5, x6, ha⟩

set_option maxRecDepth 100000 in
set_option maxHeartbeats 2000000 in
theorem awake_any (w : World) : Calls Try.prog 8 #[] w (LawB w) := by
  go_enter Try.func8, Try.ntmps8
  go_wp2_with fail
  refine (scanA_any w).mono ?_
  rintro e w1 ⟨b, c, rfl, hb, x0, x1, x2, x3, x4, x5, x6, ha⟩
  have HA := Lib.hid ha
  clear ha
  go_wp2_with fail
  go_ret
  exact ⟨rfl, Add.trans HA.out (add_new _ _)⟩
end Go.Proofs.Ytdgpcijiempmdaa
