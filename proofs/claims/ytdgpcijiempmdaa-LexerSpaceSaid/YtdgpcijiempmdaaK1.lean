/- Package lexer and its reference: the classes of bytes. -/
import Derived.Test.YtdgpcijiempmdaaKm
import Derived.WalkKit
import Derived.WalkSpells
import Derived.WalkLawsBesides
import Derived.Lib.Hide
import Derived.Lib.Strings
import Derived.Lib.Slices
import Derived.Lib.Walk
import Derived.Lib.Bytealg
import Derived.Deep.QuietTactic
import Derived.BigQuiet
import Derived.LoopTactic
namespace Go.Proofs.Ytdgpcijiempmdaa
open Go.RowKit LxM

/-- A bool is returned, and nothing changes. -/
def RetBo (w : World) (b : Bool) (e : Ending) (w' : World) : Prop := e = .returned (.bool b) ∧ w = w'
theorem retBo {w : World} {b c : Bool} (h : b = c) : RetBo w c (.returned (.bool b)) w := ⟨by rw [h], rfl⟩

theorem isLetter_any (c : Nat) (w : World) : Calls Try.prog 26 #[.int .u8 (c : Nat)] w (RetBo w (letter c)) := by
  go_enter Try.func26, Try.ntmps26
  go_wp2
  all_goals
    go_ret
    exact retBo (by unfold letter; rw [Bool.eq_iff_iff]; simp <;> omega)
theorem isDigit_any (c : Nat) (w : World) : Calls Try.prog 33 #[.int .u8 (c : Nat)] w (RetBo w (digit c)) := by
  go_enter Try.func33, Try.ntmps33
  go_wp2
  all_goals
    go_ret
    exact retBo (by unfold digit; rw [Bool.eq_iff_iff]; simp <;> omega)
theorem isSpace_any (c : Nat) (w : World) : Calls Try.prog 30 #[.int .u8 (c : Nat)] w (RetBo w (space c)) := by
  go_enter Try.func30, Try.ntmps30
  go_wp2
  all_goals
    go_ret
    exact retBo (by unfold space; rw [Bool.eq_iff_iff]; simp <;> omega)
theorem notLF_any (c : Nat) (w : World) : Calls Try.prog 31 #[.int .u8 (c : Nat)] w (RetBo w (notLF c)) := by
  go_enter Try.func31, Try.ntmps31
  go_wp2
  all_goals
    go_ret
    exact retBo (by unfold notLF; rw [Bool.eq_iff_iff]; simp <;> omega)
theorem refLetter_any (c : Nat) (w : World) : Calls Try.prog 22 #[.int .u8 (c : Nat)] w (RetBo w (letter c)) := by
  go_enter Try.func22, Try.ntmps22
  go_wp2
  all_goals
    go_ret
    exact retBo (by unfold letter; rw [Bool.eq_iff_iff]; simp <;> omega)
theorem refDigit_any (c : Nat) (w : World) : Calls Try.prog 24 #[.int .u8 (c : Nat)] w (RetBo w (digit c)) := by
  go_enter Try.func24, Try.ntmps24
  go_wp2
  all_goals
    go_ret
    exact retBo (by unfold digit; rw [Bool.eq_iff_iff]; simp <;> omega)
theorem refSpace_any (c : Nat) (w : World) : Calls Try.prog 21 #[.int .u8 (c : Nat)] w (RetBo w (space c)) := by
  go_enter Try.func21, Try.ntmps21
  go_wp2
  all_goals
    go_ret
    exact retBo (by unfold space; rw [Bool.eq_iff_iff]; simp <;> omega)
theorem refSign_any (c : Nat) (w : World) : Calls Try.prog 25 #[.int .u8 (c : Nat)] w (RetBo w (sign c)) := by
  go_enter Try.func25, Try.ntmps25
  go_wp2
  all_goals
    go_ret
    exact retBo (by unfold sign; rw [Bool.eq_iff_iff]; simp <;> omega)
theorem isNameByte_any (c : Nat) (w : World) : Calls Try.prog 28 #[.int .u8 (c : Nat)] w (RetBo w (inName c)) := by
  have hd : inName c = (letter c || digit c || decide (c = 45 ∨ c = 46)) := by
    rw [Bool.eq_iff_iff]; simp [inName, letter, digit]; omega
  rw [hd]
  clear hd
  cases hl : letter c
  · cases hg : digit c
    · have HL := isLetter_any c
      have HD := isDigit_any c
      rw [hl] at HL
      rw [hg] at HD
      have H1 := Lib.hid HL
      have H2 := Lib.hid HD
      clear HL HD hl hg
      go_enter Try.func28, Try.ntmps28
      go_wp2_with (first | (go_at_call 26; (with_reducible refine (H1.out _).mono ?_); rintro e w' ⟨rfl, rfl⟩) | (go_at_call 33; (with_reducible refine (H2.out _).mono ?_); rintro e w' ⟨rfl, rfl⟩))
      all_goals
        go_ret
        exact retBo (by rw [Bool.eq_iff_iff]; simp <;> omega)
    · have HL := isLetter_any c
      have HD := isDigit_any c
      rw [hl] at HL
      rw [hg] at HD
      have H1 := Lib.hid HL
      have H2 := Lib.hid HD
      clear HL HD hl hg
      go_enter Try.func28, Try.ntmps28
      go_wp2_with (first | (go_at_call 26; (with_reducible refine (H1.out _).mono ?_); rintro e w' ⟨rfl, rfl⟩) | (go_at_call 33; (with_reducible refine (H2.out _).mono ?_); rintro e w' ⟨rfl, rfl⟩))
      go_ret
      exact retBo rfl
  · have HL := isLetter_any c
    rw [hl] at HL
    have H1 := Lib.hid HL
    clear HL hl
    go_enter Try.func28, Try.ntmps28
    go_wp2_with (go_at_call 26; (with_reducible refine (H1.out _).mono ?_); rintro e w' ⟨rfl, rfl⟩)
    go_ret
    exact retBo (by simp)
theorem refInName_any (c : Nat) (w : World) : Calls Try.prog 23 #[.int .u8 (c : Nat)] w (RetBo w (inName c)) := by
  have hd : inName c = (letter c || digit c || decide (c = 45 ∨ c = 46)) := by
    rw [Bool.eq_iff_iff]; simp [inName, letter, digit]; omega
  rw [hd]
  clear hd
  cases hl : letter c
  · cases hg : digit c
    · have HL := refLetter_any c
      have HD := refDigit_any c
      rw [hl] at HL
      rw [hg] at HD
      have H1 := Lib.hid HL
      have H2 := Lib.hid HD
      clear HL HD hl hg
      go_enter Try.func23, Try.ntmps23
      go_wp2_with (first | (go_at_call 22; (with_reducible refine (H1.out _).mono ?_); rintro e w' ⟨rfl, rfl⟩) | (go_at_call 24; (with_reducible refine (H2.out _).mono ?_); rintro e w' ⟨rfl, rfl⟩))
      all_goals
        go_ret
        exact retBo (by rw [Bool.eq_iff_iff]; simp <;> omega)
    · have HL := refLetter_any c
      have HD := refDigit_any c
      rw [hl] at HL
      rw [hg] at HD
      have H1 := Lib.hid HL
      have H2 := Lib.hid HD
      clear HL HD hl hg
      go_enter Try.func23, Try.ntmps23
      go_wp2_with (first | (go_at_call 22; (with_reducible refine (H1.out _).mono ?_); rintro e w' ⟨rfl, rfl⟩) | (go_at_call 24; (with_reducible refine (H2.out _).mono ?_); rintro e w' ⟨rfl, rfl⟩))
      go_ret
      exact retBo rfl
  · have HL := refLetter_any c
    rw [hl] at HL
    have H1 := Lib.hid HL
    clear HL hl
    go_enter Try.func23, Try.ntmps23
    go_wp2_with (go_at_call 22; (with_reducible refine (H1.out _).mono ?_); rintro e w' ⟨rfl, rfl⟩)
    go_ret
    exact retBo (by simp)
set_option maxRecDepth 100000 in
theorem indexByteN (s : ByteArray) (c : Nat) (w : World) : Calls Try.prog 38 #[.string s, .int .u8 (c : Nat)] w fun e w' => e = .returned (.int .i64 (Lib.indexByte s.data.toList (c : Int).toNat.toUInt8)) ∧ w = w' := by
  go_enter Try.func38, Try.ntmps38
  go_wp2
  rw [run_callFunc_extern Try.func40 (by kernel_rfl) (by kernel_rfl) (by kernel_rfl) (e := Extern.BytealgIndexByte.indexByte) (by kernel_rfl), Lib.run_indexByteString]
  simp only [Result.andThen]
  rw [Oper.upon_value]
  go_wp2
  go_ret
  exact ⟨rfl, rfl⟩
theorem indexByteS (s : ByteArray) (c : Nat) (w : World) : Calls Try.prog 36 #[.string s, .int .u8 (c : Nat)] w fun e w' => e = .returned (.int .i64 (Lib.indexByte s.data.toList (c : Int).toNat.toUInt8)) ∧ w = w' := by
  go_enter Try.func36, Try.ntmps36
  go_wp2_with (go_at_call 38; (with_reducible refine (indexByteN _ _ _).mono ?_); rintro e w' ⟨rfl, rfl⟩)
  go_ret
  exact ⟨rfl, rfl⟩
theorem sign_at : ∀ c < 256, decide (0 ≤ Lib.indexByte [123, 125, 59, 44, 43, 47] ((c : Nat) : Int).toNat.toUInt8) = sign c := by decide +kernel
theorem isSign_any (c : Nat) (hc : c < 256) (w : World) : Calls Try.prog 34 #[.int .u8 (c : Nat)] w (RetBo w (sign c)) := by
  have h := sign_at c hc
  obtain ⟨k, hk⟩ : ∃ k, k = Lib.indexByte [123, 125, 59, 44, 43, 47] ((c : Nat) : Int).toNat.toUInt8 := ⟨_, rfl⟩
  have HC : Hid (∀ w, Calls Try.prog 36 #[.string ⟨#[123, 125, 59, 44, 43, 47]⟩, .int .u8 (c : Nat)] w fun e w' => e = .returned (.int .i64 k) ∧ w = w') := Lib.hid (by rw [hk]; exact indexByteS _ c)
  rw [← hk] at h
  rw [← h]
  clear hk h
  go_enter Try.func34, Try.ntmps34
  go_wp2_with (go_at_call 36; (with_reducible refine (HC.out _).mono ?_); rintro e w' ⟨rfl, rfl⟩)
  go_ret
  exact retBo rfl
end Go.Proofs.Ytdgpcijiempmdaa
