/- Package lexer and its reference: IsName. -/
import Derived.Test.YtdgpcijiempmdaaK14
namespace Go.Proofs.Ytdgpcijiempmdaa
open Go.RowKit LxM

theorem bt_zero {s : ByteArray} (h : 0 < s.size) : (s[0]).toNat = bt s 0 := bt_in h

set_option maxRecDepth 100000 in
set_option maxHeartbeats 2000000 in
theorem isName_any (s : ByteArray) (w : World) (hs : s.size ≤ 1000000) : Calls Try.prog 12 #[.string s] w (RetBo w (nameB s)) := by
  by_cases h0 : s.size = 0
  · have e : s = ⟨#[]⟩ := ByteArray.ext (Array.eq_empty_of_size_eq_zero h0)
    subst e
    go_enter Try.func12, Try.ntmps12
    go_wp2_with fail
    go_ret
    exact retBo (by unfold nameB; rfl)
  · have hne : s.toList.isEmpty = false := by
      rw [ByteArray.toList_eq]
      cases e : s.data.toList with
      | nil => exfalso; apply h0; rw [Lib.size_eq, e]; rfl
      | cons a l => rfl
    have hp : 0 < s.size := by omega
    have hb := bt_in hp
    by_cases h16 : s.size ≤ 16
    · have CL : ∀ w, Calls Try.prog 26 #[.int .u8 (s[0].toNat : Nat)] w (RetBo w (letter (bt s 0))) := fun w => by rw [hb]; exact isLetter_any _ w
      have CR : Hid (∀ w, Calls Try.prog 27 #[.string s, .int .i64 0, .func (.func 28) #[] #[]] w (RetI w (rowE inName s 0))) := Lib.hid fun w => rowEnd_any _ inName s 0 w hs (by omega) eNameByte (Lib.hid fun c w _ => isNameByte_any c w)
      obtain ⟨e, he⟩ : ∃ e, e = rowE inName s 0 := ⟨_, rfl⟩
      rw [← he] at CR
      cases hl : letter (bt s 0)
      · rw [hl] at CL
        have HL := Lib.hid CL
        have HB := Lib.hid (show nameB s = false by unfold nameB; rw [hl]; simp)
        clear CL hb hl he h0
        go_enter Try.func12, Try.ntmps12
        go_wp2_with (go_at_call 26; (with_reducible refine (HL.out _).mono ?_); rintro e' w' ⟨rfl, rfl⟩)
        go_ret
        exact retBo (by rw [HB.out])
      · rw [hl] at CL
        have HL := Lib.hid CL
        have HB := Lib.hid (show nameB s = ((e : Int) == (s.size : Int)) by
          unfold nameB; rw [hl, ← he, Bool.eq_iff_iff]; simp; omega)
        clear CL hb hl he h0
        go_enter Try.func12, Try.ntmps12
        go_wp2_with (first | (go_at_call 26; (with_reducible refine (HL.out _).mono ?_); rintro e' w' ⟨rfl, rfl⟩) | (go_at_call 27; (with_reducible refine (CR.out _).mono ?_); rintro e' w' ⟨rfl, rfl⟩))
        go_ret
        exact retBo (by rw [HB.out])
    · have HB := Lib.hid (show nameB s = false by unfold nameB; rw [decide_eq_false]; omega)
      clear hb h0
      go_enter Try.func12, Try.ntmps12
      go_wp2_with fail
      go_ret
      exact retBo (by rw [HB.out])

set_option maxRecDepth 100000 in
set_option maxHeartbeats 2000000 in
theorem refIsName_any (s : ByteArray) (w : World) (hs : s.size ≤ 1000000) : Calls Try.prog 13 #[.string s] w (RetBo w (nameB s)) := by
  by_cases h0 : s.size < 1
  · have d : decide ((s.size : Int) < 1) = true := decide_eq_true (by omega)
    have HB := Lib.hid (show nameB s = false by unfold nameB; rw [decide_eq_false]; omega)
    go_enter Try.func13, Try.ntmps13
    go_wp2_with fail
    go_ret
    exact retBo (by rw [HB.out])
  · have d : decide ((s.size : Int) < 1) = false := decide_eq_false (by omega)
    by_cases h16 : 16 < s.size
    · have d2 : decide ((16 : Int) < (s.size : Int)) = true := decide_eq_true (by omega)
      have HB := Lib.hid (show nameB s = false by unfold nameB; rw [decide_eq_false]; omega)
      go_enter Try.func13, Try.ntmps13
      go_wp2_with fail
      go_ret
      exact retBo (by rw [HB.out])
    · have d2 : decide ((16 : Int) < (s.size : Int)) = false := decide_eq_false (by omega)
      have hp : 0 < s.size := by omega
      have hb := bt_in hp
      have CL : ∀ w, Calls Try.prog 22 #[.int .u8 (s[0].toNat : Nat)] w (RetBo w (letter (bt s 0))) := fun w => by rw [hb]; exact refLetter_any _ w
      cases hl : letter (bt s 0)
      · rw [hl] at CL
        have HL := Lib.hid CL
        have HB := Lib.hid (show nameB s = false by unfold nameB; rw [hl]; simp)
        clear CL hb hl h0
        go_enter Try.func13, Try.ntmps13
        go_wp2_with (go_at_call 22; (with_reducible refine (HL.out _).mono ?_); rintro e' w' ⟨rfl, rfl⟩)
        go_ret
        exact retBo (by rw [HB.out])
      · rw [hl] at CL
        have HL := Lib.hid CL
        have HB := Lib.hid (show nameB s = decide (rowE inName s 0 = s.size) by
          unfold nameB; rw [hl, Bool.eq_iff_iff]; simp; omega)
        clear CL hb hl h0
        go_enter Try.func13, Try.ntmps13
        go_wp2_with (go_at_call 22; (with_reducible refine (HL.out _).mono ?_); rintro e' w' ⟨rfl, rfl⟩)
        go_loop [3] (fun i => ∃ k : Nat, k ≤ s.size ∧ i = .int .i64 (k : Nat) ∧ Hid (rowE inName s k = rowE inName s 0)) (fun i => s.size - (intOf i).toNat)
        case atStart => exact ⟨0, Nat.zero_le _, rfl, rfl⟩
        case round =>
          obtain ⟨k, hk, rfl, HE⟩ := hrel
          by_cases hlt : k < s.size
          · have hb := bt_in hlt
            have CI : ∀ w, Calls Try.prog 23 #[.int .u8 (s[k].toNat : Nat)] w (RetBo w (inName (bt s k))) := fun w => by rw [hb]; exact refInName_any _ w
            cases hc : inName (bt s k)
            · rw [hc] at CI
              have HI := Lib.hid CI
              have HR := Lib.hid (show nameB s = false by
                rw [HB.out, ← HE.out, rowE_out (by rw [hc]; simp)]
                exact decide_eq_false (by omega))
              clear CI hc hb
              go_wp2_with (go_at_call 23; (with_reducible refine (HI.out _).mono ?_); rintro e' w' ⟨rfl, rfl⟩)
              go_ret
              exact retBo (by rw [HR.out])
            · rw [hc] at CI
              have HI := Lib.hid CI
              have HR := Lib.hid (show rowE inName s (k + 1) = rowE inName s 0 by rw [← HE.out, rowE_in hlt hc])
              clear CI hc hb
              go_wp2_with (go_at_call 23; (with_reducible refine (HI.out _).mono ?_); rintro e' w' ⟨rfl, rfl⟩)
              go_round
              case rel => exact ⟨k + 1, by omega, by go_num, HR⟩
              case measure => simp [intOf]; omega
          · have HR := Lib.hid (show nameB s = true by
              rw [HB.out, ← HE.out, rowE_out (by omega)]
              exact decide_eq_true (by omega))
            go_wp2_with fail
            go_ret
            exact retBo (by rw [HR.out])
end Go.Proofs.Ytdgpcijiempmdaa
