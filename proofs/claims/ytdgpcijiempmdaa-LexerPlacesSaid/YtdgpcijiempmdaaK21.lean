/- Layer 8: LexerPlaces: the law. -/
import Derived.Test.YtdgpcijiempmdaaK20
namespace Go.Proofs.Ytdgpcijiempmdaa
open Go.RowKit LxM

set_option maxRecDepth 100000 in
set_option maxHeartbeats 2000000 in
theorem places_err (s : ByteArray) (w : World) (hl : s.size ≤ 2000) (n lr cr : Nat) (hn : n ≠ 0) (hr : scan s 0 [] = ⟨n, [], lr, cr⟩) : Calls Try.prog 5 #[.string s] w (LawB w) := by
  have d : decide ((2000 : Int) < (s.size : Int)) = false := decide_eq_false (by omega)
  have CS : Hid (∀ w, Calls Try.prog 9 #[.string s] w (ScanP w ⟨n, [], lr, cr⟩)) := Lib.hid fun w => scan_at s w (by omega) hr
  have hn1 : ((n : Int) != 0) = true := by rw [bne]; simp; omega
  clear hr hn
  go_enter Try.func5, Try.ntmps5
  go_wp2_with fail
  refine (CS.out w).mono ?_
  rintro e w1 ⟨v, rfl, hT, ha⟩
  obtain ⟨ao, c', rfl, -⟩ := hT.isSlice
  have HA := Lib.hid ha
  clear hT ha
  dsimp only [List.length_nil]
  go_wp2_with fail
  refine (awake_any _).mono ?_
  rintro e w4 ⟨rfl, ha⟩
  have HF := Lib.hid (show Add w w4 from Add.trans (Add.trans HA.out (add_new _ _)) ha)
  clear ha
  go_wp2_with fail
  go_ret
  exact ⟨rfl, HF.out⟩
set_option maxRecDepth 100000 in
theorem places_any (s : ByteArray) (w : World) (hs : s.size ≤ maxLen) : Calls Try.prog 5 #[.string s] w (LawB w) := by
  unfold maxLen at hs
  by_cases hl : 2000 < s.size
  · have d : decide ((2000 : Int) < (s.size : Int)) = true := decide_eq_true (by omega)
    go_enter Try.func5, Try.ntmps5
    go_wp2_with fail
    refine (awake_any w).mono ?_
    rintro e w1 ⟨rfl, ha⟩
    go_wp2_with fail
    go_ret
    exact ⟨rfl, ha⟩
  · obtain ⟨⟨n, ts, l, c⟩, hr⟩ : ∃ r, scan s 0 [] = r := ⟨_, rfl⟩
    by_cases hn : n = 0
    · subst hn
      exact places_ok s w (by omega) ts l c hr
    · have := scan_fail s 0 [] (Nat.zero_le _) (by rw [hr]; exact hn)
      rw [hr] at this
      have e : ts = [] := this
      subst e
      exact places_err s w (by omega) n l c hn hr
end Go.Proofs.Ytdgpcijiempmdaa
