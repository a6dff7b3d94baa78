/- The helper Rows of package drydocksame: two lists of the same rows. -/
import Derived.Test.YtahjijpoihljjaaG13
import Derived.Test.YtahjijpoihljjaaG8
import Derived.StillTailTactics
namespace Go.Proofs.Ytahjijpoihljjaa
open Go.RowKit GfM

theorem Reads.conv {w : World} {ao : Option Addr} {n c : Nat} {xs : List Nat} (h : Reads w (.slice ao n c) xs) (h0 : 0 < n) (q : Nat) : (convert 34 9 (.slice ao n c)).run Try.prog (w.drewN q) = .ok (.string (strOf xs)) (w.drewN q) := by
  obtain ⟨ao', n', c', e, hl, hc, hm, hx, hr⟩ := h
  cases e
  obtain ⟨b, off, rfl, g⟩ := hr h0
  refine run_convert_bytes_arg (P := Try.prog) (w.drewN q) 34 5 Try.underlying34 Try.underlying5 b off n c (xs.map fun n : Nat => (n : Int)) (by rw [List.length_map, hl]) (fun i hi => ?_) 9 Try.underlying9
  have := g i hi
  show w.cell? _ = _
  rw [this]
  simp [List.getD, hl, hi]
/-- True is returned, and nothing changes but a count of draws. -/
def QT (w : World) (e : Ending) (w' : World) : Prop := e = .returned (.bool true) ∧ ∃ q, w' = w.drewN q
set_option maxRecDepth 100000 in
set_option maxHeartbeats 1000000 in
theorem sameRows_any {w : World} {v v2 : Value} {vs vs2 : List Value} {rs : List (List Nat)} (h : RowsB w v vs rs) (h2 : RowsB w v2 vs2 rs) (hp : ∀ k, k < rs.length → 0 < (rs.getD k []).length) :
    Calls Try.prog 28 #[v, v2] w (QT w) := by
  obtain ⟨ao, c, rfl, hm⟩ := h.isSlice
  obtain ⟨ao2, c2, rfl, _⟩ := h2.isSlice
  unfold maxLen at hm
  obtain ⟨n, en⟩ : ∃ n, n = rs.length := ⟨_, rfl⟩
  rw [← en] at h h2 hm ⊢
  have H1 := Lib.hid h
  have H2 := Lib.hid h2
  have HP := Lib.hid hp
  have EN := Lib.hid en
  clear h h2 hp en
  go_enter Try.func28, Try.ntmps28
  go_wp2_with fail
  go_loopw [5] (fun i wr => ∃ k : Nat, k ≤ n ∧ i = .int .i64 (k : Nat) ∧ ∃ q, wr = w.drewN q) (fun i _ => n - (intOf i).toNat)
  case atStart => exact ⟨0, Nat.zero_le _, rfl, 0, rfl⟩
  case round =>
    obtain ⟨k, hk, rfl, q, rfl⟩ := hrel
    by_cases h0 : k = n
    · subst h0
      go_wp2_with fail
      go_ret
      exact ⟨rfl, _, rfl⟩
    · have hlt : k < n := by omega
      obtain ⟨b, off, a, l, cc, rfl, -, el, hl, hcell, hrd⟩ := H1.out.row hlt
      obtain ⟨b', off', a', l', cc', rfl, -, el', hl', hcell', hrd'⟩ := H2.out.row hlt
      have hp := HP.out k (by rw [← EN.out]; exact hlt)
      have hcv := hrd.conv (by rw [el]; exact hp)
      have hcv' := hrd'.conv (by rw [el']; exact hp)
      clear el hrd el' hrd' hp h0
      go_wp2_with fail
      go_quiet (fail)
      go_wp2_with fail
      go_roundw
      case rel => exact ⟨k + 1, by omega, by go_num, _, by first | rfl | exact World.drewN_drewN _ _ _⟩
      case measure => simp [intOf]; omega
end Go.Proofs.Ytahjijpoihljjaa
