/- Layer 8: LexerExact. -/
import Derived.Test.YtdgpcijiempmdaaK14
namespace Go.Proofs.Ytdgpcijiempmdaa
open Go.RowKit LxM

set_option maxRecDepth 100000 in
set_option maxHeartbeats 4000000 in
theorem exact_any (s : ByteArray) (w : World) (hs : s.size ≤ maxLen) : Calls Try.prog 3 #[.string s] w (LawB w) := by
  unfold maxLen at hs
  by_cases hl : 9000 < s.size
  · have d : decide ((9000 : Int) < (s.size : Int)) = true := decide_eq_true (by omega)
    go_enter Try.func3, Try.ntmps3
    go_wp2_with fail
    refine (awake_any w).mono ?_
    rintro e w1 ⟨rfl, ha⟩
    go_wp2_with fail
    go_ret
    exact ⟨rfl, ha⟩
  · have d : decide ((9000 : Int) < (s.size : Int)) = false := decide_eq_false (by omega)
    obtain ⟨⟨n, ts, l, c⟩, hr⟩ : ∃ r, scanT s = r := ⟨_, rfl⟩
    have CS : Hid (∀ w, Calls Try.prog 9 #[.string s] w (ScanP w ⟨n, ts, l, c⟩)) := Lib.hid fun w => by rw [← hr]; exact scan_any s w (by omega)
    have CR : Hid (∀ w, Calls Try.prog 10 #[.string s] w (ScanP w ⟨n, ts, l, c⟩)) := Lib.hid fun w => by rw [← hr]; exact refScan_any s w (by omega)
    clear hr
    go_enter Try.func3, Try.ntmps3
    go_wp2_with fail
    refine (CS.out w).mono ?_
    rintro e w1 ⟨v1, rfl, hT1, ha1⟩
    have HT1 := Lib.hid hT1
    have HA1 := Lib.hid ha1
    clear hT1 ha1
    dsimp only
    go_wp2_with fail
    obtain ⟨W1, hW1⟩ : ∃ W1, W1 = w1.alloc (.cells #[.int .i64 (l : Nat), .int .i64 (c : Nat)] 26) := ⟨_, rfl⟩
    have HP1 : Hid (PosB W1 w1.heap.size l c) := Lib.hid (by rw [hW1]; exact pos_new w1 l c)
    have HAW : Hid (Add w1 W1) := Lib.hid (by rw [hW1]; exact add_new _ _)
    rw [← hW1]
    clear hW1
    refine (CR.out W1).mono ?_
    rintro e w2 ⟨v2, rfl, hT2, ha2⟩
    have p1 := HP1.out.mono ha2
    have x0 := p1.c0
    have x1 := p1.c1
    have hlt := p1.lt
    have HT2 := Lib.hid hT2
    have HA2 := Lib.hid ha2
    clear hT2 ha2 p1
    dsimp only
    have CM : Hid (∀ w', Add w2 w' → Calls Try.prog 11 #[v1, v2] w' (RetQ w' true)) := Lib.hid fun w' hh => same_any (((HT1.out.mono HAW.out).mono HA2.out).mono hh) (HT2.out.mono hh)
    go_wp2_with fail
    refine (CM.out _ (add_new _ _)).mono ?_
    rintro e w3 ⟨rfl, q, rfl⟩
    go_wp2_with fail
    refine (awake_any _).mono ?_
    rintro e w4 ⟨rfl, ha⟩
    have HF := Lib.hid (show Add w w4 from Add.trans (Add.trans (Add.trans (Add.trans HA1.out HAW.out) HA2.out) (Add.trans (add_new _ _) (add_drewN _ _))) ha)
    clear ha
    go_wp2_with fail
    go_ret
    exact ⟨rfl, HF.out⟩
end Go.Proofs.Ytdgpcijiempmdaa
