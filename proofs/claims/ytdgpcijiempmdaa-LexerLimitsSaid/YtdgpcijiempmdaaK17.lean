/- Layer 8: LexerLimits. -/
import Derived.Test.YtdgpcijiempmdaaK16
namespace Go.Proofs.Ytdgpcijiempmdaa
open Go.RowKit LxM

theorem size_nl : (⟨#[10]⟩ : ByteArray).size = 1 := rfl
theorem size_bang : (⟨#[33]⟩ : ByteArray).size = 1 := rfl
/-- Both scans of one text. -/
def Both (s : ByteArray) (r : Res) : Prop := (∀ w, Calls Try.prog 9 #[.string s] w (ScanP w r)) ∧ ∀ w, Calls Try.prog 10 #[.string s] w (ScanP w r)
theorem both_any (s : ByteArray) (h : s.size ≤ 1000000) : ∃ n ts l c, Both s ⟨n, ts, l, c⟩ := by
  obtain ⟨⟨n, ts, l, c⟩, hr⟩ : ∃ r, scanT s = r := ⟨_, rfl⟩
  exact ⟨n, ts, l, c, fun w => by rw [← hr]; exact scan_any s w h, fun w => by rw [← hr]; exact refScan_any s w h⟩
theorem pos_var (w : World) (l c : Nat) : ∃ W, W = w.alloc (.cells #[.int .i64 (l : Nat), .int .i64 (c : Nat)] 26) ∧ PosB W w.heap.size l c ∧ Add w W := ⟨_, rfl, pos_new w l c, add_new _ _⟩

set_option maxRecDepth 100000 in
set_option maxHeartbeats 8000000 in
theorem limits_even (n m b : Nat) (hn : n < 256) (hm : m < 256) (hb : b < 256) (w : World) :
    Calls Try.prog 7 #[.int .u8 (n : Nat), .int .u8 (m : Nat), .int .u8 (b : Nat), .bool false] w (LawB w) := by
  go_enter Try.func7, Try.ntmps7
  go_wp2_with fail
  refine (rowS_any _ _ (by omega) (by omega) _).mono ?_
  rintro e w1 ⟨s1, rfl, z1, a1⟩
  have A1 := Lib.hid a1
  clear a1
  go_wp2_with fail
  refine (rowS_any _ _ (by omega) (by omega) _).mono ?_
  rintro e w2 ⟨s2, rfl, z2, a2⟩
  have A2 := Lib.hid a2
  clear a2
  go_wp2_with fail
  refine (rowS_any _ _ (by omega) (by omega) _).mono ?_
  rintro e w3 ⟨s3, rfl, z3, a3⟩
  have A3 := Lib.hid a3
  clear a3
  have hza : (s1 ++ s2 ++ ⟨#[10]⟩ ++ s3).size ≤ 1000000 := by simp only [ByteArray.size_append, size_nl]; omega
  obtain ⟨na, tsa, la, ca, hba⟩ := both_any _ hza
  have Ba := Lib.hid hba
  clear hba
  go_wp2_with fail
  refine (Ba.out.1 _).mono ?_
  rintro e ua1 ⟨va1, rfl, hT, ha⟩
  have Ta1 := Lib.hid hT
  have Ua1 := Lib.hid ha
  clear hT ha
  dsimp only
  go_wp2_with fail
  obtain ⟨ya1, hy, hp, ha⟩ := pos_var ua1 la ca
  rw [← hy]
  have Pa1 := Lib.hid hp
  have Ya1 := Lib.hid ha
  clear hy hp ha
  refine (Ba.out.2 _).mono ?_
  rintro e ua2 ⟨va2, rfl, hT, ha⟩
  have Ta2 := Lib.hid hT
  have Ua2 := Lib.hid ha
  clear hT ha
  dsimp only
  go_wp2_with fail
  obtain ⟨ya2, hy, hp, ha⟩ := pos_var ua2 la ca
  rw [← hy]
  have Pa2 := Lib.hid hp
  have Ya2 := Lib.hid ha
  clear hy hp ha
  refine (rowS_any _ _ (by omega) (by omega) _).mono ?_
  rintro e w4 ⟨s4, rfl, z4, a4⟩
  have A4 := Lib.hid a4
  clear a4
  go_wp2_with fail
  refine (rowS_any _ _ (by omega) (by omega) _).mono ?_
  rintro e w5 ⟨s5, rfl, z5, a5⟩
  have A5 := Lib.hid a5
  clear a5
  have hzb : (s4 ++ s5).size ≤ 1000000 := by simp only [ByteArray.size_append]; omega
  obtain ⟨nb, tsb, lb, cb, hbb⟩ := both_any _ hzb
  have Bb := Lib.hid hbb
  clear hbb
  go_wp2_with fail
  refine (Bb.out.1 _).mono ?_
  rintro e ub1 ⟨vb1, rfl, hT, ha⟩
  have Tb1 := Lib.hid hT
  have Ub1 := Lib.hid ha
  clear hT ha
  dsimp only
  go_wp2_with fail
  obtain ⟨yb1, hy, hp, ha⟩ := pos_var ub1 lb cb
  rw [← hy]
  have Pb1 := Lib.hid hp
  have Yb1 := Lib.hid ha
  clear hy hp ha
  refine (Bb.out.2 _).mono ?_
  rintro e ub2 ⟨vb2, rfl, hT, ha⟩
  have Tb2 := Lib.hid hT
  have Ub2 := Lib.hid ha
  clear hT ha
  dsimp only
  have FA : Hid (Add ya2 w5 ∧ Add w5 ub2) := Lib.hid ⟨Add.trans A4.out A5.out, Add.trans (Add.trans Ub1.out Yb1.out) Ub2.out⟩
  have X1 := (((Pa1.out.mono Ua2.out).mono Ya2.out).mono FA.out.1).mono FA.out.2
  have X2 := (Pa2.out.mono FA.out.1).mono FA.out.2
  have X3 := Pb1.out.mono Ub2.out
  have x1 := X1.c0
  have x2 := X1.c1
  have x3 := X2.c0
  have x4 := X2.c1
  have x5 := X3.c0
  have x6 := X3.c1
  have q1 := X1.lt
  have q2 := X2.lt
  have q3 := X3.lt
  have CA : Hid (∀ w', Add ub2 w' → Calls Try.prog 11 #[va1, va2] w' (RetQ w' true)) := Lib.hid fun w' hh => same_any ((((((Ta1.out.mono Ya1.out).mono Ua2.out).mono Ya2.out).mono FA.out.1).mono FA.out.2).mono hh) ((((Ta2.out.mono Ya2.out).mono FA.out.1).mono FA.out.2).mono hh)
  have CB : Hid (∀ w', Add ub2 w' → Calls Try.prog 11 #[vb1, vb2] w' (RetQ w' true)) := Lib.hid fun w' hh => same_any (((Tb1.out.mono Yb1.out).mono Ub2.out).mono hh) (Tb2.out.mono hh)
  have HF : Hid (Add w ub2) := Lib.hid (Add.trans (Add.trans (Add.trans (Add.trans (Add.trans (Add.trans (Add.trans (Add.trans A1.out A2.out) A3.out) Ua1.out) Ya1.out) Ua2.out) Ya2.out) FA.out.1) FA.out.2)
  clear X1 X2 X3
  go_wp2_with fail
  refine (CA.out _ (add_new _ _)).mono ?_
  rintro e g1 ⟨rfl, q, rfl⟩
  go_wp2_with fail
  refine (CB.out _ (Add.trans (add_new _ _) (add_drewN _ _))).mono ?_
  rintro e g2 ⟨rfl, q', rfl⟩
  go_wp2_with fail
  refine (awake_any _).mono ?_
  rintro e g3 ⟨rfl, ha⟩
  have HG := Lib.hid (show Add w g3 from Add.trans (Add.trans (Add.trans HF.out (add_new _ _)) (add_drewN _ _)) ha)
  clear ha
  go_wp2_with fail
  go_ret
  exact ⟨rfl, HG.out⟩

set_option maxRecDepth 100000 in
set_option maxHeartbeats 8000000 in
theorem limits_odd (n m b : Nat) (hn : n < 256) (hm : m < 256) (hb : b < 256) (w : World) :
    Calls Try.prog 7 #[.int .u8 (n : Nat), .int .u8 (m : Nat), .int .u8 (b : Nat), .bool true] w (LawB w) := by
  go_enter Try.func7, Try.ntmps7
  go_wp2_with fail
  refine (rowS_any _ _ (by omega) (by omega) _).mono ?_
  rintro e w1 ⟨s1, rfl, z1, a1⟩
  have A1 := Lib.hid a1
  clear a1
  go_wp2_with fail
  refine (rowS_any _ _ (by omega) (by omega) _).mono ?_
  rintro e w2 ⟨s2, rfl, z2, a2⟩
  have A2 := Lib.hid a2
  clear a2
  go_wp2_with fail
  refine (rowS_any _ _ (by omega) (by omega) _).mono ?_
  rintro e w3 ⟨s3, rfl, z3, a3⟩
  have A3 := Lib.hid a3
  clear a3
  have hza : (s1 ++ s2 ++ ⟨#[10]⟩ ++ s3 ++ ⟨#[33]⟩).size ≤ 1000000 := by simp only [ByteArray.size_append, size_nl, size_bang]; omega
  obtain ⟨na, tsa, la, ca, hba⟩ := both_any _ hza
  have Ba := Lib.hid hba
  clear hba
  go_wp2_with fail
  refine (Ba.out.1 _).mono ?_
  rintro e ua1 ⟨va1, rfl, hT, ha⟩
  have Ta1 := Lib.hid hT
  have Ua1 := Lib.hid ha
  clear hT ha
  dsimp only
  go_wp2_with fail
  obtain ⟨ya1, hy, hp, ha⟩ := pos_var ua1 la ca
  rw [← hy]
  have Pa1 := Lib.hid hp
  have Ya1 := Lib.hid ha
  clear hy hp ha
  refine (Ba.out.2 _).mono ?_
  rintro e ua2 ⟨va2, rfl, hT, ha⟩
  have Ta2 := Lib.hid hT
  have Ua2 := Lib.hid ha
  clear hT ha
  dsimp only
  go_wp2_with fail
  obtain ⟨ya2, hy, hp, ha⟩ := pos_var ua2 la ca
  rw [← hy]
  have Pa2 := Lib.hid hp
  have Ya2 := Lib.hid ha
  clear hy hp ha
  refine (rowS_any _ _ (by omega) (by omega) _).mono ?_
  rintro e w4 ⟨s4, rfl, z4, a4⟩
  have A4 := Lib.hid a4
  clear a4
  go_wp2_with fail
  refine (rowS_any _ _ (by omega) (by omega) _).mono ?_
  rintro e w5 ⟨s5, rfl, z5, a5⟩
  have A5 := Lib.hid a5
  clear a5
  have hzb : (s4 ++ s5).size ≤ 1000000 := by simp only [ByteArray.size_append]; omega
  obtain ⟨nb, tsb, lb, cb, hbb⟩ := both_any _ hzb
  have Bb := Lib.hid hbb
  clear hbb
  go_wp2_with fail
  refine (Bb.out.1 _).mono ?_
  rintro e ub1 ⟨vb1, rfl, hT, ha⟩
  have Tb1 := Lib.hid hT
  have Ub1 := Lib.hid ha
  clear hT ha
  dsimp only
  go_wp2_with fail
  obtain ⟨yb1, hy, hp, ha⟩ := pos_var ub1 lb cb
  rw [← hy]
  have Pb1 := Lib.hid hp
  have Yb1 := Lib.hid ha
  clear hy hp ha
  refine (Bb.out.2 _).mono ?_
  rintro e ub2 ⟨vb2, rfl, hT, ha⟩
  have Tb2 := Lib.hid hT
  have Ub2 := Lib.hid ha
  clear hT ha
  dsimp only
  have FA : Hid (Add ya2 w5 ∧ Add w5 ub2) := Lib.hid ⟨Add.trans A4.out A5.out, Add.trans (Add.trans Ub1.out Yb1.out) Ub2.out⟩
  have X1 := (((Pa1.out.mono Ua2.out).mono Ya2.out).mono FA.out.1).mono FA.out.2
  have X2 := (Pa2.out.mono FA.out.1).mono FA.out.2
  have X3 := Pb1.out.mono Ub2.out
  have x1 := X1.c0
  have x2 := X1.c1
  have x3 := X2.c0
  have x4 := X2.c1
  have x5 := X3.c0
  have x6 := X3.c1
  have q1 := X1.lt
  have q2 := X2.lt
  have q3 := X3.lt
  have CA : Hid (∀ w', Add ub2 w' → Calls Try.prog 11 #[va1, va2] w' (RetQ w' true)) := Lib.hid fun w' hh => same_any ((((((Ta1.out.mono Ya1.out).mono Ua2.out).mono Ya2.out).mono FA.out.1).mono FA.out.2).mono hh) ((((Ta2.out.mono Ya2.out).mono FA.out.1).mono FA.out.2).mono hh)
  have CB : Hid (∀ w', Add ub2 w' → Calls Try.prog 11 #[vb1, vb2] w' (RetQ w' true)) := Lib.hid fun w' hh => same_any (((Tb1.out.mono Yb1.out).mono Ub2.out).mono hh) (Tb2.out.mono hh)
  have HF : Hid (Add w ub2) := Lib.hid (Add.trans (Add.trans (Add.trans (Add.trans (Add.trans (Add.trans (Add.trans (Add.trans A1.out A2.out) A3.out) Ua1.out) Ya1.out) Ua2.out) Ya2.out) FA.out.1) FA.out.2)
  clear X1 X2 X3
  go_wp2_with fail
  refine (CA.out _ (add_new _ _)).mono ?_
  rintro e g1 ⟨rfl, q, rfl⟩
  go_wp2_with fail
  refine (CB.out _ (Add.trans (add_new _ _) (add_drewN _ _))).mono ?_
  rintro e g2 ⟨rfl, q', rfl⟩
  go_wp2_with fail
  refine (awake_any _).mono ?_
  rintro e g3 ⟨rfl, ha⟩
  have HG := Lib.hid (show Add w g3 from Add.trans (Add.trans (Add.trans HF.out (add_new _ _)) (add_drewN _ _)) ha)
  clear ha
  go_wp2_with fail
  go_ret
  exact ⟨rfl, HG.out⟩
theorem limits_any (n m b : Nat) (odd : Bool) (hn : n < 256) (hm : m < 256) (hb : b < 256) (w : World) :
    Calls Try.prog 7 #[.int .u8 (n : Nat), .int .u8 (m : Nat), .int .u8 (b : Nat), .bool odd] w (LawB w) := by
  cases odd
  · exact limits_even n m b hn hm hb w
  · exact limits_odd n m b hn hm hb w
end Go.Proofs.Ytdgpcijiempmdaa
