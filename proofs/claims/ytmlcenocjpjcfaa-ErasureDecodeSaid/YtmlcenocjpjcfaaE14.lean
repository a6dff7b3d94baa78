/- The law ErasureGrows: its walk, for all arguments. -/
import Derived.Test.YtmlcenocjpjcfaaE13
import Derived.Test.YtmlcenocjpjcfaaE11
namespace Go.Proofs.Ytmlcenocjpjcfaa
open Go.RowKit GfM

theorem word_data {k L : Nat} {data : List (List Nat)} (h : data.length = k) : wordTo k L data k = data := by
  refine List.ext_getElem (by rw [length_wordTo, h]) fun i h1 h2 => ?_
  have hi : i < k := by omega
  simp only [wordTo, List.getElem_map, List.getElem_range]
  unfold wordR
  rw [if_pos hi]
  simp [List.getD, h2]
theorem word_take {k L m n : Nat} {data : List (List Nat)} (h : n ≤ m) : (wordTo k L data m).take n = wordTo k L data n := by
  unfold wordTo
  rw [← List.map_take, List.take_range, Nat.min_eq_left h]
/-- Encode on what shape returns. -/
theorem encode_sh {w : World} {v : Value} {vs : List Value} {l : List Nat} {n A B : Nat} (h : RowsB w v vs (sqTo l n A)) (hb : Bys l) (hc : codeZ A B = true) (hn : n ≤ 20) :
    Calls Try.prog 13 #[.int .i64 (A : Nat), .int .i64 (B : Nat), v] w (RetNE w (A + B) (wordTo A n (sqTo l n A) (A + B))) :=
  (encode_ok h (length_sqTo ..) hc (by omega) (dim_all (sq_dimL hb n A))).mono fun _ _ h => h.n (length_wordTo ..)

set_option maxRecDepth 100000 in
set_option maxHeartbeats 1000000 in
theorem grows_any {w : World} {v : Value} {l : List Nat} (h : Reads w v l) (k m s : Nat) (hk : k < 256) (hm : m < 256) (hs : s < 256) :
    Calls Try.prog 7 #[.int .u8 (k : Nat), .int .u8 (m : Nat), .int .u8 (s : Nat), v] w (LawB w) := by
  have hbl := h.limbs
  have C0 := Lib.hid (shape_any h k m s hk hm hs)
  have hcode := sh_code k m
  have hn20 : shN s ≤ 20 := by unfold shN; omega
  obtain ⟨A, eA⟩ : ∃ A, A = shA k := ⟨_, rfl⟩
  obtain ⟨n, en⟩ : ∃ n, n = shN s := ⟨_, rfl⟩
  obtain ⟨B, eB⟩ : ∃ B, B = shB k m := ⟨_, rfl⟩
  rw [← eA, ← en, ← eB] at C0
  rw [← eA, ← eB] at hcode
  rw [← en] at hn20
  obtain ⟨ao, c, rfl, hml⟩ := h.isSlice
  obtain ⟨c1, c2, c3, c4, c5⟩ := codeZ_iff hcode
  have HC := Lib.hid hcode
  have hA6 : A ≤ 6 := by omega
  have hB4 : B ≤ 4 := by omega
  have hA1 : 1 ≤ A := by omega
  clear h eA en eB hml c1 c2 c3 c4 c5 hcode
  go_enter Try.func7, Try.ntmps7
  go_wp2_with fail
  refine C0.out.mono ?_
  rintro e w1 ⟨vd, hsd, rfl, hl, hadd1⟩
  obtain ⟨ad, cd, rfl, hr1⟩ := hl.rows
  rw [length_sqTo] at hr1 ⊢
  obtain ⟨D, eD⟩ : ∃ D, D = sqTo l n A := ⟨_, rfl⟩
  have HD := Lib.hid eD
  have HR1 := Lib.hid hr1
  have HA1 := Lib.hid hadd1
  clear hl hr1 hadd1 C0 eD
  by_cases hB : B = 0
  · have hb : ((B : Int) == 0) = true := by simp [hB]
    have CE : Hid (Calls Try.prog 13 #[.int .i64 (A : Nat), .int .i64 0, .slice ad A cd] w1 (RetNE w1 A D)) := Lib.hid (by
      have := encode_sh (B := 0) HR1.out hbl (by have := HC.out; rw [hB] at this; exact this) hn20
      rw [Nat.add_zero, word_data (length_sqTo ..), ← HD.out] at this
      exact this)
    clear hB
    go_wp2_with fail
    refine CE.out.mono ?_
    rintro e w2 ⟨G, hs2, rfl, hr2, -, hadd2⟩
    have CS : Hid (Calls Try.prog 15 #[.slice (some ⟨G, 0, none⟩) A A, .slice ad A cd] w2 (fun e w' => e = .returned (.bool true) ∧ ∃ q, w' = w2.drewN q)) := Lib.hid (sameAll_any hr2 (by rw [HD.out]; exact HR1.out.mono hadd2))
    have HA2 := Lib.hid (Add.trans HA1.out hadd2)
    clear hr2 hadd2 CE
    go_wp2_with (go_at_call 15; (with_reducible refine CS.out.mono ?_); rintro e w' ⟨rfl, q, rfl⟩)
    refine (awake_any _).mono ?_
    rintro e w3 ⟨rfl, hadd3⟩
    have HF : Hid (Add w w3) := Lib.hid (Add.trans (below_drewN HA2.out q) hadd3)
    clear hadd3
    go_wp2_with fail
    go_ret
    exact ⟨rfl, HF.out⟩
  · have hb : ((B : Int) == 0) = false := by rw [beq_eq_false_iff_ne]; omega
    obtain ⟨B', rfl⟩ : ∃ B', B = B' + 1 := ⟨B - 1, by omega⟩
    have CE : Hid (Calls Try.prog 13 #[.int .i64 (A : Nat), .int .i64 ((B' + 1 : Nat) : Int), .slice ad A cd] w1 (RetNE w1 (A + (B' + 1)) (wordTo A n D (A + (B' + 1))))) := Lib.hid (by
      have := encode_sh (B := B' + 1) HR1.out hbl HC.out hn20
      rw [← HD.out] at this
      exact this)
    have hc2 : codeZ A B' = true := by
      have := codeZ_iff HC.out
      unfold codeZ; simp; omega
    have CF : Hid (∀ w', Add w1 w' → Calls Try.prog 13 #[.int .i64 (A : Nat), .int .i64 (B' : Nat), .slice ad A cd] w' (RetNE w' (A + B') (wordTo A n D (A + B')))) := Lib.hid fun w' g => by
      have := encode_sh (B := B') (HR1.out.mono g) hbl hc2 hn20
      rw [← HD.out] at this
      exact this
    have hs1 : ((B' + 1 : Nat) : Int) - 1 = (B' : Int) := by omega
    obtain ⟨N, eN⟩ : ∃ N, N = A + B' := ⟨_, rfl⟩
    have e1 : A + (B' + 1) = N + 1 := by omega
    have e2 : (A : Int) + ((B' + 1 : Nat) : Int) = ((N + 1 : Nat) : Int) := by omega
    have e3 : ((N + 1 : Nat) : Int) - 1 = (N : Int) := by omega
    rw [e1] at CE
    rw [← eN] at CF
    have hN : N ≤ 10 := by omega
    have HEN := Lib.hid eN
    clear hB hc2 eN e1
    go_wp2_with fail
    refine CE.out.mono ?_
    rintro e w2 ⟨G, hs2, rfl, hr2, -, hadd2⟩
    have HR2 := Lib.hid hr2
    have HA2 := Lib.hid hadd2
    clear hr2 hadd2 CE
    go_wp2_with fail
    refine (CF.out _ HA2.out).mono ?_
    rintro e w3 ⟨G3, hs3, rfl, hr3, -, hadd3⟩
    have CS : Hid (Calls Try.prog 15 #[.slice (some ⟨G, 0, none⟩) (A + B') (N + 1), .slice (some ⟨G3, 0, none⟩) N N] w3 (fun e w' => e = .returned (.bool true) ∧ ∃ q, w' = w3.drewN q)) := Lib.hid (by
      rw [← HEN.out]
      have h1 := (HR2.out.mono hadd3).pre (k := N) (by omega) (c' := N + 1) (by omega) (by unfold maxLen; omega)
      rw [word_take (by omega)] at h1
      exact sameAll_any h1 hr3)
    have HA3 := Lib.hid (Add.trans (Add.trans HA1.out HA2.out) hadd3)
    clear hr3 hadd3 CF
    go_wp2_with (go_at_call 15; (with_reducible refine CS.out.mono ?_); rintro e w' ⟨rfl, q, rfl⟩)
    refine (awake_any _).mono ?_
    rintro e w4 ⟨rfl, hadd4⟩
    have HF : Hid (Add w w4) := Lib.hid (Add.trans (below_drewN HA3.out q) hadd4)
    clear hadd4
    go_wp2_with fail
    go_ret
    exact ⟨rfl, HF.out⟩
end Go.Proofs.Ytmlcenocjpjcfaa
