/- The law ErasureAny: its walk, for all arguments. -/
import Derived.Test.YtmlcenocjpjcfaaE15
import Derived.Test.YtmlcenocjpjcfaaE14
namespace Go.Proofs.Ytmlcenocjpjcfaa
open Go.RowKit GfM

theorem chX_len (k n f wo : Nat) (word : List (List Nat)) : (chR word k n f wo n).length = (chX k n f wo n).length := by unfold chR chX; rw [List.length_map, List.length_map]
theorem chX_le {k n f wo : Nat} (hk : k ≤ n) : k ≤ (chX k n f wo n).length := by
  have := chS_len k n f wo n
  unfold chX; rw [List.length_map]; omega
theorem chX_in {k n f wo : Nat} (hn : 0 < n) : ∀ x ∈ chX k n f wo n, 0 ≤ x ∧ x < (n : Int) := by
  intro x hx
  obtain ⟨y, hy, rfl⟩ := List.mem_map.1 hx
  obtain ⟨j, -, e⟩ := chS_form k n f wo n y hy
  have : y < n := by rw [e]; exact Nat.mod_lt _ hn
  omega
theorem chX_nodup {k n f wo : Nat} (hf : f < n) : (chX k n f wo n).Nodup := nodup_map (chS_nodup hf n (Nat.le_refl _)) (fun x _ y _ e => by omega)
theorem chR_get {k n f wo i : Nat} {word : List (List Nat)} (hi : i < (chR word k n f wo n).length) : (chR word k n f wo n).getD i [] = word.getD ((chX k n f wo n).getD i 0).toNat [] := by
  unfold chR chX at *
  rw [List.length_map] at hi
  simp [List.getD, hi]
/-- Rows chosen out of a code word are completed to it. -/
theorem complete_chosen {w : World} {v : Value} {hs : List Value} {data : List (List Nat)} {A B N n f wo : Nat} (h : FragsB w v (chX A N f wo N) hs (chR (wordTo A n data N) A N f wo N)) (hc : codeZ A B = true) (hN : N = A + B) (hf : f < N) (hn : n ≤ 1000) (hd : Dim A n data) :
    Calls Try.prog 39 #[.int .i64 (A : Nat), .int .i64 (B : Nat), v] w (RetNE w N (wordTo A n data N)) := by
  have h1 := complete_word h hc (fun x hx => by have := chX_in (k := A) (f := f) (wo := wo) (show 0 < N by omega) x hx; omega) (chX_nodup hf) (by rw [chX_len]; exact chX_le (by omega)) (by omega) hd (fun i hi => by
    rw [chR_get hi]
    have hi' : i < (chX A N f wo N).length := by rw [chX_len] at hi; exact hi
    have := chX_in (k := A) (f := f) (wo := wo) (show 0 < N by omega) _ (getD_mem (d := 0) hi')
    rw [wordTo_get (by omega)])
  rw [← hN] at h1
  exact h1.mono fun _ _ h => h.n (length_wordTo ..)

set_option maxRecDepth 100000 in
set_option maxHeartbeats 2000000 in
theorem any_any {w : World} {v : Value} {l : List Nat} (h : Reads w v l) (k m s fr wo : Nat) (hk : k < 256) (hm : m < 256) (hs : s < 256) (hfr : fr < 256) (hwo : wo < 256) :
    Calls Try.prog 5 #[.int .u8 (k : Nat), .int .u8 (m : Nat), .int .u8 (s : Nat), v, .int .u8 (fr : Nat), .int .u8 (wo : Nat)] w (LawB w) := by
  have hbl := h.limbs
  have C0 := Lib.hid (shape_any h k m s hk hm hs)
  have hcode := sh_code k m
  have hn20 : shN s ≤ 20 := by unfold shN; omega
  obtain ⟨A, eA⟩ : ∃ A, A = shA k := ⟨_, rfl⟩
  obtain ⟨n, en⟩ : ∃ n, n = shN s := ⟨_, rfl⟩
  obtain ⟨B, eB⟩ : ∃ B, B = shB k m := ⟨_, rfl⟩
  rw [← eA, ← en, ← eB] at C0
  rw [← eA, ← eB] at hcode
  rw [← en] at hn20
  obtain ⟨ao, c, rfl, hml⟩ := h.isSlice
  obtain ⟨c1, c2, c3, c4, c5⟩ := codeZ_iff hcode
  have HC := Lib.hid hcode
  have hA6 : A ≤ 6 := by omega
  have hB4 : B ≤ 4 := by omega
  have hA1 : 1 ≤ A := by omega
  obtain ⟨N, eN⟩ : ∃ N, N = A + B := ⟨_, rfl⟩
  have hN8 : N ≤ 8 := by omega
  have hN0 : 0 < N := by omega
  have hAN : A ≤ N := by omega
  have hNi : (A : Int) + (B : Int) = (N : Int) := by omega
  have HEN := Lib.hid eN
  obtain ⟨D, eD⟩ : ∃ D, D = sqTo l n A := ⟨_, rfl⟩
  have HD := Lib.hid eD
  have HDD : Hid (Dim A n D) := Lib.hid (by rw [eD]; exact sq_dimL hbl n A)
  obtain ⟨f, ef⟩ : ∃ f, f = fr % N := ⟨_, rfl⟩
  have hfN : f < N := by rw [ef]; exact Nat.mod_lt _ hN0
  have hfi : (fr : Int) % (N : Int) = (f : Int) := by rw [ef]; simp
  have hw1 : IntKind.i64.wrap (fr : Int) = fr := by rw [IntKind.wrap_i64]; omega
  have hNne : ((N : Int) == 0) = false := by rw [beq_eq_false_iff_ne]; omega
  clear h eA en eB hml c1 c2 c3 c4 c5 hcode eN eD ef
  go_enter Try.func5, Try.ntmps5
  go_wp2_with fail
  refine C0.out.mono ?_
  rintro e w1 ⟨vd, hsd, rfl, hl, hadd1⟩
  obtain ⟨ad, cd, rfl, hr1⟩ := hl.rows
  rw [length_sqTo] at hr1 ⊢
  have CE : Hid (Calls Try.prog 13 #[.int .i64 (A : Nat), .int .i64 (B : Nat), .slice ad A cd] w1 (RetNE w1 N (wordTo A n D N))) := Lib.hid (by
    have := encode_sh hr1 hbl HC.out hn20
    rw [← HD.out, ← HEN.out] at this
    exact this)
  rw [← HD.out] at hr1
  have HR1 := Lib.hid hr1
  have HA1 := Lib.hid hadd1
  clear hl hr1 hadd1 C0
  go_wp2_with fail
  refine CE.out.mono ?_
  rintro e w2 ⟨G, hs2, rfl, hr2, -, hadd2⟩
  have HR2 := Lib.hid hr2
  have HA2 := Lib.hid hadd2
  have CH := Lib.hid (chosen_any hr2 (length_wordTo ..) hN0 hN8 A f wo hAN hfN hwo)
  clear hr2 hadd2 CE
  go_wp2_with fail
  refine CH.out.mono ?_
  rintro e w3 ⟨vf, hf, rfl, hlf, hadd3⟩
  obtain ⟨af, cf, rfl, hfr3⟩ := hlf.frags
  obtain ⟨Q, eQ⟩ : ∃ Q, Q = (chR (wordTo A n D N) A N f wo N).length := ⟨_, rfl⟩
  rw [← eQ] at hfr3 ⊢
  have CC : Hid (∀ w', Add w3 w' → Calls Try.prog 39 #[.int .i64 (A : Nat), .int .i64 (B : Nat), .slice af Q cf] w' (RetNE w' N (wordTo A n D N))) := Lib.hid fun w' g => complete_chosen (hfr3.mono g) HC.out HEN.out hfN (by omega) HDD.out
  have CD : Hid (Calls Try.prog 18 #[.int .i64 (A : Nat), .int .i64 (B : Nat), .slice af Q cf] w3 (RetNE w3 A D)) := Lib.hid (by
    have := decode_ok (CC.out w3 (Below.refl _ _)) hAN (by omega)
    rw [word_take hAN, word_data (by rw [HD.out]; exact length_sqTo ..)] at this
    exact this)
  have HA3 := Lib.hid (Add.trans HA2.out hadd3)
  have HR3 := Lib.hid (HR2.out.mono hadd3)
  clear hfr3 hlf hadd3 CH eQ
  go_wp2_with fail
  refine CD.out.mono ?_
  rintro e w4 ⟨G4, hs4, rfl, hr4, -, hadd4⟩
  have CS : Hid (Calls Try.prog 15 #[.slice (some ⟨G4, 0, none⟩) A A, .slice ad A cd] w4 (fun e w' => e = .returned (.bool true) ∧ ∃ q, w' = w4.drewN q)) := Lib.hid (sameAll_any hr4 (HR1.out.mono (Add.trans HA3.out hadd4)))
  have HA4 := Lib.hid hadd4
  clear hr4 hadd4 CD
  go_wp2_with (go_at_call 15; (with_reducible refine CS.out.mono ?_); rintro e w' ⟨rfl, q, rfl⟩)
  have HA5 : Hid (Add w3 (w4.drewN q)) := Lib.hid (below_drewN HA4.out q)
  go_loopw [21] (fun i wr => ∃ j : Nat, j ≤ N ∧ i = .int .i64 (j : Nat) ∧ Add w3 wr) (fun i _ => N - (intOf i).toNat)
  case atStart => exact ⟨0, Nat.zero_le _, rfl, HA5.out⟩
  case round =>
    obtain ⟨j, hj, rfl, hadd⟩ := hrel
    have HADD := Lib.hid hadd
    clear hadd
    by_cases h0 : j = N
    · subst h0
      have HW : Hid (Add w wr) := Lib.hid (Add.trans (Add.trans HA1.out HA3.out) HADD.out)
      go_wp2_with fail
      refine (awake_any _).mono ?_
      rintro e w6 ⟨rfl, hadd6⟩
      have HF : Hid (Add w w6) := Lib.hid (Add.trans HW.out hadd6)
      clear hadd6
      go_wp2_with fail
      go_ret
      exact ⟨rfl, HF.out⟩
    · have hlt : j < N := by omega
      have CR : Hid (Calls Try.prog 20 #[.int .i64 (A : Nat), .int .i64 (B : Nat), .slice af Q cf, .int .i64 (j : Nat)] wr (RetRow wr ((wordTo A n D N).getD j []))) := Lib.hid (rebuild_ok HEN.out.symm hlt (by omega) (CC.out wr HADD.out))
      clear h0
      go_wp2_with fail
      refine CR.out.mono ?_
      rintro e w6 ⟨a6, l6, c6, rfl, hrd6, hadd6⟩
      have hA6' := Add.trans HADD.out hadd6
      obtain ⟨b, off, a, l7, cc, eb, -, -, -, hcell, hrd⟩ := (HR3.out.mono hA6').row hlt
      cases eb
      rw [Nat.zero_add] at hcell
      obtain ⟨t, et⟩ : ∃ t, t = strOf ((wordTo A n D N).getD j []) := ⟨_, rfl⟩
      have hcv : ∀ q, (convert 32 9 (.slice a6 l6 c6)).run Try.prog (w6.drewN q) = .ok (.string t) (w6.drewN q) := fun q => by rw [et]; exact conv_all (hrd6.mono (below_drewN (Below.refl _ _) q))
      have hcv' : ∀ q, (convert 32 9 (.slice a l7 cc)).run Try.prog (w6.drewN q) = .ok (.string t) (w6.drewN q) := fun q => by rw [et]; exact conv_all (hrd.mono (below_drewN (Below.refl _ _) q))
      have HN : Hid (Add w3 w6) := Lib.hid hA6'
      clear hrd6 hadd6 hA6' hrd et CR
      go_wp2_with fail
      go_quiet (fail)
      go_wp2_with fail
      go_roundw
      case rel => exact ⟨j + 1, by omega, by go_num, below_drewN HN.out _⟩
      case measure => simp [intOf]; omega
end Go.Proofs.Ytmlcenocjpjcfaa
