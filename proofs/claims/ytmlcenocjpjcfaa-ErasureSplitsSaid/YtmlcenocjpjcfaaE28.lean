/- The law ErasureSplits: its walk, for all arguments. -/
import Derived.Test.YtmlcenocjpjcfaaE27
namespace Go.Proofs.Ytmlcenocjpjcfaa
open Go.RowKit GfM

set_option maxRecDepth 100000 in
theorem splLaw_data {w : World} {v : Value} {k s n : Int} {ad : Option Addr} {D cd : Nat} (hD : 2000 < D) :
    Calls Try.prog 10 #[.int .i64 k, .int .i64 s, .slice ad D cd, v, .int .i64 n] w (LawB w) := by
  have d0 : decide ((2000 : Int) < (D : Int)) = true := decide_eq_true (by omega)
  have K : Hid (Add w w) := Lib.hid (Below.refl _ _)
  go_enter Try.func10, Try.ntmps10
  go_wp2_with fail
  refine (awake_any _).mono ?_
  rintro e w3 ⟨rfl, hadd3⟩
  have HF : Hid (Add w w3) := Lib.hid (Add.trans K.out hadd3)
  clear hadd3
  go_wp2_with fail
  go_ret
  exact ⟨rfl, HF.out⟩
set_option maxRecDepth 100000 in
theorem splLaw_long {w : World} {v : Value} {k s n : Int} {ad : Option Addr} {D cd : Nat} (hD : D ≤ 2000) (CL : Hid (Calls Try.prog 11 #[v] w (RetBo w true))) :
    Calls Try.prog 10 #[.int .i64 k, .int .i64 s, .slice ad D cd, v, .int .i64 n] w (LawB w) := by
  have d0 : decide ((2000 : Int) < (D : Int)) = false := decide_eq_false (by omega)
  have K : Hid (Add w w) := Lib.hid (Below.refl _ _)
  go_enter Try.func10, Try.ntmps10
  go_wp2_with (go_at_call 11; (with_reducible refine CL.out.mono ?_); rintro e w' ⟨rfl, rfl⟩)
  refine (awake_any _).mono ?_
  rintro e w3 ⟨rfl, hadd3⟩
  have HF : Hid (Add w w3) := Lib.hid (Add.trans K.out hadd3)
  clear hadd3
  go_wp2_with fail
  go_ret
  exact ⟨rfl, HF.out⟩
set_option maxRecDepth 100000 in
theorem splLaw_wide {w : World} {v : Value} {k s n : Int} {ad : Option Addr} {D cd : Nat} (hD : D ≤ 2000) (CL : Hid (Calls Try.prog 11 #[v] w (RetBo w false))) (h1 : 500 < s) (h2 : s ≤ 4096) :
    Calls Try.prog 10 #[.int .i64 k, .int .i64 s, .slice ad D cd, v, .int .i64 n] w (LawB w) := by
  have d0 : decide ((2000 : Int) < (D : Int)) = false := decide_eq_false (by omega)
  have d1 : decide ((500 : Int) < s) = true := decide_eq_true h1
  have d2 : decide (s ≤ (4096 : Int)) = true := decide_eq_true h2
  have K : Hid (Add w w) := Lib.hid (Below.refl _ _)
  go_enter Try.func10, Try.ntmps10
  go_wp2_with (go_at_call 11; (with_reducible refine CL.out.mono ?_); rintro e w' ⟨rfl, rfl⟩)
  refine (awake_any _).mono ?_
  rintro e w3 ⟨rfl, hadd3⟩
  have HF : Hid (Add w w3) := Lib.hid (Add.trans K.out hadd3)
  clear hadd3
  go_wp2_with fail
  go_ret
  exact ⟨rfl, HF.out⟩
set_option maxRecDepth 100000 in
set_option maxHeartbeats 4000000 in
theorem splLaw_err {w : World} {v : Value} {k s n er ne : Int} {R : List (List Nat)} {J d : List Nat} {ad : Option Addr} {D cd : Nat} (hd : Reads w (.slice ad D cd) d) (hD : D ≤ 2000) (CL : Hid (Calls Try.prog 11 #[v] w (RetBo w false))) (hg : s ≤ 500 ∨ 4096 < s) (hne : (er == 0) = false)
    (C1 : Hid (Calls Try.prog 26 #[.int .i64 k, .int .i64 s, .slice ad D cd] w (fun e wz => ∃ v2 vs, e = .returned (.tuple #[v2, .int .i64 er]) ∧ RowsB wz v2 vs R ∧ Add w wz)))
    (C2 : Hid (∀ w', Add w w' → Calls Try.prog 27 #[.int .i64 k, .int .i64 s, .slice ad D cd] w' (fun e wz => ∃ v2 vs, e = .returned (.tuple #[v2, .int .i64 er]) ∧ RowsB wz v2 vs R ∧ Add w' wz)))
    (C3 : Hid (∀ w', Add w w' → Calls Try.prog 28 #[v, .int .i64 n] w' (RetRE w' J ne)))
    (C4 : Hid (∀ w', Add w w' → Calls Try.prog 29 #[v, .int .i64 n] w' (RetRE w' J ne))) :
    Calls Try.prog 10 #[.int .i64 k, .int .i64 s, .slice ad D cd, v, .int .i64 n] w (LawB w) := by
  have d0 : decide ((2000 : Int) < (D : Int)) = false := decide_eq_false (by omega)
  have HD := Lib.hid hd
  have hee : (er == er) = true := by simp
  have hne2 : (er != 0) = true := by simp [bne, hne]
  clear hne
  have hnn : (ne == ne) = true := by simp
  obtain ⟨b1, hb1⟩ : ∃ b, b = decide ((500 : Int) < s) := ⟨_, rfl⟩
  have hcase : (decide ((500 : Int) < s) = false) ∨ (decide ((500 : Int) < s) = true ∧ decide (s ≤ (4096 : Int)) = false) := by
    by_cases c : 500 < s
    · exact .inr ⟨decide_eq_true c, decide_eq_false (by omega)⟩
    · exact .inl (decide_eq_false c)
  clear hd hg hb1
  go_enter Try.func10, Try.ntmps10
  rcases hcase with d1 | ⟨d1, d2⟩
  · go_wp2_with (go_at_call 11; (with_reducible refine CL.out.mono ?_); rintro e w' ⟨rfl, rfl⟩)
    refine C1.out.mono ?_
    rintro e w1 ⟨x, vsx, rfl, hx, k1⟩
    have HX := Lib.hid hx
    obtain ⟨aox, cx, rfl, -⟩ := hx.isSlice
    clear hx
    go_wp2_with fail
    refine (C2.out _ k1).mono ?_
    rintro e w2 ⟨y, vsy, rfl, hy, k2⟩
    have HY := Lib.hid hy
    obtain ⟨aoy, cy, rfl, -⟩ := hy.isSlice
    have k12 := Add.trans k1 k2
    clear hy
    go_wp2_with fail
    refine (C3.out _ k12).mono ?_
    rintro e w3 ⟨a3, l3, c3, rfl, hr3, k3⟩
    have k13 := Add.trans k12 k3
    go_wp2_with fail
    refine (C4.out _ k13).mono ?_
    rintro e w4 ⟨a4, l4, c4, rfl, hr4, k4⟩
    have k14 := Add.trans k13 k4
    have CS := Lib.hid (sameAll_any ((HX.out.mono (Add.trans k2 k3)).mono k4) ((HY.out.mono k3).mono k4))
    have hcv3 : ∀ q, (convert 32 9 (.slice a3 l3 c3)).run Try.prog (w4.drewN q) = .ok (.string (strOf J)) (w4.drewN q) := fun q => conv_all ((hr3.mono k4).mono (below_drewN (Below.refl _ _) q))
    have hcv4 : ∀ q, (convert 32 9 (.slice a4 l4 c4)).run Try.prog (w4.drewN q) = .ok (.string (strOf J)) (w4.drewN q) := fun q => conv_all (hr4.mono (below_drewN (Below.refl _ _) q))
    obtain ⟨sj, esj⟩ : ∃ sj, sj = strOf J := ⟨_, rfl⟩
    rw [← esj] at hcv3 hcv4
    have K4 := Lib.hid k14
    have KX := Lib.hid (Add.trans k2 (Add.trans k3 k4))
    clear k1 k2 k12 k3 k13 k4 k14 hr3 hr4 esj
    go_wp2_with (go_at_call 15; (with_reducible refine CS.out.mono ?_); rintro e w' ⟨rfl, q, rfl⟩)
    have K : Hid (Add w (w4.drewN q)) := Lib.hid (below_drewN K4.out _)
    refine (awake_any _).mono ?_
    rintro e w5 ⟨rfl, hadd5⟩
    have HF : Hid (Add w w5) := Lib.hid (Add.trans K.out hadd5)
    clear hadd5
    go_wp2_with fail
    go_ret
    exact ⟨rfl, HF.out⟩
  · go_wp2_with (go_at_call 11; (with_reducible refine CL.out.mono ?_); rintro e w' ⟨rfl, rfl⟩)
    refine C1.out.mono ?_
    rintro e w1 ⟨x, vsx, rfl, hx, k1⟩
    have HX := Lib.hid hx
    obtain ⟨aox, cx, rfl, -⟩ := hx.isSlice
    clear hx
    go_wp2_with fail
    refine (C2.out _ k1).mono ?_
    rintro e w2 ⟨y, vsy, rfl, hy, k2⟩
    have HY := Lib.hid hy
    obtain ⟨aoy, cy, rfl, -⟩ := hy.isSlice
    have k12 := Add.trans k1 k2
    clear hy
    go_wp2_with fail
    refine (C3.out _ k12).mono ?_
    rintro e w3 ⟨a3, l3, c3, rfl, hr3, k3⟩
    have k13 := Add.trans k12 k3
    go_wp2_with fail
    refine (C4.out _ k13).mono ?_
    rintro e w4 ⟨a4, l4, c4, rfl, hr4, k4⟩
    have k14 := Add.trans k13 k4
    have CS := Lib.hid (sameAll_any ((HX.out.mono (Add.trans k2 k3)).mono k4) ((HY.out.mono k3).mono k4))
    have hcv3 : ∀ q, (convert 32 9 (.slice a3 l3 c3)).run Try.prog (w4.drewN q) = .ok (.string (strOf J)) (w4.drewN q) := fun q => conv_all ((hr3.mono k4).mono (below_drewN (Below.refl _ _) q))
    have hcv4 : ∀ q, (convert 32 9 (.slice a4 l4 c4)).run Try.prog (w4.drewN q) = .ok (.string (strOf J)) (w4.drewN q) := fun q => conv_all (hr4.mono (below_drewN (Below.refl _ _) q))
    obtain ⟨sj, esj⟩ : ∃ sj, sj = strOf J := ⟨_, rfl⟩
    rw [← esj] at hcv3 hcv4
    have K4 := Lib.hid k14
    have KX := Lib.hid (Add.trans k2 (Add.trans k3 k4))
    clear k1 k2 k12 k3 k13 k4 k14 hr3 hr4 esj
    go_wp2_with (go_at_call 15; (with_reducible refine CS.out.mono ?_); rintro e w' ⟨rfl, q, rfl⟩)
    have K : Hid (Add w (w4.drewN q)) := Lib.hid (below_drewN K4.out _)
    refine (awake_any _).mono ?_
    rintro e w5 ⟨rfl, hadd5⟩
    have HF : Hid (Add w w5) := Lib.hid (Add.trans K.out hadd5)
    clear hadd5
    go_wp2_with fail
    go_ret
    exact ⟨rfl, HF.out⟩
set_option maxRecDepth 100000 in
set_option maxHeartbeats 4000000 in
theorem splLaw_ok {w : World} {v : Value} {k s n ne : Int} {R : List (List Nat)} {J d : List Nat} {ad : Option Addr} {D cd : Nat} (hd : Reads w (.slice ad D cd) d) (hD : D ≤ 2000) (CL : Hid (Calls Try.prog 11 #[v] w (RetBo w false))) (hg : s ≤ 500 ∨ 4096 < s)
    (C1 : Hid (Calls Try.prog 26 #[.int .i64 k, .int .i64 s, .slice ad D cd] w (fun e wz => ∃ v2 vs, e = .returned (.tuple #[v2, .int .i64 0]) ∧ RowsB wz v2 vs R ∧ Add w wz)))
    (C2 : Hid (∀ w', Add w w' → Calls Try.prog 27 #[.int .i64 k, .int .i64 s, .slice ad D cd] w' (fun e wz => ∃ v2 vs, e = .returned (.tuple #[v2, .int .i64 0]) ∧ RowsB wz v2 vs R ∧ Add w' wz)))
    (C3 : Hid (∀ w', Add w w' → Calls Try.prog 28 #[v, .int .i64 n] w' (RetRE w' J ne)))
    (C4 : Hid (∀ w', Add w w' → Calls Try.prog 29 #[v, .int .i64 n] w' (RetRE w' J ne)))
    (C5 : Hid (∀ w' v2 vs, RowsB w' v2 vs R → Calls Try.prog 28 #[v2, .int .i64 (D : Nat)] w' (RetRE w' d 0))) :
    Calls Try.prog 10 #[.int .i64 k, .int .i64 s, .slice ad D cd, v, .int .i64 n] w (LawB w) := by
  have d0 : decide ((2000 : Int) < (D : Int)) = false := decide_eq_false (by omega)
  have HD := Lib.hid hd
  have hnn : (ne == ne) = true := by simp
  obtain ⟨b1, hb1⟩ : ∃ b, b = decide ((500 : Int) < s) := ⟨_, rfl⟩
  have hcase : (decide ((500 : Int) < s) = false) ∨ (decide ((500 : Int) < s) = true ∧ decide (s ≤ (4096 : Int)) = false) := by
    by_cases c : 500 < s
    · exact .inr ⟨decide_eq_true c, decide_eq_false (by omega)⟩
    · exact .inl (decide_eq_false c)
  clear hd hg hb1
  go_enter Try.func10, Try.ntmps10
  rcases hcase with d1 | ⟨d1, d2⟩
  · go_wp2_with (go_at_call 11; (with_reducible refine CL.out.mono ?_); rintro e w' ⟨rfl, rfl⟩)
    refine C1.out.mono ?_
    rintro e w1 ⟨x, vsx, rfl, hx, k1⟩
    have HX := Lib.hid hx
    obtain ⟨aox, cx, rfl, -⟩ := hx.isSlice
    clear hx
    go_wp2_with fail
    refine (C2.out _ k1).mono ?_
    rintro e w2 ⟨y, vsy, rfl, hy, k2⟩
    have HY := Lib.hid hy
    obtain ⟨aoy, cy, rfl, -⟩ := hy.isSlice
    have k12 := Add.trans k1 k2
    clear hy
    go_wp2_with fail
    refine (C3.out _ k12).mono ?_
    rintro e w3 ⟨a3, l3, c3, rfl, hr3, k3⟩
    have k13 := Add.trans k12 k3
    go_wp2_with fail
    refine (C4.out _ k13).mono ?_
    rintro e w4 ⟨a4, l4, c4, rfl, hr4, k4⟩
    have k14 := Add.trans k13 k4
    have CS := Lib.hid (sameAll_any ((HX.out.mono (Add.trans k2 k3)).mono k4) ((HY.out.mono k3).mono k4))
    have hcv3 : ∀ q, (convert 32 9 (.slice a3 l3 c3)).run Try.prog (w4.drewN q) = .ok (.string (strOf J)) (w4.drewN q) := fun q => conv_all ((hr3.mono k4).mono (below_drewN (Below.refl _ _) q))
    have hcv4 : ∀ q, (convert 32 9 (.slice a4 l4 c4)).run Try.prog (w4.drewN q) = .ok (.string (strOf J)) (w4.drewN q) := fun q => conv_all (hr4.mono (below_drewN (Below.refl _ _) q))
    obtain ⟨sj, esj⟩ : ∃ sj, sj = strOf J := ⟨_, rfl⟩
    rw [← esj] at hcv3 hcv4
    have K4 := Lib.hid k14
    have KX := Lib.hid (Add.trans k2 (Add.trans k3 k4))
    clear k1 k2 k12 k3 k13 k4 k14 hr3 hr4 esj
    go_wp2_with (go_at_call 15; (with_reducible refine CS.out.mono ?_); rintro e w' ⟨rfl, q, rfl⟩)
    refine (C5.out _ _ _ (HX.out.mono (below_drewN KX.out q))).mono ?_
    rintro e w5 ⟨a5, l5, c5, rfl, hr5, k5⟩
    have k15 := Add.trans (below_drewN K4.out q) k5
    have hcv5 := conv_all hr5
    have hcvd := conv_all (HD.out.mono k15)
    obtain ⟨sd, esd⟩ : ∃ sd, sd = strOf d := ⟨_, rfl⟩
    rw [← esd] at hcv5 hcvd
    have K := Lib.hid k15
    clear k5 k15 hr5 esd hcv3 hcv4
    go_wp2_with fail
    refine (awake_any _).mono ?_
    rintro e w6 ⟨rfl, hadd6⟩
    have HF : Hid (Add w w6) := Lib.hid (Add.trans K.out hadd6)
    clear hadd6
    go_wp2_with fail
    go_ret
    exact ⟨rfl, HF.out⟩
  · go_wp2_with (go_at_call 11; (with_reducible refine CL.out.mono ?_); rintro e w' ⟨rfl, rfl⟩)
    refine C1.out.mono ?_
    rintro e w1 ⟨x, vsx, rfl, hx, k1⟩
    have HX := Lib.hid hx
    obtain ⟨aox, cx, rfl, -⟩ := hx.isSlice
    clear hx
    go_wp2_with fail
    refine (C2.out _ k1).mono ?_
    rintro e w2 ⟨y, vsy, rfl, hy, k2⟩
    have HY := Lib.hid hy
    obtain ⟨aoy, cy, rfl, -⟩ := hy.isSlice
    have k12 := Add.trans k1 k2
    clear hy
    go_wp2_with fail
    refine (C3.out _ k12).mono ?_
    rintro e w3 ⟨a3, l3, c3, rfl, hr3, k3⟩
    have k13 := Add.trans k12 k3
    go_wp2_with fail
    refine (C4.out _ k13).mono ?_
    rintro e w4 ⟨a4, l4, c4, rfl, hr4, k4⟩
    have k14 := Add.trans k13 k4
    have CS := Lib.hid (sameAll_any ((HX.out.mono (Add.trans k2 k3)).mono k4) ((HY.out.mono k3).mono k4))
    have hcv3 : ∀ q, (convert 32 9 (.slice a3 l3 c3)).run Try.prog (w4.drewN q) = .ok (.string (strOf J)) (w4.drewN q) := fun q => conv_all ((hr3.mono k4).mono (below_drewN (Below.refl _ _) q))
    have hcv4 : ∀ q, (convert 32 9 (.slice a4 l4 c4)).run Try.prog (w4.drewN q) = .ok (.string (strOf J)) (w4.drewN q) := fun q => conv_all (hr4.mono (below_drewN (Below.refl _ _) q))
    obtain ⟨sj, esj⟩ : ∃ sj, sj = strOf J := ⟨_, rfl⟩
    rw [← esj] at hcv3 hcv4
    have K4 := Lib.hid k14
    have KX := Lib.hid (Add.trans k2 (Add.trans k3 k4))
    clear k1 k2 k12 k3 k13 k4 k14 hr3 hr4 esj
    go_wp2_with (go_at_call 15; (with_reducible refine CS.out.mono ?_); rintro e w' ⟨rfl, q, rfl⟩)
    refine (C5.out _ _ _ (HX.out.mono (below_drewN KX.out q))).mono ?_
    rintro e w5 ⟨a5, l5, c5, rfl, hr5, k5⟩
    have k15 := Add.trans (below_drewN K4.out q) k5
    have hcv5 := conv_all hr5
    have hcvd := conv_all (HD.out.mono k15)
    obtain ⟨sd, esd⟩ : ∃ sd, sd = strOf d := ⟨_, rfl⟩
    rw [← esd] at hcv5 hcvd
    have K := Lib.hid k15
    clear k5 k15 hr5 esd hcv3 hcv4
    go_wp2_with fail
    refine (awake_any _).mono ?_
    rintro e w6 ⟨rfl, hadd6⟩
    have HF : Hid (Add w w6) := Lib.hid (Add.trans K.out hadd6)
    clear hadd6
    go_wp2_with fail
    go_ret
    exact ⟨rfl, HF.out⟩

theorem splits_law {w : World} {v vd : Value} {vs : List Value} {rs : List (List Nat)} {d : List Nat} (h : RowsB w v vs rs) (hd : Reads w vd d) (k s n : Int) :
    Calls Try.prog 10 #[.int .i64 k, .int .i64 s, vd, v, .int .i64 n] w (LawB w) := by
  obtain ⟨ad, cd, rfl, -⟩ := hd.isSlice
  by_cases hD : d.length ≤ 2000
  · have CL := longE_any h
    cases hl : longE rs with
    | true => rw [hl] at CL; exact splLaw_long hD (Lib.hid CL)
    | false =>
      rw [hl] at CL
      obtain ⟨h30, h2000⟩ := longE_false hl
      by_cases hg : 500 < s ∧ s ≤ 4096
      · exact splLaw_wide hD (Lib.hid CL) hg.1 hg.2
      · have C3 : Hid (∀ w', Add w w' → Calls Try.prog 28 #[v, .int .i64 n] w' (RetRE w' (joinR n rs) (joinE n rs))) := Lib.hid fun w' g => join_any n (h.mono g) h30 h2000
        have C4 : Hid (∀ w', Add w w' → Calls Try.prog 29 #[v, .int .i64 n] w' (RetRE w' (joinR n rs) (joinE n rs))) := Lib.hid fun w' g => refJoin_any n (h.mono g) h30 h2000
        cases ha : argZ k s with
        | false => exact splLaw_err (er := 1) (R := []) hd hD (Lib.hid CL) (by omega) (by decide) (Lib.hid ((split_arg ha).mono fun e w' q => ⟨_, _, q.1, rows_nil w', q.2⟩)) (Lib.hid fun w' g => (refSplit_arg ha).mono fun e w2 q => ⟨_, _, q.1, rows_nil w2, q.2⟩) C3 C4
        | true =>
          have ha' := argZ_iff ha
          obtain ⟨k', rfl⟩ : ∃ k' : Nat, k = (k' : Int) := ⟨k.toNat, by omega⟩
          obtain ⟨s', rfl⟩ : ∃ s' : Nat, s = (s' : Int) := ⟨s.toNat, by omega⟩
          by_cases ht : d.length ≤ k' * s'
          · refine splLaw_ok (R := spTo (padTo d (k' * s')) s' k') hd hD (Lib.hid CL) (by omega) (Lib.hid ((split_ok hd (by omega) (by omega) (by omega) ht).mono fun e w' q => ?_)) (Lib.hid fun w' g => refSplit_ok (hd.mono g) (by omega) (by omega) (by omega) ht) C3 C4 (Lib.hid fun w' v2 vs hr => ?_)
            · obtain ⟨G, hs, e1, r1, -, a1⟩ := q
              exact ⟨_, _, e1, r1, a1⟩
            · have e1 : (spTo (padTo d (k' * s')) s' k').flatten = padTo d (k' * s') := by rw [sq_flat, List.take_of_length_le (by rw [length_padTo ht]; exact Nat.le_refl _)]
              have e2 : (padTo d (k' * s')).take d.length = d := by unfold padTo; rw [List.take_left' rfl]
              have := join_ok (m := d.length) hr (by rw [length_spTo]; omega) (fun i => Nat.le_trans (sq_get _ _ _ _) (by omega)) (by rw [e1, length_padTo ht]; exact ht)
              rw [e1, e2] at this
              exact this
          · exact splLaw_err (er := 2) (R := []) hd hD (Lib.hid CL) (by omega) (by decide) (Lib.hid ((split_size hd (by omega) (by omega) (by omega) (by omega)).mono fun e w' q => ⟨_, _, q.1, rows_nil w', q.2⟩)) (Lib.hid fun w' g => (refSplit_size (hd.mono g) (by omega) (by omega) (by omega) (by omega)).mono fun e w2 q => ⟨_, _, q.1, rows_nil w2, q.2⟩) C3 C4
  · exact splLaw_data (by omega)
end Go.Proofs.Ytmlcenocjpjcfaa
