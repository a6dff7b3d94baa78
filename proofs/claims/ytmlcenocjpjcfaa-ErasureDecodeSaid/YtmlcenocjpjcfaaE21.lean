/- The law ErasureEncode: its walk, for all arguments. -/
import Derived.Test.YtmlcenocjpjcfaaE20
namespace Go.Proofs.Ytmlcenocjpjcfaa
open Go.RowKit GfM

theorem refRet_one (w : World) : RetErr w 1 (.returned (.tuple #[.slice none 0 0, .int .i64 1])) w := ⟨rfl, Below.refl _ _⟩
set_option maxRecDepth 100000 in
set_option maxHeartbeats 1000000 in
theorem refEncode_bad {w : World} {v : Value} {vs : List Value} {rs : List (List Nat)} {k m : Int} (h : RowsB w v vs rs) (hk : encOk k m rs = false) :
    Calls Try.prog 14 #[.int .i64 k, .int .i64 m, v] w (RetErr w 1) := by
  have CC : Hid (∀ w, Calls Try.prog 33 #[.int .i64 k, .int .i64 m] w (RetBo w (codeZ k m))) := Lib.hid fun w => refCode_any k m w
  unfold encOk at hk
  cases hc : codeZ k m with
  | false =>
    obtain ⟨ao, c, rfl, hm⟩ := h.isSlice
    rw [hc] at CC
    clear h hk hm hc
    go_enter Try.func14, Try.ntmps14
    go_wp2_with (go_at_call 33; (with_reducible refine (CC.out _).mono ?_); rintro e w' ⟨rfl, rfl⟩)
    go_ret2
    exact ⟨rfl, Below.refl _ _⟩
  | true =>
    rw [hc] at CC hk
    by_cases hl : ((rs.length : Nat) : Int) = k
    · have ho : oneLen rs = false := by simpa [hl] using hk
      have hc' := codeZ_iff hc
      obtain ⟨k', rfl⟩ : ∃ k' : Nat, k = (k' : Int) := ⟨rs.length, hl.symm⟩
      obtain ⟨m', rfl⟩ : ∃ m' : Nat, m = (m' : Int) := ⟨m.toNat, by omega⟩
      have hlk : rs.length = k' := by omega
      obtain ⟨N, eN⟩ : ∃ N, N = k' + m' := ⟨_, rfl⟩
      have hNi : (k' : Int) + (m' : Int) = (N : Int) := by omega
      have hN8 : N ≤ 8 := by omega
      have hN0 : 0 < N := by omega
      have hk6 : k' ≤ 6 := by omega
      have hk1 : 1 ≤ k' := by omega
      have C2 : Hid (∀ w' g2, Add w w' → Own w' w.heap.size g2 k' (facs k' 0) → Calls Try.prog 34 #[.slice (some ⟨g2, 0, none⟩) k' k', v] w' (CombE w')) := Lib.hid fun w' g2 g o => refCombine_bad (o.reads (by unfold maxLen; omega) (bys_facs k' 0)) (h.mono g) (by
        unfold combOk
        rw [length_facs, hlk]
        unfold oneLen at ho
        rw [ho]; simp)
      obtain ⟨ao, c, rfl, hm⟩ := h.isSlice
      rw [hlk] at C2 ⊢
      have hne : ((k' : Int) != (k' : Int)) = false := by simp
      clear h hk hm hc ho hl hlk hc' eN
      go_enter Try.func14, Try.ntmps14
      go_wp2_with (go_at_call 33; (with_reducible refine (CC.out _).mono ?_); rintro e w' ⟨rfl, rfl⟩)
      go_loopw [8, 9] (fun o i wr => o = .slice none 0 0 ∧ i = .int .i64 0 ∧ wr = w) (fun _ _ _ => 0)
      case atStart => exact ⟨rfl, rfl, rfl⟩
      case round =>
        obtain ⟨rfl, rfl, hw⟩ := hrel
        rw [hw]
        clear hw
        have C1 : Hid (Calls Try.prog 35 #[.int .i64 (k' : Nat), .int .i64 0] w (FacP w k' (facs k' 0))) := Lib.hid (refFactors_any k' 0 (by omega) (by omega) w)
        go_wp2_with fail
        refine C1.out.mono ?_
        rintro e w2 ⟨g2, rfl, hown2, hadd2⟩
        have C3 := Lib.hid (C2.out w2 g2 hadd2 hown2)
        have HA2 := Lib.hid hadd2
        clear hown2 hadd2 C1 C2
        go_wp2_with fail
        refine C3.out.mono ?_
        rintro e w3 ⟨rfl, hadd3⟩
        have HA3 : Hid (Add w w3) := Lib.hid (Add.trans HA2.out hadd3)
        clear hadd3
        go_wp2_with fail
        go_ret2
        exact ⟨rfl, HA3.out⟩
    · obtain ⟨ao, c, rfl, hm⟩ := h.isSlice
      have hne : (((rs.length : Nat) : Int) != k) = true := by simpa using hl
      clear h hk hm hc hl
      go_enter Try.func14, Try.ntmps14
      go_wp2_with (go_at_call 33; (with_reducible refine (CC.out _).mono ?_); rintro e w' ⟨rfl, rfl⟩)
      go_ret2
      exact ⟨rfl, Below.refl _ _⟩

theorem rows_nil (w : World) : RowsB w (.slice none 0 0) [] [] := ⟨none, 0, 0, rfl, rfl, rfl, Nat.le_refl _, by unfold maxLen; omega, fun h => by omega, fun i hi => by omega⟩
set_option maxRecDepth 100000 in
theorem encLaw_long {w : World} {v : Value} {k m j i : Int} (CL : Hid (Calls Try.prog 11 #[v] w (RetBo w true))) :
    Calls Try.prog 3 #[.int .i64 k, .int .i64 m, v, .int .i64 j, .int .i64 i] w (LawB w) := by
  go_enter Try.func3, Try.ntmps3
  go_wp2_with (go_at_call 11; (with_reducible refine CL.out.mono ?_); rintro e w' ⟨rfl, rfl⟩)
  refine (awake_any w).mono ?_
  rintro e w3 ⟨rfl, hadd3⟩
  have HF := Lib.hid hadd3
  clear hadd3
  go_wp2_with fail
  go_ret
  exact ⟨rfl, HF.out⟩
set_option maxRecDepth 100000 in
set_option maxHeartbeats 1000000 in
theorem encLaw_go {w : World} {v : Value} {k m j i er : Int} {R : List (List Nat)} (CL : Hid (Calls Try.prog 11 #[v] w (RetBo w false)))
    (C1 : Hid (Calls Try.prog 13 #[.int .i64 k, .int .i64 m, v] w (fun e w' => ∃ v2 vs, e = .returned (.tuple #[v2, .int .i64 er]) ∧ RowsB w' v2 vs R ∧ Add w w')))
    (C2 : Hid (∀ w', Add w w' → Calls Try.prog 14 #[.int .i64 k, .int .i64 m, v] w' (fun e w2 => ∃ v2 vs, e = .returned (.tuple #[v2, .int .i64 er]) ∧ RowsB w2 v2 vs R ∧ Add w' w2))) :
    Calls Try.prog 3 #[.int .i64 k, .int .i64 m, v, .int .i64 j, .int .i64 i] w (LawB w) := by
  obtain ⟨c, ec⟩ : ∃ c, c = coefZ j i := ⟨_, rfl⟩
  have K1 : Hid (∀ w, Calls Try.prog 16 #[.int .i64 j, .int .i64 i] w (RetB w c)) := Lib.hid fun w => by rw [ec]; exact coef_any j i w
  have K2 : Hid (∀ w, Calls Try.prog 17 #[.int .i64 j, .int .i64 i] w (RetB w c)) := Lib.hid fun w => by rw [ec]; exact refCoef_any j i w
  clear ec
  go_enter Try.func3, Try.ntmps3
  go_wp2_with (go_at_call 11; (with_reducible refine CL.out.mono ?_); rintro e w' ⟨rfl, rfl⟩)
  refine C1.out.mono ?_
  rintro e w1 ⟨x, vsx, rfl, hx, k1⟩
  have HX := Lib.hid hx
  obtain ⟨aox, cx, rfl, -⟩ := hx.isSlice
  clear hx
  go_wp2_with fail
  refine (C2.out _ k1).mono ?_
  rintro e w2 ⟨y, vsy, rfl, hy, k2⟩
  have CS := Lib.hid (sameAll_any (HX.out.mono k2) hy)
  obtain ⟨aoy, cy, rfl, -⟩ := hy.isSlice
  have K := Lib.hid (Add.trans k1 k2)
  have hee : (er == er) = true := by simp
  clear k1 k2 hy
  go_wp2_with first | (go_at_call 15; (with_reducible refine CS.out.mono ?_); rintro e w' ⟨rfl, q, rfl⟩) | (go_at_call 16; (with_reducible refine (K1.out _).mono ?_); rintro e w' ⟨rfl, rfl⟩) | (go_at_call 17; (with_reducible refine (K2.out _).mono ?_); rintro e w' ⟨rfl, rfl⟩)
  refine (awake_any _).mono ?_
  rintro e w3 ⟨rfl, hadd3⟩
  have HF : Hid (Add w w3) := Lib.hid (Add.trans (below_drewN K.out _) hadd3)
  clear hadd3
  go_wp2_with fail
  go_ret
  exact ⟨rfl, HF.out⟩
theorem encode_law {w : World} {v : Value} {vs : List Value} {rs : List (List Nat)} (h : RowsB w v vs rs) (k m j i : Int) :
    Calls Try.prog 3 #[.int .i64 k, .int .i64 m, v, .int .i64 j, .int .i64 i] w (LawB w) := by
  have CL := longE_any h
  cases hl : longE rs with
  | true => rw [hl] at CL; exact encLaw_long (Lib.hid CL)
  | false =>
    rw [hl] at CL
    obtain ⟨h30, h2000⟩ := longE_false hl
    cases hok : encOk k m rs with
    | false =>
      exact encLaw_go (er := 1) (R := []) (Lib.hid CL) (Lib.hid ((encode_bad h hok).mono fun e w' q => ⟨_, _, q.1, rows_nil w', q.2⟩)) (Lib.hid fun w' g => (refEncode_bad (h.mono g) hok).mono fun e w2 q => ⟨_, _, q.1, rows_nil w2, q.2⟩)
    | true =>
      unfold encOk at hok
      simp only [Bool.and_eq_true, beq_iff_eq] at hok
      obtain ⟨⟨hc, hlk⟩, ho⟩ := hok
      have hc' := codeZ_iff hc
      obtain ⟨m', rfl⟩ : ∃ m' : Nat, m = (m' : Int) := ⟨m.toNat, by omega⟩
      subst hlk
      exact encLaw_go (er := 0) (R := wordTo rs.length (rs.getD 0 []).length rs (rs.length + m')) (Lib.hid CL) (Lib.hid ((encode_ok h rfl hc (by have := h2000 0; omega) ho).mono fun e w' q => by
        obtain ⟨G, hs, e1, r1, -, a1⟩ := q
        exact ⟨_, _, e1, r1, a1⟩)) (Lib.hid fun w' g => refEncode_ok (h.mono g) rfl hc (by have := h2000 0; omega) ho)
end Go.Proofs.Ytmlcenocjpjcfaa
