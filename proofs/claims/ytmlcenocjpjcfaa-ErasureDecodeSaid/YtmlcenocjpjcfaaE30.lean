/- Decode and Rebuild and their references, for all arguments. -/
import Derived.Test.YtmlcenocjpjcfaaE29
import Derived.Test.YtmlcenocjpjcfaaE14
namespace Go.Proofs.Ytmlcenocjpjcfaa
open Go.RowKit GfM

/-- Rows and an error number are returned. -/
def RetC (w : World) (R : List (List Nat)) (er : Int) (e : Ending) (w' : World) : Prop := ∃ v2 vs, e = .returned (.tuple #[v2, .int .i64 er]) ∧ RowsB w' v2 vs R ∧ Add w w'
/-- Bytes and an error number are returned. -/
def RetX (w : World) (xs : List Nat) (er : Int) (e : Ending) (w' : World) : Prop := ∃ a l c, e = .returned (.tuple #[.slice a l c, .int .i64 er]) ∧ Reads w' (.slice a l c) xs ∧ Add w w'
theorem RetErr.c {w w' : World} {er : Int} {e : Ending} (h : RetErr w er e w') : RetC w [] er e w' := ⟨_, _, h.1, rows_nil w', h.2⟩
theorem RetErr.x {w w' : World} {er : Int} {e : Ending} (h : RetErr w er e w') : RetX w [] er e w' := ⟨none, 0, 0, h.1, Reads.nil _, h.2⟩
set_option maxRecDepth 100000 in
theorem refDecode_bad {w : World} {v : Value} {k m : Int} (hc : codeZ k m = false) :
    Calls Try.prog 19 #[.int .i64 k, .int .i64 m, v] w (RetErr w 1) := by
  have CC : Hid (∀ w, Calls Try.prog 33 #[.int .i64 k, .int .i64 m] w (RetBo w false)) := Lib.hid fun w => by have := refCode_any k m w; rw [hc] at this; exact this
  clear hc
  go_enter Try.func19, Try.ntmps19
  go_wp2_with (go_at_call 33; (with_reducible refine (CC.out _).mono ?_); rintro e w' ⟨rfl, rfl⟩)
  go_ret2
  exact ⟨rfl, Below.refl _ _⟩
set_option maxRecDepth 100000 in
theorem refRebuild_bad {w : World} {v : Value} {k m i s : Int} (hs : IntKind.i64.wrap (k + m) = s) (hr : rowZ i s = false) :
    Calls Try.prog 21 #[.int .i64 k, .int .i64 m, v, .int .i64 i] w (RetErr w 1) := by
  by_cases h0 : i < 0
  · have d1 : decide (i < 0) = true := decide_eq_true h0
    clear hr
    go_enter Try.func21, Try.ntmps21
    go_wp2_with fail
    go_ret2
    exact ⟨rfl, Below.refl _ _⟩
  · have d1 : decide (i < 0) = false := decide_eq_false h0
    have d2 : decide (s ≤ i) = true := decide_eq_true (by
      unfold rowZ at hr
      simp only [Bool.and_eq_false_iff, decide_eq_false_iff_not] at hr
      omega)
    clear hr
    go_enter Try.func21, Try.ntmps21
    go_wp2_with fail
    go_ret2
    exact ⟨rfl, Below.refl _ _⟩
set_option maxRecDepth 100000 in
theorem refRebuild_err {w : World} {v : Value} {k m i s er : Int} (hs : IntKind.i64.wrap (k + m) = s) (hr : rowZ i s = true) (C : Calls Try.prog 19 #[.int .i64 k, .int .i64 m, v] w (RetErr w er)) (he : er ≠ 0) :
    Calls Try.prog 21 #[.int .i64 k, .int .i64 m, v, .int .i64 i] w (RetErr w er) := by
  have hr2 : 0 ≤ i ∧ i < s := by unfold rowZ at hr; simpa using hr
  have d1 : decide (i < 0) = false := decide_eq_false (by omega)
  have d2 : decide (s ≤ i) = false := decide_eq_false (by omega)
  have C1 := Lib.hid C
  have hb : (er != 0) = true := by simpa using he
  clear C he hr
  go_enter Try.func21, Try.ntmps21
  go_wp2_with fail
  refine C1.out.mono ?_
  rintro e w1 ⟨rfl, hadd⟩
  have HA := Lib.hid hadd
  clear hadd
  go_wp2_with fail
  go_ret2
  exact ⟨rfl, HA.out⟩
set_option maxRecDepth 100000 in
theorem refRebuild_ok {w : World} {v : Value} {k m n i L : Nat} {D : List (List Nat)} (hs : k + m = n) (hr : i < n) (hn : n ≤ 1000) (C : Calls Try.prog 19 #[.int .i64 (k : Nat), .int .i64 (m : Nat), v] w (RetLE w D))
    (C2 : ∀ w2 v2 vs2, RowsB w2 v2 vs2 D → Calls Try.prog 14 #[.int .i64 (k : Nat), .int .i64 (m : Nat), v2] w2 (RetLE w2 (wordTo k L D n))) :
    Calls Try.prog 21 #[.int .i64 (k : Nat), .int .i64 (m : Nat), v, .int .i64 (i : Nat)] w (RetX w ((wordTo k L D n).getD i []) 0) := by
  have C1 := Lib.hid C
  have CE := Lib.hid C2
  have hi : (k : Int) + (m : Int) = (n : Int) := by omega
  have d1 : decide ((i : Int) < 0) = false := decide_eq_false (by omega)
  have d2 : decide ((n : Int) ≤ (i : Int)) = false := decide_eq_false (by omega)
  clear C C2
  go_enter Try.func21, Try.ntmps21
  go_wp2_with fail
  refine C1.out.mono ?_
  rintro e w1 ⟨v1, vs1, rfl, hrows, hadd⟩
  have C3 := Lib.hid (CE.out w1 v1 vs1 hrows)
  obtain ⟨a1, c1, rfl, -⟩ := hrows.isSlice
  have HA := Lib.hid hadd
  clear hadd hrows
  go_wp2_with fail
  refine C3.out.mono ?_
  rintro e w2 ⟨v2, vs2, rfl, hrow2, hadd2⟩
  obtain ⟨a2, c2, rfl, -⟩ := hrow2.isSlice
  rw [length_wordTo] at hrow2 ⊢
  obtain ⟨b, off, a, l, c, rfl, -, -, -, hcell, hrd⟩ := hrow2.row hr
  have HA2 : Hid (Add w w2) := Lib.hid (Add.trans HA.out hadd2)
  have HRD := Lib.hid hrd
  clear hadd2 hrow2 hrd C3
  go_wp2_with fail
  go_ret2
  exact ⟨a, l, c, rfl, HRD.out, HA2.out⟩
/-- The four calls agree. -/
def Both (w : World) (k m : Int) (v : Value) (i : Int) : Prop := ∃ R er xs ex,
  (∀ w', Add w w' → Calls Try.prog 18 #[.int .i64 k, .int .i64 m, v] w' (RetC w' R er)) ∧
  (∀ w', Add w w' → Calls Try.prog 19 #[.int .i64 k, .int .i64 m, v] w' (RetC w' R er)) ∧
  (∀ w', Add w w' → Calls Try.prog 20 #[.int .i64 k, .int .i64 m, v, .int .i64 i] w' (RetX w' xs ex)) ∧
  (∀ w', Add w w' → Calls Try.prog 21 #[.int .i64 k, .int .i64 m, v, .int .i64 i] w' (RetX w' xs ex))
theorem both_err {w : World} {k m i er : Int} {v : Value} (he : er ≠ 0) (C : ∀ w', Add w w' → Calls Try.prog 39 #[.int .i64 k, .int .i64 m, v] w' (RetErr w' er))
    (C2 : ∀ w', Add w w' → Calls Try.prog 19 #[.int .i64 k, .int .i64 m, v] w' (RetErr w' er)) : Both w k m v i := by
  obtain ⟨s, es⟩ : ∃ s, IntKind.i64.wrap (k + m) = s := ⟨_, rfl⟩
  cases hr : rowZ i s with
  | false => exact ⟨[], er, [], 1, fun w' g => (decode_err (C w' g) he).mono fun e w2 h => h.c, fun w' g => (C2 w' g).mono fun e w2 h => h.c, fun w' _ => (rebuild_bad es hr).mono fun e w2 h => h.x, fun w' _ => (refRebuild_bad es hr).mono fun e w2 h => h.x⟩
  | true => exact ⟨[], er, [], er, fun w' g => (decode_err (C w' g) he).mono fun e w2 h => h.c, fun w' g => (C2 w' g).mono fun e w2 h => h.c, fun w' g => (rebuild_err es hr (C w' g) he).mono fun e w2 h => h.x, fun w' g => (refRebuild_err es hr (C2 w' g) he).mono fun e w2 h => h.x⟩
theorem both_any {w : World} {v : Value} {ix : List Int} {vs : List Value} {rs : List (List Nat)} (h : FragsB w v ix vs rs) (h30 : rs.length ≤ 30) (h2 : ∀ i, (rs.getD i []).length ≤ 2000) (k m i : Int) : Both w k m v i := by
  cases hc : codeZ k m with
  | false => exact both_err (er := 1) (by decide) (fun w' g => complete_arg (h.mono g) (.inl hc)) (fun w' _ => refDecode_bad hc)
  | true =>
    have hc' := codeZ_iff hc
    obtain ⟨k', rfl⟩ : ∃ k' : Nat, k = (k' : Int) := ⟨k.toNat, by omega⟩
    obtain ⟨m', rfl⟩ : ∃ m' : Nat, m = (m' : Int) := ⟨m.toNat, by omega⟩
    obtain ⟨-, -, -, -, hxl, -⟩ := h.isSlice
    obtain ⟨R, hR⟩ : ∃ R, areZ ix ((k' : Int) + m') = true → ix.Nodup → k' ≤ rs.length → invM (givenM k' (ix.take k')) k' = some R := by
      by_cases hcond : areZ ix ((k' : Int) + m') = true ∧ ix.Nodup ∧ k' ≤ rs.length
      · obtain ⟨h1, h2', h3⟩ := hcond
        obtain ⟨R, hR⟩ := given_inv (k := k') (m := m') (ix := ix.take k') (by omega) (by omega) (by rw [List.length_take]; omega) (h2'.sublist (List.take_sublist _ _)) (fun x hx => by have := areZ_mem h1 (List.mem_of_mem_take hx); omega)
        exact ⟨R, fun _ _ _ => hR⟩
      · exact ⟨[], fun h1 h2' h3 => absurd ⟨h1, h2', h3⟩ hcond⟩
    have CD : ∀ w', Add w w' → Calls Try.prog 19 #[.int .i64 (k' : Nat), .int .i64 (m' : Nat), v] w' (DecP w' k' m' (rs.getD 0 []).length R ix rs) := fun w' g => refDecode_go (h.mono g) hc h30 h2 rfl hR
    cases ha : areZ ix ((k' : Int) + m') with
    | false => exact both_err (er := 1) (by decide) (fun w' g => complete_arg (h.mono g) (.inr ha)) (fun w' g => (CD w' g).mono fun e w2 q => by unfold DecP at q; rw [if_pos ha] at q; exact q)
    | true =>
      have CC : ∀ w', Add w w' → Calls Try.prog 39 #[.int .i64 (k' : Nat), .int .i64 (m' : Nat), v] w' (CompP w' k' m' (rs.getD 0 []).length R ix rs) := fun w' g => complete_any (h.mono g) hc ha rfl (by have := h2 0; omega) (hR ha)
      have na : ¬ (areZ ix ((k' : Int) + m') = false) := by rw [ha]; decide
      by_cases hn : ¬ ix.Nodup
      · exact both_err (er := 8) (by decide) (fun w' g => (CC w' g).mono fun e w2 q => by unfold CompP at q; rw [if_pos hn] at q; exact q) (fun w' g => (CD w' g).mono fun e w2 q => by unfold DecP at q; rw [if_neg na, if_pos hn] at q; exact q)
      · by_cases hs : rs.length < k'
        · exact both_err (er := 10) (by decide) (fun w' g => (CC w' g).mono fun e w2 q => by unfold CompP at q; rw [if_neg hn, if_pos hs] at q; exact q) (fun w' g => (CD w' g).mono fun e w2 q => by unfold DecP at q; rw [if_neg na, if_neg hn, if_pos hs] at q; exact q)
        · by_cases ho : oneLen rs = false
          · exact both_err (er := 11) (by decide) (fun w' g => (CC w' g).mono fun e w2 q => by unfold CompP at q; rw [if_neg hn, if_neg hs, if_pos ho] at q; exact q) (fun w' g => (CD w' g).mono fun e w2 q => by unfold DecP at q; rw [if_neg na, if_neg hn, if_neg hs, if_pos ho] at q; exact q)
          · obtain ⟨L, eL⟩ : ∃ L, L = (rs.getD 0 []).length := ⟨_, rfl⟩
            have hL : L ≤ 2000 := by rw [eL]; exact h2 0
            rw [← eL] at CD CC
            by_cases hg : agreeZ (wordTo k' L (dataOf k' L R rs) (k' + m')) ix rs rs.length = true
            · obtain ⟨D, eD⟩ : ∃ D, D = dataOf k' L R rs := ⟨_, rfl⟩
              have hDl : D.length = k' := by rw [eD]; exact length_prodTo _ _ _ _ _
              have hDa : allLen L D = true := allLen_of fun j hj => by rw [hDl] at hj; rw [eD]; unfold dataOf; rw [prodTo_get hj]; exact length_comb ..
              have C1 : ∀ w', Add w w' → Calls Try.prog 39 #[.int .i64 (k' : Nat), .int .i64 (m' : Nat), v] w' (RetNE w' (k' + m') (wordTo k' L D (k' + m'))) := fun w' g => (CC w' g).mono fun e w2 q => by
                unfold CompP at q
                rw [if_neg hn, if_neg hs, if_neg ho, if_pos hg] at q
                rw [eD]
                exact RetRowsE.n q (length_wordTo _ _ _ _)
              have C2 : ∀ w', Add w w' → Calls Try.prog 19 #[.int .i64 (k' : Nat), .int .i64 (m' : Nat), v] w' (RetLE w' D) := fun w' g => (CD w' g).mono fun e w2 q => by
                unfold DecP at q
                rw [if_neg na, if_neg hn, if_neg hs, if_neg ho, if_pos hg] at q
                rw [eD]; exact q
              have hdec : ∀ w', Add w w' → Calls Try.prog 18 #[.int .i64 (k' : Nat), .int .i64 (m' : Nat), v] w' (RetC w' D 0) := fun w' g => (decode_ok (C1 w' g) (by omega) (by omega)).mono fun e w2 q => by
                rw [word_take (by omega), word_data hDl] at q
                obtain ⟨G, hs', e1, r1, -, a1⟩ := q
                exact ⟨_, _, e1, r1, a1⟩
              have hwr : IntKind.i64.wrap ((k' : Int) + (m' : Int)) = ((k' + m' : Nat) : Int) := by rw [IntKind.wrap_i64]; omega
              cases hr : rowZ i ((k' + m' : Nat) : Int) with
              | false => exact ⟨D, 0, [], 1, hdec, C2, fun w' _ => (rebuild_bad hwr hr).mono fun e w2 h => h.x, fun w' _ => (refRebuild_bad hwr hr).mono fun e w2 h => h.x⟩
              | true =>
                have hr2 : 0 ≤ i ∧ i < ((k' + m' : Nat) : Int) := by unfold rowZ at hr; simpa using hr
                obtain ⟨i', rfl⟩ : ∃ i' : Nat, i = (i' : Int) := ⟨i.toNat, by omega⟩
                refine ⟨D, 0, (wordTo k' L D (k' + m')).getD i' [], 0, hdec, C2, fun w' g => rebuild_ok rfl (by omega) (by omega) (C1 w' g), fun w' g => refRebuild_ok (L := L) rfl (by omega) (by omega) (C2 w' g) fun w2 v2 vs2 hr3 => refEncode_ok hr3 hDl hc (by omega) hDa⟩
            · exact both_err (er := 11) (by decide) (fun w' g => (CC w' g).mono fun e w2 q => by unfold CompP at q; rw [if_neg hn, if_neg hs, if_neg ho, if_neg hg] at q; exact q) (fun w' g => (CD w' g).mono fun e w2 q => by unfold DecP at q; rw [if_neg na, if_neg hn, if_neg hs, if_neg ho, if_neg hg] at q; exact q)
end Go.Proofs.Ytmlcenocjpjcfaa
