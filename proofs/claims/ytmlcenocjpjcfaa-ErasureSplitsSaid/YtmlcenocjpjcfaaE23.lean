/- Package erasure: total and Join; rows one behind the other. -/
import Derived.Test.YtmlcenocjpjcfaaE20
import Derived.Lib.AppendZerosOnto
namespace Go.Proofs.Ytmlcenocjpjcfaa
open Go.RowKit GfM

theorem flat_get {rs : List (List Nat)} {q : Nat} (hq : q < rs.length) : rs.flatten = (rs.take q).flatten ++ (rs.getD q [] ++ (rs.drop (q + 1)).flatten) := by
  have e : rs = rs.take q ++ (rs.getD q [] :: rs.drop (q + 1)) := by
    have h1 : rs.drop q = rs[q] :: rs.drop (q + 1) := List.drop_eq_getElem_cons hq
    have h2 : rs.getD q [] = rs[q] := by simp [List.getD, hq]
    rw [h2, ← h1, List.take_append_drop]
  conv => lhs; rw [e]
  rw [List.flatten_append, List.flatten_cons]
theorem flat_take {rs : List (List Nat)} {q : Nat} (hq : q < rs.length) : (rs.take (q + 1)).flatten = (rs.take q).flatten ++ rs.getD q [] := by
  rw [List.take_succ_eq_append_getElem hq, List.flatten_append]
  simp [List.getD, hq]
theorem flat_le (rs : List (List Nat)) (q : Nat) (h : ∀ i, (rs.getD i []).length ≤ 2000) : (rs.take q).flatten.length ≤ 2000 * q := by
  induction q with
  | zero => simp
  | succ q ih =>
    by_cases hq : q < rs.length
    · rw [flat_take hq, List.length_append]; have := h q; omega
    · rw [List.take_of_length_le (by omega)] at ih ⊢; omega
theorem bys_flat {rs : List (List Nat)} (h : ∀ i, Bys (rs.getD i [])) : Bys rs.flatten := by
  intro x hx
  obtain ⟨r, hr, hxr⟩ := List.mem_flatten.1 hx
  obtain ⟨i, hi, rfl⟩ := List.mem_iff_getElem.1 hr
  have := h i
  simp only [List.getD, List.getElem?_eq_getElem hi, Option.getD_some] at this
  exact this x hxr
theorem rows_bys {w : World} {v : Value} {vs : List Value} {rs : List (List Nat)} (h : RowsB w v vs rs) (i : Nat) : Bys (rs.getD i []) := by
  by_cases hi : i < rs.length
  · obtain ⟨ao, c, rfl, -⟩ := h.isSlice
    obtain ⟨_, _, _, _, _, _, _, _, _, _, hrd⟩ := h.row hi
    exact hrd.limbs
  · have e : rs.getD i [] = [] := by simp [List.getD, Nat.le_of_not_lt hi]
    rw [e]; exact Bys.nil

set_option maxRecDepth 100000 in
set_option maxHeartbeats 1000000 in
theorem total_any {w : World} {v : Value} {vs : List Value} {rs : List (List Nat)} (h : RowsB w v vs rs) (h30 : rs.length ≤ 30) (h2 : ∀ i, (rs.getD i []).length ≤ 2000) {T : Nat} (hT : rs.flatten.length = T) :
    Calls Try.prog 46 #[v] w (fun e w' => e = .returned (.int .i64 (T : Nat)) ∧ w = w') := by
  have HTT := Lib.hid hT
  obtain ⟨ao, c, rfl, hm⟩ := h.isSlice
  obtain ⟨l, hl⟩ : ∃ l, l = rs.length := ⟨_, rfl⟩
  rw [← hl] at h hm h30 ⊢
  have HL := Lib.hid hl
  have HR := Lib.hid h
  have H2 := Lib.hid h2
  clear hl h hm h2 hT
  go_enter Try.func46, Try.ntmps46
  go_wp2_with fail
  go_loop [3, 8] (fun a i => ∃ n k : Nat, n = (rs.take k).flatten.length ∧ k ≤ l ∧ n ≤ 2000 * k ∧ a = .int .i64 (n : Nat) ∧ i = .int .i64 (k : Nat)) (fun _ i => l - (intOf i).toNat)
  case atStart => exact ⟨0, 0, rfl, Nat.zero_le _, Nat.zero_le _, rfl, rfl⟩
  case round =>
    obtain ⟨n, k, hn, hk, hb, rfl, rfl⟩ := hrel
    have HN := Lib.hid hn
    clear hn
    by_cases h0 : k = l
    · have HF : Hid (T = n) := Lib.hid (by rw [← HTT.out, HN.out, h0, HL.out, List.take_length])
      subst h0
      go_wp2_with fail
      go_ret
      exact ⟨by rw [HF.out]; rfl, rfl⟩
    · have hlt : k < l := by omega
      obtain ⟨b, off, a, m, cc, rfl, -, em, hmm, hcell, -⟩ := HR.out.row hlt
      have hm2 : m ≤ 2000 := by rw [em]; exact H2.out k
      have HNEXT : Hid (n + m = (rs.take (k + 1)).flatten.length) := Lib.hid (by rw [flat_take (by rw [← HL.out]; exact hlt), List.length_append, ← HN.out, em])
      clear em h0
      go_wp2_with fail
      go_round
      case rel => exact ⟨n + m, k + 1, HNEXT.out, by omega, by omega, by go_num, by go_num⟩
      case measure => simp [intOf]; omega

/-- A copy of the next row. -/
theorem fill_copy {rs : List (List Nat)} {m q f mn : Nat} {F : List Nat} (hq : q < rs.length) (hF : F = rs.flatten.take m) (hm : m ≤ rs.flatten.length) (hf : f = min m (rs.take q).flatten.length) (hmn : mn = min (rs.getD q []).length (m - f)) :
    (fillTo F m f).take f ++ ((rs.getD q []).take mn ++ (fillTo F m f).drop (f + mn)) = fillTo F m (f + mn) ∧ f + mn = min m (rs.take (q + 1)).flatten.length := by
  have hFl : F.length = m := by rw [hF, List.length_take]; omega
  have hfm : f ≤ m := by omega
  have hmnm : f + mn ≤ m := by omega
  refine ⟨?_, ?_⟩
  · have e1 : (fillTo F m f).take f = F.take f := by
      unfold fillTo
      rw [List.take_append_of_le_length (by rw [List.length_take]; omega), List.take_take, Nat.min_self]
    have e2 : (fillTo F m f).drop (f + mn) = List.replicate (m - (f + mn)) 0 := by
      unfold fillTo
      rw [List.drop_append, List.drop_of_length_le (by rw [List.length_take]; omega), List.nil_append, List.length_take, List.drop_replicate]
      congr 1; omega
    rw [e1, e2, ← List.append_assoc]
    have e3 : F.take f ++ (rs.getD q []).take mn = F.take (f + mn) := by
      by_cases h0 : mn = 0
      · rw [h0]; simp
      · have hp : f = (rs.take q).flatten.length := by omega
        rw [hF, List.take_take, List.take_take, Nat.min_eq_left (by omega), Nat.min_eq_left (by omega), flat_get hq, hp]
        rw [List.take_append_of_le_length (Nat.le_refl _), List.take_length, List.take_append, List.take_of_length_le (show (rs.take q).flatten.length ≤ (rs.take q).flatten.length + mn by omega)]
        congr 1
        rw [show (rs.take q).flatten.length + mn - (rs.take q).flatten.length = mn by omega, List.take_append_of_le_length (by omega)]
    rw [e3]
    unfold fillTo
    rfl
  · rw [flat_take hq, List.length_append]; omega

set_option maxRecDepth 100000 in
set_option maxHeartbeats 2000000 in
theorem join_ok {w : World} {v : Value} {vs : List Value} {rs : List (List Nat)} {m : Nat} (h : RowsB w v vs rs) (h30 : rs.length ≤ 30) (h2 : ∀ i, (rs.getD i []).length ≤ 2000) (hm : m ≤ rs.flatten.length) :
    Calls Try.prog 28 #[v, .int .i64 (m : Nat)] w (RetRow w (rs.flatten.take m)) := by
  obtain ⟨i0, hi0, hz0, hz1, hz2⟩ := info_parts info5
  have hT : rs.flatten.length ≤ 60000 := by
    have := flat_le rs rs.length h2
    rw [List.take_length] at this; omega
  have CT : Hid (Calls Try.prog 46 #[v] w (fun e w' => e = .returned (.int .i64 (rs.flatten.length : Nat)) ∧ w = w')) := Lib.hid (total_any h h30 h2 rfl)
  have hbF : Bys (rs.flatten.take m) := (bys_flat (rows_bys h)).take m
  obtain ⟨ao, c, rfl, hml⟩ := h.isSlice
  obtain ⟨l, hl⟩ : ∃ l, l = rs.length := ⟨_, rfl⟩
  rw [← hl] at h hml h30 CT ⊢
  obtain ⟨T, eT⟩ : ∃ T, T = rs.flatten.length := ⟨_, rfl⟩
  rw [← eT] at CT hT hm
  obtain ⟨F, eF⟩ : ∃ F, F = rs.flatten.take m := ⟨_, rfl⟩
  rw [← eF] at hbF ⊢
  have hFl : Hid (F.length = m) := Lib.hid (by rw [eF, List.length_take]; omega)
  have HL := Lib.hid hl
  have HR := Lib.hid h
  have HT := Lib.hid eT
  have HF := Lib.hid eF
  have d1 : decide ((m : Int) < 0) = false := decide_eq_false (by omega)
  have d2 : decide ((T : Int) < (m : Int)) = false := decide_eq_false (by omega)
  clear hl h hml eT eF h2
  go_enter Try.func28, Try.ntmps28
  go_wp2_with first | (go_at_call 46; (with_reducible refine CT.out.mono ?_); rintro e w' ⟨rfl, rfl⟩) | (at_make; refine wpList_make_full _ rfl _ _ 32 rfl w.heap.size 5 i0 (.int .u8 0) 1 Try.underlying32 hi0 hz0 hz1 _ _ _ _ m rfl rfl (by omega) (by omega) (by rw [hz2]; omega) (by unfold maxLen; omega) (Nat.le_refl _) ?_)
  intro w1 hown hgr
  obtain ⟨g, eg⟩ : ∃ g, g = w.heap.size := ⟨_, rfl⟩
  rw [← eg] at hown ⊢
  have HROW : Hid (Row w1 g (fillTo F m 0)) := Lib.hid (by rw [fillTo_zero]; exact (Own.made hown).row)
  have HADD : Hid (Add w w1) := Lib.hid ((Below.refl _ _).grown hgr (Nat.le_refl _) (by simp))
  have hwg : w.heap.size ≤ g := by omega
  clear hown hgr eg
  go_wp2_with fail
  go_loopw [7, 22] (fun a i wr => ∃ f q : Nat, f = min m (rs.take q).flatten.length ∧ q ≤ l ∧ f ≤ m ∧ a = .int .i64 (f : Nat) ∧ i = .int .i64 (q : Nat) ∧ Row wr g (fillTo F m f) ∧ Add w wr) (fun _ i _ => l - (intOf i).toNat)
  case atStart => exact ⟨0, 0, by simp, Nat.zero_le _, Nat.zero_le _, rfl, rfl, HROW.out, HADD.out⟩
  case round =>
    obtain ⟨f, q, hf, hq, hfm, rfl, rfl, hrow, hadd⟩ := hrel
    have HFE := Lib.hid hf
    clear hf
    by_cases h0 : q = l
    · have HEND : Hid (Reads wr (.slice (some ⟨g, 0, none⟩) m m) F ∧ Add w wr) := Lib.hid (by
        have e : f = m := by
          have := HFE.out
          rw [h0, HL.out, List.take_length, ← HT.out] at this; omega
        rw [e, fillTo_all hFl.out] at hrow
        have := hrow.reads (m := m) (c := m) (by rw [hFl.out]; exact Nat.le_refl _) (Nat.le_refl _) (by unfold maxLen; omega) hbF
        rw [List.take_of_length_le (by rw [hFl.out]; exact Nat.le_refl _)] at this
        exact ⟨this, hadd⟩)
      clear hrow hadd
      subst h0
      go_wp2_with fail
      go_ret2
      exact ⟨_, _, _, rfl, HEND.out.1, HEND.out.2⟩
    · have hlt : q < l := by omega
      obtain ⟨b, off, a, lx, cc, rfl, -, el, -, hcell, hrd⟩ := (HR.out.mono hadd).row hlt
      obtain ⟨mn, emn⟩ : ∃ mn, mn = min lx (m - f) := ⟨_, rfl⟩
      have hq2 : q < rs.length := by rw [← HL.out]; exact hlt
      obtain ⟨k1, k2⟩ := fill_copy (mn := mn) hq2 HF.out (by rw [← HT.out]; exact hm) HFE.out (by rw [← el]; exact emn)
      have hfit : f + Nat.min lx (m - f) ≤ (fillTo F m f).length := by
        have h5 : Nat.min lx (m - f) ≤ m - f := Nat.min_le_right _ _
        have h6 := length_fillTo hFl.out hfm
        omega
      have hrun := fun dp (hpos : 0 < Nat.min lx (m - f) → dp = some ⟨g, f, none⟩) => copy_run (dp := dp) (d := m - f) (dCap := m - f) (off := f) hrow hrd hfit hpos
      have emn' : Nat.min lx (m - f) = mn := emn.symm
      rw [emn', k1] at hrun
      have HK2 := Lib.hid k2
      have hNEXT : ∀ dp, (0 < mn → dp = some ⟨g, f, none⟩) → Hid (∃ w3, (Builtin.copy_ #[32, 32] 3 #[.slice dp (m - f) (m - f), .slice a lx cc]).run Try.prog wr = .ok (.int .i64 (mn : Nat)) w3 ∧ Row w3 g (fillTo F m (f + mn)) ∧ Add w w3) := by
        intro dp hdp
        obtain ⟨w3, h1, h2, h3, h4⟩ := hrun dp hdp
        exact Lib.hid ⟨w3, h1, h2, hadd.grown h4 hadd.size (fun j hj => by cases hj; exact hwg)⟩
      have hmnm : f + mn ≤ m := by omega
      have hm0 : f = m → mn = 0 := by omega
      clear hrow hadd hrd k1 k2 hrun hfit emn' el h0 emn
      by_cases hfe : f = m
      · have HN := hNEXT (some ⟨g, 0, none⟩) (by have := hm0 hfe; omega)
        rw [hfe, Nat.sub_self] at HN
        clear hNEXT
        obtain ⟨w3, hrun, hrow3, hadd3⟩ := HN.out
        have HR3 := Lib.hid hrow3
        have HA3 := Lib.hid hadd3
        have HQ3 := Lib.hid hrun
        clear hrow3 hadd3 HN hrun
        subst hfe
        go_wp2_with fail
        rw [HQ3.out]
        go_wp2_with fail
        go_roundw
        case rel => exact ⟨f + mn, q + 1, HK2.out, by omega, by omega, by go_num, by go_num, HR3.out, HA3.out⟩
        case measure => simp [intOf]; omega
      · have HN := hNEXT (some ⟨g, f, none⟩) (fun _ => rfl)
        clear hNEXT
        obtain ⟨w3, hrun, hrow3, hadd3⟩ := HN.out
        have HR3 := Lib.hid hrow3
        have HA3 := Lib.hid hadd3
        have HQ3 := Lib.hid hrun
        clear hrow3 hadd3 HN hrun
        go_wp2_with fail
        rw [HQ3.out]
        go_wp2_with fail
        go_roundw
        case rel => exact ⟨f + mn, q + 1, HK2.out, by omega, by omega, by go_num, by go_num, HR3.out, HA3.out⟩
        case measure => simp [intOf]; omega
end Go.Proofs.Ytmlcenocjpjcfaa
