/- Package erasure and its reference: the factors of a row of a code word. -/
import Derived.Test.YtmlcenocjpjcfaaE1b
import Derived.Test.YtmlcenocjpjcfaaG18
import Derived.Test.YtmlcenocjpjcfaaG13
namespace Go.Proofs.Ytmlcenocjpjcfaa
open Go.RowKit GfM

/-- The factors of the k data rows in row idx of a code word. -/
def facs (k idx : Nat) : List Nat := if idx < k then unitR k idx else (List.range k).map fun i => coefZ ((idx - k : Nat) : Int) (i : Nat)
theorem length_facs (k idx : Nat) : (facs k idx).length = k := by
  unfold facs; split
  · exact length_unitR _ _
  · simp
theorem bys_facs (k idx : Nat) : Bys (facs k idx) := by
  unfold facs; split
  · exact bys_unitR _ _
  · intro x hx
    obtain ⟨i, _, rfl⟩ := List.mem_map.1 hx
    exact coefZ_lt _ _
theorem facs_get {k idx i : Nat} (h : ¬ idx < k) (hi : i < k) : (facs k idx).getD i 0 = coefZ ((idx - k : Nat) : Int) (i : Nat) := by
  unfold facs; rw [if_neg h]; simp [List.getD, hi]
/-- What factors returns. -/
def FacP (w : World) (k : Nat) (zs : List Nat) (e : Ending) (w' : World) : Prop := ∃ g, e = .returned (.slice (some ⟨g, 0, none⟩) k k) ∧ Own w' w.heap.size g k zs ∧ Add w w'

set_option maxRecDepth 100000 in
set_option maxHeartbeats 1000000 in
theorem factors_any (k idx : Nat) (hk : k ≤ 1000) (hi : idx ≤ 1000) (w : World) : Calls Try.prog 48 #[.int .i64 (k : Nat), .int .i64 (idx : Nat)] w (FacP w k (facs k idx)) := by
  obtain ⟨i0, hi0, hz0, hz1, hz2⟩ := info_parts info5
  obtain ⟨F, eF⟩ : ∃ F, F = facs k idx := ⟨_, rfl⟩
  rw [← eF]
  have EF := Lib.hid eF
  have HL : Hid (F.length = k) := Lib.hid (by rw [eF]; exact length_facs _ _)
  clear eF
  go_enter Try.func48, Try.ntmps48
  by_cases hik : idx < k
  · have d1 : decide ((idx : Int) < (k : Int)) = true := decide_eq_true (by omega)
    go_wp2_with (at_make; refine wpList_make_full _ rfl _ _ 32 rfl w.heap.size 5 i0 (.int .u8 0) 1 Try.underlying32 hi0 hz0 hz1 _ _ _ _ k rfl rfl (by omega) (by omega) (by rw [hz2]; omega) (by unfold maxLen; omega) (Nat.le_refl _) ?_)
    intro w1 hown hgr
    have hadd : Add w w1 := (Below.refl _ _).grown hgr (Nat.le_refl _) (by simp)
    have hrow := (Own.made hown).row
    have hcz := hrow.cell idx (by simpa using hik)
    have hfree := hrow.free idx
    obtain ⟨old, eold⟩ : ∃ old, old = (List.replicate k 0).getD idx 0 := ⟨_, rfl⟩
    rw [← eold] at hcz
    have HEND : Hid (Own (w1.setCell ⟨w.heap.size, idx, none⟩ (.int .u8 1)) w.heap.size w.heap.size k F ∧ Add w (w1.setCell ⟨w.heap.size, idx, none⟩ (.int .u8 1))) := Lib.hid (by
      have h2 := hrow.set idx 1
      have e : (List.replicate k 0).set idx 1 = F := by rw [EF.out]; unfold facs; rw [if_pos hik]; rfl
      rw [e] at h2
      exact ⟨h2.own (Nat.le_refl _) HL.out (by unfold maxLen; omega), hadd.setCell (Nat.le_refl _) _⟩)
    clear hown hgr hadd hrow eold
    go_wp2_with fail
    go_ret
    exact ⟨w.heap.size, rfl, HEND.out.1, HEND.out.2⟩
  · have d1 : decide (idx < k) = false := decide_eq_false hik
    obtain ⟨j, ej⟩ : ∃ j, idx = k + j := ⟨idx - k, by omega⟩
    have HG : Hid (∀ i, i < k → F.getD i 0 = coefZ (j : Nat) (i : Nat)) := Lib.hid fun i h => by
      rw [EF.out, facs_get hik h]; congr 2; omega
    have hsub : (idx : Int) - (k : Int) = (j : Int) := by omega
    clear hik ej
    go_wp2_with (at_make; refine wpList_make_full _ rfl _ _ 32 rfl w.heap.size 5 i0 (.int .u8 0) 1 Try.underlying32 hi0 hz0 hz1 _ _ _ _ k rfl rfl (by omega) (by omega) (by rw [hz2]; omega) (by unfold maxLen; omega) (Nat.le_refl _) ?_)
    intro w1 hown hgr
    have hadd : Add w w1 := (Below.refl _ _).grown hgr (Nat.le_refl _) (by simp)
    have HROW : Hid (Row w1 w.heap.size (fillTo F k 0)) := Lib.hid (by rw [fillTo_zero]; exact (Own.made hown).row)
    have HADD := Lib.hid hadd
    clear hown hgr hadd
    go_wp2_with fail
    go_loopw [18] (fun i wr => ∃ q : Nat, q ≤ k ∧ i = .int .i64 (q : Nat) ∧ Row wr w.heap.size (fillTo F k q) ∧ Add w wr) (fun i _ => k - (intOf i).toNat)
    case atStart => exact ⟨0, Nat.zero_le _, rfl, HROW.out, HADD.out⟩
    case round =>
      obtain ⟨q, hq, rfl, hrow, hadd⟩ := hrel
      by_cases h0 : q = k
      · have HF : Hid (Own wr w.heap.size w.heap.size k F) := Lib.hid (by
          rw [h0, fillTo_all HL.out] at hrow
          exact hrow.own (Nat.le_refl _) HL.out (by unfold maxLen; omega))
        have HA := Lib.hid hadd
        clear hrow hadd
        subst h0
        go_wp2_with fail
        go_ret
        exact ⟨w.heap.size, rfl, HF.out, HA.out⟩
      · have hlt : q < k := by omega
        have hcz := hrow.cell q (by rw [length_fillTo HL.out hq]; exact hlt)
        have hfree := hrow.free q
        obtain ⟨old, eold⟩ : ∃ old, old = (fillTo F k q).getD q 0 := ⟨_, rfl⟩
        rw [← eold] at hcz
        obtain ⟨c, ec⟩ : ∃ c, c = coefZ (j : Nat) (q : Nat) := ⟨_, rfl⟩
        have C1 : Hid (Calls Try.prog 16 #[.int .i64 (j : Nat), .int .i64 (q : Nat)] wr (RetB wr c)) := Lib.hid (by rw [ec]; exact coef_any _ _ _)
        have HNEXT : Hid (Row (wr.setCell ⟨w.heap.size, q, none⟩ (.int .u8 (c : Nat))) w.heap.size (fillTo F k (q + 1)) ∧ Add w (wr.setCell ⟨w.heap.size, q, none⟩ (.int .u8 (c : Nat)))) := Lib.hid (by
          have h2 := hrow.set q c
          rw [ec, ← HG.out q hlt, fillTo_step HL.out hlt] at h2
          rw [ec, ← HG.out q hlt]
          exact ⟨h2, hadd.setCell (Nat.le_refl _) _⟩)
        clear hrow hadd eold ec h0
        go_wp2_with (go_at_call 16; (with_reducible refine C1.out.mono ?_); rintro e w' ⟨rfl, rfl⟩)
        go_roundw
        case rel => exact ⟨q + 1, by omega, by go_num, HNEXT.out.1, HNEXT.out.2⟩
        case measure => simp [intOf]; omega

set_option maxRecDepth 100000 in
set_option maxHeartbeats 1000000 in
theorem refFactors_any (k idx : Nat) (hk : k ≤ 1000) (hi : idx ≤ 1000) (w : World) : Calls Try.prog 35 #[.int .i64 (k : Nat), .int .i64 (idx : Nat)] w (FacP w k (facs k idx)) := by
  obtain ⟨i0, hi0, hz0, hz1, hz2⟩ := info_parts info5
  obtain ⟨F, eF⟩ : ∃ F, F = facs k idx := ⟨_, rfl⟩
  rw [← eF]
  have EF := Lib.hid eF
  have HL : Hid (F.length = k) := Lib.hid (by rw [eF]; exact length_facs _ _)
  clear eF
  go_enter Try.func35, Try.ntmps35
  go_wp2_with (at_make; refine wpList_make_full _ rfl _ _ 32 rfl w.heap.size 5 i0 (.int .u8 0) 1 Try.underlying32 hi0 hz0 hz1 _ _ _ _ k rfl rfl (by omega) (by omega) (by rw [hz2]; omega) (by unfold maxLen; omega) (Nat.le_refl _) ?_)
  intro w1 hown hgr
  have hadd : Add w w1 := (Below.refl _ _).grown hgr (Nat.le_refl _) (by simp)
  have HROW : Hid (Row w1 w.heap.size (fillTo F k 0)) := Lib.hid (by rw [fillTo_zero]; exact (Own.made hown).row)
  have HADD := Lib.hid hadd
  clear hown hgr hadd
  go_wp2_with fail
  go_loopw [6] (fun i wr => ∃ q : Nat, q ≤ k ∧ i = .int .i64 (q : Nat) ∧ Row wr w.heap.size (fillTo F k q) ∧ Add w wr) (fun i _ => k - (intOf i).toNat)
  case atStart => exact ⟨0, Nat.zero_le _, rfl, HROW.out, HADD.out⟩
  case round =>
    obtain ⟨q, hq, rfl, hrow, hadd⟩ := hrel
    by_cases h0 : q = k
    · have HF : Hid (Own wr w.heap.size w.heap.size k F) := Lib.hid (by
        rw [h0, fillTo_all HL.out] at hrow
        exact hrow.own (Nat.le_refl _) HL.out (by unfold maxLen; omega))
      have HA := Lib.hid hadd
      clear hrow hadd
      subst h0
      go_wp2_with fail
      go_ret
      exact ⟨w.heap.size, rfl, HF.out, HA.out⟩
    · have hlt : q < k := by omega
      have hcz := hrow.cell q (by rw [length_fillTo HL.out hq]; exact hlt)
      have hfree := hrow.free q
      obtain ⟨old, eold⟩ : ∃ old, old = (fillTo F k q).getD q 0 := ⟨_, rfl⟩
      rw [← eold] at hcz
      have HNEXT : Hid (∀ c : Nat, F.getD q 0 = c → Row (wr.setCell ⟨w.heap.size, q, none⟩ (.int .u8 (c : Nat))) w.heap.size (fillTo F k (q + 1)) ∧ Add w (wr.setCell ⟨w.heap.size, q, none⟩ (.int .u8 (c : Nat)))) := Lib.hid fun c ec => by
        have h2 := hrow.set q c
        rw [← ec, fillTo_step HL.out hlt] at h2
        rw [← ec]
        exact ⟨h2, hadd.setCell (Nat.le_refl _) _⟩
      have HSAME : Hid (F.getD q 0 = 0 → Row wr w.heap.size (fillTo F k (q + 1)) ∧ Add w wr) := Lib.hid fun e => by
        have h2 : (fillTo F k q).set q 0 = fillTo F k (q + 1) := by
          have := fillTo_step (S := F) HL.out hlt; rw [e] at this; exact this
        have h3 : (fillTo F k q).set q 0 = fillTo F k q := by
          have hz : (fillTo F k q).getD q 0 = 0 := by
            unfold fillTo
            simp only [List.getD]
            rw [List.getElem?_append_right (by rw [List.length_take]; omega)]
            rw [List.getElem?_replicate]; split <;> rfl
          refine List.ext_getElem (by simp) fun m h1 h2 => ?_
          rw [List.getElem_set]
          split
          · rename_i em
            subst em
            simp only [List.getD, List.getElem?_eq_getElem h2, Option.getD_some] at hz
            exact hz.symm
          · rfl
        rw [← h2, h3]; exact ⟨hrow, hadd⟩
      clear hrow hadd eold h0
      by_cases hik : idx < k
      · have d1 : decide ((k : Int) ≤ (idx : Int)) = false := decide_eq_false (by omega)
        by_cases hqi : q = idx
        · have hb : ((q : Int) == (idx : Int)) = true := by simp [hqi]
          have HN := Lib.hid (HNEXT.out 1 (by rw [EF.out]; unfold facs; rw [if_pos hik]; simp [unitR, List.getD, hqi, hik]))
          clear hqi HSAME HNEXT
          go_wp2_with fail
          go_roundw
          case rel => exact ⟨q + 1, by omega, by go_num, HN.out.1, HN.out.2⟩
          case measure => simp [intOf]; omega
        · have hb : ((q : Int) == (idx : Int)) = false := by rw [beq_eq_false_iff_ne]; omega
          have HN := Lib.hid (HSAME.out (by
            rw [EF.out]; unfold facs; rw [if_pos hik]; unfold unitR
            simp only [List.getD]; rw [List.getElem?_set_ne (by omega)]; simp [hlt]))
          clear hqi HSAME HNEXT
          go_wp2_with fail
          go_roundw
          case rel => exact ⟨q + 1, by omega, by go_num, HN.out.1, HN.out.2⟩
          case measure => simp [intOf]; omega
      · have d1 : decide ((k : Int) ≤ (idx : Int)) = true := decide_eq_true (by omega)
        obtain ⟨j, ej⟩ : ∃ j, idx = k + j := ⟨idx - k, by omega⟩
        obtain ⟨c, ec⟩ : ∃ c, c = coefZ (j : Nat) (q : Nat) := ⟨_, rfl⟩
        have HN := Lib.hid (HNEXT.out c (by rw [EF.out, facs_get hik hlt, ec]; congr 2; omega))
        have hsub : (idx : Int) - (k : Int) = (j : Int) := by omega
        have C1 : Hid (Calls Try.prog 17 #[.int .i64 (j : Nat), .int .i64 (q : Nat)] wr (RetB wr c)) := Lib.hid (by rw [ec]; exact refCoef_any _ _ _)
        clear hik ej ec HSAME HNEXT
        go_wp2_with (go_at_call 17; (with_reducible refine C1.out.mono ?_); rintro e w' ⟨rfl, rfl⟩)
        go_roundw
        case rel => exact ⟨q + 1, by omega, by go_num, HN.out.1, HN.out.2⟩
        case measure => simp [intOf]; omega
end Go.Proofs.Ytmlcenocjpjcfaa
