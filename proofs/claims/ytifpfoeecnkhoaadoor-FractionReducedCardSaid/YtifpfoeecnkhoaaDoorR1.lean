/- The reference's Trim, large, Make, Cmp. -/
import Derived.Test.YtifpfoeecnkhoaaDoorR0
namespace Go.Proofs.YtifpfoeecnkhoaaDoor
open Go.RowKit NatM

theorem refTrim_any (v : Value) (xs : List Nat) (w : World) (h : Reads w v xs) (hs : xs.length ≤ 1000000) :
    Calls Tryd.prog 13 #[v] w (RetO w (val xs)) := by
  obtain ⟨i0, hi, hz0, hz1, hz2⟩ := info_parts info26
  obtain ⟨ao, n, c, rfl, hl, hc, hm, hx, hr⟩ := h
  unfold maxLen at hm
  have hmm : n ≤ 1000000 := by omega
  have HX := Lib.hid hx
  have HL := Lib.hid hl
  clear hl hs hx
  have hfin : ∀ (k : Nat) (v' : Value) (w' : World), tlen xs = k → w'.ownsRow w.heap.size 26 1 v' k ((xs.take k).map lim) → Add w w' → RetO w (val xs) (.returned v') w' := by
    intro k v' w' hk h1 h2
    have hl := HL.out
    have hkl : (xs.take k).length = k := by rw [List.length_take]; have := tlen_le xs; omega
    refine ⟨v', rfl, ⟨xs.take k, ?_, HX.out.take _, ?_, ?_⟩, h2⟩
    · unfold OwnL; rw [hkl]; exact h1
    · rw [← hk]; exact Canon.trim xs
    · rw [← hk]; exact val_trim xs
  have HF := Lib.hid hfin
  clear hfin
  go_enter Tryd.func13, Tryd.ntmps13
  go_wp2_with fail
  go_loop [3] (fun v => ∃ k : Nat, k ≤ n ∧ v = .int .i64 k ∧ tlen xs ≤ k) (fun v => (intOf v).toNat)
  case atStart => exact ⟨n, Nat.le_refl _, rfl, by rw [← HL.out]; exact tlen_le xs⟩
  case round =>
    obtain ⟨k, hk, rfl, ht⟩ := hrel
    by_cases h0 : k = 0
    · subst h0
      have h1 := HF.out 0 (.slice none 0 0) w (by omega) (World.ownsRow_nil _ _ _ _) (Below.refl _ _)
      cases ao with
      | none =>
        go_wp2_with (at_builtin; refine wpList_append_none_none rfl _ _ 23 rfl 26 i0 Tryd.underlying23 hi _ rfl rfl ?_)
        go_ret
        exact h1
      | some ad =>
        go_wp2_with (at_builtin; refine wpList_append_own _ rfl _ _ 23 rfl w.heap.size 26 i0 (.int .u32 0) 1 4 Tryd.underlying23 hi hz0 hz1 hz2 rfl (by decide) _ 0 [] rfl (World.ownsRow_nil _ _ _ _) ad 0 _ [] rfl rfl (by intro j u hu; simp at hu) (by intro u hu; simp at hu) (by unfold maxLen; omega) (by omega) (Nat.le_refl _) ?_)
        intro v' w' hown hgr hiff
        have hadd : Add w w' := (Below.refl _ _).grown hgr (Nat.le_refl _) (fun k hk => by simp [Value.ownBlock] at hk)
        have h2 := HF.out 0 v' w' (by omega) hown hadd
        clear hown hgr hiff
        go_wp2_with fail
        go_ret
        exact h2
    · obtain ⟨j, rfl⟩ : ∃ j, k = j + 1 := ⟨k - 1, by omega⟩
      obtain ⟨b, off, rfl, g⟩ := hr (by omega)
      have G := Lib.hid g
      have hcell := g j (by omega)
      clear g hr
      obtain ⟨x, hx'⟩ : ∃ x, x = xs.getD j 0 := ⟨_, rfl⟩
      rw [← hx'] at hcell
      have HX' := Lib.hid hx'
      clear hx'
      by_cases hz : x = 0
      · subst hz
        go_wp2_with fail
        go_round
        case rel => 
          refine ⟨j, by omega, by go_num, ?_⟩
          rcases Nat.lt_or_ge (tlen xs) (j + 1) with h1 | h1
          · omega
          · have h2 : tlen xs = j + 1 := by omega
            have := tlen_top xs (by omega)
            rw [h2] at this
            exact absurd HX'.out.symm this
        case measure => simp [intOf]
      · have hz1' : ((x : Int) == 0) = false := by simpa using hz
        have ht2 : tlen xs = j + 1 := by
          rcases Nat.lt_or_ge (tlen xs) (j + 1) with h1 | h1
          · have := tlen_above xs j (by omega)
            rw [← HX'.out] at this
            exact absurd this hz
          · omega
        have HT := Lib.hid ht2
        clear ht2
        have hnews := reads_front (k := j + 1) G.out hk HL.out
        have hnl : ((xs.take (j + 1)).map lim).length = (j + 1) * 1 := by rw [List.length_map, List.length_take, HL.out]; omega
        go_wp2_with (at_builtin; refine wpList_append_own _ rfl _ _ 23 rfl w.heap.size 26 i0 (.int .u32 0) 1 4 Tryd.underlying23 hi hz0 hz1 hz2 rfl (by decide) _ 0 [] rfl (World.ownsRow_nil _ _ _ _) ⟨b, off, none⟩ (j + 1) _ ((xs.take (j + 1)).map lim) rfl hnl hnews (lim_one _) (by unfold maxLen; omega) (by omega) (Nat.le_refl _) ?_)
        intro v' w' hown hgr hiff
        have hadd : Add w w' := (Below.refl _ _).grown hgr (Nat.le_refl _) (fun k hk => by simp [Value.ownBlock] at hk)
        have h2 := HF.out (j + 1) v' w' HT.out (by rw [List.map_take]; exact hown) hadd
        clear hown hgr hiff hnews hnl
        go_wp2_with fail
        go_ret
        exact h2

theorem refLarge_is (b : Bool) (v : Value) (xs : List Nat) (w : World) (h : Reads w v xs) (hs : xs.length ≤ 1000000) (hb : Hid (decide (pw 512 ≤ val xs) = b)) :
    Calls Tryd.prog 16 #[v] w (fun e w' => e = .returned (.bool b) ∧ Add w w') := by
  have HT := Lib.hid (refTrim_any v xs w h hs)
  go_enter Tryd.func16, Tryd.ntmps16
  go_wp2_with fail
  refine HT.out.mono ?_
  rintro e w1 ⟨v', rfl, ⟨zs, h1, h2, h3, h4⟩, hadd⟩
  obtain ⟨ao, c, rfl⟩ := h1.len
  have e1 : decide ((512 : Int) < (zs.length : Nat)) = b := by
    rw [← hb.out, decide_eq_decide, ← h4, ← tlen_gt_iff h2 512]
    unfold Canon at h3
    omega
  have E1 := Lib.hid e1
  clear e1 h1 h2 h3 h4
  go_wp2_with fail
  go_ret
  exact ⟨by rw [← E1.out]; rfl, hadd⟩
end Go.Proofs.YtifpfoeecnkhoaaDoor
