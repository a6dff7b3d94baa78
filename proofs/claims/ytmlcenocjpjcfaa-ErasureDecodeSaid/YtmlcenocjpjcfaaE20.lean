/- The helper long of the laws of erasure; the reference's Encode. -/
import Derived.Test.YtmlcenocjpjcfaaE14
import Derived.Test.YtmlcenocjpjcfaaG11
import Derived.Test.YtmlcenocjpjcfaaG12
namespace Go.Proofs.Ytmlcenocjpjcfaa
open Go.RowKit GfM

set_option maxRecDepth 100000 in
set_option maxHeartbeats 1000000 in
theorem longE_any {v : Value} {vs : List Value} {rs : List (List Nat)} {w : World} (h : RowsB w v vs rs) :
    Calls Try.prog 11 #[v] w (RetBo w (longE rs)) := by
  obtain ⟨ao, c, rfl, hm⟩ := h.isSlice
  unfold maxLen at hm
  obtain ⟨l, hl⟩ : ∃ l, l = rs.length := ⟨_, rfl⟩
  rw [← hl] at h hm ⊢
  have HL := Lib.hid hl
  have HR := Lib.hid h
  have hm' : l ≤ 9223372036854775807 := by omega
  have HE1 : Hid (∀ n k, n = lsum rs k → k ≤ l → 2000 < n → longE rs = true) := Lib.hid fun n k hn hk h2 => by
    have hmono := lsum_mono (rs := rs) (i := k) (j := rs.length) (by omega)
    unfold longE
    rw [decide_eq_true (show 2000 < lsum rs rs.length by omega), Bool.true_or]
  have HE2 : Hid (∀ n k, n = lsum rs k → k = l → ¬ 2000 < n → longE rs = decide (30 < l)) := Lib.hid fun n k hn hk h2 => by
    unfold longE
    rw [decide_eq_false (show ¬ 2000 < lsum rs rs.length by rw [← hl, ← hk, ← hn]; exact h2), Bool.false_or, ← hl]
  clear hl h hm
  go_enter Try.func11, Try.ntmps11
  go_wp2_with fail
  go_loop [3, 4] (fun a i => ∃ n k : Nat, n = lsum rs k ∧ k ≤ l ∧ n ≤ l + 4001 ∧ l ≤ n ∧ a = .int .i64 (n : Nat) ∧ i = .int .i64 (k : Nat)) (fun _ i => l - (intOf i).toNat)
  case atStart => exact ⟨l, 0, HL.out, Nat.zero_le _, by omega, Nat.le_refl _, rfl, rfl⟩
  case round =>
    obtain ⟨n, k, hn, hk, hb, hb2, rfl, rfl⟩ := hrel
    have HN := Lib.hid hn
    clear hn
    by_cases hgo : k < l ∧ n ≤ 2000
    · obtain ⟨hkl, hn2⟩ := hgo
      obtain ⟨b, off, a, m, cc, rfl, -, em, hmm, hcell, -⟩ := HR.out.row hkl
      obtain ⟨t, et⟩ : ∃ t, t = min m 2001 := ⟨_, rfl⟩
      have hmin : (if (2001 : Int) < (m : Int) then (2001 : Int) else (m : Int)) = (t : Int) := by split <;> omega
      have ht : t ≤ 2001 := by omega
      have HT : Hid (n + t = lsum rs (k + 1)) := Lib.hid (by rw [lsum, ← HN.out, ← em, et])
      clear em et
      go_wp2_with fail
      go_round
      case rel => exact ⟨n + t, k + 1, HT.out, by omega, by omega, by omega, by go_num, by go_num⟩
      case measure => simp [intOf]; omega
    · by_cases hkl : k = l
      · by_cases hn2 : 2000 < n
        · have d : decide ((2000 : Int) < (n : Int)) = true := decide_eq_true (by omega)
          have HF := Lib.hid (HE1.out n k HN.out hk hn2)
          subst hkl
          clear hgo hn2
          go_wp2_with fail
          go_ret
          exact ⟨by rw [HF.out]; rfl, rfl⟩
        · have d : decide ((2000 : Int) < (n : Int)) = false := decide_eq_false (by omega)
          have HF := Lib.hid (HE2.out n k HN.out hkl hn2)
          subst hkl
          by_cases h30 : 30 < k
          · have d2 : decide ((30 : Int) < (k : Int)) = true := decide_eq_true (by omega)
            have HF2 : Hid (longE rs = true) := Lib.hid (by rw [HF.out]; exact decide_eq_true h30)
            clear hgo hn2 h30
            go_wp2_with fail
            go_ret
            exact ⟨by rw [HF2.out]; rfl, rfl⟩
          · have d2 : decide ((30 : Int) < (k : Int)) = false := decide_eq_false (by omega)
            have HF2 : Hid (longE rs = false) := Lib.hid (by rw [HF.out]; exact decide_eq_false h30)
            clear hgo hn2 h30
            go_wp2_with fail
            go_ret
            exact ⟨by rw [HF2.out]; rfl, rfl⟩
      · have hlt : k < l := by omega
        have hn2 : 2000 < n := by omega
        have d : decide ((2000 : Int) < (n : Int)) = true := decide_eq_true (by omega)
        have d3 : decide ((n : Int) ≤ 2000) = false := decide_eq_false (by omega)
        have HF := Lib.hid (HE1.out n k HN.out hk hn2)
        clear hgo hkl
        go_wp2_with fail
        go_ret
        exact ⟨by rw [HF.out]; rfl, rfl⟩

/-- The words of both sides are the same rows. -/
theorem comb_facs_row {k L idx : Nat} {data : List (List Nat)} (hd : Dim k L data) : comb L (facs k idx) data k = wordR k L data idx := by
  refine list_eq_of (by rw [length_comb, wordR_dim (dim_all hd) hd.1]) fun c hc => ?_
  rw [wordR_dim (dim_all hd) hd.1] at hc
  rw [comb_getL hd.2.1 hc k (Nat.le_refl _), wordR_ent hd hc]
/-- Rows that were read are bytes. -/
theorem rows_dim {w : World} {v : Value} {vs : List Value} {rs : List (List Nat)} {k L : Nat} (h : RowsB w v vs rs) (hk : rs.length = k) (hal : allLen L rs = true) : Dim k L rs := by
  refine ⟨hk, fun i hi => allLen_get hal (by omega), fun i => ?_⟩
  by_cases hi : i < k
  · obtain ⟨ao, c, rfl, -⟩ := h.isSlice
    obtain ⟨_, _, _, _, _, _, _, _, _, _, hrd⟩ := h.row (k := i) (by omega)
    exact hrd.limbs
  · have e : rs.getD i [] = [] := by simp [List.getD, hk, Nat.le_of_not_lt hi]
    rw [e]; exact Bys.nil
/-- A list of rows and no error are returned. -/
def RetLE (w : World) (rs : List (List Nat)) (e : Ending) (w' : World) : Prop := ∃ v vs, e = .returned (.tuple #[v, .int .i64 0]) ∧ RowsB w' v vs rs ∧ Add w w'

set_option maxRecDepth 100000 in
set_option maxHeartbeats 4000000 in
theorem refEncode_ok {w : World} {v : Value} {vs : List Value} {rs : List (List Nat)} {k m L : Nat} (h : RowsB w v vs rs) (hk : rs.length = k) (hc : codeZ k m = true) (hL : L ≤ 100000) (hal : allLen L rs = true) :
    Calls Try.prog 14 #[.int .i64 (k : Nat), .int .i64 (m : Nat), v] w (RetLE w (wordTo k L rs (k + m))) := by
  obtain ⟨i1, hi1, hy0, hy1, hy2⟩ := info_parts info32
  obtain ⟨c1, c2, c3, c4, c5⟩ := codeZ_iff hc
  have h0L : (rs.getD 0 []).length = L := allLen_get hal (by omega)
  have hd := rows_dim h hk hal
  have CC : Hid (∀ w, Calls Try.prog 33 #[.int .i64 (k : Nat), .int .i64 (m : Nat)] w (RetBo w true)) := Lib.hid fun w => by have := refCode_any k m w; rw [hc] at this; exact this
  obtain ⟨ao, c, rfl, hm⟩ := h.isSlice
  rw [hk] at h ⊢
  have HR := Lib.hid h
  have HK := Lib.hid hk
  have HD := Lib.hid hd
  have H0L := Lib.hid h0L
  have HAL := Lib.hid hal
  have hk6 : k ≤ 6 := by omega
  have hk1 : 1 ≤ k := by omega
  have hm4 : m ≤ 4 := by omega
  obtain ⟨N, eN⟩ : ∃ N, N = k + m := ⟨_, rfl⟩
  have hNi : (k : Int) + (m : Int) = (N : Int) := by omega
  have hN8 : N ≤ 8 := by omega
  rw [← eN]
  have hne : ((k : Int) != (k : Int)) = false := by simp
  clear h hk hc hm h0L hd hal eN c1 c2 c3 c4 c5
  go_enter Try.func14, Try.ntmps14
  go_wp2_with (go_at_call 33; (with_reducible refine (CC.out _).mono ?_); rintro e w' ⟨rfl, rfl⟩)
  go_loopw [8, 9] (fun o i wr => ∃ (q : Nat) (hs : List Value), q ≤ N ∧ i = .int .i64 (q : Nat) ∧ ListR wr w.heap.size o hs (wordTo k L rs q) ∧ Add w wr) (fun _ i _ => N - (intOf i).toNat)
  case atStart => exact ⟨0, [], Nat.zero_le _, rfl, ListR.nil _ _, Below.refl _ _⟩
  case round =>
    obtain ⟨q, hs, hq, rfl, hl, hadd⟩ := hrel
    have HL := Lib.hid hl
    have HADD := Lib.hid hadd
    have HLEN : Hid (hs.length = q) := Lib.hid (by rw [hl.2.1, length_wordTo])
    clear hl hadd
    by_cases hqN : q = N
    · subst hqN
      go_wp2_with fail
      go_ret2
      obtain ⟨aL, cL, e, hrows⟩ := HL.out.rows
      exact ⟨_, hs, rfl, hrows, HADD.out⟩
    · have hlt : q < N := by omega
      have C1 : Hid (Calls Try.prog 35 #[.int .i64 (k : Nat), .int .i64 (q : Nat)] wr (FacP wr k (facs k q))) := Lib.hid (refFactors_any k q (by omega) (by omega) wr)
      clear hqN
      go_wp2_with fail
      refine C1.out.mono ?_
      rintro e w2 ⟨g2, rfl, hown2, hadd2⟩
      have hr2 := HR.out.mono (Add.trans HADD.out hadd2)
      have C2 : Hid (Calls Try.prog 34 #[.slice (some ⟨g2, 0, none⟩) k k, .slice ao k c] w2 (CombP w2 L (wordR k L rs q))) := Lib.hid (by
        have := refCombine_ok (hown2.reads (by unfold maxLen; omega) (bys_facs k q)) hr2 (by rw [H0L.out]; exact hL) (by rw [length_facs]; omega) (by rw [HK.out, length_facs]) (by rw [H0L.out]; exact HAL.out)
        rw [H0L.out, length_facs, comb_facs_row HD.out] at this
        exact this)
      have HA2 := Lib.hid hadd2
      clear hown2 hadd2 hr2 C1
      go_wp2_with fail
      refine C2.out.mono ?_
      rintro e w3 ⟨g3, rfl, hown3, hadd3⟩
      have hA3 := Add.trans HA2.out hadd3
      have hl3 := HL.out.add hA3
      have hb3 := hown3.lt.1
      have hby : Bys (wordR k L rs q) := by rw [← comb_facs_row HD.out]; exact bys_comb L rs (bys_facs k q) k
      have hrd3 := hown3.reads (by unfold maxLen; omega) hby
      have hav : AwayV (.slice (some ⟨g3, 0, none⟩) L L) (wordR k L rs q) u8 := by
        intro b off n' c' e _ e2
        cases e
        have h1 := (ownsRow_block HL.out.1 e2.symm).2
        have h2 := HA2.out.size
        omega
      have HPUSH : Hid (∀ v' w4 o, (w3.alloc o).grownBy w4 u8.ownBlock → w4.ownsRow w.heap.size 32 1 v' (hs.length + 1) (hs ++ [.slice (some ⟨g3, 0, none⟩) L L]) → (v'.ownBlock = u8.ownBlock ∨ v'.ownBlock = some (w3.heap.size + 1)) → ListR w4 w.heap.size v' (hs ++ [.slice (some ⟨g3, 0, none⟩) L L]) (wordTo k L rs (q + 1)) ∧ Add w w4) := Lib.hid fun v' w4 o h1 h2 h3 => by
        rw [wordTo_succ]
        exact ⟨hl3.push hrd3 hav h1 h2 h3, hl3.addB (Add.trans HADD.out hA3) (Nat.le_refl _) h1⟩
      have hownV := hl3.1
      have hsz := (Add.trans HADD.out hA3).size
      have hgk : hs.length ≤ 8 := by rw [HLEN.out]; omega
      clear hl3 hA3 hb3 hby hrd3 hav hown3 hadd3 C2
      go_wp2_with (at_builtin; refine wpList_append_own_at _ rfl _ _ 22 rfl w.heap.size 32 i1 (.slice none 0 0) 1 24 Try.underlying22 hi1 hy0 hy1 hy2 rfl (by decide) _ _ _ rfl (World.ownsRow.alloc hownV _) ⟨w3.heap.size, 0, none⟩ 1 1 [_] rfl rfl (Go.cell_one_new _ _ _) (by intro u hu; simp at hu; subst hu; rfl) (by unfold maxLen; omega) (by omega) (by simp; omega) ?_)
      intro v' w4 hown4 hgr4 _ hat
      have HEND := Lib.hid (HPUSH.out v' w4 _ hgr4 hown4 hat)
      clear hown4 hgr4 hownV hat
      go_wp2_with fail
      go_roundw
      case rel => exact ⟨q + 1, _, by omega, by go_num, HEND.out.1, HEND.out.2⟩
      case measure => simp [intOf]; omega
end Go.Proofs.Ytmlcenocjpjcfaa
