/- What a scan says of names: plain mathematics. -/
import Derived.Test.YtdgpcijiempmdaaKm
namespace LxM

theorem skips_ex (s : ByteArray) (i : Nat) (hi : i ≤ s.size) : ∃ j, i ≤ j ∧ j ≤ s.size ∧ Skips s i j ∧ Stops s j := by
  by_cases h : i < s.size
  · by_cases h1 : space (bt s i) = true
    · obtain ⟨j, a, b, c, d⟩ := skips_ex s (i + 1) h
      exact ⟨j, by omega, b, Skips.trans (fun ts => scan_space h h1 ts) c, d⟩
    · by_cases h2 : bt s i = 35
      · have hg := rowE_ge notLF s (i + 1)
        obtain ⟨j, a, b, c, d⟩ := skips_ex s (rowE notLF s (i + 1)) (rowE_le _ _ _ h)
        exact ⟨j, by omega, b, Skips.trans (fun ts => scan_comment h h2 ts) c, d⟩
      · exact ⟨i, Nat.le_refl _, hi, Skips.refl _ _, fun _ => ⟨by simpa using h1, h2⟩⟩
  · exact ⟨i, Nat.le_refl _, hi, Skips.refl _ _, fun h' => absurd h' h⟩
termination_by s.size - i
/-- The tokens that were there stay in front. -/
theorem scan_prefix (s : ByteArray) (i : Nat) (ts : List Tok) (hi : i ≤ s.size) : (scan s i ts).err = 0 → ∃ rest, rest ≠ [] ∧ (scan s i ts).toks = ts ++ rest := by
  intro he
  obtain ⟨j, h1, h2, h3, h4⟩ := skips_ex s i hi
  rw [h3] at he ⊢
  by_cases h : j < s.size
  · rcases round_at h h4 with ⟨hn, hb⟩ | ⟨hn, g1, g2, hg⟩
    · rw [hb] at he; exact absurd he hn
    · rw [hg] at he ⊢
      obtain ⟨rest, hr, e⟩ := scan_prefix s _ _ g2 he
      exact ⟨(tokR s j).1 :: rest, by simp, by rw [e]; simp⟩
  · rw [scan_end (by omega)]
    exact ⟨_, by simp, rfl⟩
termination_by s.size - i
decreasing_by omega

theorem extract_all (s : ByteArray) : s.extract 0 s.size = s := by
  simp
/-- A name is one token of the kind of names, and itself. -/
theorem name_one {s : ByteArray} (h : nameB s = true) : ∃ t, scan s 0 [] = ⟨0, [⟨1, s, 1, 1⟩, t], 0, 0⟩ := by
  unfold nameB at h
  rw [decide_eq_true_eq] at h
  obtain ⟨h1, h2, h3, h4⟩ := h
  have hp : 0 < s.size := by omega
  have h5 := rowE_letter hp h3
  refine ⟨endAt s s.size, ?_⟩
  rw [scan_letter hp h3, ← h5, h4, if_neg (by omega), scan_end (Nat.le_refl _)]
  unfold tokAt
  rw [extract_all]
  rfl
/-- And no other text. -/
theorem one_name {s : ByteArray} {t u : Tok} (he : (scan s 0 []).err = 0) (ht : (scan s 0 []).toks = [t, u]) (hk : t.kind = 1) (hs : t.text = s) : nameB s = true := by
  obtain ⟨j, h1, h2, h3, h4⟩ := skips_ex s 0 (Nat.zero_le _)
  rw [h3] at he ht
  by_cases h : j < s.size
  · rcases round_at h h4 with ⟨hn, hb⟩ | ⟨hn, g1, g2, hg⟩
    · rw [hb] at he; exact absurd he hn
    · rw [hg] at he ht
      obtain ⟨rest, hr, e⟩ := scan_prefix s _ _ g2 he
      rw [ht] at e
      simp only [List.nil_append, List.cons_append, List.cons.injEq] at e
      have et : t = (tokR s j).1 := e.1
      rw [← et, hs] at g2
      obtain rfl : j = 0 := by omega
      have hp : 0 < s.size := h
      unfold nameB
      rw [decide_eq_true_eq]
      unfold tokR at et hn
      by_cases hl : letter (bt s 0) = true
      · rw [if_pos hl] at et hn
        by_cases hb : 0 + 16 < rowE inName s 0
        · rw [if_pos hb] at hn; simp at hn
        · rw [if_neg hb] at et
          have hle := rowE_le inName s 0 (by omega)
          have hz := size_tok (s := s) (k := 1) (i := 0) hle
          have : t.text.size = rowE inName s 0 - 0 := by rw [et]; exact hz
          rw [hs] at this
          exact ⟨by omega, by omega, hl, by omega⟩
      · rw [if_neg hl] at et
        exfalso
        by_cases hd : digit (bt s 0) = true
        · rw [if_pos hd] at et
          by_cases hb : 0 + 40 < rowE digit s 0
          · rw [if_pos hb] at et; rw [et] at hk; simp at hk
          · rw [if_neg hb] at et; rw [et] at hk; simp [tokAt] at hk
        · rw [if_neg hd] at et
          by_cases hg : sign (bt s 0) = true
          · rw [if_pos hg] at et; rw [et] at hk; simp [tokAt] at hk
          · rw [if_neg hg] at et; rw [et] at hk; simp at hk
  · rw [scan_end (by omega)] at ht
    simp at ht
end LxM
