/- Where the tokens of a scan stand: plain mathematics. -/
import Derived.Test.YtdgpcijiempmdaaKn
namespace LxM

/-- Is the byte part of a comment? f: was the byte before it. -/
def inCom (c : Nat) (f : Bool) : Bool := decide (c = 35) || (f && decide (c ≠ 10))
/-- From k up to j there are only space and comments; f: k stands in a comment. -/
inductive Gp (s : ByteArray) : Nat → Bool → Nat → Prop
  | done (j : Nat) : j ≤ s.size → Gp s j false j
  | fin : Gp s s.size true s.size
  | step {k j : Nat} {f : Bool} : k < s.size → (inCom (bt s k) f = true ∨ space (bt s k) = true) → Gp s (k + 1) (inCom (bt s k) f) j → Gp s k f j
theorem Gp.le {s : ByteArray} {k j : Nat} {f : Bool} (h : Gp s k f j) : k ≤ j ∧ j ≤ s.size := by
  induction h with
  | done j h => exact ⟨Nat.le_refl _, h⟩
  | fin => exact ⟨Nat.le_refl _, Nat.le_refl _⟩
  | step h1 h2 h3 ih => exact ⟨by omega, ih.2⟩
theorem Gp.at_end {s : ByteArray} {k j : Nat} {f : Bool} (h : Gp s k f j) (e : k = j) : f = false ∨ j = s.size := by
  cases h with
  | done => exact .inl rfl
  | fin => exact .inr rfl
  | step h1 h2 h3 => have := h3.le; omega
theorem Gp.next {s : ByteArray} {k j : Nat} {f : Bool} (h : Gp s k f j) (e : k < j) : k < s.size ∧ (inCom (bt s k) f = true ∨ space (bt s k) = true) ∧ Gp s (k + 1) (inCom (bt s k) f) j := by
  cases h with
  | done => omega
  | fin => omega
  | step h1 h2 h3 => exact ⟨h1, h2, h3⟩
theorem gp_comment {s : ByteArray} {j e : Nat} (h : Gp s e true j) : ∀ n k, k + n = e → (∀ q, k ≤ q → q < e → q < s.size ∧ bt s q ≠ 10) → Gp s k true j
  | 0, k, he, _ => by obtain rfl : k = e := by omega
                      exact h
  | n + 1, k, he, g => by
    have h1 := g k (Nat.le_refl _) (by omega)
    have h2 := gp_comment h n (k + 1) (by omega) (fun q a b => g q (by omega) b)
    have e : inCom (bt s k) true = true := by unfold inCom; simp [h1.2]
    exact .step h1.1 (.inl e) (by rw [e]; exact h2)
theorem skips_gap (s : ByteArray) (i : Nat) (hi : i ≤ s.size) : ∃ j, i ≤ j ∧ j ≤ s.size ∧ Skips s i j ∧ Stops s j ∧ Gp s i false j := by
  by_cases h : i < s.size
  · by_cases h1 : space (bt s i) = true
    · obtain ⟨j, a, b, c, d, g⟩ := skips_gap s (i + 1) h
      have e : inCom (bt s i) false = false := by have := space_iff.1 h1; unfold inCom; simp; omega
      exact ⟨j, by omega, b, Skips.trans (fun ts => scan_space h h1 ts) c, d, .step h (.inr h1) (by rw [e]; exact g)⟩
    · by_cases h2 : bt s i = 35
      · have hg := rowE_ge notLF s (i + 1)
        have hle := rowE_le notLF s (i + 1) h
        have hall := rowE_all notLF s (i + 1)
        have hst := rowE_stop notLF s (i + 1)
        have hsk : Skips s i (rowE notLF s (i + 1)) := fun ts => scan_comment h h2 ts
        obtain ⟨e, he⟩ : ∃ e, e = rowE notLF s (i + 1) := ⟨_, rfl⟩
        rw [← he] at hg hle hall hst hsk
        have e1 : inCom (bt s i) false = true := by unfold inCom; simp [h2]
        have hrow : ∀ {j}, Gp s e true j → Gp s i false j := fun {j} g =>
          .step h (.inl e1) (by rw [e1]; exact gp_comment g (e - (i + 1)) (i + 1) (by omega) (fun q a b => ⟨(hall q a b).1, notLF_iff.1 (hall q a b).2⟩))
        by_cases c : e < s.size
        · have hlf : bt s e = 10 := by
            have : ¬ notLF (bt s e) = true := fun x => hst ⟨c, x⟩
            rw [notLF_iff] at this; omega
          obtain ⟨j, a, b, sk, d, g⟩ := skips_gap s (e + 1) c
          have e2 : inCom (bt s e) true = false := by unfold inCom; simp [hlf]
          refine ⟨j, by omega, b, Skips.trans hsk (Skips.trans (fun ts => scan_space c (by rw [hlf]; decide) ts) sk), d, hrow (.step c (.inr (by rw [hlf]; decide)) (by rw [e2]; exact g))⟩
        · obtain rfl : e = s.size := by omega
          exact ⟨s.size, by omega, Nat.le_refl _, hsk, fun h' => absurd h' (Nat.lt_irrefl _), hrow .fin⟩
      · exact ⟨i, Nat.le_refl _, hi, Skips.refl _ _, fun _ => ⟨by simpa using h1, h2⟩, .done i hi⟩
  · exact ⟨i, Nat.le_refl _, hi, Skips.refl _ _, fun h' => absurd h' h, .done i hi⟩
termination_by s.size - i

/-- From i on these tokens stand in the text, with only space and comments ahead of each. -/
inductive Lay (s : ByteArray) : Nat → List Tok → Prop
  | last {i : Nat} : Gp s i false s.size → Lay s i [endAt s s.size]
  | cons {i j e kd : Nat} {l : List Tok} : Gp s i false j → j < e → e ≤ s.size → kd ≠ 4 → (∀ k, j ≤ k → k < e → bt s k ≠ 10) → Lay s e l → Lay s i (tokAt s kd j e :: l)
theorem Lay.ne {s : ByteArray} {i : Nat} {l : List Tok} (h : Lay s i l) : l ≠ [] := by cases h <;> simp
/-- The token that begins at j has no line feed, and its kind isn't that of the end. -/
theorem tok_shape {s : ByteArray} {j : Nat} (h : j < s.size) (hn : (tokR s j).2 = 0) : ∃ kd e, (tokR s j).1 = tokAt s kd j e ∧ kd ≠ 4 ∧ j < e ∧ e ≤ s.size ∧ ∀ k, j ≤ k → k < e → bt s k ≠ 10 := by
  unfold tokR at hn ⊢
  by_cases hl : letter (bt s j) = true
  · rw [if_pos hl] at hn ⊢
    by_cases hb : j + 16 < rowE inName s j
    · rw [if_pos hb] at hn; simp at hn
    · rw [if_neg hb]
      refine ⟨1, rowE inName s j, rfl, by decide, ?_, rowE_le _ _ _ (by omega), fun k a b => ?_⟩
      · rw [rowE_letter h hl]; have := rowE_ge inName s (j + 1); omega
      · have := inName_iff.1 (rowE_all inName s j k a b).2; omega
  · rw [if_neg hl] at hn ⊢
    by_cases hd : digit (bt s j) = true
    · rw [if_pos hd] at hn ⊢
      by_cases hb : j + 40 < rowE digit s j
      · rw [if_pos hb] at hn; simp at hn
      · rw [if_neg hb]
        refine ⟨2, rowE digit s j, rfl, by decide, ?_, rowE_le _ _ _ (by omega), fun k a b => ?_⟩
        · rw [rowE_digit h hd]; have := rowE_ge digit s (j + 1); omega
        · have := digit_iff.1 (rowE_all digit s j k a b).2; omega
    · rw [if_neg hd] at hn ⊢
      by_cases hg : sign (bt s j) = true
      · rw [if_pos hg]
        refine ⟨3, j + 1, rfl, by decide, by omega, h, fun k a b => ?_⟩
        obtain rfl : k = j := by omega
        have := sign_iff.1 hg; omega
      · rw [if_neg hg] at hn; simp at hn
theorem lay_scan (s : ByteArray) (i : Nat) (ts : List Tok) (hi : i ≤ s.size) : (scan s i ts).err = 0 → ∃ rest, (scan s i ts).toks = ts ++ rest ∧ Lay s i rest := by
  intro he
  obtain ⟨j, h1, h2, h3, h4, h5⟩ := skips_gap s i hi
  rw [h3] at he ⊢
  by_cases h : j < s.size
  · rcases round_at h h4 with ⟨hn, hb⟩ | ⟨hn, g1, g2, hg⟩
    · rw [hb] at he; exact absurd he hn
    · obtain ⟨kd, e, et, k1, k2, k3, k4⟩ := tok_shape h hn
      have hz := size_tok (s := s) (k := kd) (i := j) k3
      have ee : j + (tokR s j).1.text.size = e := by rw [et, hz]; omega
      rw [hg] at he ⊢
      obtain ⟨rest, hr, hl⟩ := lay_scan s _ _ g2 he
      rw [ee] at hl
      refine ⟨tokAt s kd j e :: rest, ?_, .cons h5 k2 k3 k1 k4 hl⟩
      rw [hr, et]; simp
  · obtain rfl : j = s.size := by omega
    rw [scan_end (Nat.le_refl _)]
    exact ⟨_, rfl, .last h5⟩
termination_by s.size - i
decreasing_by omega
/-- A scan that fails has no tokens. -/
theorem scan_fail (s : ByteArray) (i : Nat) (ts : List Tok) (hi : i ≤ s.size) : (scan s i ts).err ≠ 0 → (scan s i ts).toks = [] := by
  intro he
  obtain ⟨j, h1, h2, h3, h4, h5⟩ := skips_gap s i hi
  rw [h3] at he ⊢
  by_cases h : j < s.size
  · rcases round_at h h4 with ⟨hn, hb⟩ | ⟨hn, g1, g2, hg⟩
    · rw [hb]; rfl
    · rw [hg] at he ⊢
      exact scan_fail s _ _ g2 he
  · rw [scan_end (by omega)] at he; exact absurd rfl he
termination_by s.size - i
decreasing_by omega
/-- Positions grow from byte to byte. -/
theorem pos_lt {s : ByteArray} {k : Nat} : ∀ n, lin s k < lin s (k + n + 1) ∨ lin s k = lin s (k + n + 1) ∧ col s k < col s (k + n + 1)
  | 0 => by
    have hb := beg_le s k
    by_cases h : bt s k = 10
    · exact .inl (by rw [Nat.add_zero, lin_lf h]; omega)
    · exact .inr ⟨by rw [Nat.add_zero, lin_no h], by unfold col; rw [Nat.add_zero, beg_no h]; omega⟩
  | n + 1 => by
    have ih := pos_lt (s := s) (k := k) n
    have hb := beg_le s (k + n + 1)
    by_cases h : bt s (k + n + 1) = 10
    · have e : lin s (k + (n + 1) + 1) = lin s (k + n + 1) + 1 := lin_lf h
      exact .inl (by rw [e]; omega)
    · have e : lin s (k + (n + 1) + 1) = lin s (k + n + 1) := lin_no h
      have e2 : beg s (k + (n + 1) + 1) = beg s (k + n + 1) := beg_no h
      have e3 : col s (k + (n + 1) + 1) = col s (k + n + 1) + 1 := by unfold col; rw [e2]; omega
      rw [e, e3]; omega
theorem pos_le {s : ByteArray} {k j : Nat} (h : k < j) : lin s k < lin s j ∨ lin s k = lin s j ∧ col s k < col s j := by
  have := pos_lt (s := s) (k := k) (j - k - 1)
  rw [show k + (j - k - 1) + 1 = j by omega] at this
  exact this
end LxM
