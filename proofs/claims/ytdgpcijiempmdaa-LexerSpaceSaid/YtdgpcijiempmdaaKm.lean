/- The tokens of a text, as chapter 8 says them: plain mathematics. -/
import Derived.Test.YtdgpcijiempmdaaProg
namespace LxM

/-- The byte at an index; 0 behind the text. -/
def bt (s : ByteArray) (i : Nat) : Nat := if h : i < s.size then (s[i]).toNat else 0
theorem bt_in {s : ByteArray} {i : Nat} (h : i < s.size) : (s[i]).toNat = bt s i := by unfold bt; rw [dif_pos h]
theorem bt_lt (s : ByteArray) (i : Nat) : bt s i < 256 := by
  unfold bt; split
  · exact UInt8.toNat_lt _
  · decide

def letter (c : Nat) : Bool := decide (97 ≤ c ∧ c ≤ 122 ∨ 65 ≤ c ∧ c ≤ 90)
def digit (c : Nat) : Bool := decide (48 ≤ c ∧ c ≤ 57)
def inName (c : Nat) : Bool := decide (97 ≤ c ∧ c ≤ 122 ∨ 65 ≤ c ∧ c ≤ 90 ∨ 48 ≤ c ∧ c ≤ 57 ∨ c = 45 ∨ c = 46)
def space (c : Nat) : Bool := decide (c = 32 ∨ c = 9 ∨ c = 10 ∨ c = 13)
def sign (c : Nat) : Bool := decide (c = 123 ∨ c = 125 ∨ c = 59 ∨ c = 44 ∨ c = 43 ∨ c = 47)
def notLF (c : Nat) : Bool := decide (c ≠ 10)

theorem letter_iff {c : Nat} : letter c = true ↔ (97 ≤ c ∧ c ≤ 122 ∨ 65 ≤ c ∧ c ≤ 90) := by simp [letter]
theorem digit_iff {c : Nat} : digit c = true ↔ (48 ≤ c ∧ c ≤ 57) := by simp [digit]
theorem inName_iff {c : Nat} : inName c = true ↔ (97 ≤ c ∧ c ≤ 122 ∨ 65 ≤ c ∧ c ≤ 90 ∨ 48 ≤ c ∧ c ≤ 57 ∨ c = 45 ∨ c = 46) := by simp [inName]
theorem space_iff {c : Nat} : space c = true ↔ (c = 32 ∨ c = 9 ∨ c = 10 ∨ c = 13) := by simp [space]
theorem sign_iff {c : Nat} : sign c = true ↔ (c = 123 ∨ c = 125 ∨ c = 59 ∨ c = 44 ∨ c = 43 ∨ c = 47) := by simp [sign]
theorem notLF_iff {c : Nat} : notLF c = true ↔ c ≠ 10 := by simp [notLF]
theorem off {p : Nat → Bool} {q : Nat → Prop} (h : ∀ {c}, p c = true ↔ q c) {c : Nat} (n : ¬ q c) : p c = false := by
  cases e : p c
  · rfl
  · exact absurd (h.1 e) n

/-- The end of the longest row of bytes of a class that begins at i. -/
def rowE (p : Nat → Bool) (s : ByteArray) (i : Nat) : Nat := if i < s.size ∧ p (bt s i) = true then rowE p s (i + 1) else i
termination_by s.size - i
theorem rowE_in {p : Nat → Bool} {s : ByteArray} {i : Nat} (h : i < s.size) (hp : p (bt s i) = true) : rowE p s i = rowE p s (i + 1) := by
  rw [rowE]; rw [if_pos ⟨h, hp⟩]
theorem rowE_out {p : Nat → Bool} {s : ByteArray} {i : Nat} (h : ¬ (i < s.size ∧ p (bt s i) = true)) : rowE p s i = i := by
  rw [rowE]; rw [if_neg h]
theorem rowE_ge (p : Nat → Bool) (s : ByteArray) (i : Nat) : i ≤ rowE p s i := by
  by_cases h : i < s.size ∧ p (bt s i) = true
  · rw [rowE_in h.1 h.2]
    have := rowE_ge p s (i + 1)
    omega
  · rw [rowE_out h]; exact Nat.le_refl _
termination_by s.size - i
theorem rowE_le (p : Nat → Bool) (s : ByteArray) (i : Nat) (hi : i ≤ s.size) : rowE p s i ≤ s.size := by
  by_cases h : i < s.size ∧ p (bt s i) = true
  · rw [rowE_in h.1 h.2]
    exact rowE_le p s (i + 1) h.1
  · rw [rowE_out h]; exact hi
termination_by s.size - i
/-- Behind the row there is the end, or a byte of another class. -/
theorem rowE_stop (p : Nat → Bool) (s : ByteArray) (i : Nat) : ¬ (rowE p s i < s.size ∧ p (bt s (rowE p s i)) = true) := by
  by_cases h : i < s.size ∧ p (bt s i) = true
  · rw [rowE_in h.1 h.2]
    exact rowE_stop p s (i + 1)
  · rw [rowE_out h]; exact h
termination_by s.size - i
theorem rowE_all (p : Nat → Bool) (s : ByteArray) (i j : Nat) (h1 : i ≤ j) (h2 : j < rowE p s i) : j < s.size ∧ p (bt s j) = true := by
  by_cases h : i < s.size ∧ p (bt s i) = true
  · rw [rowE_in h.1 h.2] at h2
    by_cases e : i = j
    · subst e; exact h
    · exact rowE_all p s (i + 1) j (by omega) h2
  · rw [rowE_out h] at h2; omega
termination_by s.size - i
/-- What is a row up to a place where it stops ends there. -/
theorem rowE_eq {p : Nat → Bool} {s : ByteArray} {i e : Nat} (h1 : i ≤ e) (h2 : ∀ j, i ≤ j → j < e → j < s.size ∧ p (bt s j) = true) (h3 : ¬ (e < s.size ∧ p (bt s e) = true)) : rowE p s i = e := by
  by_cases c : i = e
  · subst c; exact rowE_out h3
  · have := h2 i (Nat.le_refl _) (by omega)
    rw [rowE_in this.1 this.2]
    exact rowE_eq (by omega) (fun j a b => h2 j (by omega) b) h3
termination_by e - i

/-- The line of a byte, and the index of the first byte of its line. -/
def lin (s : ByteArray) : Nat → Nat
  | 0 => 1
  | k + 1 => if bt s k = 10 then lin s k + 1 else lin s k
def beg (s : ByteArray) : Nat → Nat
  | 0 => 0
  | k + 1 => if bt s k = 10 then k + 1 else beg s k
def col (s : ByteArray) (i : Nat) : Nat := 1 + i - beg s i
theorem beg_le (s : ByteArray) : ∀ k, beg s k ≤ k
  | 0 => Nat.le_refl _
  | k + 1 => by unfold beg; have := beg_le s k; split <;> omega
theorem lin_le (s : ByteArray) : ∀ k, lin s k ≤ k + 1
  | 0 => Nat.le_refl _
  | k + 1 => by unfold lin; have := lin_le s k; split <;> omega
theorem lin_pos (s : ByteArray) : ∀ k, 1 ≤ lin s k
  | 0 => Nat.le_refl _
  | k + 1 => by unfold lin; have := lin_pos s k; split <;> omega
theorem lin_lf {s : ByteArray} {k : Nat} (h : bt s k = 10) : lin s (k + 1) = lin s k + 1 := by rw [lin]; rw [if_pos h]
theorem lin_no {s : ByteArray} {k : Nat} (h : bt s k ≠ 10) : lin s (k + 1) = lin s k := by rw [lin]; rw [if_neg h]
theorem beg_lf {s : ByteArray} {k : Nat} (h : bt s k = 10) : beg s (k + 1) = k + 1 := by rw [beg]; rw [if_pos h]
theorem beg_no {s : ByteArray} {k : Nat} (h : bt s k ≠ 10) : beg s (k + 1) = beg s k := by rw [beg]; rw [if_neg h]

/-- A token: kind, text, line, column. -/
structure Tok where
  kind : Nat
  text : ByteArray
  line : Nat
  col : Nat
/-- What a scan says: the error number, the tokens, the place of the error. -/
structure Res where
  err : Nat
  toks : List Tok
  line : Nat
  col : Nat
def tokAt (s : ByteArray) (kind i e : Nat) : Tok := ⟨kind, s.extract i e, lin s i, col s i⟩
def endAt (s : ByteArray) (i : Nat) : Tok := ⟨4, ⟨#[]⟩, lin s i, col s i⟩
def bad (s : ByteArray) (err i : Nat) : Res := ⟨err, [], lin s i, col s i⟩

/-- The scan from the index i on, with the tokens ts before it. -/
def scan (s : ByteArray) (i : Nat) (ts : List Tok) : Res :=
  if i < s.size then
    if space (bt s i) then scan s (i + 1) ts
    else if bt s i = 35 then scan s (rowE notLF s (i + 1)) ts
    else if letter (bt s i) then
      if i + 16 < rowE inName s (i + 1) then bad s 2 i else scan s (rowE inName s (i + 1)) (ts ++ [tokAt s 1 i (rowE inName s (i + 1))])
    else if digit (bt s i) then
      if i + 40 < rowE digit s (i + 1) then bad s 2 i else scan s (rowE digit s (i + 1)) (ts ++ [tokAt s 2 i (rowE digit s (i + 1))])
    else if sign (bt s i) then scan s (i + 1) (ts ++ [tokAt s 3 i (i + 1)])
    else bad s 6 i
  else ⟨0, ts ++ [endAt s i], 0, 0⟩
termination_by s.size - i
decreasing_by
  all_goals
    try have g1 := rowE_ge notLF s (i + 1)
    try have g2 := rowE_ge inName s (i + 1)
    try have g3 := rowE_ge digit s (i + 1)
    omega
/-- All that Scan says of a text. -/
def scanT (s : ByteArray) : Res := if 8000 < s.size then bad s 2 8000 else scan s 0 []

theorem scan_end {s : ByteArray} {i : Nat} (h : s.size ≤ i) (ts : List Tok) : scan s i ts = ⟨0, ts ++ [endAt s i], 0, 0⟩ := by
  rw [scan, if_neg (by omega)]
theorem scan_space {s : ByteArray} {i : Nat} (h : i < s.size) (hc : space (bt s i) = true) (ts : List Tok) : scan s i ts = scan s (i + 1) ts := by
  rw [scan, if_pos h, if_pos hc]
theorem scan_comment {s : ByteArray} {i : Nat} (h : i < s.size) (hc : bt s i = 35) (ts : List Tok) : scan s i ts = scan s (rowE notLF s (i + 1)) ts := by
  rw [scan, if_pos h, if_neg (by rw [hc]; decide), if_pos hc]
theorem scan_letter {s : ByteArray} {i : Nat} (h : i < s.size) (hc : letter (bt s i) = true) (ts : List Tok) :
    scan s i ts = if i + 16 < rowE inName s (i + 1) then bad s 2 i else scan s (rowE inName s (i + 1)) (ts ++ [tokAt s 1 i (rowE inName s (i + 1))]) := by
  have h1 := letter_iff.1 hc
  rw [scan, if_pos h, if_neg (by rw [space_iff]; omega), if_neg (by omega), if_pos hc]
theorem scan_digit {s : ByteArray} {i : Nat} (h : i < s.size) (hc : digit (bt s i) = true) (ts : List Tok) :
    scan s i ts = if i + 40 < rowE digit s (i + 1) then bad s 2 i else scan s (rowE digit s (i + 1)) (ts ++ [tokAt s 2 i (rowE digit s (i + 1))]) := by
  have h1 := digit_iff.1 hc
  rw [scan, if_pos h, if_neg (by rw [space_iff]; omega), if_neg (by omega), if_neg (by rw [letter_iff]; omega), if_pos hc]
theorem scan_sign {s : ByteArray} {i : Nat} (h : i < s.size) (hc : sign (bt s i) = true) (ts : List Tok) : scan s i ts = scan s (i + 1) (ts ++ [tokAt s 3 i (i + 1)]) := by
  have h1 := sign_iff.1 hc
  rw [scan, if_pos h, if_neg (by rw [space_iff]; omega), if_neg (by omega), if_neg (by rw [letter_iff]; omega), if_neg (by rw [digit_iff]; omega), if_pos hc]
theorem scan_bad {s : ByteArray} {i : Nat} (h : i < s.size) (h1 : space (bt s i) = false) (h2 : bt s i ≠ 35) (h3 : letter (bt s i) = false) (h4 : digit (bt s i) = false) (h5 : sign (bt s i) = false) (ts : List Tok) : scan s i ts = bad s 6 i := by
  rw [scan, if_pos h, if_neg (by rw [h1]; decide), if_neg h2, if_neg (by rw [h3]; decide), if_neg (by rw [h4]; decide), if_neg (by rw [h5]; decide)]

/-- Nothing but space and comments lies between i and j. -/
def Skips (s : ByteArray) (i j : Nat) : Prop := ∀ ts, scan s i ts = scan s j ts
theorem Skips.refl (s : ByteArray) (i : Nat) : Skips s i i := fun _ => rfl
theorem Skips.trans {s : ByteArray} {i j k : Nat} (h : Skips s i j) (g : Skips s j k) : Skips s i k := fun ts => (h ts).trans (g ts)
theorem skips_space (s : ByteArray) (i : Nat) : Skips s i (rowE space s i) := by
  by_cases h : i < s.size ∧ space (bt s i) = true
  · rw [rowE_in h.1 h.2]
    exact Skips.trans (fun ts => scan_space h.1 h.2 ts) (skips_space s (i + 1))
  · rw [rowE_out h]; exact Skips.refl _ _
termination_by s.size - i
theorem skips_comment {s : ByteArray} {i : Nat} (h : i < s.size) (hc : bt s i = 35) : Skips s i (rowE notLF s i) := by
  rw [rowE_in h (by rw [hc]; decide)]
  exact fun ts => scan_comment h hc ts
/-- At j a token begins, or the text ends, or there is an error. -/
def Stops (s : ByteArray) (j : Nat) : Prop := j < s.size → space (bt s j) = false ∧ bt s j ≠ 35
theorem rowE_letter {s : ByteArray} {i : Nat} (h : i < s.size) (hc : letter (bt s i) = true) : rowE inName s i = rowE inName s (i + 1) := by
  have := letter_iff.1 hc
  exact rowE_in h (inName_iff.2 (by omega))
theorem rowE_digit {s : ByteArray} {i : Nat} (h : i < s.size) (hc : digit (bt s i) = true) : rowE digit s i = rowE digit s (i + 1) := rowE_in h hc

/-- A name. -/
def nameB (s : ByteArray) : Bool := decide (1 ≤ s.size ∧ s.size ≤ 16 ∧ letter (bt s 0) = true ∧ rowE inName s 0 = s.size)
/-- The token that begins at i, and the error number. -/
def tokR (s : ByteArray) (i : Nat) : Tok × Nat :=
  if letter (bt s i) then (if i + 16 < rowE inName s i then (⟨0, ⟨#[]⟩, 0, 0⟩, 2) else (tokAt s 1 i (rowE inName s i), 0))
  else if digit (bt s i) then (if i + 40 < rowE digit s i then (⟨0, ⟨#[]⟩, 0, 0⟩, 2) else (tokAt s 2 i (rowE digit s i), 0))
  else if sign (bt s i) then (tokAt s 3 i (i + 1), 0)
  else (⟨0, ⟨#[]⟩, 0, 0⟩, 6)
theorem size_tok {s : ByteArray} {k i e : Nat} (h : e ≤ s.size) : (tokAt s k i e).text.size = e - i := by
  unfold tokAt; rw [ByteArray.size_extract, Nat.min_eq_left h]
/-- One round of Scan. -/
def Round (s : ByteArray) (i : Nat) : Prop :=
  ((tokR s i).2 ≠ 0 ∧ ∀ ts, scan s i ts = bad s (tokR s i).2 i) ∨
  ((tokR s i).2 = 0 ∧ i < i + (tokR s i).1.text.size ∧ i + (tokR s i).1.text.size ≤ s.size ∧ ∀ ts, scan s i ts = scan s (i + (tokR s i).1.text.size) (ts ++ [(tokR s i).1]))
theorem round_at {s : ByteArray} {i : Nat} (h : i < s.size) (hs : Stops s i) : Round s i := by
  obtain ⟨h1, h2⟩ := hs h
  unfold Round
  by_cases hl : letter (bt s i) = true
  · have hr := rowE_letter h hl
    have hg := rowE_ge inName s (i + 1)
    have hle := rowE_le inName s i (by omega)
    by_cases hb : i + 16 < rowE inName s i
    · have e : tokR s i = (⟨0, ⟨#[]⟩, 0, 0⟩, 2) := by unfold tokR; rw [if_pos hl, if_pos hb]
      rw [e]
      exact .inl ⟨by decide, fun ts => by rw [scan_letter h hl, ← hr, if_pos hb]⟩
    · have e : tokR s i = (tokAt s 1 i (rowE inName s i), 0) := by unfold tokR; rw [if_pos hl, if_neg hb]
      have hz := size_tok (k := 1) (i := i) hle
      rw [e]
      refine .inr ⟨rfl, by rw [hz]; omega, by rw [hz]; omega, fun ts => ?_⟩
      have e2 : i + (tokAt s 1 i (rowE inName s i)).text.size = rowE inName s i := by rw [hz]; omega
      rw [e2, scan_letter h hl, ← hr, if_neg hb]
  · by_cases hd : digit (bt s i) = true
    · have hr := rowE_digit h hd
      have hg := rowE_ge digit s (i + 1)
      have hle := rowE_le digit s i (by omega)
      by_cases hb : i + 40 < rowE digit s i
      · have e : tokR s i = (⟨0, ⟨#[]⟩, 0, 0⟩, 2) := by unfold tokR; rw [if_neg hl, if_pos hd, if_pos hb]
        rw [e]
        exact .inl ⟨by decide, fun ts => by rw [scan_digit h hd, ← hr, if_pos hb]⟩
      · have e : tokR s i = (tokAt s 2 i (rowE digit s i), 0) := by unfold tokR; rw [if_neg hl, if_pos hd, if_neg hb]
        have hz := size_tok (k := 2) (i := i) hle
        rw [e]
        refine .inr ⟨rfl, by rw [hz]; omega, by rw [hz]; omega, fun ts => ?_⟩
        have e2 : i + (tokAt s 2 i (rowE digit s i)).text.size = rowE digit s i := by rw [hz]; omega
        rw [e2, scan_digit h hd, ← hr, if_neg hb]
    · by_cases hg : sign (bt s i) = true
      · have e : tokR s i = (tokAt s 3 i (i + 1), 0) := by unfold tokR; rw [if_neg hl, if_neg hd, if_pos hg]
        have hz := size_tok (s := s) (k := 3) (i := i) (e := i + 1) h
        rw [e]
        refine .inr ⟨rfl, by rw [hz]; omega, by rw [hz]; omega, fun ts => ?_⟩
        have e2 : i + (tokAt s 3 i (i + 1)).text.size = i + 1 := by rw [hz]; omega
        rw [e2, scan_sign h hg]
      · have e : tokR s i = (⟨0, ⟨#[]⟩, 0, 0⟩, 6) := by unfold tokR; rw [if_neg hl, if_neg hd, if_neg hg]
        rw [e]
        exact .inl ⟨by decide, fun ts => scan_bad h h1 h2 (by simpa using hl) (by simpa using hd) (by simpa using hg) ts⟩
end LxM
