/- Tokens with other space between them: plain mathematics. -/
import Derived.Test.YtdgpcijiempmdaaKp
namespace LxM

/-- The bytes of a string. -/
def bl (s : ByteArray) : List Nat := s.data.toList.map (·.toNat)
theorem bl_length (s : ByteArray) : (bl s).length = s.size := by simp [bl]
theorem bl_append (a b : ByteArray) : bl (a ++ b) = bl a ++ bl b := by simp [bl]
theorem bl_get (s : ByteArray) (i : Nat) (h : i < s.size) : (bl s)[i]? = some (s[i]).toNat := by
  unfold bl
  have h2 : i < s.data.size := h
  rw [List.getElem?_map, Array.getElem?_toList, Array.getElem?_eq_getElem h2]
  rfl
theorem bt_bl (s : ByteArray) (i : Nat) : bt s i = (bl s).getD i 0 := by
  unfold bt
  by_cases h : i < s.size
  · rw [dif_pos h, List.getD, bl_get s i h]
    rfl
  · rw [dif_neg h, List.getD, List.getElem?_eq_none (by rw [bl_length]; omega)]
    rfl
/-- From i on the string has just these bytes. -/
def Suf (s : ByteArray) (i : Nat) (M : List Nat) : Prop := s.size = i + M.length ∧ ∀ k, k < M.length → bt s (i + k) = M.getD k 0
theorem suf_all (s : ByteArray) : Suf s 0 (bl s) := ⟨by rw [bl_length]; omega, fun k _ => by rw [Nat.zero_add, bt_bl]⟩
theorem Suf.head {s : ByteArray} {i a : Nat} {M : List Nat} (h : Suf s i (a :: M)) : i < s.size ∧ bt s i = a ∧ Suf s (i + 1) M := by
  obtain ⟨h1, h2⟩ := h
  simp only [List.length_cons] at h1 h2
  refine ⟨by omega, by simpa using h2 0 (by omega), by omega, fun k hk => ?_⟩
  have := h2 (k + 1) (by omega)
  rw [show i + 1 + k = i + (k + 1) by omega, this]
  simp
theorem Suf.drop {s : ByteArray} {M : List Nat} : ∀ (X : List Nat) {i : Nat}, Suf s i (X ++ M) → Suf s (i + X.length) M
  | [], i, h => by simpa using h
  | a :: X, i, h => by
    have := Suf.drop X h.head.2.2
    rw [List.length_cons, show i + (X.length + 1) = i + 1 + X.length by omega]
    exact this
/-- A row ends where the class ends. -/
theorem suf_row {p : Nat → Bool} {s : ByteArray} {M : List Nat} (hM : ∀ a, M.head? = some a → p a = false) : ∀ (X : List Nat) {i : Nat}, Suf s i (X ++ M) → (∀ x ∈ X, p x = true) → rowE p s i = i + X.length
  | [], i, h, _ => by
    refine rowE_out fun ⟨h1, h2⟩ => ?_
    cases M with
    | nil => have := h.1; simp at this; omega
    | cons a M =>
      have h3 := Suf.head (i := i) (a := a) (M := M) h
      rw [h3.2.1, hM a rfl] at h2
      cases h2
  | a :: X, i, h, g => by
    have h3 := Suf.head (a := a) (M := X ++ M) h
    rw [rowE_in h3.1 (by rw [h3.2.1]; exact g a (by simp)), suf_row hM X h3.2.2 (fun x hx => g x (by simp [hx]))]
    simp; omega
theorem eq_of_bl {a b : ByteArray} (h : bl a = bl b) : a = b := by
  apply ByteArray.ext
  apply Array.toList_inj.1
  exact (List.map_inj_right (fun x y e => UInt8.toNat_inj.1 e)).1 h
theorem bl_extract (s : ByteArray) (i j : Nat) (hj : j ≤ s.size) : (bl (s.extract i j)).length = j - i ∧ ∀ k, k < j - i → (bl (s.extract i j)).getD k 0 = bt s (i + k) := by
  refine ⟨by rw [bl_length, ByteArray.size_extract]; omega, fun k hk => ?_⟩
  rw [← bt_bl]
  have h1 : k < (s.extract i j).size := by rw [ByteArray.size_extract]; omega
  have h2 : i + k < s.size := by omega
  unfold bt
  rw [dif_pos h1, dif_pos h2]
  rw [ByteArray.getElem_extract]
theorem suf_extract {s : ByteArray} {i : Nat} {X M : List Nat} (h : Suf s i (X ++ M)) : bl (s.extract i (i + X.length)) = X := by
  have hl := h.1
  rw [List.length_append] at hl
  obtain ⟨h1, h2⟩ := bl_extract s i (i + X.length) (by omega)
  refine List.ext_getElem (by omega) fun k a b => ?_
  have h3 := h2 k (by omega)
  rw [h.2 k (by rw [List.length_append]; omega)] at h3
  simp [List.getD, a, b, List.getElem?_append_left b] at h3
  exact h3

/-- The gaps. -/
def gaps : List (List Nat) := [[32], [10], [9, 13, 32], [35, 120, 59, 121, 123, 10], [32, 35, 32, 49, 47, 50, 10, 10]]
theorem skip_one {s : ByteArray} {i a : Nat} {M : List Nat} (h : Suf s i (a :: M)) (ha : space a = true) : Skips s i (i + 1) := by
  have := h.head
  exact fun ts => scan_space this.1 (by rw [this.2.1]; exact ha) ts
theorem skip_com {s : ByteArray} {i : Nat} {X M : List Nat} (h : Suf s i (35 :: (X ++ 10 :: M))) (hX : ∀ x ∈ X, notLF x = true) : Skips s i (i + (X.length + 2)) := by
  have h1 := h.head
  have h2 := suf_row (p := notLF) (M := 10 :: M) (fun a e => by cases e; rfl) X h1.2.2 hX
  have h3 : Suf s (i + 1 + X.length) (10 :: M) := Suf.drop X h1.2.2
  have h4 := skip_one h3 (by decide)
  refine Skips.trans (fun ts => scan_comment h1.1 h1.2.1 ts) ?_
  rw [h2, show i + (X.length + 2) = i + 1 + X.length + 1 by omega]
  exact h4
theorem skip_gap {s : ByteArray} {i : Nat} {g M : List Nat} (hg : g ∈ gaps) (h : Suf s i (g ++ M)) : Skips s i (i + g.length) := by
  simp only [gaps, List.mem_cons, List.not_mem_nil, or_false] at hg
  rcases hg with rfl | rfl | rfl | rfl | rfl
  · exact skip_one h (by decide)
  · exact skip_one h (by decide)
  · exact Skips.trans (skip_one h (by decide)) (Skips.trans (skip_one h.head.2.2 (by decide)) (skip_one h.head.2.2.head.2.2 (by decide)))
  · exact skip_com (X := [120, 59, 121, 123]) h (by decide)
  · have h1 := h.head.2.2
    have h2 := skip_com (X := [32, 49, 47, 50]) (M := 10 :: M) h1 (by decide)
    have h3 : Suf s (i + 1 + 6) (10 :: M) := Suf.drop [35, 32, 49, 47, 50, 10] h1
    have h4 := skip_one h3 (by decide)
    exact Skips.trans (skip_one h (by decide)) (Skips.trans h2 h4)
theorem gap_head {g M : List Nat} (hg : g ∈ gaps) : ∀ a, (g ++ M).head? = some a → inName a = false ∧ digit a = false := by
  simp only [gaps, List.mem_cons, List.not_mem_nil, or_false] at hg
  intro a e
  rcases hg with rfl | rfl | rfl | rfl | rfl <;> (cases e; exact ⟨by decide, by decide⟩)

/-- A token as a scan makes them, ahead of the end. -/
def Good (t : Tok) : Prop :=
  (t.kind = 1 ∧ (bl t.text).length ≤ 16 ∧ (∃ a X, bl t.text = a :: X ∧ letter a = true) ∧ ∀ x ∈ bl t.text, inName x = true) ∨
  (t.kind = 2 ∧ (bl t.text).length ≤ 40 ∧ (∃ a X, bl t.text = a :: X) ∧ ∀ x ∈ bl t.text, digit x = true) ∨
  (t.kind = 3 ∧ ∃ a, bl t.text = [a] ∧ sign a = true)
theorem Good.len {t : Tok} (h : Good t) : (bl t.text).length ≤ 40 := by
  rcases h with ⟨-, h, -⟩ | ⟨-, h, -⟩ | ⟨-, a, h, -⟩
  · omega
  · exact h
  · rw [h]; simp
inductive GoodL : List Tok → Prop
  | last {t : Tok} : t.kind = 4 → t.text = ⟨#[]⟩ → GoodL [t]
  | cons {t : Tok} {l : List Tok} : Good t → GoodL l → GoodL (t :: l)
theorem mem_row {p : Nat → Bool} {s : ByteArray} {i e : Nat} (he : e ≤ s.size) (h : ∀ k, i ≤ k → k < e → p (bt s k) = true) : ∀ x ∈ bl (s.extract i e), p x = true := by
  obtain ⟨h1, h2⟩ := bl_extract s i e he
  intro x hx
  obtain ⟨k, hk, rfl⟩ := List.getElem_of_mem hx
  have h3 := h2 k (by omega)
  simp [List.getD, hk] at h3
  rw [h3]
  exact h _ (by omega) (by omega)
theorem head_row {s : ByteArray} {i e : Nat} (he : e ≤ s.size) (h : i < e) : ∃ X, bl (s.extract i e) = bt s i :: X := by
  obtain ⟨h1, h2⟩ := bl_extract s i e he
  have h3 := h2 0 (by omega)
  cases hb : bl (s.extract i e) with
  | nil => rw [hb] at h1; simp at h1; omega
  | cons a X =>
    rw [hb] at h3
    simp at h3
    exact ⟨X, by rw [h3]⟩
theorem good_tok {s : ByteArray} {j : Nat} (h : j < s.size) (hn : (tokR s j).2 = 0) : Good (tokR s j).1 := by
  unfold tokR at hn ⊢
  by_cases hl : letter (bt s j) = true
  · rw [if_pos hl] at hn ⊢
    by_cases hb : j + 16 < rowE inName s j
    · rw [if_pos hb] at hn; simp at hn
    · rw [if_neg hb]
      have hle := rowE_le inName s j (by omega)
      have hge : j < rowE inName s j := by rw [rowE_letter h hl]; have := rowE_ge inName s (j + 1); omega
      obtain ⟨X, hX⟩ := head_row hle hge
      exact .inl ⟨rfl, by show (bl (s.extract j (rowE inName s j))).length ≤ 16; rw [(bl_extract s j _ hle).1]; omega, ⟨_, X, hX, hl⟩, mem_row hle (fun k a b => (rowE_all inName s j k a b).2)⟩
  · rw [if_neg hl] at hn ⊢
    by_cases hd : digit (bt s j) = true
    · rw [if_pos hd] at hn ⊢
      by_cases hb : j + 40 < rowE digit s j
      · rw [if_pos hb] at hn; simp at hn
      · rw [if_neg hb]
        have hle := rowE_le digit s j (by omega)
        have hge : j < rowE digit s j := by rw [rowE_digit h hd]; have := rowE_ge digit s (j + 1); omega
        obtain ⟨X, hX⟩ := head_row hle hge
        exact .inr (.inl ⟨rfl, by show (bl (s.extract j (rowE digit s j))).length ≤ 40; rw [(bl_extract s j _ hle).1]; omega, ⟨_, X, hX⟩, mem_row hle (fun k a b => (rowE_all digit s j k a b).2)⟩)
    · rw [if_neg hd] at hn ⊢
      by_cases hg : sign (bt s j) = true
      · rw [if_pos hg]
        obtain ⟨X, hX⟩ := head_row (s := s) (i := j) (e := j + 1) h (by omega)
        have h1 := (bl_extract s j (j + 1) h).1
        rw [hX] at h1
        have : X = [] := List.eq_nil_of_length_eq_zero (by rw [List.length_cons] at h1; omega)
        subst this
        exact .inr (.inr ⟨rfl, _, hX, hg⟩)
      · rw [if_neg hg] at hn; simp at hn
theorem good_scan (s : ByteArray) (i : Nat) (ts : List Tok) (hi : i ≤ s.size) : (scan s i ts).err = 0 → ∃ rest, (scan s i ts).toks = ts ++ rest ∧ GoodL rest := by
  intro he
  obtain ⟨j, h1, h2, h3, h4⟩ := skips_ex s i hi
  rw [h3] at he ⊢
  by_cases h : j < s.size
  · rcases round_at h h4 with ⟨hn, hb⟩ | ⟨hn, g1, g2, hg⟩
    · rw [hb] at he; exact absurd he hn
    · rw [hg] at he ⊢
      obtain ⟨rest, hr, hl⟩ := good_scan s _ _ g2 he
      exact ⟨(tokR s j).1 :: rest, by rw [hr]; simp, .cons (good_tok h hn) hl⟩
  · rw [scan_end (by omega)]
    exact ⟨_, rfl, .last rfl rfl⟩
termination_by s.size - i
decreasing_by omega

/-- The tokens with a gap ahead of each. -/
def cat : List (List Nat) → List Tok → List Nat
  | g :: gs, t :: ts => g ++ (bl t.text ++ cat gs ts)
  | _, _ => []
theorem cat_head : ∀ (gs : List (List Nat)) (ts : List Tok), (∀ g ∈ gs, g ∈ gaps) → ∀ a, (cat gs ts).head? = some a → inName a = false ∧ digit a = false
  | [], _, _, a, e => by simp [cat] at e
  | _ :: _, [], _, a, e => by simp [cat] at e
  | g :: gs, t :: ts, h, a, e => gap_head (h g (by simp)) a e
/-- SameT but for the places. -/
def SameT (a b : List Tok) : Prop := a.length = b.length ∧ ∀ i, i < a.length → (a.getD i ⟨0, ⟨#[]⟩, 0, 0⟩).kind = (b.getD i ⟨0, ⟨#[]⟩, 0, 0⟩).kind ∧ (a.getD i ⟨0, ⟨#[]⟩, 0, 0⟩).text = (b.getD i ⟨0, ⟨#[]⟩, 0, 0⟩).text
theorem SameT.cons {a b : List Tok} {t u : Tok} (h : SameT a b) (hk : t.kind = u.kind) (ht : t.text = u.text) : SameT (t :: a) (u :: b) := by
  refine ⟨by simp [h.1], fun i hi => ?_⟩
  cases i with
  | zero => exact ⟨hk, ht⟩
  | succ i => simpa using h.2 i (by simpa using hi)
theorem scan_cat (s : ByteArray) : ∀ (ts : List Tok) (gs : List (List Nat)) (i : Nat) (acc : List Tok), GoodL ts → gs.length = ts.length → (∀ g ∈ gs, g ∈ gaps) → Suf s i (cat gs ts) → ∃ out, scan s i acc = ⟨0, acc ++ out, 0, 0⟩ ∧ SameT ts out
  | [], _, _, _, h, _, _, _ => by cases h
  | t :: ts, [], _, _, _, h, _, _ => by simp at h
  | t :: ts, g :: gs, i, acc, hG, hl, hg, hs => by
    have hsk := skip_gap (hg g (by simp)) hs
    have hs2 : Suf s (i + g.length) (bl t.text ++ cat gs ts) := Suf.drop g hs
    obtain ⟨j, hj⟩ : ∃ j, j = i + g.length := ⟨_, rfl⟩
    rw [← hj] at hsk hs2
    cases hG with
    | last h1 h2 =>
      have hgs : gs = [] := List.eq_nil_of_length_eq_zero (by simpa using hl)
      subst hgs
      rw [h2] at hs2
      have hsz : s.size = j := hs2.1
      refine ⟨[endAt s j], ?_, ⟨rfl, fun k hk => ?_⟩⟩
      · rw [hsk acc, scan_end (by omega)]
      · have : k = 0 := by simp at hk; omega
        subst this
        exact ⟨h1, h2⟩
    | cons hgood hrest =>
      have hl2 : gs.length = ts.length := by simpa using hl
      have hg2 : ∀ g ∈ gs, g ∈ gaps := fun g' hg' => hg g' (by simp [hg'])
      have hs3 : Suf s (j + (bl t.text).length) (cat gs ts) := Suf.drop _ hs2
      have hex := suf_extract hs2
      have htx : s.extract j (j + (bl t.text).length) = t.text := eq_of_bl hex
      have key : ∃ u : Tok, u.kind = t.kind ∧ u.text = t.text ∧ ∀ acc, scan s j acc = scan s (j + (bl t.text).length) (acc ++ [u]) := by
        rcases hgood with ⟨k1, k2, ⟨a, X, k3, k4⟩, k5⟩ | ⟨k1, k2, ⟨a, X, k3⟩, k5⟩ | ⟨k1, a, k3, k4⟩
        · have hrow := suf_row (p := inName) (fun a e => (cat_head gs ts hg2 a e).1) (bl t.text) hs2 k5
          rw [k3] at hs2
          have hh := Suf.head (a := a) (M := X ++ cat gs ts) hs2
          have hlet : letter (bt s j) = true := by rw [hh.2.1]; exact k4
          rw [rowE_letter hh.1 hlet] at hrow
          refine ⟨tokAt s 1 j (j + (bl t.text).length), k1.symm, htx, fun acc => ?_⟩
          rw [scan_letter hh.1 hlet, hrow, if_neg (by omega)]
        · have hrow := suf_row (p := digit) (fun a e => (cat_head gs ts hg2 a e).2) (bl t.text) hs2 k5
          rw [k3] at hs2
          have hh := Suf.head (a := a) (M := X ++ cat gs ts) hs2
          have hdig : digit (bt s j) = true := by rw [hh.2.1]; exact k5 a (by rw [k3]; simp)
          rw [rowE_digit hh.1 hdig] at hrow
          refine ⟨tokAt s 2 j (j + (bl t.text).length), k1.symm, htx, fun acc => ?_⟩
          rw [scan_digit hh.1 hdig, hrow, if_neg (by omega)]
        · rw [k3] at hs2 htx ⊢
          have hh := Suf.head (a := a) (M := cat gs ts) hs2
          refine ⟨tokAt s 3 j (j + 1), k1.symm, htx, fun acc => ?_⟩
          rw [scan_sign hh.1 (by rw [hh.2.1]; exact k4)]
          rfl
      obtain ⟨u, u1, u2, u3⟩ := key
      obtain ⟨out, h5, h6⟩ := scan_cat s ts gs (j + (bl t.text).length) (acc ++ [u]) hrest hl2 hg2 hs3
      refine ⟨u :: out, ?_, h6.cons u1.symm u2.symm⟩
      rw [hsk acc, u3, h5]
      simp
end LxM
