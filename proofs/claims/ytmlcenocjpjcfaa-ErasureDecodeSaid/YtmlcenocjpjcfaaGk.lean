/- Plain facts on matrices over the field of 256 elements: sums, products, and what elimination by rows keeps. No program is read here. -/
import Derived.Test.YtmlcenocjpjcfaaGm
namespace GfM

/-- The sum of f 0 .. f (n - 1). -/
def sumX : Nat → (Nat → Nat) → Nat
  | 0, _ => 0
  | n + 1, f => sumX n f ^^^ f n
theorem sumX_congr {n : Nat} {f g : Nat → Nat} (h : ∀ k < n, f k = g k) : sumX n f = sumX n g := by
  induction n with
  | zero => rfl
  | succ n ih => rw [sumX, sumX, ih (fun k hk => h k (by omega)), h n (by omega)]
theorem sumX_lt {n : Nat} {f : Nat → Nat} (h : ∀ k < n, f k < 256) : sumX n f < 256 := by
  induction n with
  | zero => show 0 < 256; decide
  | succ n ih => exact xor_lt (ih fun k hk => h k (by omega)) (h n (by omega))
theorem sumX_zero {n : Nat} {f : Nat → Nat} (h : ∀ k < n, f k = 0) : sumX n f = 0 := by
  induction n with
  | zero => rfl
  | succ n ih => rw [sumX, ih (fun k hk => h k (by omega)), h n (by omega)]; rfl
theorem sumX_xor (n : Nat) (f g : Nat → Nat) : sumX n (fun k => f k ^^^ g k) = sumX n f ^^^ sumX n g := by
  induction n with
  | zero => simp [sumX]
  | succ n ih => rw [sumX, sumX, sumX, ih, xor4]
/-- All terms but one are 0. -/
theorem sumX_one {n j : Nat} {f : Nat → Nat} (hj : j < n) (h : ∀ k < n, k ≠ j → f k = 0) : sumX n f = f j := by
  induction n with
  | zero => omega
  | succ n ih =>
    rw [sumX]
    by_cases e : j = n
    · subst e; rw [sumX_zero fun k hk => h k (by omega) (by omega), Nat.zero_xor]
    · rw [ih (by omega) (fun k hk hne => h k (by omega) hne), h n (by omega) (fun e2 => e e2.symm), Nat.xor_zero]
/-- All terms but two are 0. -/
theorem sumX_two {n i j : Nat} {f : Nat → Nat} (hi : i < n) (hj : j < n) (hij : i ≠ j) (h : ∀ k < n, k ≠ i → k ≠ j → f k = 0) : sumX n f = f i ^^^ f j := by
  have e : sumX n f = sumX n (fun k => (if k = j then 0 else f k) ^^^ (if k = j then f k else 0)) := sumX_congr fun k _ => by
    by_cases e : k = j <;> simp [e]
  rw [e, sumX_xor, sumX_one hi (fun k hk hki => ?_), sumX_one hj (fun k hk hkj => by rw [if_neg hkj]), if_neg hij, if_pos rfl]
  by_cases e : k = j
  · rw [if_pos e]
  · rw [if_neg e]; exact h k hk hki e
theorem gm_sumX {n a : Nat} (f : Nat → Nat) : gm a (sumX n f) = sumX n fun k => gm a (f k) := by
  induction n with
  | zero => exact gm_zero_r a
  | succ n ih => rw [sumX, sumX, gm_xor_r, ih]
theorem sumX_gm {n b : Nat} {f : Nat → Nat} (hf : ∀ k < n, f k < 256) : gm (sumX n f) b = sumX n fun k => gm (f k) b := by
  induction n with
  | zero => exact gm_zero_l b
  | succ n ih => rw [sumX, sumX, gm_xor_l b (sumX_lt fun k hk => hf k (by omega)) (hf n (by omega)), ih fun k hk => hf k (by omega)]
theorem sumX_swap (n m : Nat) (f : Nat → Nat → Nat) : sumX n (fun i => sumX m fun j => f i j) = sumX m fun j => sumX n fun i => f i j := by
  induction n with
  | zero => exact (sumX_zero fun _ _ => rfl).symm
  | succ n ih => rw [sumX, ih, ← sumX_xor]; rfl

/-- Entries that are bytes. -/
def ByE (n m : Nat) (A : Nat → Nat → Nat) : Prop := ∀ i < n, ∀ c < m, A i c < 256
/-- The product of matrices: n inner places. -/
def mulE' (n : Nat) (A B : Nat → Nat → Nat) (i c : Nat) : Nat := sumX n fun k => gm (A i k) (B k c)
theorem mulE_assoc {n m : Nat} {A B C : Nat → Nat → Nat} (hA : ByE n n A) (hB : ByE n n B) (hC : ByE n m C) {i c : Nat} (hi : i < n) (hc : c < m) :
    mulE' n (mulE' n A B) C i c = mulE' n A (mulE' n B C) i c := by
  unfold mulE'
  have e1 : (sumX n fun k => gm (sumX n fun l => gm (A i l) (B l k)) (C k c)) = sumX n fun k => sumX n fun l => gm (A i l) (gm (B l k) (C k c)) :=
    sumX_congr fun k hk => by
      rw [sumX_gm fun l hl => gm_lt (hA i hi l hl)]
      exact sumX_congr fun l hl => gm_assoc (hA i hi l hl) (hB l hl k hk) (hC k hk c hc)
  have e2 : (sumX n fun l => gm (A i l) (sumX n fun k => gm (B l k) (C k c))) = sumX n fun l => sumX n fun k => gm (A i l) (gm (B l k) (C k c)) :=
    sumX_congr fun l _ => gm_sumX _
  rw [e1, e2, sumX_swap]
/-- Is A the product U B (n rows, m columns)? -/
def IsP (n m : Nat) (A U B : Nat → Nat → Nat) : Prop := ByE n n U ∧ ∀ i < n, ∀ c < m, A i c = mulE' n U B i c
/-- A and B come out of each other by multiplying from the left. -/
def RowEq (n m : Nat) (A B : Nat → Nat → Nat) : Prop := (∃ U, IsP n m A U B) ∧ ∃ T, IsP n m B T A
def idE (i c : Nat) : Nat := if i = c then 1 else 0
theorem by_idE (n m : Nat) : ByE n m idE := fun i _ c _ => by unfold idE; split <;> decide
theorem gm_one_l' {a : Nat} (h : a < 256) : gm 1 a = a := gm_one_l h
theorem mul_id_l {n m : Nat} {B : Nat → Nat → Nat} (hB : ByE n m B) {i c : Nat} (hi : i < n) (hc : c < m) : mulE' n idE B i c = B i c := by
  unfold mulE'
  rw [sumX_one hi (fun k _ hk => by unfold idE; rw [if_neg (fun e => hk e.symm), gm_zero_l])]
  unfold idE; rw [if_pos rfl, gm_one_l (hB i hi c hc)]
theorem mul_id_r {n : Nat} {A B : Nat → Nat → Nat} (hA : ByE n n A) (hB : ∀ k < n, ∀ c < n, B k c = idE k c) {i c : Nat} (hi : i < n) (hc : c < n) : mulE' n A B i c = A i c := by
  unfold mulE'
  rw [sumX_one hc (fun k hk hkc => by rw [hB k hk c hc]; unfold idE; rw [if_neg hkc, gm_zero_r])]
  rw [hB c hc c hc]; unfold idE; rw [if_pos rfl, gm_one_r (hA i hi c hc)]
theorem IsP.refl {n m : Nat} {A : Nat → Nat → Nat} (h : ByE n m A) : IsP n m A idE A := ⟨by_idE n n, fun _ hi _ hc => (mul_id_l h hi hc).symm⟩
theorem mulE_lt {n m : Nat} {A B : Nat → Nat → Nat} (hA : ByE n n A) : ByE n m (mulE' n A B) := fun i hi _ _ => sumX_lt fun k hk => gm_lt (hA i hi k hk)
theorem mulE_congr {n : Nat} {A A' B B' : Nat → Nat → Nat} {i c : Nat} (h : ∀ k < n, A i k = A' i k) (h' : ∀ k < n, B k c = B' k c) : mulE' n A B i c = mulE' n A' B' i c :=
  sumX_congr fun k hk => by rw [h k hk, h' k hk]
theorem IsP.trans {n m : Nat} {A U B V C : Nat → Nat → Nat} (h : IsP n m A U B) (k : IsP n m B V C) (hC : ByE n m C) : IsP n m A (mulE' n U V) C := by
  refine ⟨mulE_lt h.1, fun i hi c hc => ?_⟩
  rw [h.2 i hi c hc, mulE_assoc h.1 k.1 hC hi hc]
  exact mulE_congr (fun _ _ => rfl) (fun l hl => k.2 l hl c hc)
theorem RowEq.refl {n m : Nat} {A : Nat → Nat → Nat} (h : ByE n m A) : RowEq n m A A := ⟨⟨_, IsP.refl h⟩, ⟨_, IsP.refl h⟩⟩
theorem RowEq.trans {n m : Nat} {A B C : Nat → Nat → Nat} (h : RowEq n m A B) (k : RowEq n m B C) (hA : ByE n m A) (hC : ByE n m C) : RowEq n m A C := by
  obtain ⟨⟨U, hU⟩, ⟨T, hT⟩⟩ := h
  obtain ⟨⟨V, hV⟩, ⟨S, hS⟩⟩ := k
  exact ⟨⟨_, hU.trans hV hC⟩, ⟨_, hS.trans hT hA⟩⟩
/-- Exchanging two rows. -/
theorem rowEq_perm {n m : Nat} {A B : Nat → Nat → Nat} (s : Nat → Nat) (hs : ∀ i < n, s i < n) (hss : ∀ i < n, s (s i) = i) (hA : ByE n m A) (hB : ∀ i < n, ∀ c < m, B i c = A (s i) c) : RowEq n m A B := by
  have hby : ByE n n (fun i k => if k = s i then 1 else 0) := fun i _ k _ => by dsimp only; split <;> decide
  have hBB : ByE n m B := fun i hi c hc => by rw [hB i hi c hc]; exact hA _ (hs i hi) c hc
  have key : ∀ (X : Nat → Nat → Nat), ByE n m X → ∀ i < n, ∀ c < m, mulE' n (fun i k => if k = s i then 1 else 0) X i c = X (s i) c := by
    intro X hX i hi c hc
    unfold mulE'
    rw [sumX_one (hs i hi) (fun k _ hk => by dsimp only; rw [if_neg hk, gm_zero_l])]
    dsimp only; rw [if_pos rfl, gm_one_l (hX _ (hs i hi) c hc)]
  exact ⟨⟨_, hby, fun i hi c hc => by rw [key B hBB i hi c hc, hB _ (hs i hi) c hc, hss i hi]⟩, ⟨_, hby, fun i hi c hc => by rw [key A hA i hi c hc, hB i hi c hc]⟩⟩
/-- Row j multiplied by x (z x = 1), and f i times it added to row i. -/
theorem rowEq_clear {n m : Nat} {A B : Nat → Nat → Nat} (j x z : Nat) (f : Nat → Nat) (hj : j < n) (hx : x < 256) (hz : z < 256) (hxz : gm z x = 1) (hf : ∀ i < n, f i < 256) (hA : ByE n m A)
    (hBj : ∀ c < m, B j c = gm x (A j c)) (hB : ∀ i < n, i ≠ j → ∀ c < m, B i c = A i c ^^^ gm (f i) (B j c)) : RowEq n m A B := by
  have hBb : ByE n m B := fun i hi c hc => by
    by_cases e : i = j
    · subst e; rw [hBj c hc]; exact gm_lt hx
    · rw [hB i hi e c hc]; exact xor_lt (hA i hi c hc) (gm_lt (hf i hi))
  have hzx : gm z (gm x 0) = 0 := by rw [gm_zero_r, gm_zero_r]
  refine ⟨⟨fun i k => if i = j then (if k = j then z else 0) else if k = i then 1 else if k = j then f i else 0, ?_, ?_⟩, ⟨fun i k => if i = j then (if k = j then x else 0) else if k = i then 1 else if k = j then gm (f i) x else 0, ?_, ?_⟩⟩
  · intro i hi k _; dsimp only; repeat' split
    all_goals first | exact hz | exact hf i hi | decide
  · intro i hi c hc
    unfold mulE'
    by_cases e : i = j
    · subst e
      rw [sumX_one hi (fun k _ hk => by dsimp only; rw [if_pos rfl, if_neg hk, gm_zero_l])]
      dsimp only; rw [if_pos rfl, if_pos rfl, hBj c hc, ← gm_assoc hz hx (hA i hi c hc), hxz, gm_one_l (hA i hi c hc)]
    · rw [sumX_two hi hj e (fun k _ h1 h2 => by dsimp only; rw [if_neg e, if_neg h1, if_neg h2, gm_zero_l])]
      dsimp only
      rw [if_neg e, if_pos rfl, if_neg e, if_neg (fun h => e h.symm), if_pos rfl, gm_one_l (hBb i hi c hc), hB i hi e c hc, Nat.xor_assoc, Nat.xor_self, Nat.xor_zero]
  · intro i hi k _; dsimp only; repeat' split
    all_goals first | exact hx | exact gm_lt (hf i hi) | decide
  · intro i hi c hc
    unfold mulE'
    by_cases e : i = j
    · subst e
      rw [sumX_one hi (fun k _ hk => by dsimp only; rw [if_pos rfl, if_neg hk, gm_zero_l])]
      dsimp only; rw [if_pos rfl, if_pos rfl, hBj c hc]
    · rw [sumX_two hi hj e (fun k _ h1 h2 => by dsimp only; rw [if_neg e, if_neg h1, if_neg h2, gm_zero_l])]
      dsimp only
      rw [if_neg e, if_pos rfl, if_neg e, if_neg (fun h => e h.symm), if_pos rfl, gm_one_l (hA i hi c hc), hB i hi e c hc, hBj c hc, gm_assoc (hf i hi) hx (hA j hj c hc)]
end GfM
