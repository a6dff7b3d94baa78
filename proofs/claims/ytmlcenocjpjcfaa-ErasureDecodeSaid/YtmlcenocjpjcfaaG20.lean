/- What the elimination finds is the inverse on both sides; where it stops, some vector is mapped to zero. -/
import Derived.Test.YtmlcenocjpjcfaaG19
import Derived.Test.YtmlcenocjpjcfaaGk
import Derived.Test.YtmlcenocjpjcfaaG13
namespace Go.Proofs.Ytmlcenocjpjcfaa
open Go.RowKit GfM

/-- An entry of a matrix. -/
def ent (M : List (List Nat)) (i c : Nat) : Nat := (M.getD i []).getD c 0
/-- n rows of m bytes. -/
def Dim (n m : Nat) (M : List (List Nat)) : Prop := M.length = n ∧ (∀ i < n, (M.getD i []).length = m) ∧ BysM M
theorem Dim.by {n m : Nat} {M : List (List Nat)} (h : Dim n m M) : ByE n m (ent M) := fun i _ c _ => (h.2.2 i).get c

theorem clr_get (j : Nat) (p : List Nat) (k i : Nat) (M : List (List Nat)) (_hi : i < M.length) (hk : k ≤ M.length) : (clr j p k M).getD i [] = if i = j ∨ k ≤ i then M.getD i [] else addTo (M.getD i []) ((M.getD i []).getD j 0) p := by
  induction k with
  | zero => rw [if_pos (Or.inr (Nat.zero_le _))]; rfl
  | succ k ih =>
    replace ih := ih (by omega)
    rw [clr]
    by_cases e : k = j
    · rw [if_pos e, ih]
      by_cases h1 : i = j
      · rw [if_pos (Or.inl h1), if_pos (Or.inl h1)]
      · by_cases h2 : k ≤ i
        · rw [if_pos (Or.inr h2), if_pos (Or.inr (by omega))]
        · rw [if_neg (by omega), if_neg (by omega)]
    · rw [if_neg e, getD_set [] _ _ _ _ (by rw [length_clr]; omega)]
      by_cases h1 : i = k
      · subst h1
        rw [if_pos rfl, clr_ge j p i i M (Nat.le_refl _), if_neg (by omega)]
      · rw [if_neg h1, ih]
        by_cases h2 : i = j ∨ k ≤ i
        · rw [if_pos h2, if_pos (by omega)]
        · rw [if_neg h2, if_neg (by omega)]

theorem getD_map_gm {x c : Nat} {r : List Nat} (h : c < r.length) : (r.map (gm x)).getD c 0 = gm x (r.getD c 0) := by simp [List.getD, h]
theorem getD_setM (M : List (List Nat)) (i k : Nat) (a : List Nat) (hi : i < M.length) : (M.set i a).getD k [] = if k = i then a else M.getD k [] := getD_set [] M i k a hi
/-- The entries behind one step. -/
theorem clearC_rows {n m j : Nat} {M : List (List Nat)} (h : Dim n m M) (hj : j < n) {i : Nat} (hi : i < n) :
    (clearC M j).getD i [] = if i = j then (M.getD j []).map (gm (iv (ent M j j))) else addTo (M.getD i []) (ent M i j) ((M.getD j []).map (gm (iv (ent M j j)))) := by
  obtain ⟨hl, hr, hb⟩ := h
  unfold clearC
  have e0 : (M.getD j []).getD j 0 = ent M j j := rfl
  rw [e0, clr_get _ _ _ _ _ (by rw [List.length_set, hl]; exact hi) (by rw [List.length_set]; exact Nat.le_refl _), getD_setM M j i _ (by rw [hl]; exact hj)]
  by_cases e : i = j
  · rw [if_pos (Or.inl e), if_pos e, if_pos e]
  · rw [if_neg (by rw [hl]; omega), if_neg e, if_neg e]; rfl
theorem clearC_dim {n m j : Nat} {M : List (List Nat)} (h : Dim n m M) (hj : j < n) : Dim n m (clearC M j) := by
  refine ⟨by rw [length_clearC]; exact h.1, fun i hi => ?_, bys_clearC j h.2.2⟩
  rw [clearC_rows h hj hi]
  split
  · rw [List.length_map]; exact h.2.1 j hj
  · rw [length_addTo]; exact h.2.1 i hi
theorem clearC_j {n m j c : Nat} {M : List (List Nat)} (h : Dim n m M) (hj : j < n) (hc : c < m) : ent (clearC M j) j c = gm (iv (ent M j j)) (ent M j c) := by
  unfold ent
  rw [clearC_rows h hj hj, if_pos rfl, getD_map_gm (by rw [h.2.1 j hj]; exact hc)]; rfl
theorem clearC_i {n m i j c : Nat} {M : List (List Nat)} (h : Dim n m M) (hj : j < n) (hi : i < n) (hij : i ≠ j) (hc : c < m) : ent (clearC M j) i c = ent M i c ^^^ gm (ent M i j) (ent (clearC M j) j c) := by
  have e1 : ent (clearC M j) i c = (addTo (M.getD i []) (ent M i j) ((M.getD j []).map (gm (iv (ent M j j))))).getD c 0 := by
    unfold ent; rw [clearC_rows h hj hi, if_neg hij]; rfl
  have e2 : ent (clearC M j) j c = ((M.getD j []).map (gm (iv (ent M j j)))).getD c 0 := by
    unfold ent; rw [clearC_rows h hj hj, if_pos rfl]; rfl
  rw [e1, e2, getD_addTo' (by rw [h.2.1 i hi]; exact hc) (by rw [List.length_map, h.2.1 j hj]; exact hc)]; rfl
theorem swap_dim {n m i j : Nat} {M : List (List Nat)} (h : Dim n m M) (hi : i < n) (hj : j < n) : Dim n m (swapAt [] M i j) := by
  refine ⟨by rw [length_swapAt]; exact h.1, fun k hk => ?_, h.2.2.swap⟩
  rw [getD_swapAt [] M i j k (by rw [h.1]; exact hi) (by rw [h.1]; exact hj)]
  exact h.2.1 _ (sig_lt hi hj hk)
theorem swap_ent {n m i j k c : Nat} {M : List (List Nat)} (h : Dim n m M) (hi : i < n) (hj : j < n) : ent (swapAt [] M i j) k c = ent M (sig i j k) c := by
  unfold ent; rw [getD_swapAt [] M i j k (by rw [h.1]; exact hi) (by rw [h.1]; exact hj)]
theorem sig_sig {i j k : Nat} : sig i j (sig i j k) = k := by
  unfold sig; repeat' split
  all_goals omega
theorem findP_some {M : List (List Nat)} {j f i k : Nat} (h : findP M j f i = some k) : i ≤ k ∧ k < i + f ∧ ent M k j ≠ 0 := by
  induction f generalizing i with
  | zero => cases h
  | succ f ih =>
    rw [findP] at h
    split at h
    · have := ih h; exact ⟨by omega, by omega, this.2.2⟩
    · rename_i hne; cases h; exact ⟨Nat.le_refl _, by omega, hne⟩
theorem findP_none {M : List (List Nat)} {j f i : Nat} (h : findP M j f i = none) : ∀ k, i ≤ k → k < i + f → ent M k j = 0 := by
  induction f generalizing i with
  | zero => intro k h1 h2; omega
  | succ f ih =>
    rw [findP] at h
    split at h
    · rename_i h0
      intro k h1 h2
      by_cases e : k = i
      · subst e; exact h0
      · exact ih h k (by omega) (by omega)
    · cases h
/-- The first k columns are those of the identity. -/
def UnitC (n k : Nat) (M : List (List Nat)) : Prop := ∀ c < k, ∀ i < n, ent M i c = idE i c
theorem elimAt_some {n m k : Nat} {M R : List (List Nat)} (h : Dim n m M) (hk : k < n) (hnm : n ≤ m) (hu : UnitC n k M) (he : elimAt M k = some R) : Dim n m R ∧ RowEq n m (ent M) (ent R) ∧ UnitC n (k + 1) R := by
  unfold elimAt at he
  split at he
  · cases he
  · rename_i i hf
    cases he
    obtain ⟨f1, f2, f3⟩ := findP_some hf
    have hi : i < n := by have := h.1; omega
    have hS := swap_dim h hi hk
    obtain ⟨S, eS⟩ : ∃ S, S = swapAt [] M i k := ⟨_, rfl⟩
    have hSe : ∀ r c, ent S r c = ent M (sig i k r) c := fun r c => by rw [eS]; exact swap_ent h hi hk
    rw [← eS] at hS ⊢
    have hz : ent S k k ≠ 0 := by
      rw [hSe]
      have : sig i k k = i := by unfold sig; rw [if_pos rfl]
      rw [this]; exact f3
    have hzb : ent S k k < 256 := (hS.2.2 k).get k
    have hx1 : gm (ent S k k) (iv (ent S k k)) = 1 := by rw [gm_comm hzb (iv_lt _), iv_of hz]; exact gm_inv hzb hz
    have hx2 : gm (iv (ent S k k)) (ent S k k) = 1 := by rw [iv_of hz]; exact gm_inv hzb hz
    have hR := clearC_dim hS hk
    refine ⟨hR, ?_, ?_⟩
    · have r1 : RowEq n m (ent M) (ent S) := rowEq_perm (sig i k) (fun r hr => sig_lt hi hk hr) (fun r _ => sig_sig) h.by (fun r _ c _ => hSe r c)
      have r2 : RowEq n m (ent S) (ent (clearC S k)) := rowEq_clear k (iv (ent S k k)) (ent S k k) (fun r => ent S r k) hk (iv_lt _) hzb hx1 (fun r _ => (hS.2.2 r).get k) hS.by
        (fun c hc => clearC_j hS hk hc) (fun r hr hrk c hc => clearC_i hS hk hr hrk hc)
      exact r1.trans r2 h.by hR.by
    · have hSu : ∀ c < k, ∀ r < n, ent S r c = idE r c := by
        intro c hc r hr
        rw [hSe, hu c hc _ (sig_lt hi hk hr)]
        unfold idE sig
        repeat' split
        all_goals first | rfl | omega
      intro c hc r hr
      by_cases hck : c = k
      · subst hck
        have e1 : ent (clearC S c) c c = 1 := by rw [clearC_j hS hk (by omega)]; exact hx2
        by_cases hrc : r = c
        · subst hrc; rw [e1]; unfold idE; rw [if_pos rfl]
        · rw [clearC_i hS hk hr hrc (by omega), e1, gm_one_r (show ent S r c < 256 from (hS.2.2 r).get c), Nat.xor_self]
          unfold idE; rw [if_neg hrc]
      · have hc' : c < k := by omega
        have e1 : ent (clearC S k) k c = 0 := by
          rw [clearC_j hS hk (by omega), hSu c hc' k hk]
          unfold idE; rw [if_neg (by omega), gm_zero_r]
        by_cases hrk : r = k
        · subst hrk; rw [e1]; unfold idE; rw [if_neg (by omega)]
        · rw [clearC_i hS hk hr hrk (by omega), e1, gm_zero_r, Nat.xor_zero, hSu c hc' r hr]
theorem elimTo_some {n m k : Nat} {M0 M : List (List Nat)} (h : Dim n m M0) (hk : k ≤ n) (hnm : n ≤ m) (he : elimTo M0 k = some M) : Dim n m M ∧ RowEq n m (ent M0) (ent M) ∧ UnitC n k M := by
  induction k generalizing M with
  | zero => cases he; exact ⟨h, RowEq.refl h.by, fun c hc => by omega⟩
  | succ k ih =>
    rw [elimTo] at he
    split at he
    · cases he
    · rename_i S hS
      obtain ⟨d1, r1, u1⟩ := ih (by omega) hS
      obtain ⟨d2, r2, u2⟩ := elimAt_some d1 (by omega) hnm u1 he
      exact ⟨d2, r1.trans r2 h.by d2.by, u2⟩
theorem elimTo_stop {n m k : Nat} {M0 : List (List Nat)} (h : Dim n m M0) (hk : k ≤ n) (hnm : n ≤ m) (he : elimTo M0 k = none) :
    ∃ j M, j < n ∧ Dim n m M ∧ RowEq n m (ent M0) (ent M) ∧ UnitC n j M ∧ ∀ i, j ≤ i → i < n → ent M i j = 0 := by
  induction k with
  | zero => cases he
  | succ k ih =>
    rw [elimTo] at he
    split at he
    · rename_i hS; exact ih (by omega) hS
    · rename_i S hS
      obtain ⟨d1, r1, u1⟩ := elimTo_some h (by omega) hnm hS
      unfold elimAt at he
      split at he
      · rename_i hf
        refine ⟨k, S, by omega, d1, r1, u1, fun i h1 h2 => findP_none hf i h1 (by have := d1.1; omega)⟩
      · cases he

theorem ext_dim {n : Nat} {rs : List (List Nat)} (h : Dim n n rs) : Dim n (2 * n) (extTo rs n n) := by
  refine ⟨length_extTo .., fun i hi => ?_, fun k => ?_⟩
  · rw [getD_extTo hi, List.length_append, length_unitR, h.2.1 i hi]; omega
  · by_cases hk : k < n
    · rw [getD_extTo hk]
      intro x hx
      rcases List.mem_append.1 hx with hx | hx
      · exact h.2.2 k x hx
      · exact bys_unitR n k x hx
    · have : (extTo rs n n).getD k [] = [] := by simp [extTo, List.getD, Nat.le_of_not_lt hk]
      rw [this]; exact Bys.nil
theorem ext_left {n i c : Nat} {rs : List (List Nat)} (h : Dim n n rs) (hi : i < n) (hc : c < n) : ent (extTo rs n n) i c = ent rs i c := by
  unfold ent
  rw [getD_extTo hi]
  have : c < (rs.getD i []).length := by rw [h.2.1 i hi]; exact hc
  simp only [List.getD] at this ⊢
  rw [List.getElem?_append_left this]
theorem unitR_get {n i c : Nat} (hi : i < n) : (unitR n i).getD c 0 = idE i c := by
  unfold unitR idE
  rw [getD_set 0 _ _ _ _ (by rw [List.length_replicate]; exact hi)]
  by_cases e : c = i
  · rw [if_pos e, if_pos e.symm]
  · rw [if_neg e, if_neg (fun h => e h.symm)]
    by_cases hc : c < n <;> simp [List.getD, hc]
theorem ext_right {n i c : Nat} {rs : List (List Nat)} (h : Dim n n rs) (hi : i < n) : ent (extTo rs n n) i (n + c) = idE i c := by
  unfold ent
  rw [getD_extTo hi, ← unitR_get hi]
  have hl := h.2.1 i hi
  simp only [List.getD] at hl ⊢
  rw [List.getElem?_append_right (by omega), hl, Nat.add_sub_cancel_left]

/-- What the elimination finds is the inverse on both sides. -/
theorem inv_some {n : Nat} {rs R : List (List Nat)} (h : Dim n n rs) (he : invM rs n = some R) :
    Dim n n R ∧ (∀ i < n, ∀ c < n, mulE' n (ent rs) (ent R) i c = idE i c) ∧ (∀ i < n, ∀ c < n, mulE' n (ent R) (ent rs) i c = idE i c) := by
  unfold invM at he
  split at he
  · cases he
  · rename_i M hM
    cases he
    have hx := ext_dim h
    obtain ⟨hd, ⟨⟨T, hTb, hT⟩, ⟨U, hUb, hU⟩⟩, hu⟩ := elimTo_some hx (Nat.le_refl _) (by omega) hM
    have hRr : ∀ i < n, (M.map (List.drop n)).getD i [] = (M.getD i []).drop n := fun i hi => by
      have : i < M.length := by rw [hd.1]; exact hi
      simp [List.getD, this]
    have hRe : ∀ i < n, ∀ c, ent (M.map (List.drop n)) i c = ent M i (n + c) := fun i hi c => by
      unfold ent
      rw [hRr i hi]
      simp [List.getD, List.getElem?_drop]
    have hRd : Dim n n (M.map (List.drop n)) := by
      refine ⟨by rw [List.length_map]; exact hd.1, fun i hi => ?_, fun k => ?_⟩
      · rw [hRr i hi, List.length_drop, hd.2.1 i hi]; omega
      · by_cases hk : k < n
        · rw [hRr k hk]; exact (hd.2.2 k).drop n
        · have : (M.map (List.drop n)).getD k [] = [] := by simp [List.getD, hd.1, Nat.le_of_not_lt hk]
          rw [this]; exact Bys.nil
    have hTA : ∀ i < n, ∀ c < n, T i c = ent rs i c := fun i hi c hc => by
      have e := hT i hi c (by omega)
      rw [ext_left h hi hc, mul_id_r hTb (fun k hk c hc => hu c hc k hk) hi hc] at e
      exact e.symm
    have hUR : ∀ i < n, ∀ c < n, U i c = ent (M.map (List.drop n)) i c := fun i hi c hc => by
      have e := hU i hi (n + c) (by omega)
      have e2 : mulE' n U (ent (extTo rs n n)) i (n + c) = U i c := by
        have : mulE' n U (ent (extTo rs n n)) i (n + c) = mulE' n U idE i c := sumX_congr fun k hk => by rw [ext_right h hk]
        rw [this]; exact mul_id_r hUb (fun _ _ _ _ => rfl) hi hc
      rw [hRe i hi, e, e2]
    refine ⟨hRd, fun i hi c hc => ?_, fun i hi c hc => ?_⟩
    · have e := hT i hi (n + c) (by omega)
      rw [ext_right h hi] at e
      rw [e]
      exact sumX_congr fun k hk => by rw [hTA i hi k hk, hRe k hk]
    · have e := hU i hi c (by omega)
      rw [hu c hc i hi] at e
      rw [e]
      exact sumX_congr fun k hk => by rw [hUR i hi k hk, ext_left h hk hc]
/-- Where it finds none, a vector that is not zero is mapped to zero. -/
theorem inv_none {n : Nat} {rs : List (List Nat)} (h : Dim n n rs) (he : invM rs n = none) :
    ∃ (v : Nat → Nat) (j : Nat), j < n ∧ v j ≠ 0 ∧ (∀ k < n, v k < 256) ∧ ∀ i < n, sumX n (fun k => gm (ent rs i k) (v k)) = 0 := by
  unfold invM at he
  split at he
  · rename_i hN
    have hx := ext_dim h
    obtain ⟨j, M, hj, hd, ⟨⟨T, hTb, hT⟩, -⟩, hu, hz⟩ := elimTo_stop hx (Nat.le_refl _) (by omega) hN
    refine ⟨fun c => if c < j then ent M c j else if c = j then 1 else 0, j, hj, ?_, ?_, ?_⟩
    · dsimp only; rw [if_neg (by omega), if_pos rfl]; decide
    · intro k hk; dsimp only; repeat' split
      · exact (hd.2.2 k).get j
      · decide
      · decide
    · have hLv : ∀ i < n, sumX n (fun c => gm (ent M i c) (if c < j then ent M c j else if c = j then 1 else 0)) = 0 := by
        intro i hi
        have hb : ∀ c, ent M i c < 256 := fun c => (hd.2.2 i).get c
        by_cases hij : i < j
        · rw [sumX_two hi hj (by omega) (fun c hc h1 h2 => ?_)]
          · rw [if_pos hij, if_neg (by omega), if_pos rfl, hu i hij i hi, gm_one_r (hb j)]
            unfold idE; rw [if_pos rfl, gm_one_l (hb j), Nat.xor_self]
          · by_cases hcj : c < j
            · rw [hu c hcj i hi]; unfold idE; rw [if_neg (fun e => h1 e.symm), gm_zero_l]
            · rw [if_neg hcj, if_neg h2, gm_zero_r]
        · refine sumX_zero fun c hc => ?_
          by_cases hcj : c < j
          · rw [hu c hcj i hi]; unfold idE; rw [if_neg (by omega), gm_zero_l]
          · by_cases e : c = j
            · subst e; rw [hz i (by omega) hi, gm_zero_l]
            · rw [if_neg hcj, if_neg e, gm_zero_r]
      intro i hi
      have hvb : ByE n 1 (fun k _ => if k < j then ent M k j else if k = j then 1 else 0) := fun k _ _ _ => by
        dsimp only; repeat' split
        · exact (hd.2.2 k).get j
        · decide
        · decide
      have e1 := mulE_assoc (n := n) (m := 1) (A := T) (B := ent M) (C := fun k _ => if k < j then ent M k j else if k = j then 1 else 0) hTb (fun k hk c hc => (hd.2.2 k).get c) hvb hi (c := 0) (by decide)
      have e2 : mulE' n T (mulE' n (ent M) (fun k _ => if k < j then ent M k j else if k = j then 1 else 0)) i 0 = 0 := by
        refine sumX_zero fun k hk => ?_
        have : mulE' n (ent M) (fun k _ => if k < j then ent M k j else if k = j then 1 else 0) k 0 = 0 := hLv k hk
        rw [this, gm_zero_r]
      rw [e2] at e1
      refine Eq.trans ?_ e1
      exact sumX_congr fun k hk => by rw [← ext_left h hi hk, hT i hi k (by omega)]
  · cases he
/-- A matrix some combination of whose rows is zero has no inverse. -/
theorem inv_singular {n : Nat} {rs : List (List Nat)} (h : Dim n n rs) (u : Nat → Nat) (hub : ∀ k < n, u k < 256) (i : Nat) (hi : i < n) (hu : u i ≠ 0) (hz : ∀ c < n, sumX n (fun k => gm (u k) (ent rs k c)) = 0) : invM rs n = none := by
  cases he : invM rs n with
  | none => rfl
  | some R =>
    exfalso
    obtain ⟨hd, hr, -⟩ := inv_some h he
    have e1 := mulE_assoc (n := n) (m := n) (A := fun _ k => u k) (B := ent rs) (C := ent R) (fun _ _ k hk => hub k hk) h.by hd.by hi (c := i) hi
    have e2 : mulE' n (mulE' n (fun _ k => u k) (ent rs)) (ent R) i i = 0 := by
      refine sumX_zero fun k hk => ?_
      have : mulE' n (fun _ k => u k) (ent rs) i k = 0 := hz k hk
      rw [this, gm_zero_l]
    have e3 : mulE' n (fun _ k => u k) (mulE' n (ent rs) (ent R)) i i = u i := by
      have := mul_id_r (n := n) (A := fun _ k => u k) (B := mulE' n (ent rs) (ent R)) (fun _ _ k hk => hub k hk) hr hi hi
      exact this
    rw [e2, e3] at e1
    exact hu e1.symm
/-- The inverse of the inverse. -/
theorem inv_inv {n : Nat} {rs R : List (List Nat)} (h : Dim n n rs) (he : invM rs n = some R) : invM R n = some rs := by
  obtain ⟨hd, h1, h2⟩ := inv_some h he
  cases he2 : invM R n with
  | none =>
    exfalso
    obtain ⟨v, j, hj, hv, hvb, hz⟩ := inv_none hd he2
    have e1 := mulE_assoc (n := n) (m := 1) (A := ent rs) (B := ent R) (C := fun k _ => v k) h.by hd.by (fun k hk _ _ => hvb k hk) hj (c := 0) (by decide)
    have e2 : mulE' n (ent rs) (mulE' n (ent R) (fun k _ => v k)) j 0 = 0 := by
      refine sumX_zero fun k hk => ?_
      have : mulE' n (ent R) (fun k _ => v k) k 0 = 0 := hz k hk
      rw [this, gm_zero_r]
    have e3 : mulE' n (mulE' n (ent rs) (ent R)) (fun k _ => v k) j 0 = v j := by
      have e4 : mulE' n (mulE' n (ent rs) (ent R)) (fun k _ => v k) j 0 = mulE' n idE (fun k _ => v k) j 0 := mulE_congr (fun k hk => h1 j hj k hk) (fun _ _ => rfl)
      rw [e4]; exact mul_id_l (m := 1) (fun k hk _ _ => hvb k hk) hj (by decide)
    rw [e2, e3] at e1
    exact hv e1
  | some Y =>
    obtain ⟨hdY, h3, -⟩ := inv_some hd he2
    have key : ∀ i < n, ∀ c < n, ent Y i c = ent rs i c := by
      intro i hi c hc
      have e1 := mulE_assoc (n := n) (m := n) h.by hd.by hdY.by hi hc
      have e2 : mulE' n (mulE' n (ent rs) (ent R)) (ent Y) i c = mulE' n idE (ent Y) i c := mulE_congr (fun k hk => h1 i hi k hk) (fun _ _ => rfl)
      have e3 : mulE' n (ent rs) (mulE' n (ent R) (ent Y)) i c = ent rs i c := mul_id_r h.by h3 hi hc
      rw [e2, e3, mul_id_l hdY.by hi hc] at e1
      exact e1
    congr 1
    refine List.ext_getElem (by rw [hdY.1, h.1]) fun i hi1 hi2 => ?_
    have hi : i < n := by rw [← h.1]; exact hi2
    have a1 := hdY.2.1 i hi
    have a2 := h.2.1 i hi
    have a3 := key i hi
    unfold ent at a3
    simp only [List.getD, List.getElem?_eq_getElem hi1, List.getElem?_eq_getElem hi2, Option.getD_some] at a1 a2 a3
    refine List.ext_getElem (by omega) fun c hc1 hc2 => ?_
    have := a3 c (by omega)
    simpa [List.getElem?_eq_getElem hc1, List.getElem?_eq_getElem hc2] using this
end Go.Proofs.Ytmlcenocjpjcfaa
