/- The law FieldSingular: plain facts, and its walk for all arguments. -/
import Derived.Test.YtahjijpoihljjaaG20
import Derived.Test.YtahjijpoihljjaaG21
namespace Go.Proofs.Ytahjijpoihljjaa
open Go.RowKit GfM

/-- The sum of the multiples of the first j rows, but row I. -/
def acc (K I : Nat) (cs : List Nat) (M : List (List Nat)) : Nat → List Nat
  | 0 => List.replicate K 0
  | j + 1 => if j = I ∨ cs.length ≤ j then acc K I cs M j else addTo (acc K I cs M j) (cs.getD j 0) (M.getD j [])
theorem length_acc (K I : Nat) (cs : List Nat) (M : List (List Nat)) (j : Nat) : (acc K I cs M j).length = K := by
  induction j with
  | zero => simp [acc]
  | succ j ih => rw [acc]; split; exact ih; rw [length_addTo]; exact ih
theorem bys_acc {K I : Nat} {cs : List Nat} {M : List (List Nat)} (hc : Bys cs) (j : Nat) : Bys (acc K I cs M j) := by
  induction j with
  | zero => exact bys_rep K
  | succ j ih => rw [acc]; split; exact ih; exact bys_addTo ih (hc.get j)
def uOf (I : Nat) (cs : List Nat) (k : Nat) : Nat := if k = I then 1 else cs.getD k 0
theorem acc_get {K I col : Nat} {cs : List Nat} {M : List (List Nat)} (hd : Dim K K M) (hcol : col < K) (j : Nat) (hj : j ≤ K) :
    (acc K I cs M j).getD col 0 = sumX j fun k => if k = I then 0 else gm (cs.getD k 0) (ent M k col) := by
  induction j with
  | zero => rw [acc, sumX]; simp [List.getD, hcol]
  | succ j ih =>
    rw [acc, sumX]
    by_cases e : j = I
    · rw [if_pos (Or.inl e), if_pos e, Nat.xor_zero]; exact ih (by omega)
    · by_cases e2 : cs.length ≤ j
      · have : cs.getD j 0 = 0 := by simp [List.getD, List.getElem?_eq_none e2]
        rw [if_pos (Or.inr e2), if_neg e, this, gm_zero_l, Nat.xor_zero]; exact ih (by omega)
      · rw [if_neg (by omega), if_neg e, getD_addTo' (by rw [length_acc]; exact hcol) (by rw [hd.2.1 j (by omega)]; exact hcol), ih (by omega)]
        rfl
theorem singular {K I : Nat} {cs : List Nat} {M : List (List Nat)} (hd : Dim K K M) (hc : Bys cs) (hI : I < K) : Dim K K (M.set I (acc K I cs M K)) ∧ invM (M.set I (acc K I cs M K)) K = none := by
  have hd2 : Dim K K (M.set I (acc K I cs M K)) := by
    refine ⟨by rw [List.length_set]; exact hd.1, fun i hi => ?_, hd.2.2.set (bys_acc hc K) I⟩
    rw [getD_setM M I i _ (by rw [hd.1]; exact hI)]
    split
    · exact length_acc ..
    · exact hd.2.1 i hi
  refine ⟨hd2, inv_singular hd2 (uOf I cs) (fun k _ => ?_) I hI ?_ ?_⟩
  · unfold uOf; split
    · decide
    · exact hc.get k
  · unfold uOf; rw [if_pos rfl]; decide
  · intro col hcol
    obtain ⟨r, er⟩ : ∃ r, r = (acc K I cs M K).getD col 0 := ⟨_, rfl⟩
    have hrb : r < 256 := by rw [er]; exact (bys_acc hc K).get col
    have e1 : sumX K (fun k => gm (uOf I cs k) (ent (M.set I (acc K I cs M K)) k col)) = sumX K (fun k => (if k = I then 0 else gm (cs.getD k 0) (ent M k col)) ^^^ (if k = I then r else 0)) := sumX_congr fun k hk => by
      unfold uOf ent
      rw [getD_setM M I k _ (by rw [hd.1]; exact hI)]
      by_cases e : k = I
      · rw [if_pos e, if_pos e, if_pos e, if_pos e, ← er, gm_one_l hrb, Nat.zero_xor]
      · rw [if_neg e, if_neg e, if_neg e, if_neg e, Nat.xor_zero]
    rw [e1, sumX_xor, sumX_one (j := I) hI (fun k _ hk => if_neg hk), if_pos rfl, ← acc_get hd hcol K (Nat.le_refl _), ← er, Nat.xor_self]
theorem sq_dim {l : List Nat} {K : Nat} (h : Bys l) : Dim K K (sqTo l K K) := by
  refine ⟨length_sqTo .., fun i hi => ?_, bysM_sq h K K⟩
  have : (sqTo l K K).getD i [] = sqRow l K i := by simp [sqTo, List.getD, hi]
  rw [this]; exact length_sqRow ..
theorem getD_all {n : Nat} {M : List (List Nat)} (h : Dim n n M) : allLen n M = true := by
  unfold allLen
  refine List.all_eq_true.2 fun r hr => ?_
  obtain ⟨i, hi, rfl⟩ := List.mem_iff_getElem.1 hr
  have := h.2.1 i (by rw [← h.1]; exact hi)
  simp only [List.getD, List.getElem?_eq_getElem hi, Option.getD_some] at this
  simp [this]
/-- The matrix as rows that can be read. -/
theorem SqM.rows {w : World} {base K : Nat} {v : Value} {gs : List Nat} {M : List (List Nat)} (h : SqM w base K v gs M) (hd : Dim K K M) (hK : 0 < K) (hK2 : K ≤ 8) : ∃ G cap, v = .slice (some ⟨G, 0, none⟩) K cap ∧ base ≤ G ∧ RowsB w v (gs.map (hdr K)) M := by
  obtain ⟨h1, h2, h3⟩ := h
  have hgl : gs.length = K := by rw [h2.1, hd.1]
  have hcell := fun i (hi : i < gs.length) => h1
  rcases h1.2 with ⟨_, h0⟩ | ⟨G, cap, cur, rfl, hb, hgg, hn, hm, hs, ht⟩
  · omega
  · refine ⟨G, cap, by rw [hgl], hb, ?_⟩
    refine ⟨_, gs.length, cap, rfl, by simp, by rw [hd.1, hgl], hn, hm, fun _ => ⟨G, 0, rfl, fun i hi => ?_⟩, fun i hi => ?_⟩
    · have hca := h1.cellAt i (by omega)
      rw [Nat.zero_add, hca]
      simp [List.getD, hi]
    · have hr := h2.2 i (by rw [← h2.1]; exact hi)
      have e1 : (gs.map (hdr K)).getD i undef = hdr K (gs.getD i 0) := by simp [List.getD, hi]
      rw [e1]
      have := hr.1.reads (m := K) (c := K) (by rw [hr.2]; exact Nat.le_refl _) (Nat.le_refl _) (by unfold maxLen; omega) (hd.2.2 i)
      have e2 : (M.getD i []).take K = M.getD i [] := by rw [← hr.2, List.take_length]
      rw [e2] at this
      exact this
/-- One row replaced by another one. -/
theorem SqM.store {w : World} {base K G cap I g : Nat} {gs : List Nat} {M : List (List Nat)} {zs : List Nat} (h : SqM w base K (.slice (some ⟨G, 0, none⟩) K cap) gs M) (hd : Dim K K M) (hI : I < K) (hr : Row w g zs) (hl : zs.length = K) (hb : base ≤ g) :
    SqM (w.setCell ⟨G, I, none⟩ (hdr K g)) base K (.slice (some ⟨G, 0, none⟩) K cap) (gs.set I g) (M.set I zs) := by
  obtain ⟨h1, h2, h3⟩ := h
  have hgl : gs.length = K := by rw [h2.1, hd.1]
  have hne : ∀ x, (∃ ys, Row w x ys) → some x ≠ some G := fun x ⟨ys, hy⟩ => own_ne h1 hy
  have hg : w.grownBy (w.setCell ⟨G, I, none⟩ (hdr K g)) (some G) := grown_setCell (g := G) I _
  have h1' := h1
  rw [hgl] at h1'
  have hst := (h1'.stored I (hdr K g)).1
  refine ⟨?_, ⟨by rw [List.length_set, List.length_set]; exact h2.1, fun i hi => ?_⟩, fun x hx => ?_⟩
  · rw [List.length_set, List.map_set, hgl]
    exact hst
  · rw [List.length_set] at hi
    rw [getD_setM M I i _ (by rw [hd.1]; exact hI), getD_set 0 gs I i g (by rw [hgl]; exact hI)]
    by_cases e : i = I
    · rw [if_pos e, if_pos e]; exact ⟨hr.kept hg (hne g ⟨_, hr⟩), hl⟩
    · rw [if_neg e, if_neg e]
      have h4 := h2.2 i hi
      exact ⟨h4.1.kept hg (hne _ ⟨_, h4.1⟩), h4.2⟩
  · rcases List.mem_or_eq_of_mem_set hx with hx | hx
    · exact h3 x hx
    · rw [hx]; exact hb
end Go.Proofs.Ytahjijpoihljjaa
