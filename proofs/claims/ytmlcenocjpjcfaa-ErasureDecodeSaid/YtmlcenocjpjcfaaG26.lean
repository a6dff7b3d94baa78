/- A matrix of rows of bytes that a call made by appending, as the reference of package field makes it: rows and list may have spare room. -/
import Derived.Test.YtmlcenocjpjcfaaG21
namespace Go.Proofs.Ytmlcenocjpjcfaa
open Go.RowKit GfM

/-- Block g holds, in its first m places, the bytes zs; it has room for cap. -/
def RowC (w : World) (g cap m : Nat) (zs : List Nat) : Prop := zs.length = m ∧ w.ownsRow 0 5 1 (.slice (some ⟨g, 0, none⟩) m cap) m (zs.map lim)
theorem RowC.lt {w : World} {g cap m : Nat} {zs : List Nat} (h : RowC w g cap m zs) : g < w.heap.size := by
  rcases h.2.2 with ⟨e, _⟩ | ⟨g', cap', cur, e, hb, hgg, rest⟩
  · cases e
  · cases e; exact (Array.getElem?_eq_some_iff.1 hgg).1
theorem RowC.cell {w : World} {g cap m : Nat} {zs : List Nat} (h : RowC w g cap m zs) {i : Nat} (hi : i < m) : w.cell? ⟨g, i, none⟩ = some (.int .u8 (zs.getD i 0 : Nat)) := by
  have h1 := h.2.cellAt i (by omega)
  have hl : i < zs.length := by rw [h.1]; exact hi
  rw [h1]
  simp [List.getD, hl, lim]
theorem RowC.free {w : World} {g cap m : Nat} {zs : List Nat} (h : RowC w g cap m zs) (i : Nat) : w.frozen? ⟨g, i, none⟩ = false := h.2.frozenAt i
theorem RowC.set {w : World} {g cap m : Nat} {zs : List Nat} (h : RowC w g cap m zs) (i s : Nat) : RowC (w.setCell ⟨g, i, none⟩ (.int .u8 (s : Nat))) g cap m (zs.set i s) := by
  refine ⟨by rw [List.length_set]; exact h.1, ?_⟩
  have := (h.2.stored i (lim s)).1
  rw [← List.map_set] at this
  exact this
theorem RowC.kept {w w' : World} {g cap m : Nat} {zs : List Nat} {row : Option Nat} (h : RowC w g cap m zs) (hg : w.grownBy w' row) (hne : some g ≠ row) : RowC w' g cap m zs :=
  ⟨h.1, h.2.kept hg (Or.inr hne)⟩
theorem RowC.caps {w : World} {g cap m : Nat} {zs : List Nat} (h : RowC w g cap m zs) : m ≤ cap ∧ cap ≤ maxLen := by
  rcases h.2.2 with ⟨e, _⟩ | ⟨g', cap', cur, e, hb, hgg, hn, hm, rest⟩
  · cases e
  · cases e; exact ⟨hn, hm⟩
theorem RowC.reads {w : World} {g cap m : Nat} {zs : List Nat} (h : RowC w g cap m zs) (hb : Bys zs) : Reads w (.slice (some ⟨g, 0, none⟩) m cap) zs :=
  ⟨_, m, cap, rfl, h.1, h.caps.1, h.caps.2, hb, fun _ => ⟨g, 0, rfl, fun i hi => by rw [Nat.zero_add]; exact h.cell hi⟩⟩
theorem own_neC {w : World} {base n g cap m : Nat} {v : Value} {xs : List Value} {zs : List Nat} (h : w.ownsRow base 32 1 v n xs) (hr : RowC w g cap m zs) : some g ≠ v.ownBlock := by
  rcases h.2 with ⟨rfl, _⟩ | ⟨g', cap', cur, rfl, hb, hgg, rest⟩
  · intro e; cases e
  · intro e
    have e2 : g = g' := Option.some.inj e
    subst e2
    rcases hr.2.2 with ⟨e3, _⟩ | ⟨g2, cap2, cur2, e3, _, hg2, _⟩
    · cases e3
    · cases e3
      rw [hgg] at hg2
      simp at hg2

/-- The header of a row of m bytes in block x.1 with room for x.2. -/
def hdrC (m : Nat) (x : Nat × Nat) : Value := .slice (some ⟨x.1, 0, none⟩) m x.2
/-- The matrix M: headers in the slice v, rows in blocks of their own. -/
def MatC (w : World) (base m : Nat) (v : Value) (gs : List (Nat × Nat)) (M : List (List Nat)) : Prop :=
  w.ownsRow base 32 1 v gs.length (gs.map (hdrC m)) ∧ (gs.length = M.length ∧ ∀ i, i < M.length → RowC w (gs.getD i (0, 0)).1 (gs.getD i (0, 0)).2 m (M.getD i [])) ∧ (gs.map (·.1)).Nodup ∧ ∀ x ∈ gs, base ≤ x.1
theorem MatC.row_mem {w : World} {base m : Nat} {v : Value} {gs : List (Nat × Nat)} {M : List (List Nat)} (h : MatC w base m v gs M) {x : Nat × Nat} (hx : x ∈ gs) : ∃ zs, RowC w x.1 x.2 m zs := by
  obtain ⟨i, hi, rfl⟩ := List.mem_iff_getElem.1 hx
  have := h.2.1.2 i (by rw [← h.2.1.1]; exact hi)
  have e : gs.getD i (0, 0) = gs[i] := by simp [List.getD, hi]
  rw [e] at this
  exact ⟨_, this⟩
theorem MatC.kept {w w' : World} {base m : Nat} {v : Value} {gs : List (Nat × Nat)} {M : List (List Nat)} {row : Option Nat} (h : MatC w base m v gs M) (hg : w.grownBy w' row) (h1 : v.ownBlock = none ∨ v.ownBlock ≠ row) (h2 : ∀ x ∈ gs, some x.1 ≠ row) : MatC w' base m v gs M :=
  ⟨h.1.kept hg h1, ⟨h.2.1.1, fun i hi => (h.2.1.2 i hi).kept hg (h2 _ (getD_mem (by rw [h.2.1.1]; exact hi)))⟩, h.2.2⟩
theorem MatC.kept0 {w w' : World} {base m : Nat} {v : Value} {gs : List (Nat × Nat)} {M : List (List Nat)} (h : MatC w base m v gs M) (hg : w.grownBy w' none) : MatC w' base m v gs M :=
  h.kept hg (by cases hv : v.ownBlock <;> simp) (fun _ _ e => by cases e)
/-- What is written to a block behind all of the matrix. -/
theorem MatC.keptF {w w' : World} {base m g : Nat} {v : Value} {gs : List (Nat × Nat)} {M : List (List Nat)} (h : MatC w base m v gs M) (hg : w.grownBy w' (some g)) (h1 : ∀ k, v.ownBlock = some k → k < g) (h2 : ∀ x ∈ gs, x.1 < g) : MatC w' base m v gs M := by
  refine h.kept hg ?_ (fun x hx e => by have := h2 x hx; have := Option.some.inj e; omega)
  cases hv : v.ownBlock with
  | none => exact Or.inl rfl
  | some k => right; intro e; have := h1 k hv; have := Option.some.inj e; omega
theorem MatC.lt {w : World} {base m : Nat} {v : Value} {gs : List (Nat × Nat)} {M : List (List Nat)} (h : MatC w base m v gs M) : (∀ k, v.ownBlock = some k → k < w.heap.size) ∧ ∀ x ∈ gs, x.1 < w.heap.size :=
  ⟨fun _ hk => (own_base h.1 hk).2, fun x hx => by obtain ⟨zs, hz⟩ := h.row_mem hx; exact hz.lt⟩
theorem getD_pair (gs : List (Nat × Nat)) {i : Nat} (hi : i < gs.length) : (gs.map (·.1)).getD i 0 = (gs.getD i (0, 0)).1 := by simp [List.getD, hi]
theorem MatC.write {w w' : World} {base m i : Nat} {v : Value} {gs : List (Nat × Nat)} {M : List (List Nat)} {zs : List Nat} (h : MatC w base m v gs M) (hi : i < M.length) (hg : w.grownBy w' (some (gs.getD i (0, 0)).1)) (hr : RowC w' (gs.getD i (0, 0)).1 (gs.getD i (0, 0)).2 m zs) : MatC w' base m v gs (M.set i zs) := by
  obtain ⟨h1, h2, h3, h4⟩ := h
  have hig : i < gs.length := by rw [h2.1]; exact hi
  have hne := own_neC h1 (h2.2 i hi)
  refine ⟨h1.kept hg (Or.inr (fun e => hne e.symm)), ⟨by rw [List.length_set]; exact h2.1, fun k hk => ?_⟩, h3, h4⟩
  rw [List.length_set] at hk
  rw [getD_set [] M i k zs hi]
  by_cases e : k = i
  · subst e; rw [if_pos rfl]; exact hr
  · rw [if_neg e]
    refine (h2.2 k hk).kept hg (fun e2 => ?_)
    have hk' : k < gs.length := by rw [h2.1]; exact hk
    have := nodup_getD h3 (by rw [List.length_map]; exact hk') (by rw [List.length_map]; exact hig) e
    rw [getD_pair gs hk', getD_pair gs hig] at this
    exact this (Option.some.inj e2)
theorem MatC.push {wr w3 : World} {base m g cap : Nat} {v v' : Value} {gs : List (Nat × Nat)} {M : List (List Nat)} {zs : List Nat} {o : Obj} (h : MatC wr base m v gs M) (hr : RowC wr g cap m zs) (hb : base ≤ g) (hf : ∀ x ∈ gs, x.1 ≠ g) (hg : (wr.alloc o).grownBy w3 v.ownBlock)
    (hown : w3.ownsRow base 32 1 v' (gs.length + 1) (gs.map (hdrC m) ++ [hdrC m (g, cap)])) : MatC w3 base m v' (gs ++ [(g, cap)]) (M ++ [zs]) := by
  have h1 := h.kept0 (World.grownBy_alloc wr o none)
  have hr1 : RowC (wr.alloc o) g cap m zs := hr.kept (World.grownBy_alloc wr o none) (by simp)
  refine ⟨by rw [List.length_append, List.map_append]; exact hown, ⟨by simp [h1.2.1.1], fun i hi => ?_⟩, ?_, fun x hx => ?_⟩
  · simp only [List.length_append, List.length_cons, List.length_nil] at hi
    by_cases hk : i < M.length
    · have h5 := h1.2.1.2 i hk
      have hk' : i < gs.length := by rw [h1.2.1.1]; exact hk
      have e1 : (gs ++ [(g, cap)]).getD i (0, 0) = gs.getD i (0, 0) := by simp only [List.getD]; rw [List.getElem?_append_left hk']
      have e2 : (M ++ [zs]).getD i [] = M.getD i [] := by simp only [List.getD]; rw [List.getElem?_append_left hk]
      rw [e1, e2]
      exact h5.kept hg (own_neC h1.1 h5)
    · have e : i = M.length := by omega
      subst e
      have e2 : (gs ++ [(g, cap)]).getD M.length (0, 0) = (g, cap) := by simp [List.getD, ← h.2.1.1]
      have e3 : (M ++ [zs]).getD M.length [] = zs := by simp [List.getD]
      rw [e2, e3]
      exact hr1.kept hg (own_neC h1.1 hr1)
  · rw [List.map_append]
    refine List.pairwise_append.2 ⟨h.2.2.1, List.pairwise_singleton _ _, fun x hx y hy => ?_⟩
    obtain ⟨p, hp, rfl⟩ := List.mem_map.1 hx
    have hy' : y = g := by simpa using hy
    rw [hy']; exact hf p hp
  · rcases List.mem_append.1 hx with hx | hx
    · exact h.2.2.2 x hx
    · rw [List.mem_singleton.1 hx]; exact hb
theorem MatC.swap {w w' : World} {base m n G cap i j : Nat} {gs : List (Nat × Nat)} {M : List (List Nat)} (h : MatC w base m (.slice (some ⟨G, 0, none⟩) n cap) gs M) (hn : gs.length = n) (hi : i < n) (hj : j < n)
    (e : w' = (w.setCell ⟨G, i, none⟩ (hdrC m (gs.getD j (0, 0)))).setCell ⟨G, j, none⟩ (hdrC m (gs.getD i (0, 0)))) : MatC w' base m (.slice (some ⟨G, 0, none⟩) n cap) (swapAt (0, 0) gs i j) (swapAt [] M i j) ∧ w.grownBy w' (some G) := by
  obtain ⟨h1, h2, h3, h4⟩ := h
  have hg : w.grownBy w' (some G) := by rw [e]; exact grown_trans (grown_setCell i _) (grown_setCell j _)
  have hM : M.length = n := by rw [← h2.1, hn]
  rw [hn] at h1
  have s1 := (h1.stored i (hdrC m (gs.getD j (0, 0)))).1
  have s2 := (s1.stored j (hdrC m (gs.getD i (0, 0)))).1
  rw [← e] at s2
  refine ⟨⟨?_, ⟨by rw [length_swapAt, length_swapAt]; exact h2.1, fun k hk => ?_⟩, ?_, fun x hx => ?_⟩, hg⟩
  · rw [length_swapAt, hn]
    unfold swapAt
    rw [List.map_set, List.map_set]
    exact s2
  · rw [length_swapAt] at hk
    rw [getD_swapAt (0, 0) gs i j k (by omega) (by omega), getD_swapAt [] M i j k (by omega) (by omega)]
    have h5 := h2.2 (sig i j k) (sig_lt (by omega) (by omega) hk)
    rw [← hn] at h1
    exact h5.kept hg (own_neC h1 h5)
  · refine nodup_of fun a b ha hb hab => ?_
    rw [List.length_map, length_swapAt] at ha hb
    rw [getD_pair _ (by rw [length_swapAt]; exact ha), getD_pair _ (by rw [length_swapAt]; exact hb), getD_swapAt (0, 0) gs i j a (by omega) (by omega), getD_swapAt (0, 0) gs i j b (by omega) (by omega)]
    have la := sig_lt (i := i) (j := j) (n := gs.length) (by omega) (by omega) ha
    have lb := sig_lt (i := i) (j := j) (n := gs.length) (by omega) (by omega) hb
    have := nodup_getD h3 (by rw [List.length_map]; exact la) (by rw [List.length_map]; exact lb) (sig_inj (i := i) (j := j) hab)
    rw [getD_pair gs la, getD_pair gs lb] at this
    exact this
  · obtain ⟨k, hk, ek⟩ := List.mem_iff_getElem.1 hx
    rw [length_swapAt] at hk
    have : (swapAt (0, 0) gs i j).getD k (0, 0) = x := by simp [List.getD, length_swapAt, hk, ek]
    rw [getD_swapAt (0, 0) gs i j k (by omega) (by omega)] at this
    rw [← this]
    exact h4 _ (getD_mem (sig_lt (by omega) (by omega) hk))
end Go.Proofs.Ytmlcenocjpjcfaa
