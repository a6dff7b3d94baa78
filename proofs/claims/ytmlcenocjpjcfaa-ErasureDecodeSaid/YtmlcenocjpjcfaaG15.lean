/- A matrix of rows of bytes that the call made itself: one block of headers, one block a row. -/
import Derived.Test.YtmlcenocjpjcfaaG9
import Derived.OwnWalk
namespace Go.Proofs.Ytmlcenocjpjcfaa
open Go.RowKit GfM

theorem info32 : (Try.prog.info? 32).map (fun i => (i.zero, i.size, i.bytes)) = some (some (.slice none 0 0), 1, 24) := by kernel_rfl

/-- The header of a row of m bytes in block g. -/
def hdr (m g : Nat) : Value := .slice (some ⟨g, 0, none⟩) m m
/-- Block G holds the values hs and may be written. -/
def Heads (w : World) (G : Nat) (hs : List Value) : Prop := w.heap[G]? = some (.cells hs.toArray 32 (0, 0))
theorem Heads.lt {w : World} {G : Nat} {hs : List Value} (h : Heads w G hs) : G < w.heap.size := (Array.getElem?_eq_some_iff.1 h).1
theorem Heads.cell {w : World} {G : Nat} {hs : List Value} (h : Heads w G hs) {i : Nat} (hi : i < hs.length) : w.cell? ⟨G, i, none⟩ = some (hs.getD i undef) := by
  rw [cell_of_row w G i _ 32 (0, 0) h]
  simp [List.getD, hi]
theorem Heads.free {w : World} {G : Nat} {hs : List Value} (h : Heads w G hs) (i : Nat) : w.frozen? ⟨G, i, none⟩ = false := frozen_of_row w G i _ 32 h
theorem Heads.set {w : World} {G : Nat} {hs : List Value} (h : Heads w G hs) (i : Nat) (v : Value) : Heads (w.setCell ⟨G, i, none⟩ v) G (hs.set i v) := by
  unfold Heads
  rw [heap_setCell_same w G i _ 32 _ h]
  simp
theorem Heads.kept {w w' : World} {G : Nat} {hs : List Value} {row : Option Nat} (h : Heads w G hs) (hg : w.grownBy w' row) (hne : some G ≠ row) : Heads w' G hs := (hg.block G h.lt hne).trans h
theorem Heads.below {w w' : World} {G B : Nat} {hs : List Value} (h : Heads w G hs) (hb : Below B w w') (hlt : G < B) : Heads w' G hs := (hb.block G hlt).trans h
theorem Row.belowB {w w' : World} {g B : Nat} {zs : List Nat} (h : Row w g zs) (hb : Below B w w') (hlt : g < B) : Row w' g zs := (hb.block g hlt).trans h

/-- The rows M of m bytes each lie in the blocks gs. -/
def RowsAt (w : World) (m : Nat) (gs : List Nat) (M : List (List Nat)) : Prop :=
  gs.length = M.length ∧ ∀ i, i < M.length → Row w (gs.getD i 0) (M.getD i []) ∧ (M.getD i []).length = m
theorem RowsAt.nil (w : World) (m : Nat) : RowsAt w m [] [] := ⟨rfl, fun i hi => by simp at hi⟩
theorem getD_mem {α : Type} {l : List α} {i : Nat} {d : α} (h : i < l.length) : l.getD i d ∈ l := by
  simp only [List.getD, List.getElem?_eq_getElem h, Option.getD_some]; exact List.getElem_mem h
theorem RowsAt.kept {w w' : World} {m : Nat} {gs : List Nat} {M : List (List Nat)} {row : Option Nat} (h : RowsAt w m gs M) (hg : w.grownBy w' row) (hne : ∀ g ∈ gs, some g ≠ row) : RowsAt w' m gs M :=
  ⟨h.1, fun i hi => ⟨(h.2 i hi).1.kept hg (hne _ (getD_mem (by rw [h.1]; exact hi))), (h.2 i hi).2⟩⟩
theorem RowsAt.below {w w' : World} {m B : Nat} {gs : List Nat} {M : List (List Nat)} (h : RowsAt w m gs M) (hb : Below B w w') (hlt : ∀ g ∈ gs, g < B) : RowsAt w' m gs M :=
  ⟨h.1, fun i hi => ⟨(h.2 i hi).1.belowB hb (hlt _ (getD_mem (by rw [h.1]; exact hi))), (h.2 i hi).2⟩⟩
theorem RowsAt.lt {w : World} {m : Nat} {gs : List Nat} {M : List (List Nat)} (h : RowsAt w m gs M) : ∀ g ∈ gs, g < w.heap.size := by
  intro g hg
  obtain ⟨i, hi, rfl⟩ := List.mem_iff_getElem.1 hg
  have := (h.2 i (by rw [← h.1]; exact hi)).1.lt
  simpa [List.getD, hi] using this
theorem RowsAt.push {w : World} {m g : Nat} {gs : List Nat} {M : List (List Nat)} {zs : List Nat} (h : RowsAt w m gs M) (hr : Row w g zs) (hl : zs.length = m) : RowsAt w m (gs ++ [g]) (M ++ [zs]) := by
  refine ⟨by simp [h.1], fun i hi => ?_⟩
  simp only [List.length_append, List.length_cons, List.length_nil] at hi
  by_cases hk : i < M.length
  · have := h.2 i hk
    have hk' : i < gs.length := by rw [h.1]; exact hk
    simp only [List.getD, List.getElem?_append_left hk, List.getElem?_append_left hk'] at this ⊢
    exact this
  · have e : i = M.length := by omega
    subst e
    have e2 : (gs ++ [g]).getD M.length 0 = g := by simp [List.getD, ← h.1]
    have e3 : (M ++ [zs]).getD M.length [] = zs := by simp [List.getD]
    rw [e2, e3]; exact ⟨hr, hl⟩
theorem nodup_getD {gs : List Nat} (h : gs.Nodup) {i j : Nat} (hi : i < gs.length) (hj : j < gs.length) (hij : i ≠ j) : gs.getD i 0 ≠ gs.getD j 0 := by
  simp only [List.getD, List.getElem?_eq_getElem hi, List.getElem?_eq_getElem hj, Option.getD_some]
  have hp := List.pairwise_iff_getElem.1 h
  rcases Nat.lt_or_gt_of_ne hij with h1 | h1
  · exact hp i j hi hj h1
  · exact fun e => hp j i hj hi h1 e.symm
theorem RowsAt.write {w w' : World} {m i : Nat} {gs : List Nat} {M : List (List Nat)} {zs : List Nat} (h : RowsAt w m gs M) (hn : gs.Nodup) (hi : i < M.length) (hg : w.grownBy w' (some (gs.getD i 0))) (hr : Row w' (gs.getD i 0) zs) (hl : zs.length = m) : RowsAt w' m gs (M.set i zs) := by
  refine ⟨by rw [List.length_set]; exact h.1, fun k hk => ?_⟩
  rw [List.length_set] at hk
  by_cases e : k = i
  · subst e
    have : (M.set k zs).getD k [] = zs := by simp [List.getD, hk]
    rw [this]; exact ⟨hr, hl⟩
  · have : (M.set i zs).getD k [] = M.getD k [] := by simp only [List.getD]; rw [List.getElem?_set_ne (by omega)]
    rw [this]
    exact ⟨(h.2 k hk).1.kept hg (fun e2 => nodup_getD hn (by rw [h.1]; exact hk) (by rw [h.1]; exact hi) e (Option.some.inj e2)), (h.2 k hk).2⟩
/-- All rows are bytes. -/
def BysM (M : List (List Nat)) : Prop := ∀ k, Bys (M.getD k [])
theorem BysM.set {M : List (List Nat)} {zs : List Nat} (h : BysM M) (hz : Bys zs) (i : Nat) : BysM (M.set i zs) := by
  intro k
  by_cases e : k = i
  · subst e
    by_cases hk : k < M.length
    · have : (M.set k zs).getD k [] = zs := by simp [List.getD, hk]
      rw [this]; exact hz
    · have : (M.set k zs).getD k [] = [] := by simp [List.getD, Nat.le_of_not_lt hk]
      rw [this]; exact Bys.nil
  · have : (M.set i zs).getD k [] = M.getD k [] := by simp only [List.getD]; rw [List.getElem?_set_ne (by omega)]
    rw [this]; exact h k

/-- A matrix that the call made: the headers in block G (r of them still nil), the rows in blocks of their own, all from block base on. -/
def Mat (w : World) (base G m r : Nat) (gs : List Nat) (M : List (List Nat)) : Prop :=
  Heads w G (gs.map (hdr m) ++ List.replicate r (.slice none 0 0)) ∧ RowsAt w m gs M ∧ gs.Nodup ∧ G ∉ gs ∧ base ≤ G ∧ (∀ g ∈ gs, base ≤ g)
theorem Mat.cell {w : World} {base G m r : Nat} {gs : List Nat} {M : List (List Nat)} (h : Mat w base G m r gs M) {i : Nat} (hi : i < M.length) : w.cell? ⟨G, i, none⟩ = some (hdr m (gs.getD i 0)) := by
  have hl := h.2.1.1
  rw [h.1.cell (by rw [List.length_append, List.length_map]; omega)]
  have hi' : i < gs.length := by omega
  simp [List.getD, hi', List.getElem?_append_left]
theorem Mat.write {w w' : World} {base G m r i : Nat} {gs : List Nat} {M : List (List Nat)} {zs : List Nat} (h : Mat w base G m r gs M) (hi : i < M.length) (hg : w.grownBy w' (some (gs.getD i 0))) (hr : Row w' (gs.getD i 0) zs) (hl : zs.length = m) : Mat w' base G m r gs (M.set i zs) := by
  obtain ⟨h1, h2, h3, h4, h5⟩ := h
  have hmem : gs.getD i 0 ∈ gs := getD_mem (by rw [h2.1]; exact hi)
  exact ⟨h1.kept hg (fun e => h4 (by rw [Option.some.inj e]; exact hmem)), h2.write h3 hi hg hr hl, h3, h4, h5⟩
theorem Mat.drew {w : World} {base G m r : Nat} {gs : List Nat} {M : List (List Nat)} (h : Mat w base G m r gs M) (n : Nat) : Mat (w.drewN n) base G m r gs M := h
theorem Mat.reads {w : World} {base G m r i : Nat} {gs : List Nat} {M : List (List Nat)} (h : Mat w base G m r gs M) (hb : BysM M) (hi : i < M.length) (hm : m ≤ maxLen) : Reads w (hdr m (gs.getD i 0)) (M.getD i []) := by
  have h1 := h.2.1.2 i hi
  have := h1.1.reads (m := m) (c := m) (by rw [h1.2]; exact Nat.le_refl _) (Nat.le_refl _) hm (hb i)
  rw [← h1.2, List.take_length] at this
  rw [← h1.2]; exact this
theorem mat_add {w0 w w' : World} {base G m r i : Nat} {gs : List Nat} {M : List (List Nat)} (h : Mat w base G m r gs M) (hb : base = w0.heap.size) (ha : Add w0 w) (hi : i < M.length) (hg : w.grownBy w' (some (gs.getD i 0))) : Add w0 w' :=
  ha.grown hg ha.size (fun k hk => by cases hk; rw [← hb]; exact h.2.2.2.2.2 _ (getD_mem (by rw [h.2.1.1]; exact hi)))
end Go.Proofs.Ytmlcenocjpjcfaa
