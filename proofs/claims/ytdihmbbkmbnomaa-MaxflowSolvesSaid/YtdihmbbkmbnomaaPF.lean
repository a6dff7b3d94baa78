/- Package maxflow: what lies in memory while residualOf works. -/
import Derived.Test.YtdihmbbkmbnomaaPA
import Derived.Test.YtdihmbbkmbnomaaU3
import Derived.Deep.AppendLies
namespace Go.Proofs.Ytdihmbbkmbnomaa
open Go.RowKit NetM

theorem infoStep : (Try.prog.info? 65).map (fun i => (i.zero, i.size, i.bytes)) = some (some (.agg #[.int .i64 0, .int .i64 0]), 2, 16) := by kernel_rfl
theorem own_ty {w : World} {base e size n : Nat} {v : Value} {xs : List Value} (h : w.ownsRow base e size v n xs) : ∀ g, v.ownBlock = some g → base ≤ g ∧ ∃ cur, w.heap[g]? = some (.cells cur e (0, 0)) := by
  intro k hk
  rcases h.2 with ⟨rfl, -⟩ | ⟨g, cap, cur, rfl, hb, hg, -⟩
  · cases hk
  · have e : g = k := by simpa [Value.ownBlock] using hk
    subst e
    exact ⟨hb, cur, hg⟩
/-- Rows that are appended to, one by one. -/
def RowsB (w : World) (base gf gd N : Nat) (R : Nat → List Nat) : Prop :=
  ∃ cur : Array Value, w.heap[gf]? = some (.cells cur 25 (0, 0)) ∧ cur.size = N ∧ (∀ x, x < N → ∃ v, cur[x]? = some v ∧ w.ownsRow base 3 1 v (R x).length ((R x).map natv) ∧ v.ownBlock ≠ some gd) ∧
  (∀ x y v u, x < N → y < N → x ≠ y → cur[x]? = some v → cur[y]? = some u → v.ownBlock = u.ownBlock → v.ownBlock = none)
theorem RowsB.get {w : World} {base gf gd N : Nat} {R : Nat → List Nat} (h : RowsB w base gf gd N R) {x : Nat} (hx : x < N) : ∃ a c, w.cell? ⟨gf, x, none⟩ = some (.slice a (R x).length c) ∧ w.ownsRow base 3 1 (.slice a (R x).length c) (R x).length ((R x).map natv) ∧ (Value.slice a (R x).length c).ownBlock ≠ some gd ∧ w.frozen? ⟨gf, x, none⟩ = false ∧ gf < w.heap.size := by
  obtain ⟨cur, h1, h2, h3, h4⟩ := h
  obtain ⟨v, k1, k2, k3⟩ := h3 x hx
  obtain ⟨a, c, rfl⟩ : ∃ a c, v = .slice a (R x).length c := by
    rcases k2.2 with ⟨rfl, h0⟩ | ⟨g, cap, cur, rfl, -⟩
    · rw [h0]; exact ⟨none, 0, rfl⟩
    · exact ⟨_, cap, rfl⟩
  exact ⟨a, c, (cell_of_row w gf x cur _ (0, 0) h1).trans k1, k2, k3, frozen_of_row w gf x cur _ h1, (Array.getElem?_eq_some_iff.1 h1).1⟩
/-- Block 'row' is no list of rows, and no row of integers. -/
theorem RowsB.kept {w w' : World} {base gf gd N : Nat} {R : Nat → List Nat} {row : Option Nat} (h : RowsB w base gf gd N R) (hg : w.grownBy w' row) (hf : ∀ k, row = some k → k ≠ gf ∧ ∀ cur f, w.heap[k]? ≠ some (.cells cur 3 f)) : RowsB w' base gf gd N R := by
  obtain ⟨cur, h1, h2, h3, h4⟩ := h
  refine ⟨cur, ?_, h2, fun x hx => ?_, h4⟩
  · rw [hg.block gf (Array.getElem?_eq_some_iff.1 h1).1 (fun e => (hf gf e.symm).1 rfl)]; exact h1
  · obtain ⟨v, k1, k2, k3⟩ := h3 x hx
    refine ⟨v, k1, k2.kept hg ?_, k3⟩
    cases ho : v.ownBlock with
    | none => exact .inl rfl
    | some g =>
      right
      intro e
      obtain ⟨-, cur', q⟩ := own_ty k2 g ho
      exact (hf g e.symm).2 _ _ q
theorem RowsB.push {w w' : World} {base gf gd N : Nat} {R : Nat → List Nat} (h : RowsB w base gf gd N R) {x j : Nat} (hx : x < N) {a : Option Addr} {c g cap : Nat} (hc : w.cell? ⟨gf, x, none⟩ = some (.slice a (R x).length c))
    (hown : w'.ownsRow base 3 1 (.slice (some ⟨g, 0, none⟩) ((R x).length + 1) cap) ((R x).length + 1) ((R x).map natv ++ [natv j])) (hg : w.grownBy w' (Value.slice a (R x).length c).ownBlock)
    (hat : (Value.slice a (R x).length c).ownBlock = some g ∨ g = w.heap.size) (hgd : gd < w.heap.size) :
    RowsB (w'.setCell ⟨gf, x, none⟩ (.slice (some ⟨g, 0, none⟩) ((R x).length + 1) cap)) base gf gd N (fun y => if y = x then R x ++ [j] else R y) := by
  obtain ⟨cur, h1, h2, h3, h4⟩ := h
  obtain ⟨v, k1, k2, k3⟩ := h3 x hx
  have hv : v = .slice a (R x).length c := by
    rw [cell_of_row w gf x cur _ (0, 0) h1] at hc
    exact Option.some.inj (k1.symm.trans hc)
  subst hv
  have hgfl := (Array.getElem?_eq_some_iff.1 h1).1
  have hne : (Value.slice a (R x).length c).ownBlock ≠ some gf := by
    intro e
    obtain ⟨-, cur', q⟩ := own_ty k2 gf e
    exact absurd rfl (ty_ne q h1 (by decide))
  have h1' : w'.heap[gf]? = some (.cells cur 25 (0, 0)) := (hg.block gf hgfl (fun e => hne e.symm)).trans h1
  have hgf : g ≠ gf := by
    rcases hat with e | rfl
    · rintro rfl; exact hne e
    · omega
  have hgne : g ≠ gd := by
    rcases hat with e | rfl
    · rintro rfl; exact k3 e
    · omega
  have hfar : ∀ y u, y < N → y ≠ x → cur[y]? = some u → u.ownBlock ≠ some g ∧ (u.ownBlock = none ∨ u.ownBlock ≠ (Value.slice a (R x).length c).ownBlock) := by
    intro y u hy hyx hu
    obtain ⟨v', q1, q2, q3⟩ := h3 y hy
    obtain rfl := Option.some.inj (q1.symm.trans hu)
    have hd : v'.ownBlock = none ∨ v'.ownBlock ≠ (Value.slice a (R x).length c).ownBlock := by
      by_cases e : v'.ownBlock = (Value.slice a (R x).length c).ownBlock
      · exact .inl (h4 y x _ _ hy hx hyx hu k1 e)
      · exact .inr e
    refine ⟨fun e => ?_, hd⟩
    rcases hat with e2 | e2
    · rcases hd with h | h
      · rw [h] at e; cases e
      · exact h (e.trans e2.symm)
    · obtain ⟨-, cur', q⟩ := own_ty q2 g e
      have := (Array.getElem?_eq_some_iff.1 q).1
      omega
  refine ⟨cur.setIfInBounds x _, heap_setCell_same w' gf x cur _ _ h1', by simpa using h2, fun y hy => ?_, fun y z u u' hy hz hyz hu hu' e => ?_⟩
  · by_cases e : y = x
    · subst e
      refine ⟨.slice (some ⟨g, 0, none⟩) ((R y).length + 1) cap, by have : y < cur.size := by omega
                                                                    simp [this], ?_, fun e => hgne (Option.some.inj (show some g = some gd from e))⟩
      dsimp only
      rw [if_pos rfl, List.length_append, List.length_singleton, List.map_append]
      exact hown.kept (grown_set w' gf y _) (.inr fun e => hgf (Option.some.inj (show some g = some gf from e)))
    · obtain ⟨u, q1, q2, q3⟩ := h3 y hy
      refine ⟨u, ?_, ?_, q3⟩
      · rw [Array.getElem?_setIfInBounds_ne (fun h => e h.symm)]; exact q1
      · dsimp only
        rw [if_neg e]
        refine (q2.kept hg (hfar y u hy e q1).2).kept (grown_set w' gf x _) ?_
        cases ho : u.ownBlock with
        | none => exact .inl rfl
        | some gg =>
          right
          intro e3
          obtain rfl := Option.some.inj e3
          obtain ⟨-, cur', q⟩ := own_ty q2 gg ho
          exact absurd rfl (ty_ne q h1 (by decide))
  · by_cases e1 : y = x
    · subst e1
      have hxs : y < cur.size := by omega
      rw [Array.getElem?_setIfInBounds_ne (fun h => hyz h)] at hu'
      have e4 : u = .slice (some ⟨g, 0, none⟩) ((R y).length + 1) cap := by simp [hxs] at hu; exact hu.symm
      subst e4
      exact absurd e.symm (hfar z u' hz (fun h => hyz h.symm) hu').1
    · rw [Array.getElem?_setIfInBounds_ne (fun h => e1 h.symm)] at hu
      by_cases e2 : z = x
      · subst e2
        have hxs : z < cur.size := by omega
        have e4 : u' = .slice (some ⟨g, 0, none⟩) ((R z).length + 1) cap := by simp [hxs] at hu'; exact hu'.symm
        subst e4
        exact absurd e (hfar y u hy e1 hu).1
      · rw [Array.getElem?_setIfInBounds_ne (fun h => e2 h.symm)] at hu'
        exact h4 y z u u' hy hz hyz hu hu' e
/-- The rows are only read from here on. -/
theorem RowsB.done {w : World} {base gf gd N H : Nat} {R : Nat → List Nat} (h : RowsB w base gf gd N R) (hH : w.heap.size ≤ H) : HdB w gf (ban gd H) N R := by
  obtain ⟨cur, h1, h2, h3, -⟩ := h
  refine ⟨cur, h1, by omega, fun x hx => ?_⟩
  obtain ⟨v, k1, k2, k3⟩ := h3 x hx
  refine ⟨v, k1, ?_⟩
  rcases k2.2 with ⟨rfl, h0⟩ | ⟨g, cap, cur', rfl, hb, hg, hn, hm, hs, ht⟩
  · rw [List.eq_nil_of_length_eq_zero h0]; exact RowR.nil _ _
  · refine ⟨some ⟨g, 0, none⟩, cap, rfl, hn, hm, fun hn0 => ⟨g, 0, cur', rfl, ?_, hg, fun i hi => ?_⟩⟩
    · rintro (rfl | h)
      · exact k3 rfl
      · have := (Array.getElem?_eq_some_iff.1 hg).1
        omega
    · have e : (cur'.toList.take ((R x).length * 1))[i]? = ((R x).map natv)[i]? := by rw [ht]
      rw [List.getElem?_take, if_pos (by omega)] at e
      rw [Nat.zero_add, ← Array.getElem?_toList, e]
      simp [List.getD, hi]

/-! ### The steps that a flow of nothing leaves -/
def fromK (A : List Arc) (k x : Nat) : List Nat := (List.range (2 * k)).filter fun j => decide (tailS A j = (x : Int))
theorem fromK_all (A : List Arc) : fromK A A.length = fromR A := rfl
theorem tail_even (A : List Arc) (k : Nat) : tailS A (2 * k) = (at' A k).1 := by
  unfold tailS
  rw [show 2 * k % 2 = 0 by omega, show 2 * k / 2 = k by omega]; rfl
theorem tail_odd (A : List Arc) (k : Nat) : tailS A (2 * k + 1) = (at' A k).2.1 := by
  unfold tailS
  rw [show (2 * k + 1) % 2 = 1 by omega, show (2 * k + 1) / 2 = k by omega]; rfl
theorem fromK_succ (A : List Arc) (k : Nat) {x y : Nat} {z u : Int} (h : at' A k = ((x : Int), (y : Int), z, u)) :
    fromK A (k + 1) = fun v => if v = y then (if y = x then fromK A k x ++ [2 * k] else fromK A k y) ++ [2 * k + 1] else (if v = x then fromK A k x ++ [2 * k] else fromK A k v) := by
  funext v
  unfold fromK
  rw [show 2 * (k + 1) = 2 * k + 1 + 1 by omega, List.range_succ, List.range_succ, List.filter_append, List.filter_append]
  simp only [List.filter_cons, List.filter_nil, tail_even, tail_odd, h]
  by_cases e1 : v = x <;> by_cases e2 : v = y
  · subst e1; subst e2; simp
  · subst e1
    have : ¬ ((y : Int) = (v : Int)) := by omega
    simp [e2, this]
  · subst e2
    have h1 : ¬ ((x : Int) = (v : Int)) := by omega
    have h2 : ¬ v = x := e1
    simp [h1, h2]
  · have h1 : ¬ ((x : Int) = (v : Int)) := by omega
    have h2 : ¬ ((y : Int) = (v : Int)) := by omega
    simp [e1, e2, h1, h2]
def cellsS (A : List Arc) (k : Nat) : List Value := (List.range k).flatMap fun j => [iv (headS A j), iv (roomS A (List.replicate A.length 0) j)]
theorem cellsS_succ (A : List Arc) (k : Nat) : cellsS A (k + 1) = cellsS A k ++ [iv (headS A k), iv (roomS A (List.replicate A.length 0) k)] := by
  unfold cellsS
  rw [List.range_succ, List.flatMap_append]; simp
theorem cellsS_len (A : List Arc) (k : Nat) : (cellsS A k).length = k * 2 := by
  induction k with
  | zero => rfl
  | succ k ih => rw [cellsS_succ, List.length_append, ih]; simp; omega
theorem cellsS_get (A : List Arc) {k j : Nat} (h : j < k) : (cellsS A k)[j * 2]? = some (iv (headS A j)) ∧ (cellsS A k)[j * 2 + 1]? = some (iv (roomS A (List.replicate A.length 0) j)) := by
  induction k with
  | zero => omega
  | succ k ih =>
    rw [cellsS_succ]
    by_cases e : j = k
    · subst e
      rw [List.getElem?_append_right (by rw [cellsS_len]; omega), List.getElem?_append_right (by rw [cellsS_len]; omega), cellsS_len]
      rw [show j * 2 - j * 2 = 0 by omega, show j * 2 + 1 - j * 2 = 1 by omega]
      exact ⟨rfl, rfl⟩
    · rw [List.getElem?_append_left (by rw [cellsS_len]; omega), List.getElem?_append_left (by rw [cellsS_len]; omega)]
      exact ih (by omega)
theorem cellsS_two (A : List Arc) {k : Nat} (hk : k < A.length) {x y z u : Int} (h : at' A k = (x, y, z, u)) : cellsS A (2 * k + 2) = cellsS A (2 * k) ++ [iv y, iv z, iv x, iv 0] := by
  rw [show 2 * k + 2 = 2 * k + 1 + 1 from rfl, cellsS_succ, cellsS_succ, List.append_assoc]
  have e1 : headS A (2 * k) = y := by unfold headS; rw [show 2 * k % 2 = 0 by omega, show 2 * k / 2 = k by omega, h]; rfl
  have e2 : headS A (2 * k + 1) = x := by unfold headS; rw [show (2 * k + 1) % 2 = 1 by omega, show (2 * k + 1) / 2 = k by omega, h]; rfl
  have e0 : (List.replicate A.length (0 : Int)).getD k 0 = 0 := by simp [List.getD, hk]
  have e3 : roomS A (List.replicate A.length 0) (2 * k) = z := by unfold roomS; rw [show 2 * k % 2 = 0 by omega, show 2 * k / 2 = k by omega, h, e0]; simp
  have e4 : roomS A (List.replicate A.length 0) (2 * k + 1) = 0 := by unfold roomS; rw [show (2 * k + 1) % 2 = 1 by omega, show (2 * k + 1) / 2 = k by omega, e0]; simp
  rw [e1, e2, e3, e4]; rfl
/-- The steps are only read, and their rooms stored, from here on. -/
theorem steps_done {w : World} {base : Nat} {sv : Value} {A : List Arc} (h : w.ownsRow base 65 2 sv (2 * A.length) (cellsS A (2 * A.length))) : ∃ gs, StepsV w gs sv A (roomS A (List.replicate A.length 0)) ∧ (0 < A.length → base ≤ gs) := by
  rcases h.2 with ⟨rfl, h0⟩ | ⟨g, cap, cur, rfl, hb, hg, hn, hm, hs, ht⟩
  · have h1 : A.length = 0 := by omega
    exact ⟨0, ⟨none, 0, by rw [h1], by omega, by unfold maxLen; omega, fun h => by omega⟩, fun h => by omega⟩
  · refine ⟨g, ⟨_, cap, rfl, hn, hm, fun _ => ⟨rfl, cur, hg, fun j hj => ?_⟩⟩, fun _ => hb⟩
    obtain ⟨k1, k2⟩ := cellsS_get A hj
    rw [← ht, List.getElem?_take, if_pos (by omega)] at k1 k2
    exact ⟨by simpa [iv] using k1, by simpa [iv] using k2⟩
end Go.Proofs.Ytdihmbbkmbnomaa
