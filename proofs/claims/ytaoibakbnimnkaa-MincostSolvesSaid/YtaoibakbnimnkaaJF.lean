/- Package maxflow: what lies in memory while residualOf works. | Package maxflow: residualOf: the state of its loop. -/
import Derived.Test.YtaoibakbnimnkaaJB
import Derived.Test.YtaoibakbnimnkaaU3
import Derived.Deep.AppendLies

namespace Go.Proofs.Ytaoibakbnimnkaa
open Go.RowKit NetM

theorem infoStep : (Try.prog.info? 82).map (fun i => (i.zero, i.size, i.bytes)) = some (some (.agg #[.int .i64 0, .int .i64 0]), 2, 16) := by kernel_rfl
theorem own_ty {w : World} {base e size n : Nat} {v : Value} {xs : List Value} (h : w.ownsRow base e size v n xs) : ∀ g, v.ownBlock = some g → base ≤ g ∧ ∃ cur, w.heap[g]? = some (.cells cur e (0, 0)) := by
  intro k hk
  rcases h.2 with ⟨rfl, -⟩ | ⟨g, cap, cur, rfl, hb, hg, -⟩
  · cases hk
  · have e : g = k := by simpa [Value.ownBlock] using hk
    subst e
    exact ⟨hb, cur, hg⟩
/-- Rows that are appended to, one by one. -/
def RowsB (w : World) (base gf gd N : Nat) (R : Nat → List Nat) : Prop :=
  ∃ cur : Array Value, w.heap[gf]? = some (.cells cur 25 (0, 0)) ∧ cur.size = N ∧ (∀ x, x < N → ∃ v, cur[x]? = some v ∧ w.ownsRow base 3 1 v (R x).length ((R x).map natv) ∧ v.ownBlock ≠ some gd) ∧
  (∀ x y v u, x < N → y < N → x ≠ y → cur[x]? = some v → cur[y]? = some u → v.ownBlock = u.ownBlock → v.ownBlock = none)
theorem RowsB.get {w : World} {base gf gd N : Nat} {R : Nat → List Nat} (h : RowsB w base gf gd N R) {x : Nat} (hx : x < N) : ∃ a c, w.cell? ⟨gf, x, none⟩ = some (.slice a (R x).length c) ∧ w.ownsRow base 3 1 (.slice a (R x).length c) (R x).length ((R x).map natv) ∧ (Value.slice a (R x).length c).ownBlock ≠ some gd ∧ w.frozen? ⟨gf, x, none⟩ = false ∧ gf < w.heap.size := by
  obtain ⟨cur, h1, h2, h3, h4⟩ := h
  obtain ⟨v, k1, k2, k3⟩ := h3 x hx
  obtain ⟨a, c, rfl⟩ : ∃ a c, v = .slice a (R x).length c := by
    rcases k2.2 with ⟨rfl, h0⟩ | ⟨g, cap, cur, rfl, -⟩
    · rw [h0]; exact ⟨none, 0, rfl⟩
    · exact ⟨_, cap, rfl⟩
  exact ⟨a, c, (cell_of_row w gf x cur _ (0, 0) h1).trans k1, k2, k3, frozen_of_row w gf x cur _ h1, (Array.getElem?_eq_some_iff.1 h1).1⟩
/-- Block 'row' is no list of rows, and no row of integers. -/
theorem RowsB.kept {w w' : World} {base gf gd N : Nat} {R : Nat → List Nat} {row : Option Nat} (h : RowsB w base gf gd N R) (hg : w.grownBy w' row) (hf : ∀ k, row = some k → k ≠ gf ∧ ∀ cur f, w.heap[k]? ≠ some (.cells cur 3 f)) : RowsB w' base gf gd N R := by
  obtain ⟨cur, h1, h2, h3, h4⟩ := h
  refine ⟨cur, ?_, h2, fun x hx => ?_, h4⟩
  · rw [hg.block gf (Array.getElem?_eq_some_iff.1 h1).1 (fun e => (hf gf e.symm).1 rfl)]; exact h1
  · obtain ⟨v, k1, k2, k3⟩ := h3 x hx
    refine ⟨v, k1, k2.kept hg ?_, k3⟩
    cases ho : v.ownBlock with
    | none => exact .inl rfl
    | some g =>
      right
      intro e
      obtain ⟨-, cur', q⟩ := own_ty k2 g ho
      exact (hf g e.symm).2 _ _ q
theorem RowsB.push {w w' : World} {base gf gd N : Nat} {R : Nat → List Nat} (h : RowsB w base gf gd N R) {x j : Nat} (hx : x < N) {a : Option Addr} {c g cap : Nat} (hc : w.cell? ⟨gf, x, none⟩ = some (.slice a (R x).length c))
    (hown : w'.ownsRow base 3 1 (.slice (some ⟨g, 0, none⟩) ((R x).length + 1) cap) ((R x).length + 1) ((R x).map natv ++ [natv j])) (hg : w.grownBy w' (Value.slice a (R x).length c).ownBlock)
    (hat : (Value.slice a (R x).length c).ownBlock = some g ∨ g = w.heap.size) (hgd : gd < w.heap.size) :
    RowsB (w'.setCell ⟨gf, x, none⟩ (.slice (some ⟨g, 0, none⟩) ((R x).length + 1) cap)) base gf gd N (fun y => if y = x then R x ++ [j] else R y) := by
  obtain ⟨cur, h1, h2, h3, h4⟩ := h
  obtain ⟨v, k1, k2, k3⟩ := h3 x hx
  have hv : v = .slice a (R x).length c := by
    rw [cell_of_row w gf x cur _ (0, 0) h1] at hc
    exact Option.some.inj (k1.symm.trans hc)
  subst hv
  have hgfl := (Array.getElem?_eq_some_iff.1 h1).1
  have hne : (Value.slice a (R x).length c).ownBlock ≠ some gf := by
    intro e
    obtain ⟨-, cur', q⟩ := own_ty k2 gf e
    exact absurd rfl (ty_ne q h1 (by decide))
  have h1' : w'.heap[gf]? = some (.cells cur 25 (0, 0)) := (hg.block gf hgfl (fun e => hne e.symm)).trans h1
  have hgf : g ≠ gf := by
    rcases hat with e | rfl
    · rintro rfl; exact hne e
    · omega
  have hgne : g ≠ gd := by
    rcases hat with e | rfl
    · rintro rfl; exact k3 e
    · omega
  have hfar : ∀ y u, y < N → y ≠ x → cur[y]? = some u → u.ownBlock ≠ some g ∧ (u.ownBlock = none ∨ u.ownBlock ≠ (Value.slice a (R x).length c).ownBlock) := by
    intro y u hy hyx hu
    obtain ⟨v', q1, q2, q3⟩ := h3 y hy
    obtain rfl := Option.some.inj (q1.symm.trans hu)
    have hd : v'.ownBlock = none ∨ v'.ownBlock ≠ (Value.slice a (R x).length c).ownBlock := by
      by_cases e : v'.ownBlock = (Value.slice a (R x).length c).ownBlock
      · exact .inl (h4 y x _ _ hy hx hyx hu k1 e)
      · exact .inr e
    refine ⟨fun e => ?_, hd⟩
    rcases hat with e2 | e2
    · rcases hd with h | h
      · rw [h] at e; cases e
      · exact h (e.trans e2.symm)
    · obtain ⟨-, cur', q⟩ := own_ty q2 g e
      have := (Array.getElem?_eq_some_iff.1 q).1
      omega
  refine ⟨cur.setIfInBounds x _, heap_setCell_same w' gf x cur _ _ h1', by simpa using h2, fun y hy => ?_, fun y z u u' hy hz hyz hu hu' e => ?_⟩
  · by_cases e : y = x
    · subst e
      refine ⟨.slice (some ⟨g, 0, none⟩) ((R y).length + 1) cap, by have : y < cur.size := by omega
                                                                    simp [this], ?_, fun e => hgne (Option.some.inj (show some g = some gd from e))⟩
      dsimp only
      rw [if_pos rfl, List.length_append, List.length_singleton, List.map_append]
      exact hown.kept (grown_set w' gf y _) (.inr fun e => hgf (Option.some.inj (show some g = some gf from e)))
    · obtain ⟨u, q1, q2, q3⟩ := h3 y hy
      refine ⟨u, ?_, ?_, q3⟩
      · rw [Array.getElem?_setIfInBounds_ne (fun h => e h.symm)]; exact q1
      · dsimp only
        rw [if_neg e]
        refine (q2.kept hg (hfar y u hy e q1).2).kept (grown_set w' gf x _) ?_
        cases ho : u.ownBlock with
        | none => exact .inl rfl
        | some gg =>
          right
          intro e3
          obtain rfl := Option.some.inj e3
          obtain ⟨-, cur', q⟩ := own_ty q2 gg ho
          exact absurd rfl (ty_ne q h1 (by decide))
  · by_cases e1 : y = x
    · subst e1
      have hxs : y < cur.size := by omega
      rw [Array.getElem?_setIfInBounds_ne (fun h => hyz h)] at hu'
      have e4 : u = .slice (some ⟨g, 0, none⟩) ((R y).length + 1) cap := by simp [hxs] at hu; exact hu.symm
      subst e4
      exact absurd e.symm (hfar z u' hz (fun h => hyz h.symm) hu').1
    · rw [Array.getElem?_setIfInBounds_ne (fun h => e1 h.symm)] at hu
      by_cases e2 : z = x
      · subst e2
        have hxs : z < cur.size := by omega
        have e4 : u' = .slice (some ⟨g, 0, none⟩) ((R z).length + 1) cap := by simp [hxs] at hu'; exact hu'.symm
        subst e4
        exact absurd e (hfar y u hy e1 hu).1
      · rw [Array.getElem?_setIfInBounds_ne (fun h => e2 h.symm)] at hu'
        exact h4 y z u u' hy hz hyz hu hu' e
/-- The rows are only read from here on. -/
theorem RowsB.done {w : World} {base gf gd N H : Nat} {R : Nat → List Nat} (h : RowsB w base gf gd N R) (hH : w.heap.size ≤ H) : HdB w gf (ban gd H) N R := by
  obtain ⟨cur, h1, h2, h3, -⟩ := h
  refine ⟨cur, h1, by omega, fun x hx => ?_⟩
  obtain ⟨v, k1, k2, k3⟩ := h3 x hx
  refine ⟨v, k1, ?_⟩
  rcases k2.2 with ⟨rfl, h0⟩ | ⟨g, cap, cur', rfl, hb, hg, hn, hm, hs, ht⟩
  · rw [List.eq_nil_of_length_eq_zero h0]; exact RowR.nil _ _
  · refine ⟨some ⟨g, 0, none⟩, cap, rfl, hn, hm, fun hn0 => ⟨g, 0, cur', rfl, ?_, hg, fun i hi => ?_⟩⟩
    · rintro (rfl | h)
      · exact k3 rfl
      · have := (Array.getElem?_eq_some_iff.1 hg).1
        omega
    · have e : (cur'.toList.take ((R x).length * 1))[i]? = ((R x).map natv)[i]? := by rw [ht]
      rw [List.getElem?_take, if_pos (by omega)] at e
      rw [Nat.zero_add, ← Array.getElem?_toList, e]
      simp [List.getD, hi]

/-! ### The steps that a flow of nothing leaves -/
def fromK (A : List Arc) (k x : Nat) : List Nat := (List.range (2 * k)).filter fun j => decide (tailS A j = (x : Int))
theorem fromK_all (A : List Arc) : fromK A A.length = fromR A := rfl
theorem tail_even (A : List Arc) (k : Nat) : tailS A (2 * k) = (at' A k).1 := by
  unfold tailS
  rw [show 2 * k % 2 = 0 by omega, show 2 * k / 2 = k by omega]; rfl
theorem tail_odd (A : List Arc) (k : Nat) : tailS A (2 * k + 1) = (at' A k).2.1 := by
  unfold tailS
  rw [show (2 * k + 1) % 2 = 1 by omega, show (2 * k + 1) / 2 = k by omega]; rfl
theorem fromK_succ (A : List Arc) (k : Nat) {x y : Nat} {z u : Int} (h : at' A k = ((x : Int), (y : Int), z, u)) :
    fromK A (k + 1) = fun v => if v = y then (if y = x then fromK A k x ++ [2 * k] else fromK A k y) ++ [2 * k + 1] else (if v = x then fromK A k x ++ [2 * k] else fromK A k v) := by
  funext v
  unfold fromK
  rw [show 2 * (k + 1) = 2 * k + 1 + 1 by omega, List.range_succ, List.range_succ, List.filter_append, List.filter_append]
  simp only [List.filter_cons, List.filter_nil, tail_even, tail_odd, h]
  by_cases e1 : v = x <;> by_cases e2 : v = y
  · subst e1; subst e2; simp
  · subst e1
    have : ¬ ((y : Int) = (v : Int)) := by omega
    simp [e2, this]
  · subst e2
    have h1 : ¬ ((x : Int) = (v : Int)) := by omega
    have h2 : ¬ v = x := e1
    simp [h1, h2]
  · have h1 : ¬ ((x : Int) = (v : Int)) := by omega
    have h2 : ¬ ((y : Int) = (v : Int)) := by omega
    simp [e1, e2, h1, h2]
def cellsS (A : List Arc) (k : Nat) : List Value := (List.range k).flatMap fun j => [iv (headS A j), iv (roomS A (List.replicate A.length 0) j)]
theorem cellsS_succ (A : List Arc) (k : Nat) : cellsS A (k + 1) = cellsS A k ++ [iv (headS A k), iv (roomS A (List.replicate A.length 0) k)] := by
  unfold cellsS
  rw [List.range_succ, List.flatMap_append]; simp
theorem cellsS_len (A : List Arc) (k : Nat) : (cellsS A k).length = k * 2 := by
  induction k with
  | zero => rfl
  | succ k ih => rw [cellsS_succ, List.length_append, ih]; simp; omega
theorem cellsS_get (A : List Arc) {k j : Nat} (h : j < k) : (cellsS A k)[j * 2]? = some (iv (headS A j)) ∧ (cellsS A k)[j * 2 + 1]? = some (iv (roomS A (List.replicate A.length 0) j)) := by
  induction k with
  | zero => omega
  | succ k ih =>
    rw [cellsS_succ]
    by_cases e : j = k
    · subst e
      rw [List.getElem?_append_right (by rw [cellsS_len]; omega), List.getElem?_append_right (by rw [cellsS_len]; omega), cellsS_len]
      rw [show j * 2 - j * 2 = 0 by omega, show j * 2 + 1 - j * 2 = 1 by omega]
      exact ⟨rfl, rfl⟩
    · rw [List.getElem?_append_left (by rw [cellsS_len]; omega), List.getElem?_append_left (by rw [cellsS_len]; omega)]
      exact ih (by omega)
theorem cellsS_two (A : List Arc) {k : Nat} (hk : k < A.length) {x y z u : Int} (h : at' A k = (x, y, z, u)) : cellsS A (2 * k + 2) = cellsS A (2 * k) ++ [iv y, iv z, iv x, iv 0] := by
  rw [show 2 * k + 2 = 2 * k + 1 + 1 from rfl, cellsS_succ, cellsS_succ, List.append_assoc]
  have e1 : headS A (2 * k) = y := by unfold headS; rw [show 2 * k % 2 = 0 by omega, show 2 * k / 2 = k by omega, h]; rfl
  have e2 : headS A (2 * k + 1) = x := by unfold headS; rw [show (2 * k + 1) % 2 = 1 by omega, show (2 * k + 1) / 2 = k by omega, h]; rfl
  have e0 : (List.replicate A.length (0 : Int)).getD k 0 = 0 := by simp [List.getD, hk]
  have e3 : roomS A (List.replicate A.length 0) (2 * k) = z := by unfold roomS; rw [show 2 * k % 2 = 0 by omega, show 2 * k / 2 = k by omega, h, e0]; simp
  have e4 : roomS A (List.replicate A.length 0) (2 * k + 1) = 0 := by unfold roomS; rw [show (2 * k + 1) % 2 = 1 by omega, show (2 * k + 1) / 2 = k by omega, e0]; simp
  rw [e1, e2, e3, e4]; rfl
/-- The steps are only read, and their rooms stored, from here on. -/
theorem steps_done {w : World} {base : Nat} {sv : Value} {A : List Arc} (h : w.ownsRow base 82 2 sv (2 * A.length) (cellsS A (2 * A.length))) : ∃ gs, StepsV w gs sv A (roomS A (List.replicate A.length 0)) ∧ (0 < A.length → base ≤ gs) := by
  rcases h.2 with ⟨rfl, h0⟩ | ⟨g, cap, cur, rfl, hb, hg, hn, hm, hs, ht⟩
  · have h1 : A.length = 0 := by omega
    exact ⟨0, ⟨none, 0, by rw [h1], by omega, by unfold maxLen; omega, fun h => by omega⟩, fun h => by omega⟩
  · refine ⟨g, ⟨_, cap, rfl, hn, hm, fun _ => ⟨rfl, cur, hg, fun j hj => ?_⟩⟩, fun _ => hb⟩
    obtain ⟨k1, k2⟩ := cellsS_get A hj
    rw [← ht, List.getElem?_take, if_pos (by omega)] at k1 k2
    exact ⟨by simpa [iv] using k1, by simpa [iv] using k2⟩
end Go.Proofs.Ytaoibakbnimnkaa

namespace Go.Proofs.Ytaoibakbnimnkaa
open Go.RowKit NetM

theorem addB {W W' : World} {g : Nat} {o : Obj} (h : W.heap[g]? = some o) (hb : Add W W') : W'.heap[g]? = some o := (hb.block g (Array.getElem?_eq_some_iff.1 h).1).trans h
/-- A block of another type than the row that was appended to. -/
theorem kept_ty {W w6 : World} {b base size n : Nat} {T T' : TypeId} {v : Value} {xs : List Value} {cur : Array Value} {f : Nat × Nat} (hb : W.heap[b]? = some (.cells cur T' f)) (hown : W.ownsRow base T size v n xs) (hg : W.grownBy w6 v.ownBlock) (hT : T ≠ T') :
    w6.heap[b]? = some (.cells cur T' f) := by
  refine (hg.block b (Array.getElem?_eq_some_iff.1 hb).1 (fun e => ?_)).trans hb
  obtain ⟨-, cur', q⟩ := own_ty hown b e.symm
  exact absurd rfl (ty_ne q hb hT)
/-- The state of the loop: k arcs are laid, the steps are sv, the rows R. -/
def BS (w0 w : World) (A : List Arc) (N s t : Nat) (a : Option Addr) (m c gr gf gd k : Nat) (sv : Value) (R : Nat → List Nat) : Prop :=
  NBox w w0.heap.size N s t a m c ∧ RBox w gr s t sv (.slice (some ⟨gf, 0, none⟩) N N) (.slice none 0 0) (.slice (some ⟨gd, 0, none⟩) N N) ∧ w.ownsRow (w0.heap.size + 1) 82 2 sv (2 * k) (cellsS A (2 * k)) ∧ RowsB w (w0.heap.size + 1) gf gd N R ∧
  IBlk w gd (List.replicate N 0) ∧ Add w0 w ∧ w0.heap.size < gr ∧ w0.heap.size < gf ∧ w0.heap.size < gd
theorem RowsB.add {w w' : World} {base gf gd N : Nat} {R : Nat → List Nat} (h : RowsB w base gf gd N R) (hb : Add w w') : RowsB w' base gf gd N R := h.kept (grownA_of hb) (fun k e => by cases e)
theorem BS.add {w0 w w' : World} {A : List Arc} {N s t : Nat} {a : Option Addr} {m c gr gf gd k : Nat} {sv : Value} {R : Nat → List Nat} (h : BS w0 w A N s t a m c gr gf gd k sv R) (hb : Add w w') : BS w0 w' A N s t a m c gr gf gd k sv R := by
  obtain ⟨h1, h2, h3, h4, h5, h6, h7⟩ := h
  exact ⟨h1.add hb, h2.kept (grownA_of hb) (by simp), h3.kept (grownA_of hb) (by cases hv : sv.ownBlock <;> simp), h4.add hb, Blk.add h5 hb, Add.trans h6 hb, h7⟩
theorem BS.steps {w0 W w6 : World} {A : List Arc} {N s t : Nat} {a : Option Addr} {m c gr gf gd k g6 cap6 : Nat} {sv : Value} {R : Nat → List Nat} {x y z u : Int} (h : BS w0 W A N s t a m c gr gf gd k sv R) (hk : k < A.length) (hx : at' A k = (x, y, z, u))
    (hown6 : w6.ownsRow (w0.heap.size + 1) 82 2 (.slice (some ⟨g6, 0, none⟩) (2 * k + 2) cap6) (2 * k + 2) (cellsS A (2 * k) ++ [.int .i64 y, .int .i64 z, .int .i64 x, .int .i64 0])) (hg : W.grownBy w6 sv.ownBlock) :
    BS w0 (w6.setCell ⟨gr, 2, none⟩ (.slice (some ⟨g6, 0, none⟩) (2 * k + 2) cap6)) A N s t a m c gr gf gd (k + 1) (.slice (some ⟨g6, 0, none⟩) (2 * k + 2) cap6) R := by
  obtain ⟨h1, h2, h3, h4, h5, h6, h7, h8, h9⟩ := h
  have n6 : NBox w6 _ N s t a m c := kept_ty h1 h3 hg (by decide)
  have r6 : RBox w6 gr s t sv _ _ _ := kept_ty h2 h3 hg (by decide)
  have i6 : IBlk w6 gd _ := kept_ty h5 h3 hg (by decide)
  obtain ⟨-, cs, q⟩ := own_ty hown6 g6 rfl
  have hgs := grown_set w6 gr 2 (.slice (some ⟨g6, 0, none⟩) (2 * k + 2) cap6)
  obtain ⟨cf, hcf, -⟩ := id h4
  have f6 := kept_ty hcf h3 hg (by decide)
  have b6 : RowsB w6 (w0.heap.size + 1) gf gd N R := h4.kept hg (fun k' e => by
    obtain ⟨-, cur', q'⟩ := own_ty h3 k' e
    exact ⟨ty_ne q' hcf (by decide), fun cur f hq => absurd rfl (ty_ne q' hq (by decide))⟩)
  refine ⟨?_, r6.set2 _, ?_, ?_, ?_, ?_, h7, h8, h9⟩
  · exact (heap_setCell_other w6 ⟨gr, 2, none⟩ w0.heap.size _ (by dsimp only; omega)).trans n6
  · have := hown6.kept hgs (.inr fun e => ty_ne q r6 (by decide) (Option.some.inj (show some g6 = some gr from e)))
    rw [show 2 * (k + 1) = 2 * k + 2 by omega, cellsS_two A hk hx]
    exact this
  · exact b6.kept hgs (fun k' e => by
      obtain rfl := Option.some.inj e
      exact ⟨ty_ne r6 f6 (by decide), fun cur f hq => absurd rfl (ty_ne r6 hq (by decide))⟩)
  · exact Blk.other i6 (ty_ne i6 r6 (by decide)) _ _
  · exact add_setLow (Below.grown h6 hg h6.size (fun k' e => by have := (own_ty h3 k' e).1; omega)) (by omega) _ _
theorem BS.rows {w0 W w6 : World} {A : List Arc} {N s t : Nat} {a : Option Addr} {m c gr gf gd k g6 cap6 x j rc : Nat} {ra : Option Addr} {sv : Value} {R : Nat → List Nat} (h : BS w0 W A N s t a m c gr gf gd k sv R) (hx : x < N) (hc : W.cell? ⟨gf, x, none⟩ = some (.slice ra (R x).length rc))
    (hown6 : w6.ownsRow (w0.heap.size + 1) 3 1 (.slice (some ⟨g6, 0, none⟩) ((R x).length + 1) cap6) ((R x).length + 1) ((R x).map natv ++ [natv j])) (hg : W.grownBy w6 (Value.slice ra (R x).length rc).ownBlock)
    (hat : (Value.slice ra (R x).length rc).ownBlock = some g6 ∨ g6 = W.heap.size) :
    BS w0 (w6.setCell ⟨gf, x, none⟩ (.slice (some ⟨g6, 0, none⟩) ((R x).length + 1) cap6)) A N s t a m c gr gf gd k sv (fun v => if v = x then R x ++ [j] else R v) := by
  obtain ⟨h1, h2, h3, h4, h5, h6, h7, h8, h9⟩ := h
  obtain ⟨a', c', q1, q2, q3, -⟩ := h4.get hx
  rw [hc] at q1
  simp only [Option.some.injEq, Value.slice.injEq, true_and] at q1
  obtain ⟨rfl, rfl⟩ := q1
  have hgd := Blk.lt h5
  have n6 : NBox w6 _ N s t a m c := kept_ty h1 q2 hg (by decide)
  have r6 : RBox w6 gr s t sv _ _ _ := kept_ty h2 q2 hg (by decide)
  have i6 : IBlk w6 gd _ := Blk.kept h5 hg (fun e => q3 e.symm)
  obtain ⟨cf, hcf, -⟩ := id h4
  have f6 := kept_ty hcf q2 hg (by decide)
  have hgs := grown_set w6 gf x (.slice (some ⟨g6, 0, none⟩) ((R x).length + 1) cap6)
  refine ⟨?_, ?_, ?_, h4.push hx hc hown6 hg hat hgd, ?_, ?_, h7, h8, h9⟩
  · exact (heap_setCell_other w6 ⟨gf, x, none⟩ w0.heap.size _ (by dsimp only; omega)).trans n6
  · exact r6.kept hgs (fun e => ty_ne f6 r6 (by decide) (Option.some.inj e))
  · refine (h3.kept hg ?_).kept hgs ?_
    · cases ho : sv.ownBlock with
      | none => exact .inl rfl
      | some gg =>
        right
        intro e
        obtain ⟨-, c1, p1⟩ := own_ty h3 gg ho
        obtain ⟨-, c2, p2⟩ := own_ty q2 gg e.symm
        exact absurd rfl (ty_ne p1 p2 (by decide))
    · cases ho : sv.ownBlock with
      | none => exact .inl rfl
      | some gg =>
        right
        intro e
        obtain rfl := Option.some.inj e
        obtain ⟨-, c1, p1⟩ := own_ty h3 gg ho
        exact absurd rfl (ty_ne p1 hcf (by decide))
  · exact Blk.other i6 (ty_ne i6 f6 (by decide)) _ _
  · exact add_setLow (Below.grown h6 hg h6.size (fun k' e => by have := (own_ty q2 k' e).1; omega)) (by omega) _ _
/-- What residualOf returns. -/
def ResOfP (w : World) (A : List Arc) (N s t : Nat) (e : Ending) (w' : World) : Prop :=
  ∃ gr gs gf gd H sv D, e = .returned (.pointer (some ⟨gr, 0, none⟩)) ∧ ResB w w' A N s t gr gs gf gd H sv (.slice none 0 0) (roomS A (List.replicate A.length 0)) D ∧ gd < H ∧ w.heap.size ≤ H ∧ H ≤ w'.heap.size
theorem BS.done {w0 w : World} {A : List Arc} {N s t : Nat} {a : Option Addr} {m c gr gf gd : Nat} {sv : Value} (h : BS w0 w A N s t a m c gr gf gd A.length sv (fromR A)) : ResOfP w0 A N s t (.returned (.pointer (some ⟨gr, 0, none⟩))) w := by
  obtain ⟨h1, h2, h3, h4, h5, h6, h7, h8, h9⟩ := h
  obtain ⟨gs, k1, k2⟩ := steps_done h3
  exact ⟨gr, gs, gf, gd, w.heap.size, sv, _, rfl, ⟨h2, k1, h4.done (Nat.le_refl _), h5, by simp, h6, by omega, by omega, fun h => by have := k2 h; omega⟩, Blk.lt h5, h6.size, Nat.le_refl _⟩
theorem make_run24 {e t : TypeId} {i : TypeInfo} {z : Value} {b : Nat} (ht : Try.prog.underlying t = some (.slice e)) (hi : Try.prog.info? e = some i) (hz : i.zero = some z) (hs : i.size = 1) (hb : i.bytes = b) (hzc : z.cells = #[z]) (hb8 : b ≤ 24) (N : Nat) (hN : N ≤ 700) (w : World) :
    (Instr.makeSlice t (.int .i64 (N : Int)) (.int .i64 (N : Int))).run Try.prog w = .ok (.slice (some ⟨w.heap.size, 0, none⟩) N N) (w.alloc (.cells (List.replicate N z).toArray e)) := by
  have hr := run_make (P := Try.prog) w t e i z ht hi hz .i64 .i64 N N (by omega) (Int.le_refl _) (by rw [hb]; have : (b : Int) * (N : Int) ≤ 24 * 700 := Int.mul_le_mul (by omega) (by omega) (by omega) (by omega); omega) (by omega)
  simp only [Int.toNat_natCast] at hr
  rw [hr, hzc, hs, Nat.mul_one]
  have : madeCells #[z] N = (List.replicate N z).toArray := by rw [← toList_madeCells_one]
  rw [this]
/-- The beginning: both lists and the variable are laid, the lists in either order. -/
theorem bs_start {w0 w1 w4 : World} {A : List Arc} {N s t : Nat} {a : Option Addr} {m c gf gd : Nat} (h1 : NBox w1 w0.heap.size N s t a m c) (hA : Add w0 w1) (hB : Add w1 w4) (hf : w4.heap[gf]? = some (.cells (List.replicate N (Value.slice none 0 0)).toArray 25 (0, 0))) (hd : IBlk w4 gd (List.replicate N 0)) (g1 : w1.heap.size ≤ gf) (g2 : w1.heap.size ≤ gd) :
    BS w0 (w4.alloc (.cells #[.int .i64 s, .int .i64 t, .slice none 0 0, .slice (some ⟨gf, 0, none⟩) N N, .slice none 0 0, .slice (some ⟨gd, 0, none⟩) N N] 80)).drew A N s t a m c w4.heap.size gf gd 0 (.slice none 0 0) (fromK A 0) := by
  have hC := b_drew (add_new w4 (.cells #[.int .i64 s, .int .i64 t, .slice none 0 0, .slice (some ⟨gf, 0, none⟩) N N, .slice none 0 0, .slice (some ⟨gd, 0, none⟩) N N] 80))
  have hl := h1.lt
  have hz := hB.size
  refine ⟨(h1.add hB).add hC, ?_, World.ownsRow_nil _ _ _ _, ⟨_, addB hf hC, by simp, fun x hx => ⟨.slice none 0 0, by simp [hx], World.ownsRow_nil _ _ _ _, by simp [Value.ownBlock]⟩, fun x y v u hx hy _ hv _ _ => ?_⟩, Blk.add hd hC, Add.trans hA (Add.trans hB hC), by omega, by omega, by omega⟩
  · exact heap_alloc_new w4 _
  · have : v = .slice none 0 0 := by simp [hx] at hv; exact hv.symm
    rw [this]; rfl
end Go.Proofs.Ytaoibakbnimnkaa
