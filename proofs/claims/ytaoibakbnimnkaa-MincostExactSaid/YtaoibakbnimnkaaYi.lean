/- Package mincost: cheapest: the state of its first loop. -/
import Derived.Test.YtaoibakbnimnkaaYh
namespace Go.Proofs.Ytaoibakbnimnkaa
open Go.RowKit NetM

theorem CBox.set1 {w : World} {gr : Nat} {va sv fv pv xv tv : Value} (h : CBox w gr va sv fv pv xv tv) (x : Value) : CBox (w.setCell ⟨gr, 1, none⟩ x) gr va x fv pv xv tv := by
  unfold CBox
  rw [heap_setCell_same w gr 1 _ _ _ h]; rfl
theorem CBox.free {w : World} {gr : Nat} {va sv fv pv xv tv : Value} (h : CBox w gr va sv fv pv xv tv) (i : Nat) : w.frozen? ⟨gr, i, none⟩ = false := frozen_of_row w gr i _ _ h
/-- An owned row of another type than the row that was appended to. -/
theorem own_keep {W w6 : World} {b b' s s' n n' : Nat} {T T' : TypeId} {v u : Value} {xs ys : List Value} (h : W.ownsRow b T s v n xs) (hown : W.ownsRow b' T' s' u n' ys) (hg : W.grownBy w6 u.ownBlock) (hT : T ≠ T') : w6.ownsRow b T s v n xs := by
  refine h.kept hg ?_
  cases ho : v.ownBlock with
  | none => exact .inl rfl
  | some g =>
    right
    intro e
    obtain ⟨-, c1, p1⟩ := own_ty h g ho
    obtain ⟨-, c2, p2⟩ := own_ty hown g e.symm
    exact ty_ne p1 p2 hT rfl
theorem own_set {W : World} {b s n g i : Nat} {T T' : TypeId} {v x : Value} {xs : List Value} {cur : Array Value} {f : Nat × Nat} (h : W.ownsRow b T s v n xs) (hg : W.heap[g]? = some (.cells cur T' f)) (hT : T ≠ T') : (W.setCell ⟨g, i, none⟩ x).ownsRow b T s v n xs := by
  refine h.kept (grown_set W g i x) ?_
  cases ho : v.ownBlock with
  | none => exact .inl rfl
  | some k =>
    right
    intro e
    obtain rfl := Option.some.inj e
    obtain ⟨-, c1, p1⟩ := own_ty h k ho
    exact ty_ne p1 hg hT rfl
theorem BC.add {w0 w w' : World} {A : List Arc} {base N gr gf gp gx gt k : Nat} {va sv : Value} {R : Nat → List Nat} (h : BC w0 w base A N gr gf gp gx gt k va sv R) (hb : Add w w') : BC w0 w' base A N gr gf gp gx gt k va sv R := by
  obtain ⟨h1, h2, h3, h4, h5, h6, h7, h8, h9, h10, h11⟩ := h
  have hg := grownA_of hb
  exact ⟨h1.kept hg (by simp), h2.kept hg (by cases hv : va.ownBlock <;> simp), h3.kept hg (by cases hv : sv.ownBlock <;> simp), h4.add hb, Blk.add h5 hb, Blk.add h6 hb, Blk.add h7 hb, h8, Add.trans h9 hb, Nat.le_trans h10 hb.size, h11⟩
theorem BC.steps {w0 W w6 : World} {A : List Arc} {base N gr gf gp gx gt k g6 cap6 : Nat} {va sv : Value} {R : Nat → List Nat} {x y z u : Int} (h : BC w0 W base A N gr gf gp gx gt k va sv R) (hx : at' A k = (x, y, z, u))
    (hown6 : w6.ownsRow base 76 3 (.slice (some ⟨g6, 0, none⟩) (2 * k + 2) cap6) (2 * k + 2) (cellsC A (2 * k) ++ [.int .i64 y, .int .i64 0, .int .i64 u, .int .i64 x, .int .i64 0, .int .i64 (-u)])) (hg : W.grownBy w6 sv.ownBlock) :
    BC w0 (w6.setCell ⟨gr, 1, none⟩ (.slice (some ⟨g6, 0, none⟩) (2 * k + 2) cap6)) base A N gr gf gp gx gt (k + 1) va (.slice (some ⟨g6, 0, none⟩) (2 * k + 2) cap6) R := by
  obtain ⟨h1, h2, h3, h4, h5, h6, h7, h8, h9, h10, h11, h12, h13, h14, h15⟩ := h
  have r6 : CBox w6 gr va sv _ _ _ _ := kept_ty h1 h3 hg (by decide)
  have p6 : IBlk w6 gp _ := kept_ty h5 h3 hg (by decide)
  have x6 : IBlk w6 gx _ := kept_ty h6 h3 hg (by decide)
  have t6 : BBlk w6 gt _ := kept_ty h7 h3 hg (by decide)
  have a6 := own_keep h2 h3 hg (by decide)
  obtain ⟨-, cs, q⟩ := own_ty hown6 g6 rfl
  have hgs := grown_set w6 gr 1 (.slice (some ⟨g6, 0, none⟩) (2 * k + 2) cap6)
  obtain ⟨cf, hcf, -⟩ := id h4
  have f6 := kept_ty hcf h3 hg (by decide)
  have b6 : RowsB w6 base gf gp N R := h4.kept hg (fun k' e => by
    obtain ⟨-, cur', q'⟩ := own_ty h3 k' e
    exact ⟨ty_ne q' hcf (by decide), fun cur f hq => absurd rfl (ty_ne q' hq (by decide))⟩)
  refine ⟨r6.set1 _, own_set a6 r6 (by decide), ?_, ?_, Blk.other p6 (ty_ne p6 r6 (by decide)) _ _, Blk.other x6 (ty_ne x6 r6 (by decide)) _ _, Blk.other t6 (ty_ne t6 r6 (by decide)) _ _, h8, ?_, ?_, h11, h12, h13, h14, h15⟩
  · have := own_set (i := 1) (x := .slice (some ⟨g6, 0, none⟩) (2 * k + 2) cap6) hown6 r6 (by decide)
    rw [show 2 * (k + 1) = 2 * k + 2 by omega, cellsC_two A hx]
    exact this
  · exact b6.kept hgs (fun k' e => by
      obtain rfl := Option.some.inj e
      exact ⟨ty_ne r6 f6 (by decide), fun cur f hq => absurd rfl (ty_ne r6 hq (by decide))⟩)
  · exact add_setLow (Below.grown h9 hg h9.size (fun k' e => by have := (own_ty h3 k' e).1; omega)) h14 _ _
  · have := hg.size
    simp; omega
theorem BC.rows {w0 W w6 : World} {A : List Arc} {base N gr gf gp gx gt k g6 cap6 x j rc : Nat} {ra : Option Addr} {va sv : Value} {R : Nat → List Nat} (h : BC w0 W base A N gr gf gp gx gt k va sv R) (hx : x < N) (hc : W.cell? ⟨gf, x, none⟩ = some (.slice ra (R x).length rc))
    (hown6 : w6.ownsRow base 3 1 (.slice (some ⟨g6, 0, none⟩) ((R x).length + 1) cap6) ((R x).length + 1) ((R x).map natv ++ [natv j])) (hg : W.grownBy w6 (Value.slice ra (R x).length rc).ownBlock)
    (hat : (Value.slice ra (R x).length rc).ownBlock = some g6 ∨ g6 = W.heap.size) :
    BC w0 (w6.setCell ⟨gf, x, none⟩ (.slice (some ⟨g6, 0, none⟩) ((R x).length + 1) cap6)) base A N gr gf gp gx gt k va sv (fun v => if v = x then R x ++ [j] else R v) := by
  obtain ⟨h1, h2, h3, h4, h5, h6, h7, h8, h9, h10, h11, h12, h13, h14, h15, h16⟩ := h
  obtain ⟨a', c', q1, q2, q3, -⟩ := h4.get hx
  rw [hc] at q1
  simp only [Option.some.injEq, Value.slice.injEq, true_and] at q1
  obtain ⟨rfl, rfl⟩ := q1
  have r6 : CBox w6 gr va sv _ _ _ _ := kept_ty h1 q2 hg (by decide)
  have hlow : ∀ g, g < base → some g ≠ (Value.slice ra (R x).length rc).ownBlock := fun g hgb e => by
    have := (own_ty q2 g e.symm).1
    omega
  have p6 : IBlk w6 gp _ := Blk.kept h5 hg (hlow _ h11)
  have x6 : IBlk w6 gx _ := Blk.kept h6 hg (hlow _ h12)
  have t6 : BBlk w6 gt _ := kept_ty h7 q2 hg (by decide)
  obtain ⟨cf, hcf, -⟩ := id h4
  have f6 := kept_ty hcf q2 hg (by decide)
  have hgs := grown_set w6 gf x (.slice (some ⟨g6, 0, none⟩) ((R x).length + 1) cap6)
  refine ⟨r6.kept hgs (fun e => ty_ne f6 r6 (by decide) (Option.some.inj e)), own_set (own_keep h2 q2 hg (by decide)) f6 (by decide), own_set (own_keep h3 q2 hg (by decide)) f6 (by decide), h4.push hx hc hown6 hg hat (by omega),
    Blk.other p6 (ty_ne p6 f6 (by decide)) _ _, Blk.other x6 (ty_ne x6 f6 (by decide)) _ _, Blk.other t6 (ty_ne t6 f6 (by decide)) _ _, h8, ?_, ?_, h11, h12, h13, h14, h15, h16⟩
  · exact add_setLow (Below.grown h9 hg h9.size (fun k' e => by have := (own_ty q2 k' e).1; omega)) h15 _ _
  · have := hg.size
    simp; omega
theorem arcs_cell {w : World} {base ga n cap : Nat} {A : List Arc} (h : w.ownsRow base 35 4 (.slice (some ⟨ga, 0, none⟩) n cap) n (cellsA A)) (hn : n = A.length) {i : Nat} (hi : i < A.length) :
    w.cell? ⟨ga, i * 4, none⟩ = some (.int .i64 (at' A i).1) ∧ w.cell? ⟨ga, i * 4 + 1, none⟩ = some (.int .i64 (at' A i).2.1) ∧ w.cell? ⟨ga, i * 4 + 2, none⟩ = some (.int .i64 (at' A i).2.2.1) ∧ w.cell? ⟨ga, i * 4 + 3, none⟩ = some (.int .i64 (at' A i).2.2.2) := by
  obtain ⟨g0, g1, g2, g3⟩ := cellsA_get A i hi
  exact ⟨(h.cellAt _ (by omega)).trans g0, (h.cellAt _ (by omega)).trans g1, (h.cellAt _ (by omega)).trans g2, (h.cellAt _ (by omega)).trans g3⟩
theorem BC.done {w0 w : World} {A : List Arc} {base N gr gf gp gx gt : Nat} {va sv : Value} (h : BC w0 w base A N gr gf gp gx gt A.length va sv (fromR A)) (h0 : 0 < A.length) :
    ∃ ga gs, CB w0 w A A N gr ga gs gf gp gx gt va sv (fun _ => 0) (List.replicate N 0) (List.replicate N 0) (List.replicate N false) := by
  obtain ⟨h1, h2, h3, h4, h5, h6, h7, h8, h9, h10, h11, h12, h13, h14, h15, h16, h17, h18⟩ := h
  obtain ⟨ga, cap, cur, rfl, a1, a2, a3, a4, a5, a6⟩ : ∃ ga cap cur, va = .slice (some ⟨ga, 0, none⟩) A.length cap ∧ w0.heap.size ≤ ga ∧ w.heap[ga]? = some (.cells cur 35 (0, 0)) ∧ A.length ≤ cap ∧ cap ≤ maxLen ∧ cur.size = cap * 4 ∧ cur.toList.take (A.length * 4) = cellsA A := by
    rcases h2.2 with ⟨-, e⟩ | q
    · omega
    · exact q
  obtain ⟨gs, caps, curs, rfl, s1, s2, s3, s4, s5, s6⟩ : ∃ gs caps curs, sv = .slice (some ⟨gs, 0, none⟩) (2 * A.length) caps ∧ base ≤ gs ∧ w.heap[gs]? = some (.cells curs 76 (0, 0)) ∧ 2 * A.length ≤ caps ∧ caps ≤ maxLen ∧ curs.size = caps * 3 ∧ curs.toList.take (2 * A.length * 3) = cellsC A (2 * A.length) := by
    rcases h3.2 with ⟨-, e⟩ | q
    · omega
    · exact q
  refine ⟨ga, gs, h1, ⟨cap, rfl, a3, a4, cur, a2, fun i hi => ?_⟩, ⟨caps, rfl, s3, s4, curs, s2, fun j hj => ?_⟩, ?_, h5, h6, h7, by simp, by simp, by simp, h8, h9, h14, by omega, h16, h17, h18⟩
  · obtain ⟨g0, g1, g2, g3⟩ := cellsA_get A i hi
    rw [← a6, List.getElem?_take, if_pos (by omega)] at g0 g1 g2 g3
    exact ⟨by simpa [iv] using g0, by simpa [iv] using g1, by simpa [iv] using g2, by simpa [iv] using g3⟩
  · obtain ⟨g0, g1, g2⟩ := cellsC_get A hj
    rw [← s6, List.getElem?_take, if_pos (by omega)] at g0 g1 g2
    exact ⟨by simpa [iv] using g0, by simpa [iv] using g1, by simpa [iv] using g2⟩
  · obtain ⟨cf, k1, k2, k3, -⟩ := h4
    refine ⟨cf, k1, by omega, fun x hx => ?_⟩
    obtain ⟨v, q1, q2, q3⟩ := k3 x hx
    refine ⟨v, q1, ?_⟩
    rcases q2.2 with ⟨rfl, h0⟩ | ⟨g, cap', cur', rfl, hb, hg, hn, hm, hs, ht⟩
    · rw [List.eq_nil_of_length_eq_zero h0]; exact RowR.nil _ _
    · refine ⟨some ⟨g, 0, none⟩, cap', rfl, hn, hm, fun hn0 => ⟨g, 0, cur', rfl, ?_, hg, fun i hi => ?_⟩⟩
      · rintro (rfl | rfl) <;> omega
      · have e : (cur'.toList.take ((fromR A x).length * 1))[i]? = ((fromR A x).map natv)[i]? := by rw [ht]
        rw [List.getElem?_take, if_pos (by omega)] at e
        rw [Nat.zero_add, ← Array.getElem?_toList, e]
        simp [List.getD, hi]
end Go.Proofs.Ytaoibakbnimnkaa
