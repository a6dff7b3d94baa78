/- Arguments that are matrices and rows of fractions, opened. -/
import Derived.Test.YtbeoeackahmpbaaGreatDoorCl
import Derived.Test.YtbeoeackahmpbaaGreatDoorT7
import Derived.Deep.Slices
import Derived.Deep.Strs
namespace Go.Proofs.YtbeoeackahmpbaaGreatDoor
open Go.ChangeShapes Go.WideShapes Go.ChangeAt Go.RowKit NatM Go.Joins Go.Deep

theorem cellsFrac : Tryz.prog.cellsOf 37 = 3 := by kernel_rfl
theorem cellsFracL : Tryz.prog.cellsOf 23 = 1 := by kernel_rfl
set_option maxRecDepth 100000 in
theorem frac_cells {H : Type} {enc : TypeId × Value → H} {W : World} {n : Nat} {cs : List Value} {y : DataW H × List MemPlace} (h : DataW.trod enc Tryz.prog W 0 (fun _ => true) true n 37 cs = some y) (hl : cs.length = 3) :
    ∃ s an m cn ad d cd xs ys, cs = [.bool s, .slice an m cn, .slice ad d cd] ∧ FracI W (.agg #[.bool s, .slice an m cn, .slice ad d cd]) s xs ys := by
  match cs, hl with
  | [v0, v1, v2], _ =>
    obtain ⟨y0, y1, y2, n', -, -, h0, h1, h2⟩ := trod_struct3 Tryz.underlying37 h
    have g0 : DataW.trod enc Tryz.prog W 0 (fun _ => true) true n' 4 [v0] = some y0 := h0
    have g1 : DataW.trod enc Tryz.prog W 0 (fun _ => true) true n' 35 [v1] = some y1 := h1
    have g2 : DataW.trod enc Tryz.prog W 0 (fun _ => true) true n' 35 [v2] = some y2 := h2
    obtain ⟨b, e0, -⟩ := DataW.trod_bool Tryz.underlying4 g0
    simp only [List.cons.injEq, and_true] at e0
    subst e0
    obtain ⟨a1, l1, c1, xs, rfl, r1⟩ := open_nat_field g1
    obtain ⟨a2, l2, c2, ys, rfl, r2⟩ := open_nat_field g2
    exact ⟨b, a1, l1, c1, a2, l2, c2, xs, ys, rfl, a1, l1, c1, a2, l2, c2, rfl, r1, r2⟩
set_option maxRecDepth 100000 in
theorem open_frow {H : Type} {enc : TypeId × Value → H} {W : World} {v : Value} {fuel : Nat} {y : DataW H × List MemPlace} (hf : DataW.trod enc Tryz.prog W 0 (fun _ => true) true fuel 23 [v] = some y) :
    ∃ n x, RowI W v n x := by
  rcases open_slice Tryz.underlying23 hf with ⟨hcs, -⟩ | ⟨a, len, cap, m, n, D, Pl, hcs, -, hl, hm, hmm, -, hx⟩
  · simp only [List.cons.injEq, and_true] at hcs
    subst hcs
    exact ⟨0, fun _ => (false, [], []), none, 0, rfl, Nat.le_refl _, Nat.zero_le _, fun h => by omega⟩
  · simp only [List.cons.injEq, and_true] at hcs
    subst hcs
    simp only [if_true] at hmm
    rw [cellsFrac] at hx
    have hspot : 0 < len → a.spot = none := by
      intro h0
      obtain ⟨cs', h1, h2⟩ := hx 0 (by omega)
      obtain ⟨-, h3, h4⟩ := World.cells?_some h1
      obtain ⟨s, an, m', cn, ad, d, cd, xs, ys, rfl, hF⟩ := frac_cells h2 h3
      have q0 := h4 0 (by decide)
      have := World.cell?_spot (q0.trans rfl)
      simpa [Addr.add] using this
    have key : ∀ i, i < len → ∃ x : FrI, ∃ b off s an m cn ad d cd, a = ⟨b, off, none⟩ ∧ W.cell? ⟨b, off + i * 3, none⟩ = some (.bool s) ∧ W.cell? ⟨b, off + i * 3 + 1, none⟩ = some (.slice an m cn) ∧ W.cell? ⟨b, off + i * 3 + 2, none⟩ = some (.slice ad d cd) ∧
        FracI W (.agg #[.bool s, .slice an m cn, .slice ad d cd]) x.1 x.2.1 x.2.2 := by
      intro i hi
      obtain ⟨cs', h1, h2⟩ := hx i (by omega)
      obtain ⟨-, h3, h4⟩ := World.cells?_some h1
      obtain ⟨s, an, m', cn, ad, d, cd, xs, ys, rfl, hF⟩ := frac_cells h2 h3
      have hsp := hspot (by omega)
      obtain ⟨b, off, spot⟩ := a
      have hsp2 : spot = none := hsp
      subst hsp2
      have q0 := h4 0 (by decide)
      have q1 := h4 1 (by decide)
      have q2 := h4 2 (by decide)
      rw [Go.WideShapes.add_plain, Go.WideShapes.add_plain] at q0 q1 q2
      exact ⟨(s, xs, ys), b, off, s, an, m', cn, ad, d, cd, rfl, q0, q1, q2, hF⟩
    obtain ⟨f, hf2⟩ := choose_lt key
    refine ⟨len, f, some a, cap, rfl, hl, hm, fun h0 => ?_⟩
    obtain ⟨b, off, -, -, -, -, -, -, -, rfl, -⟩ := hf2 0 h0
    refine ⟨b, off, rfl, fun i hi => ?_⟩
    obtain ⟨b', off', s, an, m', cn, ad, d, cd, e, q0, q1, q2, hF⟩ := hf2 i hi
    cases e
    exact ⟨s, an, m', cn, ad, d, cd, q0, q1, q2, hF⟩
set_option maxRecDepth 100000 in
theorem open_fmat {H : Type} {enc : TypeId × Value → H} {W : World} {v : Value} {fuel : Nat} {y : DataW H × List MemPlace} (hf : DataW.trod enc Tryz.prog W 0 (fun _ => true) true fuel 22 [v] = some y) :
    ∃ n m X, MatI W v n m X := by
  rcases open_slice Tryz.underlying22 hf with ⟨hcs, -⟩ | ⟨a, len, cap, m, n, D, Pl, hcs, -, hl, hm, hmm, -, hx⟩
  · simp only [List.cons.injEq, and_true] at hcs
    subst hcs
    exact ⟨0, fun _ => 0, fun _ _ => (false, [], []), none, 0, rfl, Nat.le_refl _, Nat.zero_le _, fun h => by omega⟩
  · simp only [List.cons.injEq, and_true] at hcs
    subst hcs
    simp only [if_true] at hmm
    rw [cellsFracL] at hx
    have one : ∀ cs : List Value, cs.length = 1 → ∃ u, cs = [u] := fun cs h => List.length_eq_one_iff.1 h
    have hspot : 0 < len → a.spot = none := by
      intro h0
      obtain ⟨cs', h1, h2⟩ := hx 0 (by omega)
      obtain ⟨-, h3, h4⟩ := World.cells?_some h1
      obtain ⟨u, rfl⟩ := one cs' h3
      have q0 := h4 0 (by decide)
      have := World.cell?_spot (q0.trans rfl)
      simpa [Addr.add] using this
    have key : ∀ i, i < len → ∃ x : Nat × (Nat → FrI), ∃ b off u, a = ⟨b, off, none⟩ ∧ W.cell? ⟨b, off + i, none⟩ = some u ∧ RowI W u x.1 x.2 := by
      intro i hi
      obtain ⟨cs', h1, h2⟩ := hx i (by omega)
      obtain ⟨-, h3, h4⟩ := World.cells?_some h1
      obtain ⟨u, rfl⟩ := one cs' h3
      obtain ⟨n', x, hR⟩ := open_frow h2
      have hsp := hspot (by omega)
      obtain ⟨b, off, spot⟩ := a
      have hsp2 : spot = none := hsp
      subst hsp2
      have q0 := h4 0 (by decide)
      rw [Go.WideShapes.add_plain, Go.WideShapes.add_plain] at q0
      rw [Nat.mul_one] at q0
      exact ⟨(n', x), b, off, u, rfl, q0, hR⟩
    haveI : Inhabited (Nat × (Nat → FrI)) := ⟨(0, fun _ => (false, [], []))⟩
    obtain ⟨f, hf2⟩ := choose_lt key
    refine ⟨len, fun i => (f i).1, fun i => (f i).2, some a, cap, rfl, hl, hm, fun h0 => ?_⟩
    obtain ⟨b, off, -, rfl, -⟩ := hf2 0 h0
    refine ⟨b, off, rfl, fun i hi => ?_⟩
    obtain ⟨b', off', u, e, q0, hR⟩ := hf2 i hi
    cases e
    exact ⟨u, q0, hR⟩
set_option maxRecDepth 100000 in
theorem open_row {H : Type} {enc : TypeId × Value → H} {W : World} {base : Nat} {v : Value} {d : DataW H} {ps : List MemPlace} (hok : Value.okWide Tryz.prog W .any base 23 v) (h : DataW.Trod enc Tryz.prog W 0 (fun _ => true) true 23 v d ps) :
    ∃ n x, RowI W v n x := by
  obtain ⟨fuel, hf⟩ := h
  obtain ⟨a0, len0, cap0, rfl⟩ := okWide_slice Tryz.underlying23 hok
  exact open_frow hf
set_option maxRecDepth 100000 in
theorem open_mat {H : Type} {enc : TypeId × Value → H} {W : World} {base : Nat} {v : Value} {d : DataW H} {ps : List MemPlace} (hok : Value.okWide Tryz.prog W .any base 22 v) (h : DataW.Trod enc Tryz.prog W 0 (fun _ => true) true 22 v d ps) :
    ∃ n m X, MatI W v n m X := by
  obtain ⟨fuel, hf⟩ := h
  obtain ⟨a0, len0, cap0, rfl⟩ := okWide_slice Tryz.underlying22 hok
  exact open_fmat hf
theorem readRow : Tryz.prog.readableRec 23 = true := by kernel_rfl
theorem ltRow : 23 < Tryz.prog.types.size := of_decide_eq_true (by kernel_rfl)
theorem readMat : Tryz.prog.readableRec 22 = true := by kernel_rfl
theorem ltMat : 22 < Tryz.prog.types.size := of_decide_eq_true (by kernel_rfl)
end Go.Proofs.YtbeoeackahmpbaaGreatDoor
