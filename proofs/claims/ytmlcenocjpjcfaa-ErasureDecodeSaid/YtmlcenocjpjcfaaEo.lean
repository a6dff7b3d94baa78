/- An argument that is a list of fragments, opened. -/
import Derived.Test.YtmlcenocjpjcfaaGo
import Derived.Test.YtmlcenocjpjcfaaE4
import Derived.Deep.Slices
import Derived.Deep.Strs
namespace Go.Proofs.Ytmlcenocjpjcfaa
open Go.ChangeShapes Go.WideShapes Go.ChangeAt Go.RowKit GfM Go.Deep

theorem cellsFrag : Try.prog.cellsOf 34 = 2 := by kernel_rfl
theorem open_bytes_field {H : Type} {enc : TypeId × Value → H} {W : World} {v : Value} {n : Nat} {y : DataW H × List MemPlace} (hf : DataW.trod enc Try.prog W 0 (fun _ => true) true n 32 [v] = some y) :
    ∃ a l c xs, v = .slice a l c ∧ Reads W (.slice a l c) xs := by
  rcases open_ints Try.underlying32 Try.underlying5 cellsU8 hf with ⟨hcs, _⟩ | ⟨a, len, cap, zs, hcs, _, hl, hm, hz, _, hcell, hwz⟩
  · simp only [List.cons.injEq, and_true] at hcs
    subst hcs
    exact ⟨none, 0, 0, [], rfl, Reads.nil W⟩
  · simp only [List.cons.injEq, and_true] at hcs
    subst hcs
    simp only [if_true] at hz
    exact ⟨some a, len, cap, _, rfl, reads_of hl hm hz hwz (fun e => by cases e) (fun a' e c hc => by cases e; exact hcell c (by omega))⟩
set_option maxRecDepth 100000 in
theorem frag_cells {H : Type} {enc : TypeId × Value → H} {W : World} {n : Nat} {cs : List Value} {y : DataW H × List MemPlace} (h : DataW.trod enc Try.prog W 0 (fun _ => true) true n 34 cs = some y) (hl : cs.length = 2) :
    ∃ z a l c xs, cs = [.int .i64 z, .slice a l c] ∧ Reads W (.slice a l c) xs := by
  match cs, hl with
  | [v0, v1], _ =>
    obtain ⟨y0, y1, n', -, -, h0, h1⟩ := trod_struct2 Try.underlying34 h
    have g0 : DataW.trod enc Try.prog W 0 (fun _ => true) true n' 3 [v0] = some y0 := h0
    have g1 : DataW.trod enc Try.prog W 0 (fun _ => true) true n' 32 [v1] = some y1 := h1
    obtain ⟨z, e0, -⟩ := DataW.trod_int Try.underlying3 g0
    simp only [List.cons.injEq, and_true] at e0
    subst e0
    obtain ⟨a1, l1, c1, xs, rfl, r1⟩ := open_bytes_field g1
    exact ⟨z, a1, l1, c1, xs, rfl, r1⟩
set_option maxRecDepth 100000 in
theorem open_frags {H : Type} {enc : TypeId × Value → H} {W : World} {base : Nat} {v : Value} {d : DataW H} {ps : List MemPlace} (hok : Value.okWide Try.prog W .any base 31 v) (h : DataW.Trod enc Try.prog W 0 (fun _ => true) true 31 v d ps) :
    ∃ ix vs rs, FragsB W v ix vs rs := by
  obtain ⟨fuel, hf⟩ := h
  obtain ⟨a0, len0, cap0, rfl⟩ := okWide_slice Try.underlying31 hok
  rcases open_slice Try.underlying31 hf with ⟨hcs, -⟩ | ⟨a, len, cap, m, n, D, Pl, hcs, -, hl, hm, hmm, -, hx⟩
  · simp [Value.cells] at hcs
    obtain ⟨rfl, rfl, rfl⟩ := hcs
    exact ⟨[], [], [], none, 0, 0, rfl, rfl, rfl, rfl, Nat.le_refl _, Nat.zero_le _, fun h => by omega, fun i hi => by omega⟩
  · simp [Value.cells] at hcs
    obtain ⟨rfl, rfl, rfl⟩ := hcs
    simp only [if_true] at hmm
    rw [cellsFrag] at hx
    have hspot : 0 < len0 → a.spot = none := by
      intro h0
      obtain ⟨cs', h1, h2⟩ := hx 0 (by omega)
      obtain ⟨-, h3, h4⟩ := World.cells?_some h1
      obtain ⟨z, a1, l1, c1, xs, rfl, hF⟩ := frag_cells h2 h3
      have q0 := h4 0 (by decide)
      have := World.cell?_spot (q0.trans rfl)
      simpa [Addr.add] using this
    have key : ∀ i, i < len0 → ∃ x : Int × Value × List Nat, ∃ b off, a = ⟨b, off, none⟩ ∧ W.cell? ⟨b, off + i * 2, none⟩ = some (.int .i64 x.1) ∧ W.cell? ⟨b, off + i * 2 + 1, none⟩ = some x.2.1 ∧ Reads W x.2.1 x.2.2 := by
      intro i hi
      obtain ⟨cs', h1, h2⟩ := hx i (by omega)
      obtain ⟨-, h3, h4⟩ := World.cells?_some h1
      obtain ⟨z, a1, l1, c1, xs, rfl, hF⟩ := frag_cells h2 h3
      have hsp := hspot (by omega)
      obtain ⟨b, off, spot⟩ := a
      have hsp2 : spot = none := hsp
      subst hsp2
      have q0 := h4 0 (by decide)
      have q1 := h4 1 (by decide)
      rw [Go.WideShapes.add_plain, Go.WideShapes.add_plain] at q0 q1
      exact ⟨(z, .slice a1 l1 c1, xs), b, off, rfl, q0, q1, hF⟩
    haveI : Inhabited (Int × Value × List Nat) := ⟨(0, .slice none 0 0, [])⟩
    obtain ⟨f, hf2⟩ := choose_lt key
    refine ⟨(List.range len0).map fun i => (f i).1, (List.range len0).map fun i => (f i).2.1, (List.range len0).map fun i => (f i).2.2, some a, len0, cap0, rfl, by simp, by simp, by simp, hl, hm, fun h0 => ?_, fun i hi => ?_⟩
    · obtain ⟨b, off, rfl, -⟩ := hf2 0 h0
      refine ⟨b, off, rfl, fun i hi => ?_⟩
      obtain ⟨b', off', e, q0, q1, -⟩ := hf2 i hi
      cases e
      simp only [List.getD, List.getElem?_map, List.getElem?_range hi, Option.map_some, Option.getD_some]
      exact ⟨q0, q1⟩
    · obtain ⟨b', off', e, q0, q1, hF⟩ := hf2 i hi
      simp only [List.getD, List.getElem?_map, List.getElem?_range hi, Option.map_some, Option.getD_some]
      exact hF
theorem readFrags : Try.prog.readableRec 31 = true := by kernel_rfl
theorem ltFrags : 31 < Try.prog.types.size := of_decide_eq_true (by kernel_rfl)
end Go.Proofs.Ytmlcenocjpjcfaa
