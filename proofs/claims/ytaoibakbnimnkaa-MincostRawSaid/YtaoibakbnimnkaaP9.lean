/- Package maxflow: slices.Clone of the lists of steps. -/
import Derived.Test.YtaoibakbnimnkaaP7
import Derived.Maps.AppendAt
namespace Go.Proofs.Ytaoibakbnimnkaa
open Go.RowKit NetM

theorem infoInts : (Try.prog.info? 25).map (fun i => (i.zero, i.size, i.bytes)) = some (some (.slice none 0 0), 1, 24) := by kernel_rfl
/-- What Clone returns: the same rows in a list of its own. -/
def CloneP (w : World) (Z : Nat → Prop) (N : Nat) (R : Nat → List Nat) (e : Ending) (w' : World) : Prop :=
  ∃ g c, e = .returned (.slice (some ⟨g, 0, none⟩) N c) ∧ HdB w' g Z N R ∧ Add w w' ∧ w.heap.size ≤ g ∧ N ≤ c ∧ c ≤ maxLen
theorem HdB.vals {w : World} {g N : Nat} {Z : Nat → Prop} {R : Nat → List Nat} (h : HdB w g Z N R) : ∃ vs : List Value, vs.length = N ∧ (∀ j u, vs[j]? = some u → w.cell? ((⟨g, 0, none⟩ : Addr).add j) = some u) ∧ (∀ u ∈ vs, u.oneCell' = true) ∧ ∀ x, x < N → ∃ v, vs[x]? = some v ∧ RowR w Z v (R x) := by
  obtain ⟨cur, h1, h2, h3⟩ := h
  have hl : (cur.toList.take N).length = N := by rw [List.length_take]; simp; omega
  refine ⟨cur.toList.take N, hl, fun j u hu => ?_, fun u hu => ?_, fun x hx => ?_⟩
  · have hj : j < N := by rw [← hl]; exact (List.getElem?_eq_some_iff.1 hu).1
    have e : (⟨g, 0, none⟩ : Addr).add j = ⟨g, j, none⟩ := by unfold Addr.add; split <;> simp_all
    rw [e, cell_of_row w g j cur 25 (0, 0) h1]
    rw [List.getElem?_take, if_pos hj] at hu
    simpa using hu
  · obtain ⟨j, hj, e⟩ := List.mem_iff_getElem.1 hu
    rw [hl] at hj
    obtain ⟨v, k1, ao, c, rfl, -⟩ := h3 j hj
    have : (cur.toList.take N)[j]? = some (.slice ao (R j).length c) := by
      rw [List.getElem?_take, if_pos hj]; simpa using k1
    rw [List.getElem?_eq_getElem (by omega)] at this
    rw [← e, Option.some.inj this]; rfl
  · obtain ⟨v, k1, k2⟩ := h3 x hx
    exact ⟨v, by rw [List.getElem?_take, if_pos hx]; simpa using k1, k2⟩
theorem clone_run {w : World} {gf N : Nat} {Z : Nat → Prop} {R : Nat → List Nat} (h : HdB w gf Z N R) (h0 : 0 < N) (hN : N ≤ 700) (cf : Nat) :
    ∃ g c w', (Builtin.append_ #[58, 58] 58 #[.slice (some ⟨w.heap.size, 0, none⟩) 0 0, .slice (some ⟨gf, 0, none⟩) N cf]).run Try.prog (w.alloc (.cells #[] 25)) = .ok (.slice (some ⟨g, 0, none⟩) N c) w' ∧
      HdB w' g Z N R ∧ Add w w' ∧ w.heap.size ≤ g ∧ N ≤ c ∧ c ≤ maxLen := by
  obtain ⟨i2, hi2, hq0, hq1, hq2⟩ := info_parts infoInts
  have hD := add_new w (.cells #[] 25)
  obtain ⟨vs, k1, k2, k3, k4⟩ := (h.kept (grownA_of hD) (far_none _ _ _)).vals
  have hE : (w.alloc (.cells #[] 25)).ownsRow w.heap.size 25 1 (.slice (some ⟨w.heap.size, 0, none⟩) 0 0) 0 [] :=
    ⟨rfl, .inr ⟨w.heap.size, 0, #[], rfl, Nat.le_refl _, heap_alloc_new w _, Nat.le_refl _, Nat.zero_le _, rfl, rfl⟩⟩
  obtain ⟨v', w', r1, r2, r3, -, r5⟩ := run_append_own_at (P := Try.prog) (w.alloc (.cells #[] 25)) w.heap.size 58 58 25 i2 (.slice none 0 0) 1 24 Try.underlying58 hi2 hq0 hq1 hq2 rfl (by decide) _ 0 [] hE ⟨gf, 0, none⟩ N cf vs (by omega) k2 k3 (by unfold maxLen; omega) (by omega) (by simp)
  rw [List.nil_append, Nat.zero_add] at r2
  obtain ⟨g, c, rfl, -, -⟩ := r2.form h0
  obtain ⟨cap, cur, e, j1, j2, j3, j4, j5, j6⟩ : ∃ cap cur, c = cap ∧ w.heap.size ≤ g ∧ w'.heap[g]? = some (.cells cur 25 (0, 0)) ∧ N ≤ cap ∧ cap ≤ maxLen ∧ cur.size = cap * 1 ∧ cur.toList.take (N * 1) = vs := by
    rcases r2.2 with ⟨e, -⟩ | ⟨g', cap, cur, e, q⟩
    · simp at e
    · simp only [Value.slice.injEq, Option.some.injEq, Addr.mk.injEq, and_true, true_and] at e
      obtain ⟨rfl, rfl⟩ := e
      exact ⟨_, cur, rfl, q⟩
  subst e
  have hob : ∀ k, (Value.slice (some ⟨w.heap.size, 0, none⟩) 0 0).ownBlock = some k → w.heap.size ≤ k := fun k e => by have := Option.some.inj (show some w.heap.size = some k from e); omega
  have t7 : Add w w' := Below.grown hD r3 (by simp) hob
  refine ⟨g, c, w', r1, ⟨cur, j2, by omega, fun x hx => ?_⟩, t7, j1, j3, j4⟩
  obtain ⟨v, q1, q2⟩ := k4 x hx
  refine ⟨v, ?_, q2.kept r3 (gf := g + w.heap.size + 1) ?_⟩
  · rw [← j6, List.getElem?_take, if_pos (by omega)] at q1
    simpa using q1
  · have := far_ty (w := w.alloc (.cells #[] 25)) (g := w.heap.size) (gf := g + w.heap.size + 1) (Z := Z) (heap_alloc_new w _) (by decide) (by omega)
    exact this
set_option maxRecDepth 100000 in
theorem clone_any {w : World} {gf N : Nat} {Z : Nat → Prop} {R : Nat → List Nat} (h : HdB w gf Z N R) (h0 : 0 < N) (hN : N ≤ 700) :
    Calls Try.prog 51 #[.slice (some ⟨gf, 0, none⟩) N N] w (CloneP w Z N R) := by
  obtain ⟨g, c, w', hr, h1, h2, h3, h4, h5⟩ := clone_run h h0 hN N
  have HF : Hid (CloneP w Z N R (.returned (.slice (some ⟨g, 0, none⟩) N c)) w') := Lib.hid ⟨g, c, rfl, h1, h2, h3, h4, h5⟩
  have HR := Lib.hid hr
  have hnil := Lib.run_eql_slice_nil (P := Try.prog) w 58 25 (some ⟨gf, 0, none⟩) N N 0 0 Try.underlying58
  clear hr h h1 h2 h3 h4 h5
  go_enter Try.func51, Try.ntmps51
  go_wp2_with (at_builtin; refine Lib.wpList_append_run _ rfl _ _ _ _ rfl _ _ rfl rfl _ _ HR.out ?_)
  go_ret
  exact HF.out
end Go.Proofs.Ytaoibakbnimnkaa
