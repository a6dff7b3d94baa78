/- slices.Clone of arcs; regions that draw their order, by what holds on the way. -/
import Derived.Test.YtaoibakbnimnkaaYf
import Derived.Test.YtaoibakbnimnkaaNv
import Derived.Test.YtaoibakbnimnkaaP9
namespace Go
section
variable {P : Program} {ops : Array Oper} {Q : Exit → Act → World → Prop} {md : Region.Mode} {S C : World → Prop} {st : Nat}
/-- Whatever the order is: I holds on the way, D behind it. -/
theorem wpAnyT_inv {I : Array Bool → Act → World → Prop} {left : Array Bool → Nat} {k : Nat}
    (hstep : ∀ listed a w, I listed a w → 0 < left listed → Region.ready md ops listed ≠ [] ∧ ∀ i ∈ Region.ready md ops listed, left (listed.setIfInBounds i true) < left listed ∧ wpOp P ops Q i (fun a' w' => (S w' ∧ ((listed.setIfInBounds i true).getD st true = false → C w')) ∧ I (listed.setIfInBounds i true) a' w') a w)
    (hend : ∀ fuel listed a w, I listed a w → left listed = 0 → k ≤ fuel → wpAnyT P md ops Q S C st fuel listed a w) :
    ∀ (n fuel : Nat) (listed : Array Bool) (a : Act) (w : World), left listed = n → n + k ≤ fuel → I listed a w → wpAnyT P md ops Q S C st fuel listed a w := by
  intro n
  induction n using Nat.strongRecOn with
  | _ n ih =>
    intro fuel listed a w hn hf hI
    by_cases h0 : left listed = 0
    · exact hend fuel listed a w hI h0 (by omega)
    · obtain ⟨hne, hs⟩ := hstep listed a w hI (by omega)
      obtain ⟨fuel, rfl⟩ : ∃ f, fuel = f + 1 := ⟨fuel - 1, by omega⟩
      refine ⟨fun h => absurd h hne, fun i hi => ?_⟩
      obtain ⟨hl, ho⟩ := hs i hi
      refine wpOp_mono (fun a' w' h => ⟨h.1, ?_⟩) ho
      exact ih _ (by omega) fuel _ a' w' rfl (by omega) h.2
end
end Go
namespace Go.Proofs.Ytaoibakbnimnkaa
open Go.RowKit NetM

theorem cellsA_lenY (A : List Arc) : (cellsA A).length = A.length * 4 := by
  induction A with
  | nil => rfl
  | cons a A ih => have e : cellsA (a :: A) = [iv a.1, iv a.2.1, iv a.2.2.1, iv a.2.2.2] ++ cellsA A := rfl
                   rw [e, List.length_append, ih, List.length_cons]; simp; omega
theorem cellsA_oneY (A : List Arc) : ∀ u ∈ cellsA A, u.oneCell' = true := by
  intro u hu
  obtain ⟨a, -, h⟩ := List.mem_flatMap.1 hu
  simp only [List.mem_cons, List.not_mem_nil, or_false] at h
  rcases h with rfl | rfl | rfl | rfl <;> rfl
theorem cellsA_appendY (A B : List Arc) : cellsA (A ++ B) = cellsA A ++ cellsA B := by simp [cellsA]
/-- The cells of a slice of arcs, as a source of append. -/
theorem arcs_newsY {w : World} {a : Option Addr} {l c : Nat} {A : List Arc} (h : ArcsA w (.slice a l c) A) : ∀ ad, a = some ad → ∀ j u, (cellsA A)[j]? = some u → w.cell? (ad.add j) = some u := by
  intro ad e j u hu
  have hl := h.len
  have hj : j < A.length * 4 := by rw [← cellsA_lenY]; exact (List.getElem?_eq_some_iff.1 hu).1
  obtain ⟨b, off, e2, k0, k1, k2, k3⟩ := h.cell (k := j / 4) (by omega)
  rw [e] at e2
  obtain rfl := Option.some.inj e2
  obtain ⟨g0, g1, g2, g3⟩ := cellsA_get A (j / 4) (by omega)
  have ea : (⟨b, off, none⟩ : Addr).add j = ⟨b, off + j, none⟩ := by unfold Addr.add; split <;> simp_all
  rw [ea]
  have hm : j = j / 4 * 4 + j % 4 := by omega
  have hr : j % 4 = 0 ∨ j % 4 = 1 ∨ j % 4 = 2 ∨ j % 4 = 3 := by omega
  rcases hr with hr | hr | hr | hr
  · have e3 : j = j / 4 * 4 := by omega
    rw [e3] at hu; rw [g0] at hu; obtain rfl := Option.some.inj hu
    rw [show off + j = off + j / 4 * 4 by omega]; exact k0
  · have e3 : j = j / 4 * 4 + 1 := by omega
    rw [e3] at hu; rw [g1] at hu; obtain rfl := Option.some.inj hu
    rw [show off + j = off + j / 4 * 4 + 1 by omega]; exact k1
  · have e3 : j = j / 4 * 4 + 2 := by omega
    rw [e3] at hu; rw [g2] at hu; obtain rfl := Option.some.inj hu
    rw [show off + j = off + j / 4 * 4 + 2 by omega]; exact k2
  · have e3 : j = j / 4 * 4 + 3 := by omega
    rw [e3] at hu; rw [g3] at hu; obtain rfl := Option.some.inj hu
    rw [show off + j = off + j / 4 * 4 + 3 by omega]; exact k3
/-- An empty row that a literal laid. -/
theorem own_emptyY {w : World} {g base : Nat} (h : w.heap[g]? = some (.cells #[] 35 (0, 0))) (hb : base ≤ g) : w.ownsRow base 35 4 (.slice (some ⟨g, 0, none⟩) 0 0) 0 (cellsA []) :=
  ⟨rfl, .inr ⟨g, 0, #[], rfl, hb, h, Nat.le_refl _, Nat.zero_le _, rfl, rfl⟩⟩
/-- append(row, arcs...), nothing among them, too. -/
theorem arcs_appendY (w : World) {v : Value} {base : Nat} {A B : List Arc} (hown : w.ownsRow base 35 4 v A.length (cellsA A)) {so : Option Addr} {c : Nat} (hs : ArcsA w (.slice so B.length c) B) (hso : so ≠ none) (hl : A.length + B.length ≤ 5000) (hbase : base ≤ w.heap.size) :
    ∃ a' c' w', (Builtin.append_ #[22, 22] 22 #[v, .slice so B.length c]).run Try.prog w = .ok (.slice a' (A ++ B).length c') w' ∧ w'.ownsRow base 35 4 (.slice a' (A ++ B).length c') (A ++ B).length (cellsA (A ++ B)) ∧
      w.grownBy w' v.ownBlock ∧ ((Value.slice a' (A ++ B).length c').ownBlock = v.ownBlock ∨ (Value.slice a' (A ++ B).length c').ownBlock = some w.heap.size) := by
  obtain ⟨i2, hi2, hq0, hq1, hq2⟩ := info_parts infoArc
  cases so with
  | none => exact absurd rfl hso
  | some ad =>
    obtain ⟨v', w', hr, r2, r3, -, r5⟩ := run_append_own_at (P := Try.prog) w base 22 22 35 i2 (.agg #[.int .i64 0, .int .i64 0, .int .i64 0, .int .i64 0]) 4 32 Try.underlying22 hi2 hq0 hq1 hq2 rfl (by decide) v A.length (cellsA A) hown ad B.length c (cellsA B) (cellsA_lenY B) (arcs_newsY hs ad rfl) (cellsA_oneY B) (by unfold maxLen; omega) (by omega) hbase
    rw [← cellsA_appendY, ← List.length_append] at r2
    obtain ⟨a', c', rfl⟩ := own_slice r2
    exact ⟨a', c', w', hr, r2, r3, r5⟩

def CloneAP (w : World) (A : List Arc) (e : Ending) (w' : World) : Prop := ∃ v', e = .returned v' ∧ w'.ownsRow w.heap.size 35 4 v' A.length (cellsA A) ∧ Add w w'
set_option maxRecDepth 100000 in
theorem cloneA_any {w : World} {va : Value} {A : List Arc} (h : ArcsA w va A) (hA : A.length ≤ 2500) : Calls Try.prog 48 #[va] w (CloneAP w A) := by
  obtain ⟨a, m, c, rfl, hl, hc, hm, hr⟩ := id h
  cases a with
  | none =>
    have h0 : A = [] := by
      refine List.eq_nil_of_length_eq_zero ?_
      rw [hl]
      rcases Nat.eq_zero_or_pos m with q | q
      · exact q
      · obtain ⟨b, off, e, -⟩ := hr 0 q
        cases e
    have HF : Hid (CloneAP w A (.returned (.slice none 0 0)) w) := Lib.hid ⟨_, rfl, by rw [h0]; exact World.ownsRow_nil _ _ _ _, add_refl _⟩
    have hnil := Lib.run_eql_slice_nil (P := Try.prog) w 22 35 none m c 0 0 Try.underlying22
    clear h hr hl hc hm h0
    go_enter Try.func48, Try.ntmps48
    go_wp2_with fail
    go_ret
    exact HF.out
  | some ad =>
    have hD := add_new w (.cells #[] 35)
    have hE := own_emptyY (base := w.heap.size) (heap_alloc_new w (.cells #[] 35)) (Nat.le_refl _)
    have hs := h.add hD
    rw [← hl] at hs
    obtain ⟨a', c', w', r1, r2, r3, r4⟩ := arcs_appendY (A := []) _ hE hs (by simp) (by simp; omega) hD.size
    rw [List.nil_append] at r1 r2 r4
    have hob : ∀ k, (Value.slice (some ⟨w.heap.size, 0, none⟩) 0 0).ownBlock = some k → w.heap.size ≤ k := fun k e => by have := Option.some.inj (show some w.heap.size = some k from e); omega
    have HF : Hid (CloneAP w A (.returned (.slice a' A.length c')) w') := Lib.hid ⟨_, rfl, r2, Below.grown hD r3 (by simp) hob⟩
    rw [hl] at r1 HF
    have HR := Lib.hid r1
    have hnil := Lib.run_eql_slice_nil (P := Try.prog) w 22 35 (some ad) m c 0 0 Try.underlying22
    clear h hr hl hc hm r1 r2 r3 r4 hs hE hob hD
    go_enter Try.func48, Try.ntmps48
    go_wp2_with (at_builtin; refine Lib.wpList_append_run _ rfl _ _ _ _ rfl _ _ rfl rfl _ _ HR.out ?_)
    go_ret
    exact HF.out
end Go.Proofs.Ytaoibakbnimnkaa
