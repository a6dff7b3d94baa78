/- The law MaxflowGrows: rows of arcs that are copied, and one of which is raised. -/
import Derived.Test.YtdihmbbkmbnomaaN14
namespace Go.Proofs.Ytdihmbbkmbnomaa
open Go.RowKit NetM

theorem cellsA_len (A : List Arc) : (cellsA A).length = A.length * 4 := by
  induction A with
  | nil => rfl
  | cons a A ih => have e : cellsA (a :: A) = [iv a.1, iv a.2.1, iv a.2.2.1, iv a.2.2.2] ++ cellsA A := rfl
                   rw [e, List.length_append, ih, List.length_cons]; simp; omega
theorem cellsA_one (A : List Arc) : ∀ u ∈ cellsA A, u.oneCell' = true := by
  intro u hu
  obtain ⟨a, -, h⟩ := List.mem_flatMap.1 hu
  simp only [List.mem_cons, List.not_mem_nil, or_false] at h
  rcases h with rfl | rfl | rfl | rfl <;> rfl
theorem cellsA_append (A B : List Arc) : cellsA (A ++ B) = cellsA A ++ cellsA B := by simp [cellsA]
theorem cellsA_set : ∀ (A : List Arc) (j : Nat) (z : Int), j < A.length → (cellsA A).set (j * 4 + 2) (iv z) = cellsA (A.set j ((at' A j).1, (at' A j).2.1, z, (at' A j).2.2.2))
  | [], j, z, h => by simp at h
  | a :: A, 0, z, _ => rfl
  | a :: A, j + 1, z, h => by
    have ih := cellsA_set A j z (by simpa using h)
    have e : ∀ (x : Arc) (L : List Arc), cellsA (x :: L) = [iv x.1, iv x.2.1, iv x.2.2.1, iv x.2.2.2] ++ cellsA L := fun _ _ => rfl
    have e2 : at' (a :: A) (j + 1) = at' A j := by simp [at']
    rw [List.set_cons_succ, e, e, e2, ← ih, List.set_append_right _ _ (by simp; omega)]
    simp only [List.length_cons, List.length_nil]
    rw [show (j + 1) * 4 + 2 - (0 + 1 + 1 + 1 + 1) = j * 4 + 2 by omega]
/-- The cells of a slice of arcs, as a source of append. -/
theorem arcs_news {w : World} {a : Option Addr} {l c : Nat} {A : List Arc} (h : ArcsA w (.slice a l c) A) : ∀ ad, a = some ad → ∀ j u, (cellsA A)[j]? = some u → w.cell? (ad.add j) = some u := by
  intro ad e j u hu
  have hl := h.len
  have hj : j < A.length * 4 := by rw [← cellsA_len]; exact (List.getElem?_eq_some_iff.1 hu).1
  obtain ⟨b, off, e2, k0, k1, k2, k3⟩ := h.cell (k := j / 4) (by omega)
  rw [e] at e2
  obtain rfl := Option.some.inj e2
  obtain ⟨g0, g1, g2, g3⟩ := cellsA_get A (j / 4) (by omega)
  have ea : (⟨b, off, none⟩ : Addr).add j = ⟨b, off + j, none⟩ := by unfold Addr.add; split <;> simp_all
  rw [ea]
  have hm : j = j / 4 * 4 + j % 4 := by omega
  have hr : j % 4 = 0 ∨ j % 4 = 1 ∨ j % 4 = 2 ∨ j % 4 = 3 := by omega
  rcases hr with hr | hr | hr | hr
  · have e3 : j = j / 4 * 4 := by omega
    rw [e3] at hu; rw [g0] at hu; obtain rfl := Option.some.inj hu
    rw [show off + j = off + j / 4 * 4 by omega]; exact k0
  · have e3 : j = j / 4 * 4 + 1 := by omega
    rw [e3] at hu; rw [g1] at hu; obtain rfl := Option.some.inj hu
    rw [show off + j = off + j / 4 * 4 + 1 by omega]; exact k1
  · have e3 : j = j / 4 * 4 + 2 := by omega
    rw [e3] at hu; rw [g2] at hu; obtain rfl := Option.some.inj hu
    rw [show off + j = off + j / 4 * 4 + 2 by omega]; exact k2
  · have e3 : j = j / 4 * 4 + 3 := by omega
    rw [e3] at hu; rw [g3] at hu; obtain rfl := Option.some.inj hu
    rw [show off + j = off + j / 4 * 4 + 3 by omega]; exact k3
/-- An empty row that a literal laid. -/
theorem own_empty {w : World} {g base : Nat} (h : w.heap[g]? = some (.cells #[] 44 (0, 0))) (hb : base ≤ g) : w.ownsRow base 44 4 (.slice (some ⟨g, 0, none⟩) 0 0) 0 (cellsA []) :=
  ⟨rfl, .inr ⟨g, 0, #[], rfl, hb, h, Nat.le_refl _, Nat.zero_le _, rfl, rfl⟩⟩
/-- A slice of arcs, cut behind and in front. -/
theorem ArcsA.cutR {w : World} {a : Option Addr} {l c j : Nat} {A : List Arc} (h : ArcsA w (.slice a l c) A) (hj : j ≤ l) : ArcsA w (.slice a j c) (A.take j) := by
  obtain ⟨a', l', c', e, h1, h2, h3, h4⟩ := h
  simp only [Value.slice.injEq] at e
  obtain ⟨rfl, rfl, rfl⟩ := e
  refine ⟨a, j, c, rfl, by rw [List.length_take]; omega, by omega, h3, fun i hi => ?_⟩
  have e : at' (A.take j) i = at' A i := by unfold at'; simp [List.getD, hi]
  rw [e]; exact h4 i (by omega)
theorem ArcsA.cutL {w : World} {b off l c j : Nat} {A : List Arc} (h : ArcsA w (.slice (some ⟨b, off, none⟩) l c) A) (hj : j ≤ l) {so : Option Addr} (hso : so = if c = j then some ⟨b, off, none⟩ else some ⟨b, off + j * 4, none⟩) : ArcsA w (.slice so (l - j) (c - j)) (A.drop j) := by
  obtain ⟨a', l', c', e, h1, h2, h3, h4⟩ := h
  simp only [Value.slice.injEq] at e
  obtain ⟨rfl, rfl, rfl⟩ := e
  refine ⟨so, l - j, c - j, rfl, by rw [List.length_drop]; omega, by omega, by omega, fun i hi => ?_⟩
  rw [if_neg (by omega)] at hso
  obtain ⟨b', off', e, k⟩ := h4 (j + i) (by omega)
  simp only [Option.some.injEq, Addr.mk.injEq, and_true] at e
  obtain ⟨rfl, rfl⟩ := e
  refine ⟨b, off + j * 4, hso, ?_⟩
  have e : at' (A.drop j) i = at' A (j + i) := by unfold at'; simp [List.getD, List.getElem?_drop]
  rw [e, show off + j * 4 + i * 4 = off + (j + i) * 4 by omega]; exact k
/-- append(row, arcs...), nothing among them, too. -/
theorem arcs_append (w : World) {v : Value} {base : Nat} {A B : List Arc} (hown : w.ownsRow base 44 4 v A.length (cellsA A)) {so : Option Addr} {c : Nat} (hs : ArcsA w (.slice so B.length c) B) (hso : so ≠ none) (hl : A.length + B.length ≤ 1000) (hbase : base ≤ w.heap.size) :
    ∃ a' c' w', (Builtin.append_ #[22, 22] 22 #[v, .slice so B.length c]).run Try.prog w = .ok (.slice a' (A ++ B).length c') w' ∧ w'.ownsRow base 44 4 (.slice a' (A ++ B).length c') (A ++ B).length (cellsA (A ++ B)) ∧
      w.grownBy w' v.ownBlock ∧ ((Value.slice a' (A ++ B).length c').ownBlock = v.ownBlock ∨ (Value.slice a' (A ++ B).length c').ownBlock = some w.heap.size) := by
  obtain ⟨i2, hi2, hq0, hq1, hq2⟩ := info_parts infoArc
  cases so with
  | none => exact absurd rfl hso
  | some ad =>
    obtain ⟨v', w', hr, r2, r3, -, r5⟩ := run_append_own_at (P := Try.prog) w base 22 22 44 i2 (.agg #[.int .i64 0, .int .i64 0, .int .i64 0, .int .i64 0]) 4 32 Try.underlying22 hi2 hq0 hq1 hq2 rfl (by decide) v A.length (cellsA A) hown ad B.length c (cellsA B) (cellsA_len B) (arcs_news hs ad rfl) (cellsA_one B) (by unfold maxLen; omega) (by omega) hbase
    rw [← cellsA_append, ← List.length_append] at r2
    obtain ⟨a', c', rfl⟩ := own_slice r2
    exact ⟨a', c', w', hr, r2, r3, r5⟩
end Go.Proofs.Ytdihmbbkmbnomaa
