/- Networks as arguments: how they read, and what stays of it. -/
import Derived.Test.YtdihmbbkmbnomaaU2
import Derived.Test.YtdihmbbkmbnomaaNc
namespace Go.Proofs.Ytdihmbbkmbnomaa
open Go.RowKit NetM

/-- v reads in w as the arcs A. -/
def ArcsA (w : World) (v : Value) (A : List Arc) : Prop :=
  ∃ (a : Option Addr) (m c : Nat), v = .slice a m c ∧ A.length = m ∧ m ≤ c ∧ c ≤ maxLen ∧ ∀ i, i < m → ∃ b off, a = some ⟨b, off, none⟩ ∧
    w.cell? ⟨b, off + i * 4, none⟩ = some (.int .i64 (at' A i).1) ∧ w.cell? ⟨b, off + i * 4 + 1, none⟩ = some (.int .i64 (at' A i).2.1) ∧
    w.cell? ⟨b, off + i * 4 + 2, none⟩ = some (.int .i64 (at' A i).2.2.1) ∧ w.cell? ⟨b, off + i * 4 + 3, none⟩ = some (.int .i64 (at' A i).2.2.2)
/-- v is the network with N nodes from s to t with the arcs A. -/
def NetA (w : World) (v : Value) (N s t : Int) (A : List Arc) : Prop := ∃ va, v = .agg #[.int .i64 N, .int .i64 s, .int .i64 t, va] ∧ ArcsA w va A
theorem ArcsA.below {w w' : World} {b : Nat} {v : Value} {A : List Arc} (h : ArcsA w v A) (hb : Below b w w') (hl : w.heap.size ≤ b) : ArcsA w' v A := by
  obtain ⟨a, m, c, rfl, h1, h2, h3, h4⟩ := h
  refine ⟨a, m, c, rfl, h1, h2, h3, fun i hi => ?_⟩
  obtain ⟨g, off, e, k0, k1, k2, k3⟩ := h4 i hi
  have k := fun (p : Addr) (u : Value) (q : w.cell? p = some u) => (hb.cell (p := p) (Nat.lt_of_lt_of_le (World.block_lt_of_cell? w _ q) hl)).trans q
  exact ⟨g, off, e, k _ _ k0, k _ _ k1, k _ _ k2, k _ _ k3⟩
theorem ArcsA.add {w w' : World} {v : Value} {A : List Arc} (h : ArcsA w v A) (hb : Add w w') : ArcsA w' v A := h.below hb (Nat.le_refl _)
theorem NetA.below {w w' : World} {b : Nat} {v : Value} {N s t : Int} {A : List Arc} (h : NetA w v N s t A) (hb : Below b w w') (hl : w.heap.size ≤ b) : NetA w' v N s t A := by
  obtain ⟨va, rfl, h⟩ := h
  exact ⟨va, rfl, h.below hb hl⟩
theorem NetA.add {w w' : World} {v : Value} {N s t : Int} {A : List Arc} (h : NetA w v N s t A) (hb : Add w w') : NetA w' v N s t A := h.below hb (Nat.le_refl _)
end Go.Proofs.Ytdihmbbkmbnomaa
