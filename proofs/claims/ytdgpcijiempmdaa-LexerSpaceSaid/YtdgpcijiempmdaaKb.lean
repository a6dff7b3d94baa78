/- How a slice of bytes reads. -/
import Derived.Test.YtdgpcijiempmdaaK14
import Derived.Laws.BytesArg
namespace Go.Proofs.Ytdgpcijiempmdaa
open Go.RowKit LxM

/-- Every element is a byte. -/
def Bys (xs : List Nat) : Prop := ∀ x ∈ xs, x < 256
/-- The slice value v holds in w the bytes xs. -/
def Reads (w : World) (v : Value) (xs : List Nat) : Prop :=
  ∃ (ao : Option Addr) (n c : Nat), v = .slice ao n c ∧ xs.length = n ∧ n ≤ c ∧ c ≤ maxLen ∧ Bys xs ∧
    (0 < n → ∃ b off, ao = some ⟨b, off, none⟩ ∧ ∀ i, i < n → w.cell? ⟨b, off + i, none⟩ = some (.int .u8 (xs.getD i 0 : Nat)))
theorem Reads.mono {w w' : World} {v : Value} {xs : List Nat} (h : Reads w v xs) (hb : Below w.heap.size w w') : Reads w' v xs := by
  obtain ⟨ao, n, c, rfl, hl, hc, hm, hx, hr⟩ := h
  refine ⟨ao, n, c, rfl, hl, hc, hm, hx, fun hn => ?_⟩
  obtain ⟨b, off, e, g⟩ := hr hn
  refine ⟨b, off, e, fun i hi => ?_⟩
  have h1 := g i hi
  exact (hb.cell (p := ⟨b, off + i, none⟩) (World.block_lt_of_cell? w _ h1)).trans h1
theorem Reads.nil (w : World) : Reads w (.slice none 0 0) [] :=
  ⟨none, 0, 0, rfl, rfl, Nat.le_refl _, (by unfold maxLen; omega), (fun _ h => by cases h), (fun h => by omega)⟩
theorem Reads.isSlice {w : World} {v : Value} {xs : List Nat} (h : Reads w v xs) : ∃ ao c, v = .slice ao xs.length c ∧ xs.length ≤ maxLen := by
  obtain ⟨ao, n, c, rfl, rfl, hc, hm, -⟩ := h
  exact ⟨ao, c, rfl, by omega⟩
theorem Reads.cell {w : World} {ao : Option Addr} {n c : Nat} {xs : List Nat} (h : Reads w (.slice ao n c) xs) {i : Nat} (hi : i < n) : ∃ b off, ao = some ⟨b, off, none⟩ ∧ w.cell? ⟨b, off + i, none⟩ = some (.int .u8 (xs.getD i 0 : Nat)) ∧ xs.getD i 0 < 256 ∧ b < w.heap.size := by
  obtain ⟨ao', n', c', e, hl, hc, hm, hx, hr⟩ := h
  cases e
  obtain ⟨b, off, e, g⟩ := hr (by omega)
  have h1 := g i hi
  refine ⟨b, off, e, h1, ?_, World.block_lt_of_cell? w _ h1⟩
  have : i < xs.length := by omega
  rw [show xs.getD i 0 = xs[i] by simp [List.getD, this]]
  exact hx _ (List.getElem_mem this)
end Go.Proofs.Ytdgpcijiempmdaa
