/- How an argument of the type []byte opens. -/
import Derived.Test.YtdgpcijiempmdaaKo
import Derived.Test.YtdgpcijiempmdaaKb
import Derived.Deep.Matrix
namespace Go.Proofs.Ytdgpcijiempmdaa
open Go.ChangeShapes Go.WideShapes Go.ChangeAt Go.RowKit Go.Deep LxM

theorem cellsU8 : Try.prog.cellsOf 5 = 1 := by kernel_rfl
theorem wf_byte {z : Int} (h : (Lit.int .u8 z).wf = true) : 0 ≤ z ∧ z < 256 := by
  have h1 : IntKind.u8.min = 0 := rfl
  have h2 : IntKind.u8.max = 255 := rfl
  simp only [Lit.wf, Bool.and_eq_true, decide_eq_true_eq] at h
  omega
theorem reads_of {W : World} {a : Option Addr} {L C : Nat} {zs : List Int} (hl : L ≤ C) (hm : C ≤ maxLen) (hz : zs.length = C) (hw : ∀ n ∈ zs, (Lit.int .u8 n).wf = true) (hn : a = none → C = 0) (hc : ∀ a', a = some a' → ∀ c, c < C → W.cell? (a'.add c) = some (.int .u8 (zs.getD c 0))) :
    Reads W (.slice a L C) ((zs.take L).map Int.toNat) := by
  refine ⟨a, L, C, rfl, by simp; omega, hl, hm, ?_, ?_⟩
  · intro x hx
    obtain ⟨z, hz', rfl⟩ := List.mem_map.1 hx
    have := wf_byte (hw z (List.mem_of_mem_take hz'))
    omega
  · intro hp
    cases a with
    | none => have := hn rfl; omega
    | some a' =>
      obtain ⟨b, off, rfl, hcc⟩ := ints_at (k := .u8) (zs := zs) (fun i hi => hc a' rfl i (by omega)) (by omega)
      refine ⟨b, off, rfl, fun i hi => ?_⟩
      rw [hcc i (by omega)]
      have hi' : i < zs.length := by omega
      have hw' := wf_byte (hw (zs.getD i 0) (by simp [List.getD, hi']))
      have : ((zs.take L).map Int.toNat).getD i 0 = (zs.getD i 0).toNat := by simp [List.getD, hi, hi']
      rw [this, Int.toNat_of_nonneg hw'.1]

set_option maxRecDepth 100000 in
theorem open_bytes {H : Type} {enc : TypeId × Value → H} {W : World} {base : Nat} {v : Value} {d : DataW H} {ps : List MemPlace} (hok : Value.okWide Try.prog W .any base 33 v) (h : DataW.Trod enc Try.prog W 0 (fun _ => true) true 33 v d ps) :
    ∃ xs, Reads W v xs := by
  obtain ⟨fuel, hf⟩ := h
  obtain ⟨a0, len0, cap0, rfl⟩ := okWide_slice Try.underlying33 hok
  rcases open_ints Try.underlying33 Try.underlying5 cellsU8 hf with ⟨hcs, _⟩ | ⟨a, len, cap, zs, hcs, _, hl, hm, hz, _, hcell, hwz⟩
  · simp [Value.cells] at hcs
    obtain ⟨rfl, rfl, rfl⟩ := hcs
    exact ⟨[], Reads.nil W⟩
  · simp [Value.cells] at hcs
    obtain ⟨rfl, rfl, rfl⟩ := hcs
    simp only [if_true] at hz
    exact ⟨_, reads_of hl hm hz hwz (fun e => by cases e) (fun a' e c hc => by cases e; exact hcell c (by omega))⟩

end Go.Proofs.Ytdgpcijiempmdaa
