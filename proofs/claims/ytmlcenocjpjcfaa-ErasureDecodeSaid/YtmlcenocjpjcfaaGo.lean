/- How arguments of the types []byte and [][]byte open, and how they stay. -/
import Derived.Test.YtmlcenocjpjcfaaRows
import Derived.Test.YtmlcenocjpjcfaaG8
import Derived.WalkKit
import Derived.ProofKit
import Derived.OpenShut
import Derived.Deep.Matrix
import Derived.SizedLaws
import Derived.ChangeSame
namespace Go.Proofs.Ytmlcenocjpjcfaa
open Go.ChangeShapes Go.WideShapes Go.ChangeAt Go.RowKit Go.Deep GfM

theorem own : ownKnob Try.prog.godebug = none := by kernel_rfl
theorem laidOut : laidOutB Try.prog = true := by kernel_rfl
theorem cellsU8 : Try.prog.cellsOf 5 = 1 := by kernel_rfl
theorem cellsB : Try.prog.cellsOf 32 = 1 := by kernel_rfl
theorem bytesU8 : Try.prog.bytesOf 5 = 1 := by kernel_rfl

theorem wf_byte {z : Int} (h : (Lit.int .u8 z).wf = true) : 0 ≤ z ∧ z < 256 := by
  have h1 : IntKind.u8.min = 0 := rfl
  have h2 : IntKind.u8.max = 255 := rfl
  simp only [Lit.wf, Bool.and_eq_true, decide_eq_true_eq] at h
  omega
theorem reads_of {W : World} {a : Option Addr} {L C : Nat} {zs : List Int} (hl : L ≤ C) (hm : C ≤ maxLen) (hz : zs.length = C) (hw : ∀ n ∈ zs, (Lit.int .u8 n).wf = true) (hn : a = none → C = 0) (hc : ∀ a', a = some a' → ∀ c, c < C → W.cell? (a'.add c) = some (.int .u8 (zs.getD c 0))) :
    Reads W (.slice a L C) ((zs.take L).map Int.toNat) := by
  refine ⟨a, L, C, rfl, by simp; omega, hl, hm, ?_, ?_⟩
  · intro x hx
    obtain ⟨z, hz', rfl⟩ := List.mem_map.1 hx
    have := wf_byte (hw z (List.mem_of_mem_take hz'))
    omega
  · intro hp
    cases a with
    | none => have := hn rfl; omega
    | some a' =>
      obtain ⟨b, off, rfl, hcc⟩ := ints_at (k := .u8) (zs := zs) (fun i hi => hc a' rfl i (by omega)) (by omega)
      refine ⟨b, off, rfl, fun i hi => ?_⟩
      rw [hcc i (by omega)]
      have hi' : i < zs.length := by omega
      have hw' := wf_byte (hw (zs.getD i 0) (by simp [List.getD, hi']))
      have : ((zs.take L).map Int.toNat).getD i 0 = (zs.getD i 0).toNat := by simp [List.getD, hi, hi']
      rw [this, Int.toNat_of_nonneg hw'.1]

set_option maxRecDepth 100000 in
theorem open_bytes {H : Type} {enc : TypeId × Value → H} {W : World} {base : Nat} {v : Value} {d : DataW H} {ps : List MemPlace} (hok : Value.okWide Try.prog W .any base 32 v) (h : DataW.Trod enc Try.prog W 0 (fun _ => true) true 32 v d ps) :
    ∃ xs, Reads W v xs := by
  obtain ⟨fuel, hf⟩ := h
  obtain ⟨a0, len0, cap0, rfl⟩ := okWide_slice Try.underlying32 hok
  rcases open_ints Try.underlying32 Try.underlying5 cellsU8 hf with ⟨hcs, _⟩ | ⟨a, len, cap, zs, hcs, _, hl, hm, hz, _, hcell, hwz⟩
  · simp [Value.cells] at hcs
    obtain ⟨rfl, rfl, rfl⟩ := hcs
    exact ⟨[], Reads.nil W⟩
  · simp [Value.cells] at hcs
    obtain ⟨rfl, rfl, rfl⟩ := hcs
    simp only [if_true] at hz
    exact ⟨_, reads_of hl hm hz hwz (fun e => by cases e) (fun a' e c hc => by cases e; exact hcell c (by omega))⟩

theorem weights_all {H : Type} {P : Program} {e : TypeId} {ds : List (DataW H)} {d : DataW H} (h : d ∈ ds) {n : Nat} (hn : n ∈ d.weights P e) : n ∈ DataW.weightsAll P e ds := by
  induction ds with
  | nil => cases h
  | cons x xs ih =>
    simp only [DataW.weightsAll, List.mem_append]
    rcases List.mem_cons.1 h with rfl | h
    · exact Or.inl hn
    · exact Or.inr (ih h)

set_option maxRecDepth 100000 in
theorem open_rows {H : Type} {enc : TypeId × Value → H} {W : World} {base : Nat} {v : Value} {d : DataW H} {ps : List MemPlace} (hok : Value.okWide Try.prog W .any base 22 v) (h : DataW.Trod enc Try.prog W 0 (fun _ => true) true 22 v d ps) :
    ∃ vs rs, RowsB W v vs rs ∧ ((∀ n ∈ d.weights Try.prog 22, n ≤ reachBytes) → Reach rs) := by
  obtain ⟨fuel, hf⟩ := h
  obtain ⟨a0, len0, cap0, rfl⟩ := okWide_slice Try.underlying22 hok
  rcases Go.Deep.open_int_rows Try.underlying22 Try.underlying32 Try.underlying5 cellsB cellsU8 hf with ⟨hcs, _⟩ | ⟨a, len, cap, A, L, C, Z, hcs, _, hl, hm, hx, hrow⟩
  · simp [Value.cells] at hcs
    obtain ⟨rfl, rfl, rfl⟩ := hcs
    exact ⟨[], [], ⟨none, 0, 0, rfl, rfl, rfl, Nat.le_refl _, by unfold maxLen; omega, fun h => by omega, fun i hi => by omega⟩, fun _ k => by simp⟩
  · simp [Value.cells] at hcs
    obtain ⟨rfl, rfl, rfl⟩ := hcs
    have hd := congrArg Prod.fst hx
    simp only at hd
    refine ⟨(List.range len0).map fun r => .slice (A r) (L r) (C r), (List.range len0).map fun r => ((Z r).take (L r)).map Int.toNat, ⟨some a, len0, cap0, rfl, by simp, by simp, hl, hm, ?_, ?_⟩, ?_⟩
    · intro hp
      obtain ⟨b, off, spot⟩ := a
      have hspot : spot = none := by simpa [Addr.add] using World.cell?_spot (hrow 0 (by omega)).1
      subst hspot
      refine ⟨b, off, rfl, fun i hi => ?_⟩
      have h1 := (hrow i (by omega)).1
      rw [Addr.add_lit] at h1
      rw [h1]
      simp [List.getD, hi]
    · intro i hi
      obtain ⟨_, r1, r2, r3, r4, r5, r6⟩ := hrow i (by omega)
      have := reads_of (W := W) r1 r2 r3 r4 r5 (fun a' e c hc => (r6 a' e).2 c hc)
      simpa [List.getD, hi] using this
    · intro hw k
      by_cases hk : k < len0
      · obtain ⟨_, r1, r2, r3, r4, r5, r6⟩ := hrow k (by omega)
        have e : ((List.range len0).map fun r => ((Z r).take (L r)).map Int.toNat).getD k [] = ((Z k).take (L k)).map Int.toNat := by simp [List.getD, hk]
        rw [e, List.length_map, List.length_take]
        cases hA : A k with
        | none => have := r5 hA; omega
        | some a' =>
          have hmem : (intRow (H := H) .u8 (A k) (L k) (Z k)) ∈ (List.range len0).map fun r => intRow (H := H) .u8 (A r) (L r) (Z r) := List.mem_map.2 ⟨k, List.mem_range.2 hk, rfl⟩
          have hin : (Z k).length ∈ (intRow (H := H) .u8 (A k) (L k) (Z k)).weights Try.prog 32 := by
            unfold intRow
            rw [hA]
            simp only [DataW.weights, Try.underlying32, bytesU8]
            refine List.mem_cons.2 (Or.inl ?_)
            simp [lits]; omega
          have h2 := hw (Z k).length (by
            rw [hd]
            simp only [DataW.weights, Try.underlying22]
            exact List.mem_cons.2 (Or.inr (List.mem_append.2 (Or.inl (weights_all hmem hin)))))
          have h3 : reachBytes < 140737488355328 := reachBytes_lt
          omega
      · have e : ((List.range len0).map fun r => ((Z r).take (L r)).map Int.toNat).getD k [] = [] := by simp [List.getD, Nat.le_of_not_lt hk]
        rw [e]; simp

/-- An argument reads behind the call as it read before. -/
theorem kept_arg {H : Type} {enc : TypeId × Value → H} {W W' : World} {t : TypeId} {v : Value} {d : DataW H} {ps : List MemPlace} (hr : Try.prog.readableRec t = true) (ht : t < Try.prog.types.size)
    (h : DataW.Trod enc Try.prog W 0 (fun _ => true) true t v d ps) (hb : Add W W') (hlt : ∀ x ∈ ps, x.block < W.heap.size) : DataW.Trod enc Try.prog W' 0 (fun b => decide (b < W.heap.size)) true t v d ps :=
  Below.trod laidOut hr ht h hb hlt
theorem readB : Try.prog.readableRec 32 = true := by kernel_rfl
theorem ltB : 32 < Try.prog.types.size := of_decide_eq_true (by kernel_rfl)
theorem readR : Try.prog.readableRec 22 = true := by kernel_rfl
theorem ltR : 22 < Try.prog.types.size := of_decide_eq_true (by kernel_rfl)
end Go.Proofs.Ytmlcenocjpjcfaa
