/- What the cards of layer 5 share: how arguments open, a world for the witness, Go's table. -/
import Derived.Test.YtbeoeackahmpbaaGreatDoorCards
import Derived.Test.YtbeoeackahmpbaaGreatDoorTie
import Derived.Test.YtbeoeackahmpbaaGreatDoorJV9
import Derived.Lib.SmallJoins
import Derived.WalkKit
import Derived.ProofKit
import Derived.OpenShut
import Derived.Deep.DeepHandedRow
import Derived.Lib.LaidTab
namespace Go.Proofs.YtbeoeackahmpbaaGreatDoor
open Go.ChangeShapes Go.WideShapes Go.ChangeAt Go.RowKit NatM

theorem own : ownKnob Tryz.prog.godebug = none := by kernel_rfl
theorem laidOut : laidOutB Tryz.prog = true := by kernel_rfl

theorem wf_nat {z : Int} (h : (Lit.int .u32 z).wf = true) : 0 ≤ z ∧ z < 4294967296 := by
  have h1 : IntKind.u32.min = 0 := rfl
  have h2 : IntKind.u32.max = 4294967295 := rfl
  simp only [Lit.wf, Bool.and_eq_true, decide_eq_true_eq] at h
  omega
theorem cells44 : Tryz.prog.cellsOf 93 = 1 := by kernel_rfl
set_option maxRecDepth 100000 in
/-- A field of type api.Nat reads as a list of limbs. -/
theorem open_nat_field {H : Type} {enc : TypeId × Value → H} {W : World} {v : Value} {n : Nat} {y : DataW H × List MemPlace} (hf : DataW.trod enc Tryz.prog W 0 (fun _ => true) true n 35 [v] = some y) :
    ∃ a l c xs, v = .slice a l c ∧ Reads W (.slice a l c) xs := by
  rcases open_ints Tryz.underlying35 Tryz.underlying93 cells44 hf with ⟨hcs, _⟩ | ⟨a, len, cap, zs, hcs, _, hl, hm, hz, _, hcell, hwz⟩
  · simp only [List.cons.injEq, and_true] at hcs
    subst hcs
    exact ⟨none, 0, 0, [], rfl, Reads.nil W⟩
  · simp only [List.cons.injEq, and_true] at hcs
    subst hcs
    simp only [if_true] at hz
    refine ⟨some a, len, cap, (zs.take len).map Int.toNat, rfl, some a, len, cap, rfl, by simp; omega, hl, hm, ?_, ?_⟩
    · intro x hx
      obtain ⟨z, hz', rfl⟩ := List.mem_map.1 hx
      have := wf_nat (hwz z (List.mem_of_mem_take hz'))
      omega
    · intro hn
      obtain ⟨b, off, rfl, hc⟩ := ints_at hcell (by omega)
      refine ⟨b, off, rfl, fun i hi => ?_⟩
      rw [hc i (by omega)]
      have hi' : i < zs.length := by omega
      have hw := wf_nat (hwz (zs.getD i 0) (by simp [List.getD, hi']))
      have : ((zs.take len).map Int.toNat).getD i 0 = (zs.getD i 0).toNat := by
        simp [List.getD, hi, hi']
      rw [this, Int.toNat_of_nonneg hw.1]
set_option maxRecDepth 100000 in
/-- An argument of type api.Frac. -/
theorem open_frac {H : Type} {enc : TypeId × Value → H} {W : World} {base : Nat} {v : Value} {d : DataW H} {ps : List MemPlace} (hok : Value.okWide Tryz.prog W .any base 37 v) (h : DataW.Trod enc Tryz.prog W 0 (fun _ => true) true 37 v d ps) :
    ∃ b xs ys, FracI W v b xs ys := by
  obtain ⟨v0, v1, v2, y0, y1, y2, n, rfl, -, -, h0, h1, h2⟩ := Go.Joins.open_agg3 Tryz.underlying37 (by kernel_rfl) (show Tryz.prog.cellsOf 37 = 3 by kernel_rfl) hok h
  obtain ⟨b, e0, -⟩ := DataW.trod_bool Tryz.underlying4 h0
  simp only [List.cons.injEq, and_true] at e0
  subst e0
  obtain ⟨a1, l1, c1, xs, rfl, r1⟩ := open_nat_field h1
  obtain ⟨a2, l2, c2, ys, rfl, r2⟩ := open_nat_field h2
  exact ⟨b, xs, ys, a1, l1, c1, a2, l2, c2, rfl, r1, r2⟩
/-- An argument reads behind the call as it read before. -/
theorem kept_arg {H : Type} {enc : TypeId × Value → H} {W W' : World} {t : TypeId} {v : Value} {d : DataW H} {ps : List MemPlace} (hr : Tryz.prog.readableRec t = true) (ht : t < Tryz.prog.types.size)
    (h : DataW.Trod enc Tryz.prog W 0 (fun _ => true) true t v d ps) (hb : Add W W') (hlt : ∀ x ∈ ps, x.block < W.heap.size) : DataW.Trod enc Tryz.prog W' 0 (fun b => decide (b < W.heap.size)) true t v d ps :=
  Below.trod laidOut hr ht h hb hlt
theorem readFrac : Tryz.prog.readableRec 37 = true := by kernel_rfl
theorem ltFrac : 37 < Tryz.prog.types.size := of_decide_eq_true (by kernel_rfl)

/-- A world for the witness: the settled one, with Go's tables in their blocks. -/
def layRow (l : List Nat) : Obj → Obj
  | .cells _ t frozen => .cells (l.map fun n => Value.int .u8 (n : Nat)).toArray t frozen
  | o => o
noncomputable def laidWorld (os : Os) : World :=
  { World.holding Tryz.prog os ⟨#[], #[], []⟩ with heap := (World.holding Tryz.prog os ⟨#[], #[], []⟩).heap.modify 0 (layRow Lib.deBruijn32tab) }
theorem laid_met (os : Os) (args : Array Value) : laidMet Tryz.prog [("math/bits.deBruijn32tab", Rows.laid_math_bits_deBruijn32tab)] ((laidWorld os).forCall (fun _ _ => 0) ⟨#[], args, []⟩).memory :=
  laidMet_of_run' 8 (by kernel_rfl) (by kernel_rfl)

theorem tab_global : Tryz.prog.globalNamed "math/bits.deBruijn32tab" = some 0 := by kernel_rfl
/-- The row's condition lays Go's table. -/
theorem tab_of_laid {W : World} (h : laidMet Tryz.prog [("math/bits.deBruijn32tab", Rows.laid_math_bits_deBruijn32tab)] W) : Tab W := by
  have ht := Lib.tabIs_of_head (zs := Lib.deBruijn32tab.map fun n : Nat => (n : Int)) (k := .u8) tab_global (show (Tryz.prog.globals[0]?).map (·.type) = some 122 by kernel_rfl) Tryz.underlying122 Tryz.underlying5 (by kernel_rfl) (by kernel_rfl) h
  have hc : ∀ j, j < 32 → W.cell? ⟨0, j, none⟩ = some (.int .u8 (Lib.deBruijn32tab.getD j 0 : Nat)) := by
    intro j hj
    have hl : Lib.deBruijn32tab.length = 32 := rfl
    rw [ht.cell tab_global j (by simpa [hl] using hj)]
    have hj' : j < Lib.deBruijn32tab.length := by omega
    simp [List.getD, hj']
  exact ⟨World.block_lt_of_cell? W _ (hc 0 (by decide)), hc⟩
theorem int_bounds {z : Int} (h : (Lit.int .i64 z).wf = true) : -9223372036854775808 ≤ z ∧ z ≤ 9223372036854775807 := by
  have h1 : IntKind.i64.min = -9223372036854775808 := rfl
  have h2 : IntKind.i64.max = 9223372036854775807 := rfl
  simp only [Lit.wf, Bool.and_eq_true, decide_eq_true_eq] at h
  omega
theorem wf_i8 {z : Int} (h : (Lit.int .i8 z).wf = true) : -128 ≤ z ∧ z ≤ 127 := by
  have h1 : IntKind.i8.min = -128 := rfl
  have h2 : IntKind.i8.max = 127 := rfl
  simp only [Lit.wf, Bool.and_eq_true, decide_eq_true_eq] at h
  omega
theorem cells_i8 : Tryz.prog.cellsOf 57 = 1 := by kernel_rfl
set_option maxRecDepth 100000 in
/-- An argument of type []int8. -/
theorem open_i8s {H : Type} {enc : TypeId × Value → H} {W : World} {base : Nat} {v : Value} {d : DataW H} {ps : List MemPlace} (hok : Value.okWide Tryz.prog W .any base 48 v) (h : DataW.Trod enc Tryz.prog W 0 (fun _ => true) true 48 v d ps) :
    ∃ n L, Ri8 W v n L := by
  obtain ⟨fuel, hf⟩ := h
  obtain ⟨a0, len0, cap0, rfl⟩ := okWide_slice Tryz.underlying48 hok
  rcases open_ints Tryz.underlying48 Tryz.underlying57 cells_i8 hf with ⟨hcs, _⟩ | ⟨a, len, cap, zs, hcs, _, hl, hm, hz, _, hcell, hwz⟩
  · simp [Value.cells] at hcs
    obtain ⟨rfl, rfl, rfl⟩ := hcs
    exact ⟨0, fun _ => 0, none, 0, rfl, by omega, fun h => by omega⟩
  · simp [Value.cells] at hcs
    obtain ⟨rfl, rfl, rfl⟩ := hcs
    simp only [if_true] at hz
    refine ⟨len0, fun i => zs.getD i 0, some a, cap0, rfl, by unfold maxLen at hm; omega, fun hn => ?_⟩
    obtain ⟨b, off, rfl, hc⟩ := ints_at hcell (by omega)
    refine ⟨b, off, rfl, fun i hi => ⟨hc i (by omega), ?_⟩⟩
    have hi' : i < zs.length := by omega
    exact wf_i8 (hwz (zs.getD i 0) (by simp [List.getD, hi']))
theorem readI8s : Tryz.prog.readableRec 48 = true := by kernel_rfl
theorem ltI8s : 48 < Tryz.prog.types.size := of_decide_eq_true (by kernel_rfl)
theorem u8_natL {z : Int} (h : (Lit.int .u8 z).wf = true) : ∃ n : Nat, n < 256 ∧ z = (n : Int) := by
  have h1 : IntKind.u8.min = 0 := rfl
  have h2 : IntKind.u8.max = 255 := rfl
  simp only [Lit.wf, Bool.and_eq_true, decide_eq_true_eq] at h
  exact ⟨z.toNat, by omega, by omega⟩
end Go.Proofs.YtbeoeackahmpbaaGreatDoor
