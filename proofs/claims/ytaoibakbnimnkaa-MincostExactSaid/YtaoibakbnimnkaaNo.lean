/- How arguments of the types api.Network, []int, []bool and []uint8 open, and how they stay. -/
import Derived.Test.YtaoibakbnimnkaaRows
import Derived.Test.YtaoibakbnimnkaaJN
import Derived.Test.YtaoibakbnimnkaaNt
import Derived.ProofKit
import Derived.OpenShut
import Derived.SizedLaws
import Derived.ChangeSame
import Derived.Deep.Slices
import Derived.Deep.Strs
import Derived.Deep.Grids
import Derived.Lib.SmallJoins
namespace Go.Proofs.Ytaoibakbnimnkaa
open Go.ChangeShapes Go.WideShapes Go.ChangeAt Go.RowKit Go.Deep NetM

theorem own : ownKnob Try.prog.godebug = none := by kernel_rfl
theorem laidOut : laidOutB Try.prog = true := by kernel_rfl
theorem cellsInt : Try.prog.cellsOf 3 = 1 := by kernel_rfl
theorem cellsArc : Try.prog.cellsOf 35 = 4 := by kernel_rfl
theorem cellsNet : Try.prog.cellsOf 24 = 4 := by kernel_rfl
set_option maxRecDepth 100000 in
theorem arc_cells {H : Type} {enc : TypeId × Value → H} {W : World} {n : Nat} {cs : List Value} {y : DataW H × List MemPlace} (h : DataW.trod enc Try.prog W 0 (fun _ => true) true n 35 cs = some y) (hl : cs.length = 4) :
    ∃ a : Arc, cs = [.int .i64 a.1, .int .i64 a.2.1, .int .i64 a.2.2.1, .int .i64 a.2.2.2] := by
  match cs, hl with
  | [v0, v1, v2, v3], _ =>
    obtain ⟨y0, y1, y2, y3, n', -, -, h0, h1, h2, h3⟩ := Go.Joins.trod_struct4 Try.underlying35 h
    have g0 : DataW.trod enc Try.prog W 0 (fun _ => true) true n' 3 [v0] = some y0 := h0
    have g1 : DataW.trod enc Try.prog W 0 (fun _ => true) true n' 3 [v1] = some y1 := h1
    have g2 : DataW.trod enc Try.prog W 0 (fun _ => true) true n' 3 [v2] = some y2 := h2
    have g3 : DataW.trod enc Try.prog W 0 (fun _ => true) true n' 3 [v3] = some y3 := h3
    obtain ⟨x0, e0, -⟩ := DataW.trod_int Try.underlying3 g0
    obtain ⟨x1, e1, -⟩ := DataW.trod_int Try.underlying3 g1
    obtain ⟨x2, e2, -⟩ := DataW.trod_int Try.underlying3 g2
    obtain ⟨x3, e3, -⟩ := DataW.trod_int Try.underlying3 g3
    simp only [List.cons.injEq, and_true] at e0 e1 e2 e3
    subst e0 e1 e2 e3
    exact ⟨(x0, x1, x2, x3), rfl⟩
set_option maxRecDepth 100000 in
theorem open_arcs {H : Type} {enc : TypeId × Value → H} {W : World} {fuel : Nat} {v : Value} {y : DataW H × List MemPlace} (hf : DataW.trod enc Try.prog W 0 (fun _ => true) true fuel 22 [v] = some y) :
    ∃ A : List Arc, ArcsA W v A := by
  rcases open_slice Try.underlying22 hf with ⟨hcs, -⟩ | ⟨a, len0, cap0, m, n, D, Pl, hcs, -, hl, hm, hmm, -, hx⟩
  · simp only [List.cons.injEq, and_true] at hcs
    subst hcs
    exact ⟨[], none, 0, 0, rfl, rfl, Nat.le_refl _, by unfold maxLen; omega, fun i hi => by omega⟩
  · simp only [List.cons.injEq, and_true] at hcs
    subst hcs
    simp only [if_true] at hmm
    rw [cellsArc] at hx
    have hspot : 0 < len0 → a.spot = none := by
      intro h0
      obtain ⟨cs', h1, h2⟩ := hx 0 (by omega)
      obtain ⟨-, h3, h4⟩ := World.cells?_some h1
      obtain ⟨x, rfl⟩ := arc_cells h2 h3
      have q0 := h4 0 (by decide)
      have := World.cell?_spot (q0.trans rfl)
      simpa [Addr.add] using this
    have key : ∀ i, i < len0 → ∃ x : Arc, ∃ b off, a = ⟨b, off, none⟩ ∧ W.cell? ⟨b, off + i * 4, none⟩ = some (.int .i64 x.1) ∧ W.cell? ⟨b, off + i * 4 + 1, none⟩ = some (.int .i64 x.2.1) ∧
        W.cell? ⟨b, off + i * 4 + 2, none⟩ = some (.int .i64 x.2.2.1) ∧ W.cell? ⟨b, off + i * 4 + 3, none⟩ = some (.int .i64 x.2.2.2) := by
      intro i hi
      obtain ⟨cs', h1, h2⟩ := hx i (by omega)
      obtain ⟨-, h3, h4⟩ := World.cells?_some h1
      obtain ⟨x, rfl⟩ := arc_cells h2 h3
      have hsp := hspot (by omega)
      obtain ⟨b, off, spot⟩ := a
      have hsp2 : spot = none := hsp
      subst hsp2
      have q0 := h4 0 (by decide)
      have q1 := h4 1 (by decide)
      have q2 := h4 2 (by decide)
      have q3 := h4 3 (by decide)
      rw [Go.WideShapes.add_plain, Go.WideShapes.add_plain] at q0 q1 q2 q3
      exact ⟨x, b, off, rfl, q0, q1, q2, q3⟩
    haveI : Inhabited Arc := ⟨(0, 0, 0, 0)⟩
    obtain ⟨f, hf2⟩ := choose_lt key
    refine ⟨(List.range len0).map f, some a, len0, cap0, rfl, by simp, hl, hm, fun i hi => ?_⟩
    obtain ⟨b, off, rfl, q⟩ := hf2 i hi
    refine ⟨b, off, rfl, ?_⟩
    have e : NetM.at' ((List.range len0).map f) i = f i := by simp [NetM.at', List.getD, hi]
    rw [e]; exact q
set_option maxRecDepth 100000 in
theorem open_net {H : Type} {enc : TypeId × Value → H} {W : World} {base : Nat} {v : Value} {d : DataW H} {ps : List MemPlace} (hok : Value.okWide Try.prog W .any base 24 v) (h : DataW.Trod enc Try.prog W 0 (fun _ => true) true 24 v d ps) :
    ∃ N s t A, NetA W v N s t A := by
  obtain ⟨fuel, hf⟩ := h
  obtain ⟨cs, rfl, hc⟩ := okWide_struct Try.underlying24 hok
  rw [cellsNet] at hc
  have hl : cs.toList.length = 4 := by simpa using hc
  obtain ⟨l, hcs⟩ : ∃ l, l = cs.toList := ⟨_, rfl⟩
  have hcs' : cs = l.toArray := by rw [hcs]
  subst hcs'
  match l, hl with
  | [v0, v1, v2, v3], _ =>
    have hf' : DataW.trod enc Try.prog W 0 (fun _ => true) true fuel 24 [v0, v1, v2, v3] = some (d, ps) := by simpa [Value.cells] using hf
    obtain ⟨y0, y1, y2, y3, n', -, -, h0, h1, h2, h3⟩ := Go.Joins.trod_struct4 Try.underlying24 hf'
    have g0 : DataW.trod enc Try.prog W 0 (fun _ => true) true n' 3 [v0] = some y0 := h0
    have g1 : DataW.trod enc Try.prog W 0 (fun _ => true) true n' 3 [v1] = some y1 := h1
    have g2 : DataW.trod enc Try.prog W 0 (fun _ => true) true n' 3 [v2] = some y2 := h2
    have g3 : DataW.trod enc Try.prog W 0 (fun _ => true) true n' 22 [v3] = some y3 := h3
    obtain ⟨x0, e0, -⟩ := DataW.trod_int Try.underlying3 g0
    obtain ⟨x1, e1, -⟩ := DataW.trod_int Try.underlying3 g1
    obtain ⟨x2, e2, -⟩ := DataW.trod_int Try.underlying3 g2
    simp only [List.cons.injEq, and_true] at e0 e1 e2
    subst e0 e1 e2
    obtain ⟨A, hA⟩ := open_arcs g3
    exact ⟨x0, x1, x2, A, v3, rfl, hA⟩
theorem cellsU8 : Try.prog.cellsOf 5 = 1 := by kernel_rfl
theorem cellsBool : Try.prog.cellsOf 4 = 1 := by kernel_rfl
/-- A slice of integers, whole. -/
theorem rd_ints {W : World} {a : Addr} {L C : Nat} {k : IntKind} {zs : List Int} (hl : L ≤ C) (hm : C ≤ maxLen) (hz : zs.length = C) (hc : ∀ i, i < zs.length → W.cell? (a.add i) = some (.int k (zs.getD i 0))) :
    Rd W (.slice (some a) L C) ((zs.take L).map fun z => Value.int k z) := by
  refine ⟨some a, L, C, rfl, by rw [List.length_map, List.length_take]; omega, hl, hm, fun hp => ?_⟩
  obtain ⟨b, off, rfl, hcc⟩ := ints_at hc (by omega)
  refine ⟨b, off, rfl, fun i hi => ?_⟩
  have hi' : i < zs.length := by omega
  rw [hcc i hi']
  simp [List.getD, hi, hi']
set_option maxRecDepth 100000 in
theorem open_i64s {H : Type} {enc : TypeId × Value → H} {W : World} {base : Nat} {v : Value} {d : DataW H} {ps : List MemPlace} (hok : Value.okWide Try.prog W .any base 25 v) (h : DataW.Trod enc Try.prog W 0 (fun _ => true) true 25 v d ps) :
    ∃ xs, RdI W v xs := by
  obtain ⟨fuel, hf⟩ := h
  obtain ⟨a0, len0, cap0, rfl⟩ := okWide_slice Try.underlying25 hok
  rcases open_ints Try.underlying25 Try.underlying3 cellsInt hf with ⟨hcs, _⟩ | ⟨a, len, cap, zs, hcs, _, hl, hm, hz, _, hcell, hwz⟩
  · simp [Value.cells] at hcs
    obtain ⟨rfl, rfl, rfl⟩ := hcs
    exact ⟨[], Rd.nil W⟩
  · simp [Value.cells] at hcs
    obtain ⟨rfl, rfl, rfl⟩ := hcs
    simp only [if_true] at hz
    exact ⟨_, rd_ints hl hm hz hcell⟩
set_option maxRecDepth 100000 in
theorem open_u8s {H : Type} {enc : TypeId × Value → H} {W : World} {base : Nat} {v : Value} {d : DataW H} {ps : List MemPlace} (hok : Value.okWide Try.prog W .any base 39 v) (h : DataW.Trod enc Try.prog W 0 (fun _ => true) true 39 v d ps) :
    ∃ xs, RdU W v xs ∧ ∀ x ∈ xs, x < 256 := by
  obtain ⟨fuel, hf⟩ := h
  obtain ⟨a0, len0, cap0, rfl⟩ := okWide_slice Try.underlying39 hok
  rcases open_ints Try.underlying39 Try.underlying5 cellsU8 hf with ⟨hcs, _⟩ | ⟨a, len, cap, zs, hcs, _, hl, hm, hz, _, hcell, hwz⟩
  · simp [Value.cells] at hcs
    obtain ⟨rfl, rfl, rfl⟩ := hcs
    exact ⟨[], Rd.nil W, fun x hx => by cases hx⟩
  · simp [Value.cells] at hcs
    obtain ⟨rfl, rfl, rfl⟩ := hcs
    simp only [if_true] at hz
    have hw : ∀ z ∈ zs, 0 ≤ z ∧ z < 256 := fun z hz => by
      have h1 : IntKind.u8.min = 0 := rfl
      have h2 : IntKind.u8.max = 255 := rfl
      have := hwz z hz
      simp only [Lit.wf, Bool.and_eq_true, decide_eq_true_eq] at this
      omega
    refine ⟨(zs.take len0).map Int.toNat, ?_, fun x hx => ?_⟩
    · have := rd_ints hl hm hz hcell
      have e : ((zs.take len0).map Int.toNat).map u8v = (zs.take len0).map fun z => Value.int .u8 z := by
        rw [List.map_map]
        refine List.map_congr_left fun z hz2 => ?_
        have := (hw z (List.mem_of_mem_take hz2)).1
        simp [u8v, Int.toNat_of_nonneg this]
      unfold RdU
      rw [e]; exact this
    · obtain ⟨z, hz2, rfl⟩ := List.mem_map.1 hx
      have := hw z (List.mem_of_mem_take hz2)
      omega
set_option maxRecDepth 100000 in
theorem open_boolsB {H : Type} {enc : TypeId × Value → H} {W : World} {base : Nat} {v : Value} {d : DataW H} {ps : List MemPlace} (hok : Value.okWide Try.prog W .any base 46 v) (h : DataW.Trod enc Try.prog W 0 (fun _ => true) true 46 v d ps) :
    ∃ xs, RdB W v xs := by
  obtain ⟨fuel, hf⟩ := h
  obtain ⟨a0, len0, cap0, rfl⟩ := okWide_slice Try.underlying46 hok
  rcases open_bools Try.underlying46 Try.underlying4 cellsBool hf with ⟨hcs, _⟩ | ⟨a, len, cap, B, hcs, _, hl, hm, _, hcell⟩
  · simp [Value.cells] at hcs
    obtain ⟨rfl, rfl, rfl⟩ := hcs
    exact ⟨[], Rd.nil W⟩
  · simp [Value.cells] at hcs
    obtain ⟨rfl, rfl, rfl⟩ := hcs
    refine ⟨(List.range len0).map B, some a, len0, cap0, rfl, by simp, hl, hm, fun hp => ?_⟩
    obtain ⟨b, off, spot⟩ := a
    have hspot : spot = none := by simpa [Addr.add] using World.cell?_spot (hcell 0 (by omega))
    subst hspot
    refine ⟨b, off, rfl, fun i hi => ?_⟩
    have := hcell i (by omega)
    rw [Addr.add_lit] at this
    rw [this]
    simp [List.getD, hi, bv]
/-- An argument reads behind the call as it read before. -/
theorem kept_arg {H : Type} {enc : TypeId × Value → H} {W W' : World} {t : TypeId} {v : Value} {d : DataW H} {ps : List MemPlace} (hr : Try.prog.readableRec t = true) (ht : t < Try.prog.types.size)
    (h : DataW.Trod enc Try.prog W 0 (fun _ => true) true t v d ps) (hb : Add W W') (hlt : ∀ x ∈ ps, x.block < W.heap.size) : DataW.Trod enc Try.prog W' 0 (fun b => decide (b < W.heap.size)) true t v d ps :=
  Below.trod laidOut hr ht h hb hlt
theorem readNet : Try.prog.readableRec 24 = true := by kernel_rfl
theorem ltNet : 24 < Try.prog.types.size := of_decide_eq_true (by kernel_rfl)
theorem readI : Try.prog.readableRec 25 = true := by kernel_rfl
theorem ltI : 25 < Try.prog.types.size := of_decide_eq_true (by kernel_rfl)
theorem readBo : Try.prog.readableRec 46 = true := by kernel_rfl
theorem ltBo : 46 < Try.prog.types.size := of_decide_eq_true (by kernel_rfl)
theorem readB : Try.prog.readableRec 39 = true := by kernel_rfl
theorem ltB : 39 < Try.prog.types.size := of_decide_eq_true (by kernel_rfl)
theorem byte_of {z : Int} (h : (Lit.int .u8 z).wf = true) : ∃ n : Nat, n < 256 ∧ z = (n : Nat) := by
  have h1 : IntKind.u8.min = 0 := rfl
  have h2 : IntKind.u8.max = 255 := rfl
  simp only [Lit.wf, Bool.and_eq_true, decide_eq_true_eq] at h
  exact ⟨z.toNat, by omega, by omega⟩
end Go.Proofs.Ytaoibakbnimnkaa
