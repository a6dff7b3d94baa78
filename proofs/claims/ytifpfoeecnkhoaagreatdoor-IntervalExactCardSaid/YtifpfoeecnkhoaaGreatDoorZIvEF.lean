/- The law IntervalExact returns true for all arguments, and leaves them as they were: the row and its card.
(With the texts that are joined here: What the cards of layer 3 share: how arguments open, a world for the witness, Go's table. | An argument that is an interval, opened.) -/
import Derived.Test.YtifpfoeecnkhoaaGreatDoorCards
import Derived.Test.YtifpfoeecnkhoaaGreatDoorTie
import Derived.Test.YtifpfoeecnkhoaaGreatDoorZG
import Derived.Lib.SmallJoins
import Derived.WalkKit
import Derived.ProofKit
import Derived.OpenShut
import Derived.Deep.DeepHandedRow
import Derived.Lib.LaidTab
import Derived.Test.YtifpfoeecnkhoaaGreatDoorZJ
import Derived.Deep.Slices
import Derived.Deep.Strs
import Derived.Test.YtifpfoeecnkhoaaGreatDoorZIvEW

namespace Go.Proofs.YtifpfoeecnkhoaaGreatDoor
open Go.ChangeShapes Go.WideShapes Go.ChangeAt Go.RowKit NatM

theorem own : ownKnob Tryz.prog.godebug = none := by kernel_rfl
theorem laidOut : laidOutB Tryz.prog = true := by kernel_rfl

theorem wf_nat {z : Int} (h : (Lit.int .u32 z).wf = true) : 0 ≤ z ∧ z < 4294967296 := by
  have h1 : IntKind.u32.min = 0 := rfl
  have h2 : IntKind.u32.max = 4294967295 := rfl
  simp only [Lit.wf, Bool.and_eq_true, decide_eq_true_eq] at h
  omega
theorem cells44 : Tryz.prog.cellsOf 77 = 1 := by kernel_rfl
set_option maxRecDepth 100000 in
/-- A field of type api.Nat reads as a list of limbs. -/
theorem open_nat_field {H : Type} {enc : TypeId × Value → H} {W : World} {v : Value} {n : Nat} {y : DataW H × List MemPlace} (hf : DataW.trod enc Tryz.prog W 0 (fun _ => true) true n 23 [v] = some y) :
    ∃ a l c xs, v = .slice a l c ∧ Reads W (.slice a l c) xs := by
  rcases open_ints Tryz.underlying23 Tryz.underlying77 cells44 hf with ⟨hcs, _⟩ | ⟨a, len, cap, zs, hcs, _, hl, hm, hz, _, hcell, hwz⟩
  · simp only [List.cons.injEq, and_true] at hcs
    subst hcs
    exact ⟨none, 0, 0, [], rfl, Reads.nil W⟩
  · simp only [List.cons.injEq, and_true] at hcs
    subst hcs
    simp only [if_true] at hz
    refine ⟨some a, len, cap, (zs.take len).map Int.toNat, rfl, some a, len, cap, rfl, by simp; omega, hl, hm, ?_, ?_⟩
    · intro x hx
      obtain ⟨z, hz', rfl⟩ := List.mem_map.1 hx
      have := wf_nat (hwz z (List.mem_of_mem_take hz'))
      omega
    · intro hn
      obtain ⟨b, off, rfl, hc⟩ := ints_at hcell (by omega)
      refine ⟨b, off, rfl, fun i hi => ?_⟩
      rw [hc i (by omega)]
      have hi' : i < zs.length := by omega
      have hw := wf_nat (hwz (zs.getD i 0) (by simp [List.getD, hi']))
      have : ((zs.take len).map Int.toNat).getD i 0 = (zs.getD i 0).toNat := by
        simp [List.getD, hi, hi']
      rw [this, Int.toNat_of_nonneg hw.1]
set_option maxRecDepth 100000 in
/-- An argument of type api.Frac. -/
theorem open_frac {H : Type} {enc : TypeId × Value → H} {W : World} {base : Nat} {v : Value} {d : DataW H} {ps : List MemPlace} (hok : Value.okWide Tryz.prog W .any base 25 v) (h : DataW.Trod enc Tryz.prog W 0 (fun _ => true) true 25 v d ps) :
    ∃ b xs ys, FracI W v b xs ys := by
  obtain ⟨v0, v1, v2, y0, y1, y2, n, rfl, -, -, h0, h1, h2⟩ := Go.Joins.open_agg3 Tryz.underlying25 (by kernel_rfl) (show Tryz.prog.cellsOf 25 = 3 by kernel_rfl) hok h
  obtain ⟨b, e0, -⟩ := DataW.trod_bool Tryz.underlying4 h0
  simp only [List.cons.injEq, and_true] at e0
  subst e0
  obtain ⟨a1, l1, c1, xs, rfl, r1⟩ := open_nat_field h1
  obtain ⟨a2, l2, c2, ys, rfl, r2⟩ := open_nat_field h2
  exact ⟨b, xs, ys, a1, l1, c1, a2, l2, c2, rfl, r1, r2⟩
/-- An argument reads behind the call as it read before. -/
theorem kept_arg {H : Type} {enc : TypeId × Value → H} {W W' : World} {t : TypeId} {v : Value} {d : DataW H} {ps : List MemPlace} (hr : Tryz.prog.readableRec t = true) (ht : t < Tryz.prog.types.size)
    (h : DataW.Trod enc Tryz.prog W 0 (fun _ => true) true t v d ps) (hb : Add W W') (hlt : ∀ x ∈ ps, x.block < W.heap.size) : DataW.Trod enc Tryz.prog W' 0 (fun b => decide (b < W.heap.size)) true t v d ps :=
  Below.trod laidOut hr ht h hb hlt
theorem readFrac : Tryz.prog.readableRec 25 = true := by kernel_rfl
theorem ltFrac : 25 < Tryz.prog.types.size := of_decide_eq_true (by kernel_rfl)

/-- A world for the witness: the settled one, with Go's tables in their blocks. -/
def layRow (l : List Nat) : Obj → Obj
  | .cells _ t frozen => .cells (l.map fun n => Value.int .u8 (n : Nat)).toArray t frozen
  | o => o
noncomputable def laidWorld (os : Os) : World :=
  { World.holding Tryz.prog os ⟨#[], #[], []⟩ with heap := (World.holding Tryz.prog os ⟨#[], #[], []⟩).heap.modify 0 (layRow Lib.deBruijn32tab) }
theorem laid_met (os : Os) (args : Array Value) : laidMet Tryz.prog [("math/bits.deBruijn32tab", Rows.laid_math_bits_deBruijn32tab)] ((laidWorld os).forCall (fun _ _ => 0) ⟨#[], args, []⟩).memory :=
  laidMet_of_run' 8 (by kernel_rfl) (by kernel_rfl)

theorem tab_global : Tryz.prog.globalNamed "math/bits.deBruijn32tab" = some 0 := by kernel_rfl
/-- The row's condition lays Go's table. -/
theorem tab_of_laid {W : World} (h : laidMet Tryz.prog [("math/bits.deBruijn32tab", Rows.laid_math_bits_deBruijn32tab)] W) : Tab W := by
  have ht := Lib.tabIs_of_head (zs := Lib.deBruijn32tab.map fun n : Nat => (n : Int)) (k := .u8) tab_global (show (Tryz.prog.globals[0]?).map (·.type) = some 98 by kernel_rfl) Tryz.underlying98 Tryz.underlying5 (by kernel_rfl) (by kernel_rfl) h
  have hc : ∀ j, j < 32 → W.cell? ⟨0, j, none⟩ = some (.int .u8 (Lib.deBruijn32tab.getD j 0 : Nat)) := by
    intro j hj
    have hl : Lib.deBruijn32tab.length = 32 := rfl
    rw [ht.cell tab_global j (by simpa [hl] using hj)]
    have hj' : j < Lib.deBruijn32tab.length := by omega
    simp [List.getD, hj']
  exact ⟨World.block_lt_of_cell? W _ (hc 0 (by decide)), hc⟩
theorem int_bounds {z : Int} (h : (Lit.int .i64 z).wf = true) : -9223372036854775808 ≤ z ∧ z ≤ 9223372036854775807 := by
  have h1 : IntKind.i64.min = -9223372036854775808 := rfl
  have h2 : IntKind.i64.max = 9223372036854775807 := rfl
  simp only [Lit.wf, Bool.and_eq_true, decide_eq_true_eq] at h
  omega
end Go.Proofs.YtifpfoeecnkhoaaGreatDoor

namespace Go.Proofs.YtifpfoeecnkhoaaGreatDoor
open Go.ChangeShapes Go.WideShapes Go.ChangeAt Go.RowKit NatM Go.Joins Go.Deep

theorem cellsFrac3 : Tryz.prog.cellsOf 25 = 3 := by kernel_rfl
theorem cellsIv6 : Tryz.prog.cellsOf 27 = 6 := by kernel_rfl
set_option maxRecDepth 100000 in
theorem frac_cells3 {H : Type} {enc : TypeId × Value → H} {W : World} {n : Nat} {cs : List Value} {y : DataW H × List MemPlace} (h : DataW.trod enc Tryz.prog W 0 (fun _ => true) true n 25 cs = some y) (hl : cs.length = 3) :
    ∃ s an m cn ad d cd xs ys, cs = [.bool s, .slice an m cn, .slice ad d cd] ∧ Reads W (.slice an m cn) xs ∧ Reads W (.slice ad d cd) ys := by
  match cs, hl with
  | [v0, v1, v2], _ =>
    obtain ⟨y0, y1, y2, n', -, -, h0, h1, h2⟩ := trod_struct3 Tryz.underlying25 h
    have g0 : DataW.trod enc Tryz.prog W 0 (fun _ => true) true n' 4 [v0] = some y0 := h0
    have g1 : DataW.trod enc Tryz.prog W 0 (fun _ => true) true n' 23 [v1] = some y1 := h1
    have g2 : DataW.trod enc Tryz.prog W 0 (fun _ => true) true n' 23 [v2] = some y2 := h2
    obtain ⟨b, e0, -⟩ := DataW.trod_bool Tryz.underlying4 g0
    simp only [List.cons.injEq, and_true] at e0
    subst e0
    obtain ⟨a1, l1, c1, xs, rfl, r1⟩ := open_nat_field g1
    obtain ⟨a2, l2, c2, ys, rfl, r2⟩ := open_nat_field g2
    exact ⟨b, a1, l1, c1, a2, l2, c2, xs, ys, rfl, r1, r2⟩
theorem list6 {α : Type} {l : List α} (h : l.length = 6) : ∃ a b c d e f, l = [a, b, c, d, e, f] := by
  match l, h with
  | [a, b, c, d, e, f], _ => exact ⟨a, b, c, d, e, f, rfl⟩
set_option maxRecDepth 100000 in
theorem iv_cells {H : Type} {enc : TypeId × Value → H} {W : World} {n : Nat} {cs : List Value} {y : DataW H × List MemPlace} (h : DataW.trod enc Tryz.prog W 0 (fun _ => true) true n 27 cs = some y) (hl : cs.length = 6) :
    ∃ x : IvL, ∃ v, IvI W v x ∧ v = .agg cs.toArray := by
  obtain ⟨c0, c1, c2, c3, c4, c5, rfl⟩ := list6 hl
  obtain ⟨y0, y1, n', -, -, h0, h1⟩ := trod_struct2 Tryz.underlying27 h
  have g0 : DataW.trod enc Tryz.prog W 0 (fun _ => true) true n' 25 (([c0, c1, c2, c3, c4, c5].drop 0).take (Tryz.prog.cellsOf 25)) = some y0 := h0
  have g1 : DataW.trod enc Tryz.prog W 0 (fun _ => true) true n' 25 (([c0, c1, c2, c3, c4, c5].drop 3).take (Tryz.prog.cellsOf 25)) = some y1 := h1
  rw [cellsFrac3] at g0 g1
  obtain ⟨s, an, m, cn, ad, d, cd, xs, ys, e0, r0, r1⟩ := frac_cells3 g0 rfl
  obtain ⟨s', an', m', cn', ad', d', cd', xs', ys', e1, r2, r3⟩ := frac_cells3 g1 rfl
  simp only [List.drop_zero, List.take_succ_cons, List.take_zero, List.drop_succ_cons, List.cons.injEq, and_true] at e0 e1
  obtain ⟨rfl, rfl, rfl⟩ := e0
  obtain ⟨rfl, rfl, rfl⟩ := e1
  exact ⟨((s, xs, ys), (s', xs', ys')), _, ⟨an, m, cn, ad, d, cd, an', m', cn', ad', d', cd', rfl, r0, r1, r2, r3⟩, rfl⟩
set_option maxRecDepth 100000 in
/-- An argument of type api.Interval. -/
theorem open_interval {H : Type} {enc : TypeId × Value → H} {W : World} {base : Nat} {v : Value} {d : DataW H} {ps : List MemPlace} (hok : Value.okWide Tryz.prog W .any base 27 v) (h : DataW.Trod enc Tryz.prog W 0 (fun _ => true) true 27 v d ps) :
    ∃ x, IvI W v x := by
  obtain ⟨cs, rfl, hsz⟩ := okWide_struct Tryz.underlying27 hok
  obtain ⟨fuel, hf⟩ := h
  rw [cellsIv6] at hsz
  obtain ⟨x, v, hx, rfl⟩ := iv_cells (cs := cs.toList) hf (by simpa using hsz)
  exact ⟨x, hx⟩
theorem u8_nat3 {z : Int} (h : (Lit.int .u8 z).wf = true) : ∃ n : Nat, n < 256 ∧ z = (n : Int) := by
  have h1 : IntKind.u8.min = 0 := rfl
  have h2 : IntKind.u8.max = 255 := rfl
  simp only [Lit.wf, Bool.and_eq_true, decide_eq_true_eq] at h
  exact ⟨z.toNat, by omega, by omega⟩
theorem readIv : Tryz.prog.readableRec 27 = true := by kernel_rfl
theorem ltIv : 27 < Tryz.prog.types.size := of_decide_eq_true (by kernel_rfl)
end Go.Proofs.YtifpfoeecnkhoaaGreatDoor

namespace Go.Proofs.YtifpfoeecnkhoaaGreatDoor.fnIntervalExact
open Go.Proofs.YtifpfoeecnkhoaaGreatDoor Go.Proofs.YtifpfoeecnkhoaaGreatDoor.Api Go.ChangeShapes Go.WideShapes Go.ChangeAt Go.RowKit NatM
set_option maxRecDepth 100000 in
/-- What the walk gives, for every argument. -/
theorem contract (H : Type) (enc : TypeId × Value → H) (W : World) (base : Nat) (args : Array Value) (ds gs : List (DataW H)) (before : List MemPlace)
    (hval : ∀ (j : Nat) t v, Tryz.f3.params[j]? = some t → args[j]? = some v → Value.okWide Tryz.prog W .any base t v)
    (hW : DataW.Whole enc Tryz.prog Tryz.f3.params.toList Rows.intervalExactSpec.vars false W args.toList ds gs before) (hT : Tab W) :
    Calls Tryz.prog 3 args W fun e W' => ∃ v, e = .returned v ∧ Rows.intervalExactSpec.post enc Tryz.prog Tryz.f3 false true false false W args v W' := by
  have hW' := hW
  obtain ⟨p, q, hA0, hV, rfl, -, -⟩ := hW
  have hA : DataW.TrodAll enc Tryz.prog W 0 (fun _ => true) true Tryz.f3.params.toList args.toList ds p := hA0
  rw [Tryz.params3] at hA hval
  obtain ⟨v0, vs0, d0, ds0, p0, q0, hargs0, rfl, rfl, h0, t0⟩ := trodAll_cons hA
  obtain ⟨v1, vs1, d1, ds1, p1, q1, hargs1, rfl, rfl, h1, t1⟩ := trodAll_cons t0
  obtain ⟨v2, vs2, d2, ds2, p2, q2, hargs2, rfl, rfl, h2, t2⟩ := trodAll_cons t1
  obtain ⟨rfl, rfl, rfl⟩ := trodAll_nil t2
  obtain rfl : args = #[v0, v1, v2] := by cases args; simp_all
  obtain ⟨rfl, rfl⟩ := trodVars_none hV
  obtain ⟨x0, r0⟩ := open_interval (hval 0 27 v0 rfl rfl) h0
  obtain ⟨x1, r1⟩ := open_interval (hval 1 27 v1 rfl rfl) h1
  obtain ⟨b2, xs2, ys2, r2⟩ := open_frac (hval 2 25 v2 rfl rfl) h2
  clear hA0
  simp only [List.append_nil] at hW'
  have hlt : ∀ x, x ∈ p0 ++ p1 ++ p2 → x.block < W.heap.size := fun x hx => by simpa using hW'.lt x (by simpa using hx)
  have walk : Calls Tryz.prog 3 #[v0, v1, v2] W (LawP W) := by
    exact IvExaL.exact3_any (z := (b2, xs2, ys2)) W r0 r1 r2 hT
  refine walk.mono fun e W' ⟨he, hb⟩ => ?_
  subst he
  have hargs := trodAll_cons_mk (kept_arg readIv ltIv h0 hb fun x hx => hlt x (by simp [hx])) (trodAll_cons_mk (kept_arg readIv ltIv h1 hb fun x hx => hlt x (by simp [hx])) (trodAll_cons_mk (kept_arg readFrac ltFrac h2 hb fun x hx => hlt x (by simp [hx])) (trodAll_mk0)))
  exact ⟨_, rfl, _, _, _, [], _, [], hW', trodAll_cons_mk (shut_bool Tryz.underlying4 _) trodAll_mk0, hargs, rfl, Below.frame hb _, fun h => by cases h⟩

def wArgs : Array Value := #[.agg #[.bool false, .slice none 0 0, .slice none 0 0, .bool false, .slice none 0 0, .slice none 0 0], .agg #[.bool false, .slice none 0 0, .slice none 0 0, .bool false, .slice none 0 0, .slice none 0 0], .agg #[.bool false, .slice none 0 0, .slice none 0 0]]
theorem reads (os : Os) {H : Type} (enc : TypeId × Value → H) : ∃ places, DataW.whole enc Tryz.prog ((laidWorld os).forCall (fun _ _ => 0) ⟨#[], wArgs, []⟩).memory Tryz.f3.params.toList Rows.intervalExactSpec.vars false wArgs.toList 8 = some ([.agg [.agg [.lit (.bool false), .nil, .nil], .agg [.lit (.bool false), .nil, .nil]], .agg [.agg [.lit (.bool false), .nil, .nil], .agg [.lit (.bool false), .nil, .nil]], .agg [.lit (.bool false), .nil, .nil]], [], places) :=
  ⟨[], by kernel_rfl⟩

set_option maxRecDepth 100000 in
theorem lifted (os : Os) (started : os.Started) (H : Type) (enc : TypeId × Value → H) (F : Stop.Interp) :
    ReturnsInHanded {} Tryz.checked os 3 .any ((OpenSpec.ofChange Rows.intervalExactSpec).preRow enc Tryz.prog Tryz.f3 Rows.intervalExactRow.domain false Rows.intervalExactRow.laid) (((OpenSpec.ofChange Rows.intervalExactSpec).at F).post enc Tryz.prog Tryz.f3 false true false false) := by
  obtain ⟨places, hx⟩ := reads os enc
  refine returnsInHanded_of_row (C := Tryz.checked) (s := OpenSpec.ofChange Rows.intervalExactSpec) own started (by kernel_rfl) Tryz.func3
    (witness_row_at (enc := enc) (C := Tryz.checked) false (laidWorld os) wArgs rfl (by kernel_rfl) (by kernel_rfl) (by kernel_rfl)
      (OpenSpec.preRow_of_cond 8 hx (by kernel_rfl) (fun k hk => by cases hk) (by kernel_rfl) (laid_met os _))) ?_
  intro W base args ds gs before hval hW _ _ _ hL _ _
  exact contract H enc W base args ds gs before hval hW (tab_of_laid hL)

theorem said : Rows.IntervalExactSaid :=
  OpenClaim.holds_of_cond 3 Tryz.f3 rfl rfl rfl rfl rfl rfl rfl ⟨rfl, rfl, rfl, rfl, rfl⟩ rfl rfl rfl rfl rfl (by kernel_rfl) Tryz.func3 (by kernel_rfl)
    (of_decide_eq_true (by kernel_rfl)) (by unfold Func.isWrapper; first | (rw [if_pos (by decide +kernel)]; kernel_rfl) | (rw [if_neg (by decide +kernel)]; exact ⟨rfl, rfl⟩))
    (fun os started H enc _ F => by rw [OpenClaim.pre_eq_preRow]; exact lifted os started H enc F)

theorem plain (f : FuncId) (fn : Func) (hf : Tryz.pinned.checked.prog.funcNamed "drydock/drydocklaw03.IntervalExact" = some f) (hfn : Tryz.pinned.checked.prog.funcs[f]? = some fn) :
    false = Tryz.pinned.checked.prog.looks [] ∧ ∀ (j : Nat) t, fn.params[j]? = some t → Tryz.pinned.checked.prog.wantsStandIn t = false := by
  obtain rfl : f = 3 := Option.some.inj ((show Tryz.prog.funcNamed "drydock/drydocklaw03.IntervalExact" = some 3 by kernel_rfl).symm.trans hf) |>.symm
  obtain rfl : fn = Tryz.f3 := (Option.some.inj (Tryz.func3.symm.trans hfn)).symm
  refine ⟨by kernel_rfl, fun j t ht => ?_⟩
  rw [Tryz.params3] at ht
  have hm : t ∈ [27, 27, 25] := by
    have := Array.mem_of_getElem? ht
    simpa using this
  have hall : ([27, 27, 25].all fun u => !Tryz.prog.wantsStandIn u) = true := by kernel_rfl
  exact (show Tryz.prog.wantsStandIn t = false by simpa using List.all_eq_true.1 hall t hm)

/-- The card. -/
theorem card : Rows.IntervalExactCardSaid :=
  Claim7.holds_tied_plain_at .later [] _ _ _ _ said (fun _ h => by cases h) (by kernel_rfl) (fun _ h => by cases h) intervalExact_row_tie rfl ⟨rfl, rfl⟩ (by kernel_rfl) rfl plain (by kernel_rfl)
end Go.Proofs.YtifpfoeecnkhoaaGreatDoor.fnIntervalExact
namespace Go.Proofs.YtifpfoeecnkhoaaGreatDoor
theorem intervalExact_card : Rows.IntervalExactCardSaid := fnIntervalExact.card
end Go.Proofs.YtifpfoeecnkhoaaGreatDoor
