/- The law FractionMake returns true for all arguments, and leaves them as they were: the row and its card.
(With the texts that are joined here: The law FractionMake: its walk, for all arguments. | What the cards of layer 2 share: how arguments open, a world for the witness, Go's table.) -/
import Derived.Test.YtfoffjnffkgnaaaDoorZF
import Derived.Test.YtfoffjnffkgnaaaDoorCards
import Derived.Test.YtfoffjnffkgnaaaDoorTie
import Derived.WalkKit
import Derived.ProofKit
import Derived.OpenShut
import Derived.Deep.DeepHandedRow
import Derived.Lib.LaidTab

namespace Go.Proofs.YtfoffjnffkgnaaaDoor.MakeL
open Go.Proofs.YtfoffjnffkgnaaaDoor Go.RowKit NatM Go.Proofs.YtfoffjnffkgnaaaDoor.Api

def In64 (v : Int) : Prop := -9223372036854775808 ≤ v ∧ v ≤ 9223372036854775807
theorem nat_small {v : Int} (h : In64 v) : v.natAbs < pw 128 := small_int (v := v) ⟨h.1, h.2, rfl⟩
theorem qv_can (q : Rat) : qv (can q) = q := frac_self q
theorem ok_can {q : Rat} (h1 : (can q).2.1 < pw 128) (h2 : (can q).2.2 < pw 128) : okF (can q) = true := okF_iff.2 ⟨q.den_nz, h1, h2⟩
theorem make_can {n d : Int} (hn : In64 n) (hd : In64 d) (h0 : d ≠ 0) : makeF n d = (can (frac (!(decide (n < 0) == decide (d < 0))) n.natAbs d.natAbs), 0) := by
  unfold makeF
  rw [if_neg h0, fitQ_small (nat_small hn) (nat_small hd) (by omega)]
theorem can_lt {neg : Bool} {N D : Nat} (h0 : D ≠ 0) (h1 : N < pw 128) (h2 : D < pw 128) : (can (frac neg N D)).2.1 < pw 128 ∧ (can (frac neg N D)).2.2 < pw 128 := by
  constructor
  · show (frac neg N D).num.natAbs < pw 128
    rw [frac_abs h0]; exact Nat.lt_of_le_of_lt (Nat.div_le_self _ _) h1
  · show (frac neg N D).den < pw 128
    rw [frac_den h0]; exact Nat.lt_of_le_of_lt (Nat.div_le_self _ _) h2
theorem make_math {n d : Int} (hn : In64 n) (hd : In64 d) (h0 : d ≠ 0) : ∃ x y z : Tri, makeF n d = (x, 0) ∧ makeF n 1 = (y, 0) ∧ makeF d 1 = (z, 0) ∧ mulF x z = (y, 0) ∧ x.2.1 < pw 128 ∧ x.2.2 < pw 128 ∧ z.2.1 < pw 128 ∧ z.2.2 < pw 128 := by
  have h1 : In64 1 := ⟨by decide, by decide⟩
  have e1 := make_can hn hd h0
  have e2 := make_can hn h1 (by decide)
  have e3 := make_can hd h1 (by decide)
  have hdn : d.natAbs ≠ 0 := by omega
  have one : (1 : Int).natAbs = 1 := rfl
  rw [one] at e2 e3
  obtain ⟨b1, b2⟩ := can_lt (neg := !(decide (n < 0) == decide (d < 0))) hdn (nat_small hn) (nat_small hd)
  obtain ⟨b3, b4⟩ := can_lt (neg := !(decide (d < 0) == decide ((1 : Int) < 0))) (by decide) (nat_small hd) (small128 (N := 1) (by decide))
  refine ⟨_, _, _, e1, e2, e3, ?_, b1, b2, b3, b4⟩
  unfold mulF
  rw [if_pos ⟨ok_can b1 b2, ok_can b3 b4⟩, qv_can, qv_can, frac_mul]
  have e4 : ((!(decide (n < 0) == decide (d < 0))) != (!(decide (d < 0) == decide ((1 : Int) < 0)))) = !(decide (n < 0) == decide ((1 : Int) < 0)) := by
    cases decide (n < 0) <;> cases decide (d < 0) <;> rfl
  rw [e4, Nat.mul_comm d.natAbs 1, frac_scale hdn]
  exact fitQ_small (nat_small hn) (small128 (by decide)) (by decide)
theorem makeR {n d : Int} (b : Bool) (N D : Nat) {w : World} (_hT : Tab w) (h : Hid ((-9223372036854775808 ≤ n ∧ n ≤ 9223372036854775807) ∧ -9223372036854775808 ≤ d ∧ d ≤ 9223372036854775807)) (hp : Hid (makeF n d = ((b, N, D), 0))) :
    Calls Tryd.prog 33 #[.int .i64 n, .int .i64 d] w (OkF w b N D) := (refMakeF _ h hp).mono fun _ _ g => g.ok
theorem fracT_mk {w : World} {b : Bool} {N D : Nat} {an n cn ad d cd} (h1 : Num w (.slice an n cn) N) (h2 : Num w (.slice ad d cd) D) : FracT w (.agg #[.bool b, .slice an n cn, .slice ad d cd]) (b, N, D) := ⟨an, n, cn, ad, d, cd, rfl, h1, h2⟩
theorem fracA_mk {w : World} {b : Bool} {N D : Nat} {an n cn ad d cd} (h1 : Num w (.slice an n cn) N) (h2 : Num w (.slice ad d cd) D) (b1 : N < pw 128) (b2 : D < pw 128) : FracA w (.agg #[.bool b, .slice an n cn, .slice ad d cd]) (b, N, D) := ⟨an, n, cn, ad, d, cd, rfl, num_nv h1 (lt_up b1 (by decide)), num_nv h2 (lt_up b2 (by decide))⟩

set_option maxRecDepth 100000 in
set_option maxHeartbeats 2000000 in
theorem make_zero (n : Int) (w : World) (hT : Tab w) (hn : Hid (In64 n)) : Calls Tryd.prog 5 #[.int .i64 n, .int .i64 0] w (LawP w) := by
  have T := Below.refl w.heap.size w
  have r1 : Hid ((-9223372036854775808 ≤ n ∧ n ≤ 9223372036854775807) ∧ (-9223372036854775808 : Int) ≤ 0 ∧ (0 : Int) ≤ 9223372036854775807) := Lib.hid ⟨hn.out, by decide, by decide⟩
  have m0 : Hid (makeF n 0 = ((false, 0, 0), 3)) := Lib.hid (by unfold makeF; rw [if_pos rfl])
  clear hn
  go_enter Tryd.func5, Tryd.ntmps5
  go_wp2_with fail
  refine ((makeN' _ hT r1 m0).mono fun _ _ g => g.no).mono ?_
  rintro e w1 ⟨a1, c1, e1, k1, rfl, x1, y1, h1⟩
  replace hT := hT.mono h1
  replace T := Add.trans T h1
  clear h1 
  obtain ⟨tt, hA⟩ := laid_var w1 false a1 0 c1 e1 0 k1
  replace hT := hT.mono tt
  replace x1 := x1.mono tt
  replace y1 := y1.mono tt
  replace T := Add.trans T tt
  clear tt
  go_wp2_with fail
  refine ((refMakeF _ r1 m0).mono fun _ _ g => g.no).mono ?_
  rintro e w2 ⟨a2, c2, e2, k2, rfl, x2, y2, h2⟩
  replace hT := hT.mono h2
  replace hA := hA.mono h2
  replace x1 := x1.mono h2
  replace y1 := y1.mono h2
  replace T := Add.trans T h2
  clear h2 r1 m0
  obtain ⟨tt, hB⟩ := laid_var w2 false a2 0 c2 e2 0 k2
  replace hT := hT.mono tt
  replace hA := hA.mono tt
  replace T := Add.trans T tt
  replace x1 := x1.mono tt
  replace y1 := y1.mono tt
  replace x2 := x2.mono tt
  replace y2 := y2.mono tt
  clear tt
  have q1 := fracT_mk (b := false) x1 y1
  have q2 := fracT_mk (b := false) x2 y2
  clear x1 y1 x2 y2
  have ha0 := hA.c0
  have ha1 := hA.c1
  have ha2 := hA.c2
  have hb0 := hB.c0
  have hb1 := hB.c1
  have hb2 := hB.c2
  go_wp2_with fail
  refine (sameF true q1 q2 (Lib.hid (decide_eq_true rfl))).mono ?_
  rintro e w3 ⟨rfl, h3⟩
  replace hT := hT.mono h3
  replace hA := hA.mono h3
  replace T := Add.trans T h3
  clear h3 ha0 ha1 ha2 hb0 hb1 hb2 hB q1 q2
  have ha0 := hA.c0
  have ha1 := hA.c1
  have ha2 := hA.c2
  clear hA
  go_wp2_with fail
  refine (awake2_any _ hT).mono ?_
  rintro e w4 ⟨rfl, h4⟩
  replace T := Add.trans T h4
  clear h4 ha0 ha1 ha2 hT
  go_wp2_with fail
  go_ret
  exact ⟨rfl, T⟩

set_option maxRecDepth 100000 in
set_option maxHeartbeats 4000000 in
theorem make_some (n d : Int) (w : World) (hT : Tab w) (hn : Hid (In64 n)) (hd : Hid (In64 d)) (h0 : Hid (d ≠ 0)) : Calls Tryd.prog 5 #[.int .i64 n, .int .i64 d] w (LawP w) := by
  have T := Below.refl w.heap.size w
  have r1 : Hid ((-9223372036854775808 ≤ n ∧ n ≤ 9223372036854775807) ∧ -9223372036854775808 ≤ d ∧ d ≤ 9223372036854775807) := Lib.hid ⟨hn.out, hd.out⟩
  have r2 : Hid ((-9223372036854775808 ≤ n ∧ n ≤ 9223372036854775807) ∧ (-9223372036854775808 : Int) ≤ 1 ∧ (1 : Int) ≤ 9223372036854775807) := Lib.hid ⟨hn.out, by decide, by decide⟩
  have r3 : Hid ((-9223372036854775808 ≤ d ∧ d ≤ 9223372036854775807) ∧ (-9223372036854775808 : Int) ≤ 1 ∧ (1 : Int) ≤ 9223372036854775807) := Lib.hid ⟨hd.out, by decide, by decide⟩
  obtain ⟨⟨b1, X, Y⟩, ⟨b2, U, V⟩, ⟨b3, P, Q⟩, g1, g2, g3, g4, g5, g6, g7, g8⟩ := make_math hn.out hd.out h0.out
  have G1 := Lib.hid g1
  have G2 := Lib.hid g2
  have G3 := Lib.hid g3
  have G4 := Lib.hid g4
  have G5 : Hid (X < pw 128 ∧ Y < pw 128 ∧ P < pw 128 ∧ Q < pw 128) := Lib.hid ⟨g5, g6, g7, g8⟩
  have d1 : (d == 0) = false := by rw [beq_eq_false_iff_ne]; exact h0.out
  have d2 : (d != 0) = true := by rw [bne_iff_ne]; exact h0.out
  clear g1 g2 g3 g4 g5 g6 g7 g8 hn hd h0
  go_enter Tryd.func5, Tryd.ntmps5
  go_wp2_with fail
  refine ((makeC b1 X Y hT r1 G1)).mono ?_
  rintro e w1 ⟨a1, n1, c1, e1, m1, k1, rfl, x1, y1, h1⟩
  replace hT := hT.mono h1
  replace T := Add.trans T h1
  clear h1 
  obtain ⟨tt, hA⟩ := laid_var w1 b1 a1 n1 c1 e1 m1 k1
  replace hT := hT.mono tt
  replace x1 := x1.mono tt
  replace y1 := y1.mono tt
  replace T := Add.trans T tt
  clear tt
  go_wp2_with fail
  refine ((makeR b1 X Y hT r1 G1)).mono ?_
  rintro e w2 ⟨a2, n2, c2, e2, m2, k2, rfl, x2, y2, h2⟩
  replace hT := hT.mono h2
  replace hA := hA.mono h2
  replace x1 := x1.mono h2
  replace y1 := y1.mono h2
  replace T := Add.trans T h2
  clear h2 r1 G1
  obtain ⟨tt, hB⟩ := laid_var w2 b1 a2 n2 c2 e2 m2 k2
  replace hT := hT.mono tt
  replace hA := hA.mono tt
  replace x1 := x1.mono tt
  replace y1 := y1.mono tt
  replace x2 := x2.mono tt
  replace y2 := y2.mono tt
  replace T := Add.trans T tt
  clear tt
  have ha0 := hA.c0
  have ha1 := hA.c1
  have ha2 := hA.c2
  have hb0 := hB.c0
  have hb1 := hB.c1
  have hb2 := hB.c2
  go_wp2_with fail
  refine (sameF true (fracT_mk (b := b1) x1 y1) (fracT_mk (b := b1) x2 y2) (Lib.hid (decide_eq_true rfl))).mono ?_
  rintro e w3 ⟨rfl, h3⟩
  replace hT := hT.mono h3
  replace hA := hA.mono h3
  replace x1 := x1.mono h3
  replace y1 := y1.mono h3
  replace T := Add.trans T h3
  clear h3 ha0 ha1 ha2 hb0 hb1 hb2 hB x2 y2
  go_wp2_with fail
  refine ((makeC b2 U V hT r2 G2)).mono ?_
  rintro e w4 ⟨a4, n4, c4, e4, m4, k4, rfl, x4, y4, h4⟩
  replace hT := hT.mono h4
  replace hA := hA.mono h4
  replace x1 := x1.mono h4
  replace y1 := y1.mono h4
  replace T := Add.trans T h4
  clear h4 r2 G2 d1 d2
  obtain ⟨tt, hN⟩ := laid_var w4 b2 a4 n4 c4 e4 m4 k4
  replace hT := hT.mono tt
  replace hA := hA.mono tt
  replace x1 := x1.mono tt
  replace y1 := y1.mono tt
  replace x4 := x4.mono tt
  replace y4 := y4.mono tt
  replace T := Add.trans T tt
  clear tt
  go_wp2_with fail
  refine ((makeC b3 P Q hT r3 G3)).mono ?_
  rintro e w5 ⟨a5, n5, c5, e5, m5, k5, rfl, x5, y5, h5⟩
  replace hT := hT.mono h5
  replace hA := hA.mono h5
  replace hN := hN.mono h5
  replace x1 := x1.mono h5
  replace y1 := y1.mono h5
  replace x4 := x4.mono h5
  replace y4 := y4.mono h5
  replace T := Add.trans T h5
  clear h5 r3 G3
  obtain ⟨tt, hD⟩ := laid_var w5 b3 a5 n5 c5 e5 m5 k5
  replace hT := hT.mono tt
  replace hA := hA.mono tt
  replace hN := hN.mono tt
  replace x1 := x1.mono tt
  replace y1 := y1.mono tt
  replace x4 := x4.mono tt
  replace y4 := y4.mono tt
  replace x5 := x5.mono tt
  replace y5 := y5.mono tt
  replace T := Add.trans T tt
  clear tt
  have qa := fracA_mk (b := b1) x1 y1 G5.out.1 G5.out.2.1
  have qd := fracA_mk (b := b3) x5 y5 G5.out.2.2.1 G5.out.2.2.2
  clear x1 y1 x5 y5 G5
  have ha0 := hA.c0
  have ha1 := hA.c1
  have ha2 := hA.c2
  have hb0 := hD.c0
  have hb1 := hD.c1
  have hb2 := hD.c2
  go_wp2_with fail
  refine ((mulN' _ qa qd hT G4).mono fun _ _ g => g.ok).mono ?_
  rintro e w6 ⟨a6, n6, c6, e6, m6, k6, rfl, x6, y6, h6⟩
  replace hT := hT.mono h6
  replace hN := hN.mono h6
  replace x4 := x4.mono h6
  replace y4 := y4.mono h6
  replace T := Add.trans T h6
  clear h6 ha0 ha1 ha2 hb0 hb1 hb2 hA hD qa qd G4
  obtain ⟨tt, hP⟩ := laid_var w6 b2 a6 n6 c6 e6 m6 k6
  replace hT := hT.mono tt
  replace hN := hN.mono tt
  replace x4 := x4.mono tt
  replace y4 := y4.mono tt
  replace x6 := x6.mono tt
  replace y6 := y6.mono tt
  replace T := Add.trans T tt
  clear tt
  have ha0 := hN.c0
  have ha1 := hN.c1
  have ha2 := hN.c2
  have hb0 := hP.c0
  have hb1 := hP.c1
  have hb2 := hP.c2
  clear hN hP
  go_wp2_with fail
  refine (sameF true (fracT_mk (b := b2) x6 y6) (fracT_mk (b := b2) x4 y4) (Lib.hid (decide_eq_true rfl))).mono ?_
  rintro e w7 ⟨rfl, h7⟩
  replace hT := hT.mono h7
  replace T := Add.trans T h7
  clear h7 ha0 ha1 ha2 hb0 hb1 hb2 x4 y4 x6 y6
  go_wp2_with fail
  refine (awake2_any _ hT).mono ?_
  rintro e w8 ⟨rfl, h8⟩
  replace T := Add.trans T h8
  clear h8 hT
  go_wp2_with fail
  go_ret
  exact ⟨rfl, T⟩
theorem make_any (n d : Int) (w : World) (hT : Tab w) (hn : In64 n) (hd : In64 d) : Calls Tryd.prog 5 #[.int .i64 n, .int .i64 d] w (LawP w) := by
  by_cases h : d = 0
  · subst h; exact make_zero n w hT (Lib.hid hn)
  · exact make_some n d w hT (Lib.hid hn) (Lib.hid hd) (Lib.hid h)
end Go.Proofs.YtfoffjnffkgnaaaDoor.MakeL

namespace Go.Proofs.YtfoffjnffkgnaaaDoor
open Go.ChangeShapes Go.WideShapes Go.ChangeAt Go.RowKit NatM

theorem own : ownKnob Tryd.prog.godebug = none := by kernel_rfl
theorem laidOut : laidOutB Tryd.prog = true := by kernel_rfl

/-- A world for the witness: the settled one, with Go's tables in their blocks. -/
def layRow (l : List Nat) : Obj → Obj
  | .cells _ t frozen => .cells (l.map fun n => Value.int .u8 (n : Nat)).toArray t frozen
  | o => o
noncomputable def laidWorld (os : Os) : World :=
  { World.holding Tryd.prog os ⟨#[], #[], []⟩ with heap := (((World.holding Tryd.prog os ⟨#[], #[], []⟩).heap.modify 1 (layRow Pinned.utf8FirstZ)).modify 2 (layRow ([128, 191, 160, 191, 128, 159, 144, 191, 128, 143] ++ List.replicate 22 0))).modify 3 (layRow Lib.deBruijn32tab) }
theorem laid_met (os : Os) (args : Array Value) : laidMet Tryd.prog [("math/bits.deBruijn32tab", Rows.laid_math_bits_deBruijn32tab), ("unicode/utf8.acceptRanges", Rows.laid_unicode_utf8_acceptRanges), ("unicode/utf8.first", Rows.laid_unicode_utf8_first)] ((laidWorld os).forCall (fun _ _ => 0) ⟨#[], args, []⟩).memory :=
  laidMet_of_run' 8 (by kernel_rfl) (by kernel_rfl)

theorem tab_global : Tryd.prog.globalNamed "math/bits.deBruijn32tab" = some 3 := by kernel_rfl
/-- The row's condition lays Go's table. -/
theorem tab_of_laid {W : World} (h : laidMet Tryd.prog [("math/bits.deBruijn32tab", Rows.laid_math_bits_deBruijn32tab), ("unicode/utf8.acceptRanges", Rows.laid_unicode_utf8_acceptRanges), ("unicode/utf8.first", Rows.laid_unicode_utf8_first)] W) : Tab W := by
  have ht := Lib.tabIs_of_head (zs := Lib.deBruijn32tab.map fun n : Nat => (n : Int)) (k := .u8) tab_global (show (Tryd.prog.globals[3]?).map (·.type) = some 120 by kernel_rfl) Tryd.underlying120 Tryd.underlying5 (by kernel_rfl) (by kernel_rfl) h
  have hc : ∀ j, j < 32 → W.cell? ⟨3, j, none⟩ = some (.int .u8 (Lib.deBruijn32tab.getD j 0 : Nat)) := by
    intro j hj
    have hl : Lib.deBruijn32tab.length = 32 := rfl
    rw [ht.cell tab_global j (by simpa [hl] using hj)]
    have hj' : j < Lib.deBruijn32tab.length := by omega
    simp [List.getD, hj']
  exact ⟨World.block_lt_of_cell? W _ (hc 0 (by decide)), hc⟩
theorem int_bounds {z : Int} (h : (Lit.int .i64 z).wf = true) : -9223372036854775808 ≤ z ∧ z ≤ 9223372036854775807 := by
  have h1 : IntKind.i64.min = -9223372036854775808 := rfl
  have h2 : IntKind.i64.max = 9223372036854775807 := rfl
  simp only [Lit.wf, Bool.and_eq_true, decide_eq_true_eq] at h
  omega
end Go.Proofs.YtfoffjnffkgnaaaDoor

namespace Go.Proofs.YtfoffjnffkgnaaaDoor.fnFractionMake
open Go.Proofs.YtfoffjnffkgnaaaDoor Go.Proofs.YtfoffjnffkgnaaaDoor.Api Go.ChangeShapes Go.WideShapes Go.ChangeAt Go.RowKit NatM
set_option maxRecDepth 100000 in
/-- What the walk gives, for every argument. -/
theorem contract (H : Type) (enc : TypeId × Value → H) (W : World) (base : Nat) (args : Array Value) (ds gs : List (DataW H)) (before : List MemPlace)
    (hval : ∀ (j : Nat) t v, Tryd.f5.params[j]? = some t → args[j]? = some v → Value.okWide Tryd.prog W .any base t v)
    (hW : DataW.Whole enc Tryd.prog Tryd.f5.params.toList Rows.fractionMakeSpec.vars false W args.toList ds gs before) (hT : Tab W) :
    Calls Tryd.prog 5 args W fun e W' => ∃ v, e = .returned v ∧ Rows.fractionMakeSpec.post enc Tryd.prog Tryd.f5 false true false false W args v W' := by
  have hW' := hW
  obtain ⟨p, q, hA0, hV, rfl, -, -⟩ := hW
  have hA : DataW.TrodAll enc Tryd.prog W 0 (fun _ => true) true Tryd.f5.params.toList args.toList ds p := hA0
  rw [Tryd.params5] at hA hval
  obtain ⟨v0, vs0, d0, ds0, p0, q0, hargs0, rfl, rfl, h0, t0⟩ := trodAll_cons hA
  obtain ⟨v1, vs1, d1, ds1, p1, q1, hargs1, rfl, rfl, h1, t1⟩ := trodAll_cons t0
  obtain ⟨rfl, rfl, rfl⟩ := trodAll_nil t1
  obtain rfl : args = #[v0, v1] := by cases args; simp_all
  obtain ⟨rfl, rfl⟩ := trodVars_none hV
  obtain ⟨m0, rfl, rfl, rfl, wf0⟩ := open_int Tryd.underlying2 (hval 0 2 v0 rfl rfl) h0
  obtain ⟨m1, rfl, rfl, rfl, wf1⟩ := open_int Tryd.underlying2 (hval 1 2 v1 rfl rfl) h1
  clear hA0
  simp only [List.append_nil] at hW'
  have walk : Calls Tryd.prog 5 #[(.int .i64 m0), (.int .i64 m1)] W (LawP W) := by
    exact MakeL.make_any m0 m1 W hT (int_bounds wf0) (int_bounds wf1)
  refine walk.mono fun e W' ⟨he, hb⟩ => ?_
  subst he
  exact ⟨_, rfl, _, _, _, [], _, [], hW', trodAll_cons_mk (shut_bool Tryd.underlying4 _) trodAll_mk0, trodAll_cons_mk (shut_int Tryd.underlying2 wf0) (trodAll_cons_mk (shut_int Tryd.underlying2 wf1) (trodAll_mk0)), rfl, Below.frame hb _, fun h => by cases h⟩

def wArgs : Array Value := #[.int .i64 0, .int .i64 0]
theorem reads (os : Os) {H : Type} (enc : TypeId × Value → H) : ∃ places, DataW.whole enc Tryd.prog ((laidWorld os).forCall (fun _ _ => 0) ⟨#[], wArgs, []⟩).memory Tryd.f5.params.toList Rows.fractionMakeSpec.vars false wArgs.toList 8 = some ([.lit (.int .i64 0), .lit (.int .i64 0)], [], places) :=
  ⟨[], by kernel_rfl⟩

set_option maxRecDepth 100000 in
theorem lifted (os : Os) (started : os.Started) (H : Type) (enc : TypeId × Value → H) (F : Stop.Interp) :
    ReturnsInHanded {} Tryd.checked os 5 .any ((OpenSpec.ofChange Rows.fractionMakeSpec).preRow enc Tryd.prog Tryd.f5 Rows.fractionMakeRow.domain false Rows.fractionMakeRow.laid) (((OpenSpec.ofChange Rows.fractionMakeSpec).at F).post enc Tryd.prog Tryd.f5 false true false false) := by
  obtain ⟨places, hx⟩ := reads os enc
  refine returnsInHanded_of_row (C := Tryd.checked) (s := OpenSpec.ofChange Rows.fractionMakeSpec) own started (by kernel_rfl) Tryd.func5
    (witness_row_at (enc := enc) (C := Tryd.checked) false (laidWorld os) wArgs rfl (by kernel_rfl) (by kernel_rfl) (by kernel_rfl)
      (OpenSpec.preRow_of_cond 8 hx (by kernel_rfl) (fun k hk => by cases hk) (by kernel_rfl) (laid_met os _))) ?_
  intro W base args ds gs before hval hW _ _ _ hL _ _
  exact contract H enc W base args ds gs before hval hW (tab_of_laid hL)

theorem said : Rows.FractionMakeSaid :=
  OpenClaim.holds_of_cond 5 Tryd.f5 rfl rfl rfl rfl rfl rfl rfl ⟨rfl, rfl, rfl, rfl, rfl⟩ rfl rfl rfl rfl rfl (by kernel_rfl) Tryd.func5 (by kernel_rfl)
    (of_decide_eq_true (by kernel_rfl)) (by unfold Func.isWrapper; first | (rw [if_pos (by decide +kernel)]; kernel_rfl) | (rw [if_neg (by decide +kernel)]; exact ⟨rfl, rfl⟩))
    (fun os started H enc _ F => by rw [OpenClaim.pre_eq_preRow]; exact lifted os started H enc F)

theorem plain (f : FuncId) (fn : Func) (hf : Tryd.pinned.checked.prog.funcNamed "drydock/drydocklaw02.FractionMake" = some f) (hfn : Tryd.pinned.checked.prog.funcs[f]? = some fn) :
    false = Tryd.pinned.checked.prog.looks [] ∧ ∀ (j : Nat) t, fn.params[j]? = some t → Tryd.pinned.checked.prog.wantsStandIn t = false := by
  obtain rfl : f = 5 := Option.some.inj ((show Tryd.prog.funcNamed "drydock/drydocklaw02.FractionMake" = some 5 by kernel_rfl).symm.trans hf) |>.symm
  obtain rfl : fn = Tryd.f5 := (Option.some.inj (Tryd.func5.symm.trans hfn)).symm
  refine ⟨by kernel_rfl, fun j t ht => ?_⟩
  rw [Tryd.params5] at ht
  have hm : t ∈ [2, 2] := by
    have := Array.mem_of_getElem? ht
    simpa using this
  have hall : ([2, 2].all fun u => !Tryd.prog.wantsStandIn u) = true := by kernel_rfl
  exact (show Tryd.prog.wantsStandIn t = false by simpa using List.all_eq_true.1 hall t hm)

/-- The card. -/
theorem card : Rows.FractionMakeCardSaid :=
  Claim7.holds_tied_plain_at .later [] _ _ _ _ said (fun _ h => by cases h) (by kernel_rfl) (fun _ h => by cases h) fractionMake_row_tie rfl ⟨rfl, rfl⟩ (by kernel_rfl) rfl plain (by kernel_rfl)
end Go.Proofs.YtfoffjnffkgnaaaDoor.fnFractionMake
namespace Go.Proofs.YtfoffjnffkgnaaaDoor
theorem fractionMake_card : Rows.FractionMakeCardSaid := fnFractionMake.card
end Go.Proofs.YtfoffjnffkgnaaaDoor
