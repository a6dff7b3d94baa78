import Derived.Test.YtbeoeackahmpbaaGreatDoorJV7
import Derived.Test.YtbeoeackahmpbaaGreatDoorF15
import Derived.Deep.Cut
import Derived.Deep.RegionHeld3
import Derived.Lib.AppendZeros
namespace Go.Proofs.YtbeoeackahmpbaaGreatDoor
open Go.RowKit NatM Go.Proofs.YtbeoeackahmpbaaGreatDoor.Api LinM
set_option maxRecDepth 100000 in
set_option maxHeartbeats 2000000 in
theorem refIntN (z : Int) (s : Bool) (N D : Nat) (w : World) (r1 : Hid ((-9223372036854775808 ≤ z ∧ z ≤ 9223372036854775807) ∧ (-9223372036854775808 : Int) ≤ 1 ∧ (1 : Int) ≤ 9223372036854775807)) (hm : Hid (makeF z 1 = ((s, N, D), 0))) : Calls Tryz.prog 38 #[.int .i64 z] w (RetF w (s, N, D)) := by
 have hB := box_new w false none 0 0 none 0 0
 have T : Add w (w.alloc (.cells #[.bool false, .slice none 0 0, .slice none 0 0] 37)) := add_new _ _
 go_enter Tryz.func38, Tryz.ntmps38
 go_wp2_with fail
 refine ((refMakeF _ r1 hm).mono fun _ _ g => g.ok).mono ?_
 rintro e w1 ⟨a1, n1, c1, e1, d1, k1, rfl, x1, y1, h1⟩
 replace hB := hB.mono h1
 replace T := Add.trans T h1
 clear h1 r1 hm
 obtain ⟨tt, hV⟩ := laid_var w1 s a1 n1 c1 e1 d1 k1
 replace hB := hB.mono tt
 replace x1 := x1.mono tt
 replace y1 := y1.mono tt
 replace T := Add.trans T tt
 clear tt
 have ha0 := hV.c0
 have ha1 := hV.c1
 have ha2 := hV.c2
 have hc0 := hB.c0
 have hc1 := hB.c1
 have hc2 := hB.c2
 have hc3 := hB.fr 0
 have hc4 := hB.fr 1
 have hc5 := hB.fr 2
 have hF := retF_put (w := w) (x := (s, N, D)) hB ⟨a1, n1, c1, e1, d1, k1, rfl, x1, y1⟩ T (Nat.le_refl _)
 clear hB T x1 y1 hV
 unfold put3 at hF
 have HF := Lib.hid hF
 clear hF
 go_wp2_with fail
 exact bodyPost_ret (v := .agg #[.bool s, .slice a1 n1 c1, .slice e1 d1 k1]) (by simp [results, Tryz.results38, go_sem, hc0, hc1, hc2]) rfl HF.out
theorem refIntQ {z : Int} {q : Rat} (w : World) (hz : Hid (-1000 ≤ z ∧ z ≤ 1000)) (hq : Hid (makeF z 1 = (can q, 0))) : Calls Tryz.prog 38 #[.int .i64 z] w (RetF w (can q)) := by
 have h := hz.out
 exact refIntN z _ _ _ w (Lib.hid ⟨⟨by omega, by omega⟩, by decide, by decide⟩) hq
theorem sameF_yes {v v' : Value} {x : Tri} {w : World} (hx : FracT w v x) (hy : FracT w v' x) : Calls Tryz.prog 25 #[v, v'] w (BoolIs w true) := sameF true hx hy (Lib.hid (by simp))
set_option maxRecDepth 100000 in
set_option maxHeartbeats 2000000 in
theorem fracs_yes {w : World} {v v' : Value} {n : Nat} {t : Nat → Tri} (h : RowP true w v n t) (h' : RowP true w v' n t) (hn : n ≤ 100000) :
 Calls Tryz.prog 17 #[v, v'] w (BoolIs w true) := by
 have HA := Lib.hid (And.intro h h')
 obtain ⟨ao, c, rfl, -, -, -⟩ := h
 obtain ⟨bo, c', rfl, -, -, -⟩ := h'
 go_enter Tryz.func17, Tryz.ntmps17
 go_wp2_with fail
 go_loopw [5] (fun i wr => ∃ k : Nat, k ≤ n ∧ i = .int .i64 (k : Nat) ∧ Add w wr) (fun i _ => n - (intOf i).toNat)
 case atStart => exact ⟨0, Nat.zero_le _, rfl, Below.refl _ _⟩
 case round =>
  obtain ⟨k, hk, rfl, T⟩ := hrel
  by_cases h0 : k = n
  · have TT := Lib.hid T
    clear T
    subst h0
    go_wp2_with fail
    go_ret
    exact ⟨rfl, TT.out⟩
  · have hlt : k < n := by omega
    obtain ⟨b, off, s, an, q, cn, ad, d, cd, rfl, -, c0, c1, c2, hx⟩ := (HA.out.1.add T).get hlt
    obtain ⟨b2, off2, s2, an2, q2, cn2, ad2, d2, cd2, rfl, -, k0, k1, k2, hy⟩ := (HA.out.2.add T).get hlt
    have TT := Lib.hid T
    have CF : Hid (∀ w', Add wr w' → Calls Tryz.prog 25 #[.agg #[.bool s, .slice an q cn, .slice ad d cd], .agg #[.bool s2, .slice an2 q2 cn2, .slice ad2 d2 cd2]] w' (BoolIs w' true)) := Lib.hid fun w' ha => sameF_yes (FracT.mono hx ha) (FracT.mono hy ha)
    clear hx hy T h0
    go_upto_region 6 with fail
    go_region_held3 (fun w' => w'.cell? ⟨b, off + k * 3, none⟩ = some (.bool s) ∧ w'.cell? ⟨b, off + k * 3 + 1, none⟩ = some (.slice an q cn) ∧ w'.cell? ⟨b, off + k * 3 + 2, none⟩ = some (.slice ad d cd) ∧ w'.cell? ⟨b2, off2 + k * 3, none⟩ = some (.bool s2) ∧ w'.cell? ⟨b2, off2 + k * 3 + 1, none⟩ = some (.slice an2 q2 cn2) ∧ w'.cell? ⟨b2, off2 + k * 3 + 2, none⟩ = some (.slice ad2 d2 cd2))
     (first | exact ⟨c0, c1, c2, k0, k1, k2⟩ | exact ⟨cell_addL c0 aa2, cell_addL c1 aa2, cell_addL c2 aa2, cell_addL k0 aa2, cell_addL k1 aa2, cell_addL k2 aa2⟩)
     (first | (go_at_call 25; ((with_reducible refine (CF.out _ (Below.drew (Below.refl _ _))).mono ?_); rintro e z1 ⟨rfl, h3⟩; have aa2 := Add.trans (Below.drew (Below.refl _ _) : Add wr (World.drew wr)) h3; have HN := Lib.hid (Add.trans TT.out aa2))))
    all_goals
     go_wp2_with fail
     go_roundw
     case rel => exact ⟨k + 1, by omega, by go_num, HN.out⟩
     case measure => simp [intOf]; omega
def ordB (n : Nat) : Nat := 1 + n % 5
end Go.Proofs.YtbeoeackahmpbaaGreatDoor
namespace Go.Proofs.YtbeoeackahmpbaaGreatDoor
open Go.RowKit NatM Go.Proofs.YtbeoeackahmpbaaGreatDoor.Api LinM
set_option maxRecDepth 100000 in
set_option maxHeartbeats 2000000 in
theorem matrix_yes {w : World} {v v' : Value} {n : Nat} {m : Nat → Nat} {X : Nat → Nat → Tri} (h : MatP true w v n m X) (h' : MatP true w v' n m X) (hm : ∀ i, i < n → m i ≤ 100000) :
 Calls Tryz.prog 24 #[v, v'] w (BoolIs w true) := by
 have HA := Lib.hid (And.intro h h')
 have HM := Lib.hid hm
 obtain ⟨ao, c, rfl, hmx⟩ := h.isSlice
 obtain ⟨bo, c', rfl, -⟩ := h'.isSlice
 unfold maxLen at hmx
 clear h h' hm
 go_enter Tryz.func24, Tryz.ntmps24
 go_wp2_with fail
 go_loopw [5] (fun i wr => ∃ k : Nat, k ≤ n ∧ i = .int .i64 (k : Nat) ∧ Add w wr) (fun i _ => n - (intOf i).toNat)
 case atStart => exact ⟨0, Nat.zero_le _, rfl, Below.refl _ _⟩
 case round =>
  obtain ⟨k, hk, rfl, T⟩ := hrel
  by_cases h0 : k = n
  · have TT := Lib.hid T
    clear T
    subst h0
    go_wp2_with fail
    go_ret
    exact ⟨rfl, TT.out⟩
  · have hlt : k < n := by omega
    obtain ⟨b, off, a, l, rfl, -, c0, r0⟩ := HA.out.1.row hlt
    obtain ⟨b2, off2, a2, l2, rfl, -, c1, r1⟩ := HA.out.2.row hlt
    obtain ⟨mk, hmk⟩ : ∃ q, q = m k := ⟨_, rfl⟩
    have hmk2 := HM.out k hlt
    rw [← hmk] at c0 c1 r0 r1 hmk2
    have c0 := cell_addL c0 T
    have c1 := cell_addL c1 T
    have TT := Lib.hid T
    have CF : Hid (∀ w', Add wr w' → Calls Tryz.prog 17 #[.slice a mk l, .slice a2 mk l2] w' (BoolIs w' true)) := Lib.hid fun w' ha => fracs_yes (r0.add (Add.trans TT.out ha)) (r1.add (Add.trans TT.out ha)) hmk2
    clear r0 r1 T h0 hmk
    go_upto_region 6 with fail
    go_region_held3 (fun w' => w'.cell? ⟨b, off + k, none⟩ = some (.slice a mk l) ∧ w'.cell? ⟨b2, off2 + k, none⟩ = some (.slice a2 mk l2))
     (first | exact ⟨c0, c1⟩ | exact ⟨cell_addL c0 aa2, cell_addL c1 aa2⟩)
     (first | (go_at_call 17; ((with_reducible refine (CF.out _ (Below.drew (Below.refl _ _))).mono ?_); rintro e z1 ⟨rfl, h3⟩; have aa2 := Add.trans (Below.drew (Below.refl _ _) : Add wr (World.drew wr)) h3; have HN := Lib.hid (Add.trans TT.out aa2))))
    all_goals
     go_wp2_with fail
     go_roundw
     case rel => exact ⟨k + 1, by omega, by go_num, HN.out⟩
     case measure => simp [intOf]; omega
end Go.Proofs.YtbeoeackahmpbaaGreatDoor
namespace Go.Proofs.YtbeoeackahmpbaaGreatDoor
open Go.RowKit NatM Go.Proofs.YtbeoeackahmpbaaGreatDoor.Api LinM
def Ri8 (w : World) (v : Value) (n : Nat) (L : Nat → Int) : Prop :=
 ∃ ao c, v = .slice ao n c ∧ n ≤ 9223372036854775807 ∧ (0 < n → ∃ b off, ao = some ⟨b, off, none⟩ ∧ ∀ i, i < n → w.cell? ⟨b, off + i, none⟩ = some (.int .i8 (L i)) ∧ -128 ≤ L i ∧ L i ≤ 127)
theorem Ri8.add {w w' : World} {v : Value} {n : Nat} {L : Nat → Int} (h : Ri8 w v n L) (hb : Add w w') : Ri8 w' v n L := by
 obtain ⟨ao, c, e, h0, h1⟩ := h
 refine ⟨ao, c, e, h0, fun hn => ?_⟩
 obtain ⟨b, off, e, h2⟩ := h1 hn
 exact ⟨b, off, e, fun i hi => ⟨cell_addL (h2 i hi).1 hb, (h2 i hi).2⟩⟩
def elQ (z : Int) : Rat := frac (!(decide (Int.tmod z 16 < 0) == decide (1 + z % 256 / 32 < 0))) (Int.tmod z 16).natAbs (1 + z % 256 / 32).natAbs
def elT (z : Int) : Tri := can (elQ z)
def MkP (w : World) (t : Tri) (e : Ending) (w' : World) : Prop := ∃ (y : Bool) (a : Option Addr) (n c : Nat) (e' : Option Addr) (d f k : Nat), e = .returned (.tuple #[.agg #[.bool y, .slice a n c, .slice e' d f], .int .i64 (k : Nat)]) ∧ FracT w' (.agg #[.bool y, .slice a n c, .slice e' d f]) t ∧ Add w w'
theorem chg_put3 {w : World} {g : Nat} {b an n cn ad d cd} (hB : Box w g b an n cn ad d cd) (u0 u1 u2 : Value) : Chg (fun k => k = g) w (put3 w g u0 u1 u2) :=
 ⟨rfl, rfl, rfl, by simp [put3], fun k _ hn => put3_other _ _ _ hn, fun p k z hk hp => by
  have hs : ∀ j, w.cell? ⟨g, j, none⟩ ≠ some (.int k z) := fun j => by
   rw [cell_of_row w g j _ _ (0, 0) hB]
   rcases j with _ | _ | _ | j <;> simp
  have e : ∀ j, p ≠ ⟨g, j, none⟩ := fun j e => hs j (by rw [← e]; exact hp)
  unfold put3
  rw [cell_set_other rfl (e _), cell_set_other rfl (e _), cell_set_other rfl (e _)]; exact hp⟩
def matT (n : Nat) (L : Nat → Int) (cols : Nat) : Nat → Nat → Tri := fun i j => if i * cols + j < n then elT (L (i * cols + j)) else can 0
structure GM (w : World) (base : Nat) (rv : Value) (k : Nat) (hv : Nat → Value) (m : Nat) (X : Nat → Nat → Tri) : Prop where
 own : w.ownsRow base 23 1 rv k ((List.range k).map hv)
 soft : SoftB w rv
 rows : ∀ i, i < k → OwnF w base (hv i) m (X i)
theorem GM.add {w w' : World} {base k m : Nat} {rv : Value} {hv : Nat → Value} {X : Nat → Nat → Tri} (h : GM w base rv k hv m X) (hb : Add w w') : GM w' base rv k hv m X :=
 ⟨own_chg h.own (Chg.of_add (fun _ => False) hb) (fun _ _ => id), soft_chg h.soft (Chg.of_add (fun _ => False) hb) (fun g hg => ⟨(own_in h.own g hg).2.1, id⟩), fun i hi => (h.rows i hi).add hb⟩
theorem GM.nil (w : World) (base m : Nat) (hv : Nat → Value) (X : Nat → Nat → Tri) : GM w base (.slice none 0 0) 0 hv m X :=
 ⟨World.ownsRow_nil _ _ _ _, fun g hg => (by cases hg), fun i hi => (by omega)⟩
theorem GM.mat {w : World} {base k m : Nat} {rv : Value} {hv : Nat → Value} {X : Nat → Nat → Tri} (h : GM w base rv k hv m X) : MatP true w rv k (fun _ => m) X := by
 rcases h.own.2 with ⟨e, h0⟩ | ⟨g, cap, cur, e, -, -, h2, h3, -⟩
 · subst h0
   exact ⟨none, 0, e, Nat.le_refl _, by unfold maxLen; omega, fun h => by omega⟩
 · refine ⟨_, cap, e, h2, h3, fun _ => ⟨g, 0, rfl, fun i hi => ⟨hv i, ?_, (h.rows i hi).row⟩⟩⟩
   have := h.own.cells (g := g) (by rw [e]; rfl) i (hv i) (by simp [hi])
   rwa [Addr.add_lit] at this
set_option maxRecDepth 100000 in
theorem GM.push {w w1 : World} {base base' k m B c : Nat} {rv u : Value} {hv : Nat → Value} {X : Nat → Nat → Tri} (h : GM w base rv k hv m X) (ha : Add w w1) (hu : OwnF w1 base' u m (X k)) (hb : base ≤ base') (hbase : base ≤ w.heap.size) (hB : w1.heap[B]? = some (.cells #[u] 23 (0, 0))) (hk : k ≤ 1000) :
 ∃ a' c' w2, (Builtin.append_ #[22, 22] 22 #[rv, .slice (some ⟨B, 0, none⟩) 1 c]).run Tryz.prog w1 = .ok (.slice a' (k + 1) c') w2 ∧
  GM w2 base (.slice a' (k + 1) c') (k + 1) (fun i => if i = k then u else hv i) m X ∧ Chg (fun b => rv.ownBlock = some b) w1 w2 := by
 have h1 := h.add ha
 obtain ⟨i1, hi1, hy0, hy1, hy2⟩ := info_parts infoFracs
 obtain ⟨ua, uc, rfl, -, -⟩ := hu.slice
 obtain ⟨v', w2, hr, k1, k2, k3, k4⟩ := run_append_soft (P := Tryz.prog) w1 base 22 22 23 i1 (.slice none 0 0) 1 24 Tryz.underlying22 hi1 hy0 hy1 hy2 rfl (by decide)
  (by intro u hu kk z _ e; simp [Value.cells] at hu; rw [hu] at e; cases e)
  rv k _ h1.own h1.soft ⟨B, 0, none⟩ 1 c [.slice ua m uc] rfl (World.news_of_block hB) (by intro u hu; simp at hu; rw [hu]; rfl) (by intro u hu kk z _ e; simp at hu; rw [hu] at e; cases e)
  (by unfold maxLen; omega) (by omega) (Nat.le_trans hbase ha.size)
 obtain ⟨a', c', rfl⟩ := own_isSlice k1
 have hc := chg_grown k2 h1.soft
 have hne : ∀ {v : Value} {n : Nat} {t : Nat → Tri} {b : Nat}, OwnF w1 b v n t → ∀ g, v.ownBlock = some g → ¬ rv.ownBlock = some g := fun hv g hg e => by
  obtain ⟨xs, q1, -⟩ := hv
  obtain ⟨-, -, cur, q2⟩ := own_in q1 g hg
  obtain ⟨-, -, cur', q3⟩ := own_in h1.own g e
  rw [q2] at q3
  simp only [Option.some.injEq, Obj.cells.injEq] at q3
  exact absurd q3.2.1 (by decide)
 refine ⟨a', c', w2, hr, ⟨?_, k4, fun i hi => ?_⟩, hc⟩
 · have e : ((List.range (k + 1)).map fun i => if i = k then Value.slice ua m uc else hv i) = ((List.range k).map hv) ++ [.slice ua m uc] := by
    rw [List.range_succ, List.map_append]
    congr 1
    · refine List.map_congr_left fun i hi => ?_
      rw [if_neg (by have := List.mem_range.1 hi; omega)]
    · simp
   rw [e]; exact k1
 · by_cases e : i = k
   · subst e
     rw [if_pos rfl]
     exact (hu.base hb).chg hc (hne hu)
   · rw [if_neg e]
     have := h1.rows i (by omega)
     exact this.chg hc (hne this)
theorem app_box {w0 V : World} {q : Nat} {ua : Option Addr} {uc : Nat} {t : Nat → Tri} {x : Tri} {y : Bool} {a : Option Addr} {n c : Nat} {e : Option Addr} {d f : Nat} (hr : OwnF V w0.heap.size (.slice ua q uc) q t) (hx : FracT V (.agg #[.bool y, .slice a n c, .slice e d f]) x) (hT : Add w0 V) (hq : q ≤ 1000) :
 ∃ a' c' w', (Builtin.append_ #[23, 23] 23 #[.slice ua q uc, .slice (some ⟨V.heap.size, 0, none⟩) 1 1]).run Tryz.prog (V.alloc (.cells #[.bool y, .slice a n c, .slice e d f] 37)) = .ok (.slice a' (q + 1) c') w' ∧
  OwnF w' w0.heap.size (.slice a' (q + 1) c') (q + 1) (fun i => if i = q then x else t i) ∧ Add w0 w' := by
 have h1 := add_new V (.cells #[.bool y, .slice a n c, .slice e d f] 37)
 have hbk : (V.alloc (.cells #[.bool y, .slice a n c, .slice e d f] 37)).heap[V.heap.size]? = some (.cells #[.bool y, .slice a n c, .slice e d f] 37 (0, 0)) := heap_alloc_new V _
 obtain ⟨a', c', w6, hrun, hO6, hc6, -⟩ := (hr.add h1).append hbk (hx.mono h1) (by omega) (Nat.le_trans hT.size h1.size) 1
 exact ⟨a', c', w6, hrun, hO6, hc6.below (Add.trans hT h1) (Nat.le_trans hT.size h1.size) fun g hg => (hr.lt g hg).1⟩
end Go.Proofs.YtbeoeackahmpbaaGreatDoor
