/- The laws' helpers: Int, Fracs, order. | Matrices that are the same; matrices in lowest terms. | The law's helper matrix. -/
import Derived.Test.YtbeoeackahmpbaaGreatDoorJV7
import Derived.Test.YtbeoeackahmpbaaGreatDoorF15
import Derived.Deep.Cut
import Derived.Deep.RegionHeld3
import Derived.Lib.AppendZeros

namespace Go.Proofs.YtbeoeackahmpbaaGreatDoor
open Go.RowKit NatM Go.Proofs.YtbeoeackahmpbaaGreatDoor.Api LinM

set_option maxRecDepth 100000 in
set_option maxHeartbeats 2000000 in
theorem refIntN (z : Int) (s : Bool) (N D : Nat) (w : World) (r1 : Hid ((-9223372036854775808 ≤ z ∧ z ≤ 9223372036854775807) ∧ (-9223372036854775808 : Int) ≤ 1 ∧ (1 : Int) ≤ 9223372036854775807)) (hm : Hid (makeF z 1 = ((s, N, D), 0))) : Calls Tryz.prog 38 #[.int .i64 z] w (RetF w (s, N, D)) := by
  have hB := box_new w false none 0 0 none 0 0
  have T : Add w (w.alloc (.cells #[.bool false, .slice none 0 0, .slice none 0 0] 37)) := add_new _ _
  go_enter Tryz.func38, Tryz.ntmps38
  go_wp2_with fail
  refine ((refMakeF _ r1 hm).mono fun _ _ g => g.ok).mono ?_
  rintro e w1 ⟨a1, n1, c1, e1, d1, k1, rfl, x1, y1, h1⟩
  replace hB := hB.mono h1
  replace T := Add.trans T h1
  clear h1 r1 hm
  obtain ⟨tt, hV⟩ := laid_var w1 s a1 n1 c1 e1 d1 k1
  replace hB := hB.mono tt
  replace x1 := x1.mono tt
  replace y1 := y1.mono tt
  replace T := Add.trans T tt
  clear tt
  have ha0 := hV.c0
  have ha1 := hV.c1
  have ha2 := hV.c2
  have hc0 := hB.c0
  have hc1 := hB.c1
  have hc2 := hB.c2
  have hc3 := hB.fr 0
  have hc4 := hB.fr 1
  have hc5 := hB.fr 2
  have hF := retF_put (w := w) (x := (s, N, D)) hB ⟨a1, n1, c1, e1, d1, k1, rfl, x1, y1⟩ T (Nat.le_refl _)
  clear hB T x1 y1 hV
  unfold put3 at hF
  have HF := Lib.hid hF
  clear hF
  go_wp2_with fail
  exact bodyPost_ret (v := .agg #[.bool s, .slice a1 n1 c1, .slice e1 d1 k1]) (by simp [results, Tryz.results38, go_sem, hc0, hc1, hc2]) rfl HF.out
/-- A small number. -/
theorem refIntQ {z : Int} {q : Rat} (w : World) (hz : Hid (-1000 ≤ z ∧ z ≤ 1000)) (hq : Hid (makeF z 1 = (can q, 0))) : Calls Tryz.prog 38 #[.int .i64 z] w (RetF w (can q)) := by
  have h := hz.out
  exact refIntN z _ _ _ w (Lib.hid ⟨⟨by omega, by omega⟩, by decide, by decide⟩) hq
theorem sameF_yes {v v' : Value} {x : Tri} {w : World} (hx : FracT w v x) (hy : FracT w v' x) : Calls Tryz.prog 25 #[v, v'] w (BoolIs w true) := sameF true hx hy (Lib.hid (by simp))
set_option maxRecDepth 100000 in
set_option maxHeartbeats 2000000 in
theorem fracs_yes {w : World} {v v' : Value} {n : Nat} {t : Nat → Tri} (h : RowP true w v n t) (h' : RowP true w v' n t) (hn : n ≤ 100000) :
    Calls Tryz.prog 17 #[v, v'] w (BoolIs w true) := by
  have HA := Lib.hid (And.intro h h')
  obtain ⟨ao, c, rfl, -, -, -⟩ := h
  obtain ⟨bo, c', rfl, -, -, -⟩ := h'
  go_enter Tryz.func17, Tryz.ntmps17
  go_wp2_with fail
  go_loopw [5] (fun i wr => ∃ k : Nat, k ≤ n ∧ i = .int .i64 (k : Nat) ∧ Add w wr) (fun i _ => n - (intOf i).toNat)
  case atStart => exact ⟨0, Nat.zero_le _, rfl, Below.refl _ _⟩
  case round =>
    obtain ⟨k, hk, rfl, T⟩ := hrel
    by_cases h0 : k = n
    · have TT := Lib.hid T
      clear T
      subst h0
      go_wp2_with fail
      go_ret
      exact ⟨rfl, TT.out⟩
    · have hlt : k < n := by omega
      obtain ⟨b, off, s, an, q, cn, ad, d, cd, rfl, -, c0, c1, c2, hx⟩ := (HA.out.1.add T).get hlt
      obtain ⟨b2, off2, s2, an2, q2, cn2, ad2, d2, cd2, rfl, -, k0, k1, k2, hy⟩ := (HA.out.2.add T).get hlt
      have TT := Lib.hid T
      have CF : Hid (∀ w', Add wr w' → Calls Tryz.prog 25 #[.agg #[.bool s, .slice an q cn, .slice ad d cd], .agg #[.bool s2, .slice an2 q2 cn2, .slice ad2 d2 cd2]] w' (BoolIs w' true)) := Lib.hid fun w' ha => sameF_yes (FracT.mono hx ha) (FracT.mono hy ha)
      clear hx hy T h0
      go_upto_region 6 with fail
      go_region_held3 (fun w' => w'.cell? ⟨b, off + k * 3, none⟩ = some (.bool s) ∧ w'.cell? ⟨b, off + k * 3 + 1, none⟩ = some (.slice an q cn) ∧ w'.cell? ⟨b, off + k * 3 + 2, none⟩ = some (.slice ad d cd) ∧ w'.cell? ⟨b2, off2 + k * 3, none⟩ = some (.bool s2) ∧ w'.cell? ⟨b2, off2 + k * 3 + 1, none⟩ = some (.slice an2 q2 cn2) ∧ w'.cell? ⟨b2, off2 + k * 3 + 2, none⟩ = some (.slice ad2 d2 cd2))
        (first | exact ⟨c0, c1, c2, k0, k1, k2⟩ | exact ⟨cell_addL c0 aa2, cell_addL c1 aa2, cell_addL c2 aa2, cell_addL k0 aa2, cell_addL k1 aa2, cell_addL k2 aa2⟩)
        (first | (go_at_call 25; ((with_reducible refine (CF.out _ (Below.drew (Below.refl _ _))).mono ?_); rintro e z1 ⟨rfl, h3⟩; have aa2 := Add.trans (Below.drew (Below.refl _ _) : Add wr (World.drew wr)) h3; have HN := Lib.hid (Add.trans TT.out aa2))))
      all_goals
        go_wp2_with fail
        go_roundw
        case rel => exact ⟨k + 1, by omega, by go_num, HN.out⟩
        case measure => simp [intOf]; omega
/-- The order that a byte stands for. -/
def ordB (n : Nat) : Nat := 1 + n % 5
set_option maxRecDepth 100000 in
theorem orderLN {w : World} {n k : Nat} (hn : n < 256) (hk : Hid (ordB n = k)) : Calls Tryz.prog 32 #[.int .u8 (n : Nat)] w (IntIs w (k : Nat)) := by
  have h := hk.out
  unfold ordB at h
  have e : (1 : Int) + (n : Int) % 5 = (k : Int) := by omega
  have HE := Lib.hid e
  clear hk h e
  go_enter Tryz.func32, Tryz.ntmps32
  go_wp2_with fail
  rw [HE.out]
  go_ret
  exact ⟨rfl, Below.refl _ _⟩
end Go.Proofs.YtbeoeackahmpbaaGreatDoor

namespace Go.Proofs.YtbeoeackahmpbaaGreatDoor
open Go.RowKit NatM Go.Proofs.YtbeoeackahmpbaaGreatDoor.Api LinM

set_option maxRecDepth 100000 in
set_option maxHeartbeats 2000000 in
theorem matrix_yes {w : World} {v v' : Value} {n : Nat} {m : Nat → Nat} {X : Nat → Nat → Tri} (h : MatP true w v n m X) (h' : MatP true w v' n m X) (hm : ∀ i, i < n → m i ≤ 100000) :
    Calls Tryz.prog 24 #[v, v'] w (BoolIs w true) := by
  have HA := Lib.hid (And.intro h h')
  have HM := Lib.hid hm
  obtain ⟨ao, c, rfl, hmx⟩ := h.isSlice
  obtain ⟨bo, c', rfl, -⟩ := h'.isSlice
  unfold maxLen at hmx
  clear h h' hm
  go_enter Tryz.func24, Tryz.ntmps24
  go_wp2_with fail
  go_loopw [5] (fun i wr => ∃ k : Nat, k ≤ n ∧ i = .int .i64 (k : Nat) ∧ Add w wr) (fun i _ => n - (intOf i).toNat)
  case atStart => exact ⟨0, Nat.zero_le _, rfl, Below.refl _ _⟩
  case round =>
    obtain ⟨k, hk, rfl, T⟩ := hrel
    by_cases h0 : k = n
    · have TT := Lib.hid T
      clear T
      subst h0
      go_wp2_with fail
      go_ret
      exact ⟨rfl, TT.out⟩
    · have hlt : k < n := by omega
      obtain ⟨b, off, a, l, rfl, -, c0, r0⟩ := HA.out.1.row hlt
      obtain ⟨b2, off2, a2, l2, rfl, -, c1, r1⟩ := HA.out.2.row hlt
      obtain ⟨mk, hmk⟩ : ∃ q, q = m k := ⟨_, rfl⟩
      have hmk2 := HM.out k hlt
      rw [← hmk] at c0 c1 r0 r1 hmk2
      have c0 := cell_addL c0 T
      have c1 := cell_addL c1 T
      have TT := Lib.hid T
      have CF : Hid (∀ w', Add wr w' → Calls Tryz.prog 17 #[.slice a mk l, .slice a2 mk l2] w' (BoolIs w' true)) := Lib.hid fun w' ha => fracs_yes (r0.add (Add.trans TT.out ha)) (r1.add (Add.trans TT.out ha)) hmk2
      clear r0 r1 T h0 hmk
      go_upto_region 6 with fail
      go_region_held3 (fun w' => w'.cell? ⟨b, off + k, none⟩ = some (.slice a mk l) ∧ w'.cell? ⟨b2, off2 + k, none⟩ = some (.slice a2 mk l2))
        (first | exact ⟨c0, c1⟩ | exact ⟨cell_addL c0 aa2, cell_addL c1 aa2⟩)
        (first | (go_at_call 17; ((with_reducible refine (CF.out _ (Below.drew (Below.refl _ _))).mono ?_); rintro e z1 ⟨rfl, h3⟩; have aa2 := Add.trans (Below.drew (Below.refl _ _) : Add wr (World.drew wr)) h3; have HN := Lib.hid (Add.trans TT.out aa2))))
      all_goals
        go_wp2_with fail
        go_roundw
        case rel => exact ⟨k + 1, by omega, by go_num, HN.out⟩
        case measure => simp [intOf]; omega
theorem qm_can (A : Mat) : qm (fun i j => can (A i j)) = A := by funext i j; unfold qm; rw [qv_can]
theorem qr_can (b : Nat → Rat) : qr (fun j => can (b j)) = b := by funext j; unfold qr; rw [qv_can]
theorem can_sq {A : Mat} {n : Nat} (hn : 1 ≤ n ∧ n ≤ 24) (hf : ∀ i j, i < n → j < n → Fit (A i j)) : shapeOk (fun i j => can (A i j)) (fun _ => n) n = true :=
  shapeOk_iff.2 ⟨hn, hn, fun i hi => ⟨rfl, fun j hj => (hf i j hi hj).ok⟩⟩
end Go.Proofs.YtbeoeackahmpbaaGreatDoor

namespace Go.Proofs.YtbeoeackahmpbaaGreatDoor
open Go.RowKit NatM Go.Proofs.YtbeoeackahmpbaaGreatDoor.Api LinM

/-- A slice of n bytes with signs. -/
def Ri8 (w : World) (v : Value) (n : Nat) (L : Nat → Int) : Prop :=
  ∃ ao c, v = .slice ao n c ∧ n ≤ 9223372036854775807 ∧ (0 < n → ∃ b off, ao = some ⟨b, off, none⟩ ∧ ∀ i, i < n → w.cell? ⟨b, off + i, none⟩ = some (.int .i8 (L i)) ∧ -128 ≤ L i ∧ L i ≤ 127)
theorem Ri8.add {w w' : World} {v : Value} {n : Nat} {L : Nat → Int} (h : Ri8 w v n L) (hb : Add w w') : Ri8 w' v n L := by
  obtain ⟨ao, c, e, h0, h1⟩ := h
  refine ⟨ao, c, e, h0, fun hn => ?_⟩
  obtain ⟨b, off, e, h2⟩ := h1 hn
  exact ⟨b, off, e, fun i hi => ⟨cell_addL (h2 i hi).1 hb, (h2 i hi).2⟩⟩
/-- What a byte stands for. -/
def elQ (z : Int) : Rat := frac (!(decide (Int.tmod z 16 < 0) == decide (1 + z % 256 / 32 < 0))) (Int.tmod z 16).natAbs (1 + z % 256 / 32).natAbs
def elT (z : Int) : Tri := can (elQ z)
theorem small_z {z : Int} (h1 : -128 ≤ z) (h2 : z ≤ 127) : IntKind.i64.wrap (z.tmod 16) = z.tmod 16 ∧ IntKind.i64.wrap (1 + IntKind.i64.wrap (IntKind.u8.wrap z / 32)) = 1 + z % 256 / 32 ∧ (z.tmod 16).natAbs ≤ 15 ∧ 1 ≤ 1 + z % 256 / 32 ∧ 1 + z % 256 / 32 ≤ 8 := by
  have key : ∀ n : Fin 256, IntKind.i64.wrap (Int.tmod ((n.val : Int) - 128) 16) = Int.tmod ((n.val : Int) - 128) 16 ∧ IntKind.i64.wrap (1 + IntKind.i64.wrap (IntKind.u8.wrap ((n.val : Int) - 128) / 32)) = 1 + ((n.val : Int) - 128) % 256 / 32 ∧ (Int.tmod ((n.val : Int) - 128) 16).natAbs ≤ 15 ∧ 1 ≤ 1 + ((n.val : Int) - 128) % 256 / 32 ∧ 1 + ((n.val : Int) - 128) % 256 / 32 ≤ 8 := by decide +kernel
  have e : (((⟨(z + 128).toNat, by omega⟩ : Fin 256).val : Int) - 128) = z := by show (((z + 128).toNat : Nat) : Int) - 128 = z; omega
  have := key ⟨(z + 128).toNat, by omega⟩
  rwa [e] at this
theorem elQ_ok {z : Int} (h1 : -128 ≤ z) (h2 : z ≤ 127) : makeF (z.tmod 16) (1 + z % 256 / 32) = (elT z, 0) ∧ (elQ z).num.natAbs ≤ 15 ∧ (elQ z).den ≤ 8 := by
  obtain ⟨-, -, k1, k2, k3⟩ := small_z h1 h2
  have hD : (1 + z % 256 / 32).natAbs ≠ 0 := by omega
  refine ⟨?_, ?_, ?_⟩
  · unfold makeF
    rw [if_neg (by omega)]
    exact fitQ_small (small128 (by omega)) (small128 (by omega)) hD
  · unfold elQ; rw [frac_abs hD]; exact Nat.le_trans (Nat.div_le_self _ _) k1
  · unfold elQ; rw [frac_den hD]; exact Nat.le_trans (Nat.div_le_self _ _) (by omega)
/-- A fraction and an error that is not looked at. -/
def MkP (w : World) (t : Tri) (e : Ending) (w' : World) : Prop := ∃ (y : Bool) (a : Option Addr) (n c : Nat) (e' : Option Addr) (d f k : Nat), e = .returned (.tuple #[.agg #[.bool y, .slice a n c, .slice e' d f], .int .i64 (k : Nat)]) ∧ FracT w' (.agg #[.bool y, .slice a n c, .slice e' d f]) t ∧ Add w w'
theorem mkN {z : Int} (w : World) (h1 : -128 ≤ z) (h2 : z ≤ 127) : Calls Tryz.prog 63 #[.int .i64 (IntKind.i64.wrap (z.tmod 16)), .int .i64 (IntKind.i64.wrap (1 + IntKind.i64.wrap (IntKind.u8.wrap z / 32)))] w (MkP w (elT z)) := by
  obtain ⟨e1, e2, k1, k2, k3⟩ := small_z h1 h2
  rw [e1, e2]
  refine (refMakeF _ (Lib.hid ⟨⟨by omega, by omega⟩, by omega, by omega⟩) (Lib.hid (elQ_ok h1 h2).1)).mono ?_
  rintro e w' ⟨v, rfl, hv, h⟩
  obtain ⟨a, n, c, e', d, f, rfl, g1, g2⟩ := id hv
  exact ⟨_, a, n, c, e', d, f, 0, rfl, hv, h⟩
theorem chg_put3 {w : World} {g : Nat} {b an n cn ad d cd} (hB : Box w g b an n cn ad d cd) (u0 u1 u2 : Value) : Chg (fun k => k = g) w (put3 w g u0 u1 u2) :=
  ⟨rfl, rfl, rfl, by simp [put3], fun k _ hn => put3_other _ _ _ hn, fun p k z hk hp => by
    have hs : ∀ j, w.cell? ⟨g, j, none⟩ ≠ some (.int k z) := fun j => by
      rw [cell_of_row w g j _ _ (0, 0) hB]
      rcases j with _ | _ | _ | j <;> simp
    have e : ∀ j, p ≠ ⟨g, j, none⟩ := fun j e => hs j (by rw [← e]; exact hp)
    unfold put3
    rw [cell_set_other rfl (e _), cell_set_other rfl (e _), cell_set_other rfl (e _)]; exact hp⟩
/-- The matrix that the bytes stand for. -/
def matT (n : Nat) (L : Nat → Int) (cols : Nat) : Nat → Nat → Tri := fun i j => if i * cols + j < n then elT (L (i * cols + j)) else can 0
/-- k rows, grown by append. -/
structure GM (w : World) (base : Nat) (rv : Value) (k : Nat) (hv : Nat → Value) (m : Nat) (X : Nat → Nat → Tri) : Prop where
  own : w.ownsRow base 23 1 rv k ((List.range k).map hv)
  soft : SoftB w rv
  rows : ∀ i, i < k → OwnF w base (hv i) m (X i)
theorem GM.add {w w' : World} {base k m : Nat} {rv : Value} {hv : Nat → Value} {X : Nat → Nat → Tri} (h : GM w base rv k hv m X) (hb : Add w w') : GM w' base rv k hv m X :=
  ⟨own_chg h.own (Chg.of_add (fun _ => False) hb) (fun _ _ => id), soft_chg h.soft (Chg.of_add (fun _ => False) hb) (fun g hg => ⟨(own_in h.own g hg).2.1, id⟩), fun i hi => (h.rows i hi).add hb⟩
theorem GM.nil (w : World) (base m : Nat) (hv : Nat → Value) (X : Nat → Nat → Tri) : GM w base (.slice none 0 0) 0 hv m X :=
  ⟨World.ownsRow_nil _ _ _ _, fun g hg => (by cases hg), fun i hi => (by omega)⟩
theorem GM.mat {w : World} {base k m : Nat} {rv : Value} {hv : Nat → Value} {X : Nat → Nat → Tri} (h : GM w base rv k hv m X) : MatP true w rv k (fun _ => m) X := by
  rcases h.own.2 with ⟨e, h0⟩ | ⟨g, cap, cur, e, -, -, h2, h3, -⟩
  · subst h0
    exact ⟨none, 0, e, Nat.le_refl _, by unfold maxLen; omega, fun h => by omega⟩
  · refine ⟨_, cap, e, h2, h3, fun _ => ⟨g, 0, rfl, fun i hi => ⟨hv i, ?_, (h.rows i hi).row⟩⟩⟩
    have := h.own.cells (g := g) (by rw [e]; rfl) i (hv i) (by simp [hi])
    rwa [Addr.add_lit] at this
set_option maxRecDepth 100000 in
/-- One more row, whose header lies in block B. -/
theorem GM.push {w w1 : World} {base base' k m B c : Nat} {rv u : Value} {hv : Nat → Value} {X : Nat → Nat → Tri} (h : GM w base rv k hv m X) (ha : Add w w1) (hu : OwnF w1 base' u m (X k)) (hb : base ≤ base') (hbase : base ≤ w.heap.size) (hB : w1.heap[B]? = some (.cells #[u] 23 (0, 0))) (hk : k ≤ 1000) :
    ∃ a' c' w2, (Builtin.append_ #[22, 22] 22 #[rv, .slice (some ⟨B, 0, none⟩) 1 c]).run Tryz.prog w1 = .ok (.slice a' (k + 1) c') w2 ∧
      GM w2 base (.slice a' (k + 1) c') (k + 1) (fun i => if i = k then u else hv i) m X ∧ Chg (fun b => rv.ownBlock = some b) w1 w2 := by
  have h1 := h.add ha
  obtain ⟨i1, hi1, hy0, hy1, hy2⟩ := info_parts infoFracs
  obtain ⟨ua, uc, rfl, -, -⟩ := hu.slice
  obtain ⟨v', w2, hr, k1, k2, k3, k4⟩ := run_append_soft (P := Tryz.prog) w1 base 22 22 23 i1 (.slice none 0 0) 1 24 Tryz.underlying22 hi1 hy0 hy1 hy2 rfl (by decide)
    (by intro u hu kk z _ e; simp [Value.cells] at hu; rw [hu] at e; cases e)
    rv k _ h1.own h1.soft ⟨B, 0, none⟩ 1 c [.slice ua m uc] rfl (World.news_of_block hB) (by intro u hu; simp at hu; rw [hu]; rfl) (by intro u hu kk z _ e; simp at hu; rw [hu] at e; cases e)
    (by unfold maxLen; omega) (by omega) (Nat.le_trans hbase ha.size)
  obtain ⟨a', c', rfl⟩ := own_isSlice k1
  have hc := chg_grown k2 h1.soft
  have hne : ∀ {v : Value} {n : Nat} {t : Nat → Tri} {b : Nat}, OwnF w1 b v n t → ∀ g, v.ownBlock = some g → ¬ rv.ownBlock = some g := fun hv g hg e => by
    obtain ⟨xs, q1, -⟩ := hv
    obtain ⟨-, -, cur, q2⟩ := own_in q1 g hg
    obtain ⟨-, -, cur', q3⟩ := own_in h1.own g e
    rw [q2] at q3
    simp only [Option.some.injEq, Obj.cells.injEq] at q3
    exact absurd q3.2.1 (by decide)
  refine ⟨a', c', w2, hr, ⟨?_, k4, fun i hi => ?_⟩, hc⟩
  · have e : ((List.range (k + 1)).map fun i => if i = k then Value.slice ua m uc else hv i) = ((List.range k).map hv) ++ [.slice ua m uc] := by
      rw [List.range_succ, List.map_append]
      congr 1
      · refine List.map_congr_left fun i hi => ?_
        rw [if_neg (by have := List.mem_range.1 hi; omega)]
      · simp
    rw [e]; exact k1
  · by_cases e : i = k
    · subst e
      rw [if_pos rfl]
      exact (hu.base hb).chg hc (hne hu)
    · rw [if_neg e]
      have := h1.rows i (by omega)
      exact this.chg hc (hne this)
/-- The element in the variable's block is appended. -/
theorem app_box {w0 V : World} {q : Nat} {ua : Option Addr} {uc : Nat} {t : Nat → Tri} {x : Tri} {y : Bool} {a : Option Addr} {n c : Nat} {e : Option Addr} {d f : Nat} (hr : OwnF V w0.heap.size (.slice ua q uc) q t) (hx : FracT V (.agg #[.bool y, .slice a n c, .slice e d f]) x) (hT : Add w0 V) (hq : q ≤ 1000) :
    ∃ a' c' w', (Builtin.append_ #[23, 23] 23 #[.slice ua q uc, .slice (some ⟨V.heap.size, 0, none⟩) 1 1]).run Tryz.prog (V.alloc (.cells #[.bool y, .slice a n c, .slice e d f] 37)) = .ok (.slice a' (q + 1) c') w' ∧
      OwnF w' w0.heap.size (.slice a' (q + 1) c') (q + 1) (fun i => if i = q then x else t i) ∧ Add w0 w' := by
  have h1 := add_new V (.cells #[.bool y, .slice a n c, .slice e d f] 37)
  have hbk : (V.alloc (.cells #[.bool y, .slice a n c, .slice e d f] 37)).heap[V.heap.size]? = some (.cells #[.bool y, .slice a n c, .slice e d f] 37 (0, 0)) := heap_alloc_new V _
  obtain ⟨a', c', w6, hrun, hO6, hc6, -⟩ := (hr.add h1).append hbk (hx.mono h1) (by omega) (Nat.le_trans hT.size h1.size) 1
  exact ⟨a', c', w6, hrun, hO6, hc6.below (Add.trans hT h1) (Nat.le_trans hT.size h1.size) fun g hg => (hr.lt g hg).1⟩
set_option maxRecDepth 100000 in
set_option maxHeartbeats 4000000 in
theorem matrixN {w : World} {v : Value} {n rows cols : Nat} {L : Nat → Int} (h : Ri8 w v n L) (hT : Tab w) (hr : rows ≤ 10) (hc : cols ≤ 10) :
    Calls Tryz.prog 33 #[.int .i64 (rows : Nat), .int .i64 (cols : Nat), v] w (fun e w' => ∃ rv hv, e = .returned rv ∧ GM w' w.heap.size rv rows hv cols (matT n L cols) ∧ Add w w') := by
  have HL := Lib.hid h
  obtain ⟨ao, ca, rfl, h63, -⟩ := h
  have HI : Hid (∀ w', Calls Tryz.prog 38 #[.int .i64 0] w' (RetF w' (can 0))) := Lib.hid fun w' => refInt0 w'
  have HT := Lib.hid hT
  clear hT
  go_enter Tryz.func33, Tryz.ntmps33
  go_wp2_with fail
  go_loopw [7, 8] (fun rv i wr => ∃ (k : Nat) (hv : Nat → Value), k ≤ rows ∧ i = .int .i64 (k : Nat) ∧ GM wr w.heap.size rv k hv cols (matT n L cols) ∧ Add w wr) (fun _ i _ => rows - (intOf i).toNat)
  case atStart => exact ⟨0, fun _ => .slice none 0 0, Nat.zero_le _, rfl, GM.nil _ _ _ _ _, Below.refl _ _⟩
  case round =>
    obtain ⟨k, hv, hk, rfl, hE, T⟩ := hrel
    obtain ⟨ra, rc, rfl⟩ := own_isSlice hE.own
    by_cases h0 : k = rows
    · have HF := Lib.hid (And.intro hE T)
      clear hE T
      subst h0
      go_wp2_with fail
      go_ret
      exact ⟨_, hv, rfl, HF.out.1, HF.out.2⟩
    · have hlt : k < rows := by omega
      rename World => wm
      have HE := Lib.hid (And.intro hE T)
      clear hE T h0
      go_wp2_with fail
      go_loopw [9, 10] (fun u j wq => ∃ q : Nat, q ≤ cols ∧ j = .int .i64 (q : Nat) ∧ OwnF wq wm.heap.size u q (matT n L cols k) ∧ Add wm wq) (fun _ j _ => cols - (intOf j).toNat)
      case atStart => exact ⟨0, Nat.zero_le _, rfl, OwnF.nil _ _ _, Below.refl _ _⟩
      case round =>
        obtain ⟨q, hq, rfl, hO, T⟩ := hrel
        obtain ⟨ua, uc, rfl, -, -⟩ := hO.slice
        by_cases h1 : q = cols
        · rename World => wq
          rw [h1] at hO
          have hbk : (wq.alloc (.cells #[.slice ua cols uc] 23)).heap[wq.heap.size]? = some (.cells #[.slice ua cols uc] 23 (0, 0)) := heap_alloc_new wq _
          have T9 := Add.trans T (add_new wq (.cells #[.slice ua cols uc] 23))
          obtain ⟨a', c', w9, hrun, hG, hc9⟩ := HE.out.1.push T9 (hO.add (add_new wq (.cells #[.slice ua cols uc] 23))) HE.out.2.size HE.out.2.size hbk (by omega) (c := 1)
          have T10 : Add w w9 := hc9.below (Add.trans HE.out.2 T9) (Add.trans HE.out.2 T9).size fun g hg => (own_in HE.out.1.own g hg).1
          have HRUN := Lib.hid hrun
          have HN := Lib.hid (And.intro hG T10)
          clear hO T hbk T9 hrun hG hc9 T10
          subst h1
          go_wp2_with (at_builtin; refine Lib.wpList_append_run _ rfl _ _ _ _ rfl _ _ rfl rfl _ _ HRUN.out ?_)
          go_roundw
          case rel => exact ⟨k + 1, _, by omega, by go_num, HN.out.1, HN.out.2⟩
          case measure => simp [intOf]; omega
        · have hlt2 : q < cols := by omega
          have hkq : k * cols + q ≤ 200 := by
            have : k * cols ≤ 10 * 10 := Nat.mul_le_mul (by omega) hc
            omega
          have HQ := Lib.hid (And.intro hO T)
          clear hO T h1
          go_wp2_with fail
          refine (HI.out _).mono ?_
          rintro e w5 ⟨v5, rfl, hv5, h5⟩
          obtain ⟨a5, n5, c5, e5, d5, f5, rfl, -, -⟩ := id hv5
          obtain ⟨kk, hkk⟩ : ∃ kk, kk = k * cols + q := ⟨_, rfl⟩
          have ek : ((k : Int) * (cols : Int) + (q : Int)) = ((kk : Nat) : Int) := by rw [hkk]; simp
          have EK := Lib.hid ek
          have HKK := Lib.hid hkk
          clear ek hkk
          obtain ⟨xb, hxb⟩ : ∃ b, b = (can 0).1 := ⟨_, rfl⟩
          rw [← hxb] at hv5 ⊢
          have HXB := Lib.hid hxb
          clear hxb
          by_cases h2 : kk < n
          · go_upto_region 11 with fail
            rw [EK.out]
            obtain ⟨bo, co, hao, -, hcells⟩ := (HL.out.add HE.out.2)
            obtain ⟨b, off, hb, hcell⟩ := hcells (by omega)
            simp only [Value.slice.injEq] at hao
            obtain ⟨rfl, -, rfl⟩ := hao
            subst hb
            obtain ⟨z, hz⟩ : ∃ z, z = L kk := ⟨_, rfl⟩
            have hc0 := hcell kk h2
            rw [← hz] at hc0
            have HZ := Lib.hid hz
            clear hz
            obtain ⟨hc0, hz1, hz2⟩ := hc0
            have h5' : Add wm (w5.alloc (.cells #[.bool xb, .slice a5 n5 c5, .slice e5 d5 f5] 37)) := Add.trans (Add.trans HQ.out.2 h5) (add_new _ _)
            have hcw := cell_addL hc0 h5'
            have hB := box_new w5 xb a5 n5 c5 e5 d5 f5
            obtain ⟨W5, hW5⟩ : ∃ W5, W5 = w5.alloc (.cells #[.bool xb, .slice a5 n5 c5, .slice e5 d5 f5] 37) := ⟨_, rfl⟩
            obtain ⟨gx, hgx⟩ : ∃ g, g = w5.heap.size := ⟨_, rfl⟩
            rw [← hW5] at h5' hcw hB ⊢
            rw [← hgx] at hB ⊢
            have HW5 := Lib.hid (And.intro hW5 hgx)
            clear hW5 hgx hcell
            go_upto_region 12 with fail
            have hbl : b < w5.heap.size := World.block_lt_of_cell? w5 _ (cell_addL hc0 (Add.trans HQ.out.2 h5))
            have hbx : b ≠ gx := by have := HW5.out.2; omega
            have HR5 : Hid (OwnF W5 wm.heap.size (.slice ua q uc) q (matT n L cols k) ∧ Add wm W5 ∧ (∀ g, (Value.slice ua q uc).ownBlock = some g → g ≠ gx) ∧ wm.heap.size ≤ gx) := Lib.hid ⟨by rw [HW5.out.1]; exact (HQ.out.1.add h5).add (add_new _ _), h5', fun g hg e => by have := (HQ.out.1.lt g hg).2; have := h5.size; have := HW5.out.2; omega, by have := HQ.out.2.size; have := h5.size; have := HW5.out.2; omega⟩
            have CM := Lib.hid (mkN (z := z) (World.drew W5) hz1 hz2)
            clear hv5 h5 HI
            go_region_held3 (fun w' => w'.cell? ⟨b, off + kk, none⟩ = some (.int .i8 z))
              (first | exact hcw | exact cell_addL hcw aa2 | exact (put3_cell _ _ _ hbx).trans (cell_addL hcw aa2))
              (first | (go_at_call 63; ((with_reducible refine CM.out.mono ?_); rintro e z1 ⟨y8, a8, n8, c8, e8, d8, f8, k8, rfl, hv8, h8⟩; have aa2 := Add.trans (Below.drew (Below.refl _ _) : Add W5 (World.drew W5)) h8; have hB8 := hB.mono aa2; have s0 := hB8.c0; have s1 := hB8.c1; have s2 := hB8.c2; have s3 := hB8.fr 0; have s4 := hB8.fr 1; have s5 := hB8.fr 2; have s6 := hB8.lt; have HV8 := Lib.hid hv8; clear hv8 h8)))
            all_goals
              have hx8 := HV8.out.put hB8 (.bool y8) (.slice a8 n8 c8) (.slice e8 d8 f8)
              have hO8 := (HR5.out.1.add aa2).chg (chg_put3 hB8 (.bool y8) (.slice a8 n8 c8) (.slice e8 d8 f8)) (fun g hg => HR5.out.2.2.1 g hg)
              have T8 : Add wm (put3 z1 gx (.bool y8) (.slice a8 n8 c8) (.slice e8 d8 f8)) := put3_below _ _ _ (Add.trans HR5.out.2.1 aa2) HR5.out.2.2.2
              have hB9 := hB8.put y8 a8 n8 c8 e8 d8 f8
              obtain ⟨a', c', w9, hrun, hO9, T9⟩ := app_box hO8 hx8 T8 (by omega)
              obtain ⟨W8, hW8⟩ : ∃ W8, W8 = put3 z1 gx (.bool y8) (.slice a8 n8 c8) (.slice e8 d8 f8) := ⟨_, rfl⟩
              rw [← hW8] at hrun hB9
              unfold put3 at hW8
              have HW8 := Lib.hid hW8
              have HRUN := Lib.hid hrun
              have p0 := hB9.c0
              have p1 := hB9.c1
              have p2 := hB9.c2
              have HN := Lib.hid (And.intro (hO9.congr (t' := matT n L cols k) fun i hi => by
                by_cases e : i = q
                · rw [if_pos e, e]; unfold matT; rw [← HKK.out, if_pos h2, HZ.out]
                · rw [if_neg e]) T9)
              clear hx8 hO8 T8 hB9 hrun hO9 T9 hW8 hB8 aa2 HR5 HV8 s0 s1 s2 s3 s4 s5 s6
              rw [← HW8.out]
              clear HW8
              go_wp2_with (at_builtin; refine Lib.wpList_append_run _ rfl _ _ _ _ rfl _ _ rfl rfl _ _ HRUN.out ?_)
              go_roundw
              case rel => exact ⟨q + 1, by omega, by go_num, HN.out.1, HN.out.2⟩
              case measure => simp [intOf]; omega
          · go_upto_region 11 with fail
            rw [EK.out]
            have hx5 : FracT (w5.alloc (.cells #[.bool xb, .slice a5 n5 c5, .slice e5 d5 f5] 37)) (.agg #[.bool xb, .slice a5 n5 c5, .slice e5 d5 f5]) (can 0) := hv5.mono (add_new _ _)
            have hB := box_new w5 xb a5 n5 c5 e5 d5 f5
            have T5 := Add.trans (Add.trans HQ.out.2 h5) (add_new w5 (.cells #[.bool xb, .slice a5 n5 c5, .slice e5 d5 f5] 37))
            have hO5 := (HQ.out.1.add h5).add (add_new w5 (.cells #[.bool xb, .slice a5 n5 c5, .slice e5 d5 f5] 37))
            obtain ⟨a', c', w9, hrun, hO9, T9⟩ := app_box hO5 hx5 T5 (by omega)
            obtain ⟨W5, hW5⟩ : ∃ W5, W5 = w5.alloc (.cells #[.bool xb, .slice a5 n5 c5, .slice e5 d5 f5] 37) := ⟨_, rfl⟩
            obtain ⟨gx, hgx⟩ : ∃ g, g = w5.heap.size := ⟨_, rfl⟩
            rw [← hW5] at hB hrun ⊢
            rw [← hgx] at hB ⊢
            have HRUN := Lib.hid hrun
            have p0 := hB.c0
            have p1 := hB.c1
            have p2 := hB.c2
            have HN := Lib.hid (And.intro (hO9.congr (t' := matT n L cols k) fun i hi => by
              by_cases e : i = q
              · rw [if_pos e, e]; unfold matT; rw [← HKK.out, if_neg h2]
              · rw [if_neg e]) T9)
            clear hv5 h5 hx5 hB T5 hO5 hrun hO9 T9 hW5 hgx HQ
            go_wp2_with (at_builtin; refine Lib.wpList_append_run _ rfl _ _ _ _ rfl _ _ rfl rfl _ _ HRUN.out ?_)
            go_roundw
            case rel => exact ⟨q + 1, by omega, by go_num, HN.out.1, HN.out.2⟩
            case measure => simp [intOf]; omega
end Go.Proofs.YtbeoeackahmpbaaGreatDoor
