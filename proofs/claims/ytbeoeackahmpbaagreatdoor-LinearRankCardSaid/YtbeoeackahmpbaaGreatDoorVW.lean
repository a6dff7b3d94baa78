/- The law LinearDet. Made by gen/ldet.py. -/
import Derived.Test.YtbeoeackahmpbaaGreatDoorVV
import Derived.Deep.Cut
import Derived.Lib.AppendZeros
import Derived.Test.YtbeoeackahmpbaaGreatDoorJU
namespace Go.Proofs.YtbeoeackahmpbaaGreatDoor
open Go.RowKit NatM Go.Proofs.YtbeoeackahmpbaaGreatDoor.Api LinM

theorem turn_all {α : Type} {P : α → Prop} (i j : Nat) (X : Nat → α) (h : ∀ r, P (X r)) (r : Nat) : P (turnX i j X r) := by
  unfold turnX
  by_cases e : r = j
  · rw [if_pos e]; exact h _
  · rw [if_neg e]
    by_cases e2 : r = i
    · rw [if_pos e2]; exact h _
    · rw [if_neg e2]; exact h _
theorem turn_both (i j : Nat) (X : Nat → Nat → Tri) (Q : Mat) (r c : Nat) (h : ∀ r, X r c = can (Q r c)) : turnX i j X r c = can (turnX i j Q r c) := by
  unfold turnX
  by_cases e : r = j
  · rw [if_pos e, if_pos e]; exact h _
  · rw [if_neg e, if_neg e]
    by_cases e2 : r = i
    · rw [if_pos e2, if_pos e2]; exact h _
    · rw [if_neg e2, if_neg e2]; exact h _
set_option maxRecDepth 100000 in
/-- The rows' headers are copied: append([][]api.Frac{}, a...). -/
theorem copyM {w : World} {ao : Option Addr} {k c : Nat} {m : Nat → Nat} {X : Nat → Nat → Tri} (h : MatP true w (.slice ao k c) k m X) (h0 : 0 < k) (hk : k ≤ 1000) :
    ∃ (b off g cap : Nat) (hv : Nat → Value) (w' : World), ao = some ⟨b, off, none⟩ ∧
      (Builtin.append_ #[22, 22] 22 #[.slice (some ⟨w.heap.size, 0, none⟩) 0 0, .slice (some ⟨b, off, none⟩) k c]).run Tryz.prog (w.alloc (.cells #[] 23)) = .ok (.slice (some ⟨g, 0, none⟩) k cap) w' ∧
      HB w' g k hv ∧ (∀ i, i < k → w.cell? ⟨b, off + i, none⟩ = some (hv i) ∧ RowP true w (hv i) (m i) (X i)) ∧ Add w w' ∧ w.heap.size ≤ g ∧ k ≤ cap ∧ cap ≤ maxLen := by
  obtain ⟨ao', c', e, g1, g2, g3⟩ := h
  simp only [Value.slice.injEq, true_and] at e
  obtain ⟨rfl, rfl⟩ := e
  obtain ⟨b, off, rfl, hrows⟩ := g3 h0
  obtain ⟨i1, hi1, hy0, hy1, hy2⟩ := info_parts infoFracs
  have hA := add_new w (.cells #[] 23)
  have hbk : (w.alloc (.cells #[] 23)).heap[w.heap.size]? = some (.cells #[] 23 (0, 0)) := heap_alloc_new w _
  have hown : (w.alloc (.cells #[] 23)).ownsRow w.heap.size 23 1 (.slice (some ⟨w.heap.size, 0, none⟩) 0 0) 0 [] :=
    ⟨rfl, .inr ⟨w.heap.size, 0, #[], rfl, Nat.le_refl _, hbk, Nat.le_refl _, Nat.zero_le _, rfl, rfl⟩⟩
  have hsoft : SoftB (w.alloc (.cells #[] 23)) (.slice (some ⟨w.heap.size, 0, none⟩) 0 0) := fun g hg j q z _ e => by
    obtain rfl : w.heap.size = g := Option.some.inj hg
    rw [cell_of_row _ _ j _ _ (0, 0) hbk] at e
    simp at e
  have hcell : ∀ i, i < k → ∃ a l q, w.cell? ⟨b, off + i, none⟩ = some (.slice a l q) := fun i hi => by
    obtain ⟨u, e1, a, q, rfl, -⟩ := hrows i hi
    exact ⟨a, _, q, e1⟩
  have get : ∀ j, ((List.range k).map fun i => (w.cell? ⟨b, off + i, none⟩).getD (.slice none 0 0))[j]? = if j < k then some ((w.cell? ⟨b, off + j, none⟩).getD (.slice none 0 0)) else none := fun j => by
    rw [List.getElem?_map]
    by_cases hj : j < k
    · rw [if_pos hj, List.getElem?_range hj]; rfl
    · rw [if_neg hj, List.getElem?_eq_none (by simp; omega)]; rfl
  have all : ∀ u ∈ ((List.range k).map fun i => (w.cell? ⟨b, off + i, none⟩).getD (.slice none 0 0)), ∃ a l q, u = .slice a l q := fun u hu => by
    obtain ⟨i, hi, rfl⟩ := List.mem_map.1 hu
    obtain ⟨a, l, q, e⟩ := hcell i (List.mem_range.1 hi)
    rw [e]; exact ⟨a, l, q, rfl⟩
  obtain ⟨v', w', hr, k1, k2, k3, -⟩ := run_append_soft (P := Tryz.prog) (w.alloc (.cells #[] 23)) w.heap.size 22 22 23 i1 (.slice none 0 0) 1 24 Tryz.underlying22 hi1 hy0 hy1 hy2 rfl (by decide)
    (by intro u hu kk z _ e; simp [Value.cells] at hu; rw [hu] at e; cases e)
    (.slice (some ⟨w.heap.size, 0, none⟩) 0 0) 0 [] hown hsoft ⟨b, off, none⟩ k c ((List.range k).map fun i => (w.cell? ⟨b, off + i, none⟩).getD (.slice none 0 0)) (by simp)
    (fun j u hu => by
      rw [get] at hu
      by_cases hj : j < k
      · rw [if_pos hj] at hu
        obtain ⟨a, l, q, e⟩ := hcell j hj
        rw [Addr.add_lit]
        refine cell_addL ?_ hA
        rw [e] at hu ⊢; exact hu
      · rw [if_neg hj] at hu; cases hu)
    (fun u hu => by obtain ⟨a, l, q, rfl⟩ := all u hu; rfl) (fun u hu kk z _ e => by obtain ⟨a, l, q, rfl⟩ := all u hu; cases e)
    (by unfold maxLen; omega) (by omega) (by simp)
  rw [Nat.zero_add, List.nil_append] at k1
  have hT : Add w w' := (chg_grown k2 hsoft).below hA (by simp) fun g hg => by
    obtain rfl : w.heap.size = g := Option.some.inj hg
    exact Nat.le_refl _
  rcases k1.2 with ⟨-, e⟩ | ⟨g, cap, cur, rfl, hbg, hg, hn, hm, hs, ht⟩
  · omega
  refine ⟨b, off, g, cap, fun i => (w.cell? ⟨b, off + i, none⟩).getD (.slice none 0 0), w', rfl, ?_, ⟨cur, hg, by rw [hs]; omega, fun i hi => ⟨?_, ?_⟩⟩, fun i hi => ?_, hT, hbg, hn, hm⟩
  · exact hr
  · have := k1.cells (g := g) rfl i _ (by rw [get, if_pos hi])
    rw [Addr.add_lit, Nat.zero_add, cell_of_row w' g i cur _ (0, 0) hg] at this
    exact this
  · obtain ⟨a, l, q, e⟩ := hcell i hi
    dsimp only
    rw [e]; exact ⟨a, l, q, rfl⟩
  · obtain ⟨u, e1, e2⟩ := hrows i hi
    dsimp only
    rw [e1]; exact ⟨rfl, e2⟩
/-- Two headers exchanged. -/
theorem turnM {w w0 : World} {g k cap i j : Nat} {hv : Nat → Value} {m : Nat → Nat} {X : Nat → Nat → Tri} {a a' : Option Addr} {l l' q q' : Nat} (h : HB w0 g k hv) (hr : ∀ i, i < k → RowP true w (hv i) (m i) (X i)) (hT : Add w w0) (hg : w.heap.size ≤ g) (hcap : k ≤ cap ∧ cap ≤ maxLen) (hi : i < k) (hj : j < k)
    (ei : hv i = .slice a l q) (ej : hv j = .slice a' l' q') :
    MatP true ((w0.setCell ⟨g, i, none⟩ (.slice a' l' q')).setCell ⟨g, j, none⟩ (.slice a l q)) (.slice (some ⟨g, 0, none⟩) k cap) k (turnX i j m) (turnX i j X) ∧ Add w ((w0.setCell ⟨g, i, none⟩ (.slice a' l' q')).setCell ⟨g, j, none⟩ (.slice a l q)) := by
  have h1 := h.put hi a' l' q'
  have h2 := h1.put hj a l q
  have hT2 : Add w ((w0.setCell ⟨g, i, none⟩ (.slice a' l' q')).setCell ⟨g, j, none⟩ (.slice a l q)) := (hT.setCell hg _).setCell hg _
  refine ⟨⟨_, cap, rfl, hcap.1, hcap.2, fun _ => ⟨g, 0, rfl, fun r hr' => ?_⟩⟩, hT2⟩
  rw [Nat.zero_add]
  refine ⟨_, h2.cell hr', ?_⟩
  unfold turnX
  by_cases e : r = j
  · rw [if_pos e, if_pos e, if_pos e]
    have := (hr i hi).add hT2
    rwa [ei] at this
  · rw [if_neg e, if_neg e, if_neg e]
    by_cases e2 : r = i
    · rw [if_pos e2, if_pos e2, if_pos e2]
      have := (hr j hj).add hT2
      rwa [ej] at this
    · rw [if_neg e2, if_neg e2, if_neg e2]; exact (hr r hr').add hT2
set_option maxRecDepth 100000 in
set_option maxHeartbeats 8000000 in
theorem det_any {w : World} {m0 n1 n2 m3 m4 : Nat} {v1 v2 : Value} {L Lb : Nat → Int} (h0 : m0 < 256) (h1 : Ri8 w v1 n1 L) (h2 : Ri8 w v2 n2 Lb) (h3 : m3 < 256) (h4 : m4 < 256) (hT : Tab w) :
    Calls Tryz.prog 7 #[.int .u8 (m0 : Nat), v1, v2, .int .u8 (m3 : Nat), .int .u8 (m4 : Nat)] w (BoolIs w true) := by
  obtain ⟨k, hk⟩ : ∃ k, ordB m0 = k := ⟨_, rfl⟩
  have hk1 : 1 ≤ k ∧ k ≤ 5 := by rw [← hk]; unfold ordB; omega
  have CO := Lib.hid (orderLN (w := w) h0 (Lib.hid hk))
  have HL := Lib.hid (And.intro h1.lims h2.lims)
  have CM1 := Lib.hid (fun w' (ha : Add w w') => matrixN (rows := k) (cols := k) (h1.add ha) (hT.mono ha) (by omega) (by omega))
  have CM2 := Lib.hid (fun w' (ha : Add w w') => matrixN (rows := k) (cols := k) (h2.add ha) (hT.mono ha) (by omega) (by omega))
  have HT := Lib.hid hT
  obtain ⟨ao, ca, rfl, -, -⟩ := h1
  obtain ⟨bo, cb, rfl, -, -⟩ := h2
  clear h0 hT hk
  go_enter Tryz.func7, Tryz.ntmps7
  go_wp2_with fail
  refine CO.out.mono ?_
  rintro e w1 ⟨rfl, h1⟩
  go_wp2_with fail
  refine (CM1.out w1 h1).mono ?_
  rintro e w2 ⟨ra, hva, rfl, hGa, h2⟩
  obtain ⟨ra1, rc1, rfl⟩ := own_isSlice hGa.own
  have T2 := Add.trans h1 h2
  have HA := Lib.hid hGa
  clear h1 h2 hGa CO CM1
  go_wp2_with fail
  refine (CM2.out w2 T2).mono ?_
  rintro e w3 ⟨rb, hvb, rfl, hGb, h3'⟩
  obtain ⟨rb1, rc2, rfl⟩ := own_isSlice hGb.own
  have T3 := Add.trans T2 h3'
  have hMaT := (HA.out.add h3').mat
  have hMa := hMaT.arg fun i j _ _ => small_sm HL.out.1 k i j
  have hMb := hGb.mat.arg fun i j _ _ => small_sm HL.out.2 k i j
  have hsA := small_mQ HL.out.1 k
  have hsB := small_mQ HL.out.2 k
  have hkk : k * (k * 8) ≤ 5 * (5 * 8) := Nat.mul_le_mul hk1.2 (Nat.mul_le_mul_right 8 hk1.2)
  have hwa := small_wtM hsA k k
  have hwb := small_wtM hsB k k
  have hsqA := small_sq HL.out.1 hk1.1 (show k ≤ 24 by omega)
  have hsqB := small_sq HL.out.2 hk1.1 (show k ≤ 24 by omega)
  have hshA : shapeOk (matT n1 L k) (fun _ => k) k = true := by have := hsqA; unfold sqOkL at this; exact (Bool.and_eq_true _ _ ▸ this).1
  have hshB : shapeOk (matT n2 Lb k) (fun _ => k) k = true := by have := hsqB; unfold sqOkL at this; exact (Bool.and_eq_true _ _ ▸ this).1
  have CMu := Lib.hid (mulN_ok hMa hMb (HT.out.mono T3) hshA rfl hshB rfl (by rw [qm_mat, qm_mat]; omega))
  have hdA : detF (matT n1 L k) (fun _ => k) k = (can (LinM.det k (mQ n1 L k)), 0) := by
    unfold detF; rw [if_pos hsqA, if_pos (by rw [qm_mat]; omega), qm_mat]
  have hdB : detF (matT n2 Lb k) (fun _ => k) k = (can (LinM.det k (mQ n2 Lb k)), 0) := by
    unfold detF; rw [if_pos hsqB, if_pos (by rw [qm_mat]; omega), qm_mat]
  have CDa := Lib.hid (fun w' (ha : Add w3 w') => detN (hMa.add ha) (HT.out.mono (Add.trans T3 ha)) _ (Lib.hid hdA))
  have CDb := Lib.hid (fun w' (ha : Add w3 w') => detN (hMb.add ha) (HT.out.mono (Add.trans T3 ha)) _ (Lib.hid hdB))
  have HS := Lib.hid (And.intro hsA hsB)
  have HFA : Hid (Fit (LinM.det k (mQ n1 L k))) := Lib.hid (det_fit (x := 200) (by omega) (by omega) (by omega))
  have HFB : Hid (Fit (LinM.det k (mQ n2 Lb k))) := Lib.hid (det_fit (x := 200) (by omega) (by omega) (by omega))
  have HFP : Hid (Fit (LinM.det k (mulM (mQ n1 L k) (mQ n2 Lb k) k))) := Lib.hid (det_fit (x := 1550) (by omega) (mul_wt hk1.2 hsA hsB) (by omega))
  have HMa := Lib.hid hMaT
  have HT3 := Lib.hid T3
  clear hGb T2 T3 hMaT hMa hMb hkk hwa hwb hsqA hsqB hshA hshB hdA hdB hsA hsB h3' HA CM2
  go_wp2_with fail
  refine CMu.out.mono ?_
  rintro e w4 ⟨Gp, gp, rfl, hEp, hh4⟩
  rw [qm_mat, qm_mat] at hEp
  have hMp : MatP true w4 (.slice (some ⟨Gp, 0, none⟩) k k) k (fun _ => k) (fun i l => can (mulM (mQ n1 L k) (mQ n2 Lb k) k i l)) := hEp.mat (by unfold maxLen; omega) (fun i hi => by unfold maxLen; omega)
  have hMpA := hMp.arg fun i j _ _ => (mul_fit hk1.2 HS.out.1 HS.out.2 i j).sm
  have hdP : detF (fun i l => can (mulM (mQ n1 L k) (mQ n2 Lb k) k i l)) (fun _ => k) k = (can (LinM.det k (mulM (mQ n1 L k) (mQ n2 Lb k) k)), 0) := by
    unfold detF
    rw [if_pos (sqOkL_iff.2 ⟨⟨hk1.1, by omega⟩, fun i _ => ⟨rfl, fun j _ => (mul_fit hk1.2 HS.out.1 HS.out.2 i j).ok⟩⟩), qm_can, if_pos (by have := mul_wt hk1.2 HS.out.1 HS.out.2; omega)]
  have CDp := Lib.hid (fun w' (ha : Add w4 w') => detN (hMpA.add ha) (HT.out.mono (Add.trans HT3.out (Add.trans hh4 ha))) _ (Lib.hid hdP))
  have H4 := Lib.hid hh4
  clear hEp hMp hMpA hdP hh4 CMu
  go_wp2_with fail
  refine (CDa.out w4 H4.out).mono ?_
  rintro e w5 ⟨v5, rfl, hv5, h5⟩
  obtain ⟨a5, n5, c5, e5, d5, f5, rfl, -, -⟩ := id hv5
  obtain ⟨y5, hy5⟩ : ∃ y, y = (can (LinM.det k (mQ n1 L k))).1 := ⟨_, rfl⟩
  dsimp only at hv5 ⊢
  rw [← hy5] at hv5 ⊢
  rw [Int.natCast_zero]
  have hB := box_new w5 y5 a5 n5 c5 e5 d5 f5
  have hA := add_new w5 (.cells #[.bool y5, .slice a5 n5 c5, .slice e5 d5 f5] 37)
  obtain ⟨W5, hW⟩ : ∃ W, W = w5.alloc (.cells #[.bool y5, .slice a5 n5 c5, .slice e5 d5 f5] 37) := ⟨_, rfl⟩
  obtain ⟨g5, hg⟩ : ∃ g, g = w5.heap.size := ⟨_, rfl⟩
  rw [← hW, ← hg] at hB
  rw [← hW] at hA
  have HB5 := Lib.hid (And.intro hB (hv5.mono hA))
  have HS5 := Lib.hid (Add.trans h5 hA)
  have HS50 := Lib.hid h5
  have HW5 := Lib.hid (And.intro hW hg)
  clear hv5 hB hA h5 hW hg hy5
  have HG50 : Hid (w4.heap.size ≤ g5) := Lib.hid (by have := HS50.out.size; have := HW5.out.2; omega)
  go_upto_region 5 with fail
  rw [← HW5.out.1, ← HW5.out.2]
  clear HW5 CDa HS50
  go_wp2_with fail
  refine (CDb.out W5 (Add.trans H4.out HS5.out)).mono ?_
  rintro e w6 ⟨v6, rfl, hv6, h6⟩
  obtain ⟨a6, n6, c6, e6, d6, f6, rfl, -, -⟩ := id hv6
  obtain ⟨y6, hy6⟩ : ∃ y, y = (can (LinM.det k (mQ n2 Lb k))).1 := ⟨_, rfl⟩
  dsimp only at hv6 ⊢
  rw [← hy6] at hv6 ⊢
  rw [Int.natCast_zero]
  have hB := box_new w6 y6 a6 n6 c6 e6 d6 f6
  have hA := add_new w6 (.cells #[.bool y6, .slice a6 n6 c6, .slice e6 d6 f6] 37)
  obtain ⟨W6, hW⟩ : ∃ W, W = w6.alloc (.cells #[.bool y6, .slice a6 n6 c6, .slice e6 d6 f6] 37) := ⟨_, rfl⟩
  obtain ⟨g6, hg⟩ : ∃ g, g = w6.heap.size := ⟨_, rfl⟩
  rw [← hW, ← hg] at hB
  rw [← hW] at hA
  have HB6 := Lib.hid (And.intro hB (hv6.mono hA))
  have HS6 := Lib.hid (Add.trans h6 hA)
  have HS60 := Lib.hid h6
  have HW6 := Lib.hid (And.intro hW hg)
  clear hv6 hB hA h6 hW hg hy6
  go_upto_region 6 with fail
  rw [← HW6.out.1, ← HW6.out.2]
  clear HW6 CDb
  go_wp2_with fail
  refine (CDp.out W6 (Add.trans HS5.out HS6.out)).mono ?_
  rintro e w7 ⟨v7, rfl, hv7, h7⟩
  obtain ⟨a7, n7, c7, e7, d7, f7, rfl, -, -⟩ := id hv7
  obtain ⟨y7, hy7⟩ : ∃ y, y = (can (LinM.det k (mulM (mQ n1 L k) (mQ n2 Lb k) k))).1 := ⟨_, rfl⟩
  dsimp only at hv7 ⊢
  rw [← hy7] at hv7 ⊢
  rw [Int.natCast_zero]
  have hB := box_new w7 y7 a7 n7 c7 e7 d7 f7
  have hA := add_new w7 (.cells #[.bool y7, .slice a7 n7 c7, .slice e7 d7 f7] 37)
  obtain ⟨W7, hW⟩ : ∃ W, W = w7.alloc (.cells #[.bool y7, .slice a7 n7 c7, .slice e7 d7 f7] 37) := ⟨_, rfl⟩
  obtain ⟨g7, hg⟩ : ∃ g, g = w7.heap.size := ⟨_, rfl⟩
  rw [← hW, ← hg] at hB
  rw [← hW] at hA
  have HB7 := Lib.hid (And.intro hB (hv7.mono hA))
  have HS7 := Lib.hid (Add.trans h7 hA)
  have HS70 := Lib.hid h7
  have HW7 := Lib.hid (And.intro hW hg)
  clear hv7 hB hA h7 hW hg hy7
  have b5 := (HB5.out.1.mono HS6.out).mono HS7.out
  have b6 := HB6.out.1.mono HS7.out
  have p0 := b5.c0
  have p1 := b5.c1
  have p2 := b5.c2
  have q0 := b6.c0
  have q1 := b6.c1
  have q2 := b6.c2
  have CMl := Lib.hid (refMulN2 (can (LinM.det k (mulM (mQ n1 L k) (mQ n2 Lb k) k)), 0) (Sm.arg ((HB5.out.2.mono HS6.out).mono HS7.out) HFA.out.sm) (Sm.arg (HB6.out.2.mono HS7.out) HFB.out.sm) (Lib.hid (by
    have := mul_can HFA.out HFB.out (by rw [← det_prod]; exact HFP.out)
    rw [← det_prod] at this; exact this)))
  have HT7 := Lib.hid (Add.trans HT3.out (Add.trans H4.out (Add.trans HS5.out (Add.trans HS6.out HS7.out))))
  have HMa7 := Lib.hid (HMa.out.add (Add.trans H4.out (Add.trans HS5.out (Add.trans HS6.out HS7.out))))
  have HX7 := Lib.hid (And.intro b5 ((HB5.out.2.mono HS6.out).mono HS7.out))
  have HG5 : Hid (w.heap.size ≤ g5) := Lib.hid (by have := (Add.trans HT3.out H4.out).size; have := HG50.out; omega)
  clear b5 b6 CDp HMa HG50 H4 HB5 HB6 HS5 HS6 HS7 HT3
  go_upto_region 7 with fail
  rw [← HW7.out.1, ← HW7.out.2]
  clear HW7
  go_wp2_with fail
  refine (CMl.out).mono ?_
  rintro e w8 ⟨v8, rfl, hv8, h8⟩
  obtain ⟨a8, n8, c8, e8, d8, f8, rfl, -, -⟩ := id hv8
  obtain ⟨y8, hy8⟩ : ∃ y, y = (can (LinM.det k (mulM (mQ n1 L k) (mQ n2 Lb k) k))).1 := ⟨_, rfl⟩
  dsimp only at hv8 ⊢
  rw [← hy8] at hv8 ⊢
  rw [Int.natCast_zero]
  have hB := box_new w8 y8 a8 n8 c8 e8 d8 f8
  have hA := add_new w8 (.cells #[.bool y8, .slice a8 n8 c8, .slice e8 d8 f8] 37)
  obtain ⟨W8, hW⟩ : ∃ W, W = w8.alloc (.cells #[.bool y8, .slice a8 n8 c8, .slice e8 d8 f8] 37) := ⟨_, rfl⟩
  obtain ⟨g8, hg⟩ : ∃ g, g = w8.heap.size := ⟨_, rfl⟩
  rw [← hW, ← hg] at hB
  rw [← hW] at hA
  have HB8 := Lib.hid (And.intro hB (hv8.mono hA))
  have HS8 := Lib.hid (Add.trans h8 hA)
  have HS80 := Lib.hid h8
  have HW8 := Lib.hid (And.intro hW hg)
  clear hv8 hB hA h8 hW hg hy8
  have b7 := HB7.out.1.mono HS8.out
  have b8 := HB8.out.1
  clear p0 p1 p2 q0 q1 q2
  have p0 := b7.c0
  have p1 := b7.c1
  have p2 := b7.c2
  have q0 := b8.c0
  have q1 := b8.c1
  have q2 := b8.c2
  have CSm := Lib.hid (sameF_yes (HB7.out.2.mono HS8.out) HB8.out.2)
  have HT8 := Lib.hid (Add.trans HT7.out HS8.out)
  have HMa8 := Lib.hid (HMa7.out.add HS8.out)
  have HX8 := Lib.hid (And.intro (HX7.out.1.mono HS8.out) (HX7.out.2.mono HS8.out))
  clear b7 b8 HB7 HB8 HS8 HT7 HMa7 HX7 CMl
  go_upto_region 8 with fail
  rw [← HW8.out.1, ← HW8.out.2]
  clear HW8
  go_wp2_with fail
  refine CSm.out.mono ?_
  rintro e w9 ⟨rfl, h9⟩
  have HT9 := Lib.hid (Add.trans HT8.out h9)
  have HMa9 := Lib.hid (HMa8.out.add h9)
  have HX9 := Lib.hid (And.intro (HX8.out.1.mono h9) (HX8.out.2.mono h9))
  clear p0 p1 p2 q0 q1 q2 h9 HT8 HMa8 HX8 CSm
  go_upto_region 10 with fail
  have hk0 : ((k : Int) == 0) = false := by simp; omega
  have hk3 : ¬ ((k : Int) = 0) := by omega
  have hk4 : ¬ (k = 0) := by omega
  go_region
  obtain ⟨i, hi⟩ : ∃ i, i = m3 % k := ⟨_, rfl⟩
  obtain ⟨j, hj⟩ : ∃ j, j = m4 % k := ⟨_, rfl⟩
  have ei : ((m3 : Int) % (k : Int)) = ((i : Nat) : Int) := by rw [hi]; simp
  have ej : ((m4 : Int) % (k : Int)) = ((j : Nat) : Int) := by rw [hj]; simp
  have hik : i < k := by rw [hi]; exact Nat.mod_lt _ (by omega)
  have hjk : j < k := by rw [hj]; exact Nat.mod_lt _ (by omega)
  rw [ei, ej]
  clear hi hj ei ej hk0 hk3 hk4
  obtain ⟨wd, hwd⟩ : ∃ wd, wd = World.drew w9 := ⟨_, rfl⟩
  have HT10 := Lib.hid (by have := b_drewL HT9.out; rw [← hwd] at this; exact this)
  have t10 : Add w9 wd := by rw [hwd]; exact b_drewL (Below.refl _ _)
  have HMa10 := Lib.hid (HMa9.out.add t10)
  have HX10 := Lib.hid (And.intro (HX9.out.1.mono t10) (HX9.out.2.mono t10))
  rw [← hwd]
  clear hwd t10 HT9 HMa9 HX9
  obtain ⟨b, off, gt, cap, hv, wt, rfl, hrun, hHB, hrows, hTt, hgt, hcap1, hcap2⟩ := copyM HMa10.out (by omega) (by omega)
  have HRUN := Lib.hid hrun
  have HT11 := Lib.hid (Add.trans HT10.out hTt)
  have HX11 := Lib.hid (And.intro (HX10.out.1.mono hTt) (HX10.out.2.mono hTt))
  have HROW := Lib.hid hrows
  obtain ⟨xi, -, -, exi⟩ : ∃ a, True ∧ True ∧ ∃ l, hv i = .slice a k l := by
    obtain ⟨-, a, l, e, -⟩ := hrows i hik; exact ⟨a, trivial, trivial, l, e⟩
  obtain ⟨li, ei⟩ := exi
  obtain ⟨xj, -, -, exj⟩ : ∃ a, True ∧ True ∧ ∃ l, hv j = .slice a k l := by
    obtain ⟨-, a, l, e, -⟩ := hrows j hjk; exact ⟨a, trivial, trivial, l, e⟩
  obtain ⟨lj, ej⟩ := exj
  have ci := cell_addL (hrows i hik).1 hTt
  have cj := cell_addL (hrows j hjk).1 hTt
  rw [ei] at ci
  rw [ej] at cj
  have hbg : b ≠ gt := by have := World.block_lt_of_cell? wd _ (hrows i hik).1; show b ≠ gt; have h9 : b < wd.heap.size := this; omega
  have hHD : HB (World.drew wt) gt k hv := hHB.add (b_drewL (Below.refl _ _))
  have hTM := turnM hHB (fun r hr => (hrows r hr).2) hTt hgt ⟨hcap1, hcap2⟩ hik hjk ei ej
  have HTM := Lib.hid hTM
  have cti := hHD.cell hik
  have ctj := hHD.cell hjk
  rw [ei] at cti
  rw [ej] at ctj
  have fi := hHD.free i
  have fj := hHD.free j
  have hgl := hHD.lt
  have HHD := Lib.hid hHD
  have HB0 := Lib.hid hHB
  have HEQ := Lib.hid (And.intro ei ej)
  clear hrun hHB hrows hTt hgt hcap1 hcap2 ei ej hTM hHD HMa10 HX11 HT11
  go_wp2_with (at_builtin; refine Lib.wpList_append_run _ rfl _ _ _ _ rfl _ _ rfl rfl _ _ HRUN.out ?_)
  clear HRUN
  by_cases hij : i = j
  · subst hij
    have hxx : xi = xj ∧ li = lj := by
      have := HEQ.out.1.symm.trans HEQ.out.2
      simpa using this
    obtain ⟨rfl, rfl⟩ := hxx
    have hc12 : ∀ (u : Value) (w' : World), w'.cell? ⟨b, off + i, none⟩ = some (.slice xi k li) ∧ w'.cell? ⟨b, off + i, none⟩ = some (.slice xi k li) → ∀ o, (w'.setCell ⟨gt, o, none⟩ u).cell? ⟨b, off + i, none⟩ = some (.slice xi k li) ∧ (w'.setCell ⟨gt, o, none⟩ u).cell? ⟨b, off + i, none⟩ = some (.slice xi k li) := fun u w' h o => by
      exact ⟨(cell_set_other rfl (fun e => hbg (congrArg Addr.block e))).trans h.1, (cell_set_other rfl (fun e => hbg (congrArg Addr.block e))).trans h.2⟩
    have hcd : (World.drew wt).cell? ⟨b, off + i, none⟩ = some (.slice xi k li) ∧ (World.drew wt).cell? ⟨b, off + i, none⟩ = some (.slice xi k li) := ⟨cell_addL cj (b_drewL (Below.refl _ _)), cell_addL ci (b_drewL (Below.refl _ _))⟩
    have hu1 := (HB0.out.put hik xi k li).cell hik
    rw [if_pos rfl] at hu1
    have hu2 := cell_addL hu1 (b_drewL (Below.refl _ _))
    have hu3 := (HB0.out.put hik xi k li).free i
    have fj2 := (HHD.out.put hik xi k li).free i
    have gl2 := (HHD.out.put hik xi k li).lt
    go_region_held3 (fun w' => w'.cell? ⟨b, off + i, none⟩ = some (.slice xi k li) ∧ w'.cell? ⟨b, off + i, none⟩ = some (.slice xi k li))
      (first | exact hcd | exact hc12 _ _ hcd _ | exact hc12 _ _ (hc12 _ _ hcd _) _)
      (fail)
    all_goals
      clear hc12 hcd fj2 gl2 hu1 hu2 hu3 cti ctj fi fj hgl ci cj hbg HHD HB0
      obtain ⟨W13, hW13⟩ : ∃ W, W = World.drew ((wt.setCell ⟨gt, i, none⟩ (.slice xi k li)).setCell ⟨gt, i, none⟩ (.slice xi k li)) := ⟨_, rfl⟩
      have t13 : Add wd W13 := by rw [hW13]; exact b_drewL HTM.out.2
      have hsT : ∀ r c, Small (turnX i i (mQ n1 L k) r c) := fun r c => turn_all (P := fun t : Nat → Rat => Small (t c)) i i _ (fun r => HS.out.1 r c) r
      have hM13 : MatP true W13 (.slice (some ⟨gt, 0, none⟩) k cap) k (fun _ => k) (fun r c => can (turnX i i (mQ n1 L k) r c)) := by
        have := (HTM.out.1.add (b_drewL (Below.refl _ _)))
        rw [← hW13] at this
        exact this.same (fun r _ => turn_all (P := fun q => q = k) i i _ (fun _ => rfl) r) (fun r c _ _ => turn_both i i (matT n1 L k) (mQ n1 L k) r c fun r => matT_can _ _ _ _ _)
      rw [← hW13]
      have hkk2 : k * (k * 8) ≤ 5 * (5 * 8) := Nat.mul_le_mul hk1.2 (Nat.mul_le_mul_right 8 hk1.2)
      have hwT := small_wtM hsT k k
      have hdT : detF (fun r c => can (turnX i i (mQ n1 L k) r c)) (fun _ => k) k = (can (LinM.det k (turnX i i (mQ n1 L k))), 0) := by
        unfold detF
        rw [if_pos (sqOkL_iff.2 ⟨⟨hk1.1, by omega⟩, fun r _ => ⟨rfl, fun c _ => (hsT r c).fit.ok⟩⟩), qm_can, if_pos (by omega)]
      have HFT : Hid (Fit (LinM.det k (turnX i i (mQ n1 L k)))) := Lib.hid (det_fit (x := 200) (by omega) (by omega) (by omega))
      have CDt := Lib.hid (detN (hM13.arg fun r c _ _ => (hsT r c).fit.sm) (HT.out.mono (Add.trans HT10.out t13)) _ (Lib.hid hdT))
      have HT13 := Lib.hid (Add.trans HT10.out t13)
      have HX13 := Lib.hid (And.intro (HX10.out.1.mono t13) (HX10.out.2.mono t13))
      clear hW13 t13 hsT hM13 hkk2 hwT hdT HTM HT10 HX10 HROW HEQ
      go_wp2_with fail
      refine CDt.out.mono ?_
      rintro e w14 ⟨v14, rfl, hv14, h14⟩
      obtain ⟨a14, n14, c14, e14, d14, f14, rfl, -, -⟩ := id hv14
      obtain ⟨y14, hy14⟩ : ∃ y, y = (can (LinM.det k (turnX i i (mQ n1 L k)))).1 := ⟨_, rfl⟩
      dsimp only at hv14 ⊢
      rw [← hy14] at hv14 ⊢
      rw [Int.natCast_zero]
      have hB := box_new w14 y14 a14 n14 c14 e14 d14 f14
      have hA := add_new w14 (.cells #[.bool y14, .slice a14 n14 c14, .slice e14 d14 f14] 37)
      obtain ⟨W14, hW⟩ : ∃ W, W = w14.alloc (.cells #[.bool y14, .slice a14 n14 c14, .slice e14 d14 f14] 37) := ⟨_, rfl⟩
      obtain ⟨g14, hg⟩ : ∃ g, g = w14.heap.size := ⟨_, rfl⟩
      rw [← hW, ← hg] at hB
      rw [← hW] at hA
      have hfw := hv14.mono hA
      have t14 := Add.trans h14 hA
      have bx := HX13.out.1.mono t14
      have hfx := HX13.out.2.mono t14
      have hne : g5 ≠ g14 := by have := HX13.out.1.lt; have := h14.size; omega
      have p0 := hB.c0
      have p1 := hB.c1
      have p2 := hB.c2
      have q0 := bx.c0
      have q1 := bx.c1
      have q2 := bx.c2
      have HW14 := Lib.hid (And.intro hW hg)
      have HT14 := Lib.hid (Add.trans HT13.out t14)
      have CSa := Lib.hid (equalN true (Sm.arg hfw HFT.out.sm) (Sm.arg hfx HFA.out.sm) (Lib.hid ⟨HFT.out.ok, HFA.out.ok⟩) (Lib.hid (by rw [qv_can, qv_can, turn_det hik hik, if_pos rfl]; simp)))
      clear hv14 h14 hA hB bx hfw hfx t14 hW hg hy14 HX13 HT13 CDt hne
      go_upto_region 14 with fail
      rw [← HW14.out.1, ← HW14.out.2]
      clear HW14
      go_wp2_with fail
      refine CSa.out.mono ?_
      rintro e w16 ⟨rfl, h16⟩
      have CA := Lib.hid (awakeN w16 (HT.out.mono (Add.trans HT14.out h16)))
      have HT16 := Lib.hid (Add.trans HT14.out h16)
      clear h16 CSa p0 p1 p2 q0 q1 q2
      go_wp2_with fail
      refine CA.out.mono ?_
      rintro e w17 ⟨rfl, h17⟩
      go_wp2_with fail
      go_ret
      exact ⟨rfl, Add.trans HT16.out h17⟩
  · have hji : ¬ (j = i) := fun e => hij e.symm
    have hc12 : ∀ (u : Value) (w' : World), w'.cell? ⟨b, off + j, none⟩ = some (.slice xj k lj) ∧ w'.cell? ⟨b, off + i, none⟩ = some (.slice xi k li) → ∀ o, (w'.setCell ⟨gt, o, none⟩ u).cell? ⟨b, off + j, none⟩ = some (.slice xj k lj) ∧ (w'.setCell ⟨gt, o, none⟩ u).cell? ⟨b, off + i, none⟩ = some (.slice xi k li) := fun u w' h o => by
      exact ⟨(cell_set_other rfl (fun e => hbg (congrArg Addr.block e))).trans h.1, (cell_set_other rfl (fun e => hbg (congrArg Addr.block e))).trans h.2⟩
    have hcd : (World.drew wt).cell? ⟨b, off + j, none⟩ = some (.slice xj k lj) ∧ (World.drew wt).cell? ⟨b, off + i, none⟩ = some (.slice xi k li) := ⟨cell_addL cj (b_drewL (Below.refl _ _)), cell_addL ci (b_drewL (Below.refl _ _))⟩
    have hu1 := (HB0.out.put hik xj k lj).cell hjk
    rw [if_neg hji, HEQ.out.2] at hu1
    have hu2 := cell_addL hu1 (b_drewL (Below.refl _ _))
    have hu3 := (HB0.out.put hik xj k lj).free j
    have fj2 := (HHD.out.put hik xj k lj).free j
    have gl2 := (HHD.out.put hik xj k lj).lt
    go_region_held3 (fun w' => w'.cell? ⟨b, off + j, none⟩ = some (.slice xj k lj) ∧ w'.cell? ⟨b, off + i, none⟩ = some (.slice xi k li))
      (first | exact hcd | exact hc12 _ _ hcd _ | exact hc12 _ _ (hc12 _ _ hcd _) _)
      (fail)
    all_goals
      clear hc12 hcd fj2 gl2 hu1 hu2 hu3 cti ctj fi fj hgl ci cj hbg HHD HB0
      obtain ⟨W13, hW13⟩ : ∃ W, W = World.drew ((wt.setCell ⟨gt, i, none⟩ (.slice xj k lj)).setCell ⟨gt, j, none⟩ (.slice xi k li)) := ⟨_, rfl⟩
      have t13 : Add wd W13 := by rw [hW13]; exact b_drewL HTM.out.2
      have hsT : ∀ r c, Small (turnX i j (mQ n1 L k) r c) := fun r c => turn_all (P := fun t : Nat → Rat => Small (t c)) i j _ (fun r => HS.out.1 r c) r
      have hM13 : MatP true W13 (.slice (some ⟨gt, 0, none⟩) k cap) k (fun _ => k) (fun r c => can (turnX i j (mQ n1 L k) r c)) := by
        have := (HTM.out.1.add (b_drewL (Below.refl _ _)))
        rw [← hW13] at this
        exact this.same (fun r _ => turn_all (P := fun q => q = k) i j _ (fun _ => rfl) r) (fun r c _ _ => turn_both i j (matT n1 L k) (mQ n1 L k) r c fun r => matT_can _ _ _ _ _)
      rw [← hW13]
      have hkk2 : k * (k * 8) ≤ 5 * (5 * 8) := Nat.mul_le_mul hk1.2 (Nat.mul_le_mul_right 8 hk1.2)
      have hwT := small_wtM hsT k k
      have hdT : detF (fun r c => can (turnX i j (mQ n1 L k) r c)) (fun _ => k) k = (can (LinM.det k (turnX i j (mQ n1 L k))), 0) := by
        unfold detF
        rw [if_pos (sqOkL_iff.2 ⟨⟨hk1.1, by omega⟩, fun r _ => ⟨rfl, fun c _ => (hsT r c).fit.ok⟩⟩), qm_can, if_pos (by omega)]
      have HFT : Hid (Fit (LinM.det k (turnX i j (mQ n1 L k)))) := Lib.hid (det_fit (x := 200) (by omega) (by omega) (by omega))
      have CDt := Lib.hid (detN (hM13.arg fun r c _ _ => (hsT r c).fit.sm) (HT.out.mono (Add.trans HT10.out t13)) _ (Lib.hid hdT))
      have HT13 := Lib.hid (Add.trans HT10.out t13)
      have HX13 := Lib.hid (And.intro (HX10.out.1.mono t13) (HX10.out.2.mono t13))
      clear hW13 t13 hsT hM13 hkk2 hwT hdT HTM HT10 HX10 HROW HEQ
      go_wp2_with fail
      refine CDt.out.mono ?_
      rintro e w14 ⟨v14, rfl, hv14, h14⟩
      obtain ⟨a14, n14, c14, e14, d14, f14, rfl, -, -⟩ := id hv14
      obtain ⟨y14, hy14⟩ : ∃ y, y = (can (LinM.det k (turnX i j (mQ n1 L k)))).1 := ⟨_, rfl⟩
      dsimp only at hv14 ⊢
      rw [← hy14] at hv14 ⊢
      rw [Int.natCast_zero]
      have hB := box_new w14 y14 a14 n14 c14 e14 d14 f14
      have hA := add_new w14 (.cells #[.bool y14, .slice a14 n14 c14, .slice e14 d14 f14] 37)
      obtain ⟨W14, hW⟩ : ∃ W, W = w14.alloc (.cells #[.bool y14, .slice a14 n14 c14, .slice e14 d14 f14] 37) := ⟨_, rfl⟩
      obtain ⟨g14, hg⟩ : ∃ g, g = w14.heap.size := ⟨_, rfl⟩
      rw [← hW, ← hg] at hB
      rw [← hW] at hA
      have hfw := hv14.mono hA
      have t14 := Add.trans h14 hA
      have bx := HX13.out.1.mono t14
      have hfx := HX13.out.2.mono t14
      have hne : g5 ≠ g14 := by have := HX13.out.1.lt; have := h14.size; omega
      have p0 := hB.c0
      have p1 := hB.c1
      have p2 := hB.c2
      have q0 := bx.c0
      have q1 := bx.c1
      have q2 := bx.c2
      have HW14 := Lib.hid (And.intro hW hg)
      have HT14 := Lib.hid (Add.trans HT13.out t14)
      have COp := Lib.hid (oppT hfx (Sm.arg hfx HFA.out.sm))
      have HB14 := Lib.hid (And.intro hB (And.intro hfw (And.intro bx hne)))
      have dij : ((i : Int) != (j : Int)) = true := by simp; omega
      clear hv14 h14 hA hB bx hfw hfx t14 hW hg hy14 HX13 HT13 CDt hne
      go_upto_region 14 with fail
      rw [← HW14.out.1, ← HW14.out.2]
      clear HW14
      go_wp2_with fail
      refine COp.out.mono ?_
      rintro e w15 ⟨v15, rfl, hv15, h15⟩
      rw [opp_can] at hv15
      obtain ⟨a15, n15, c15, e15, d15, f15, rfl, -, -⟩ := id hv15
      obtain ⟨y15, hy15⟩ : ∃ y, y = (can (-LinM.det k (mQ n1 L k))).1 := ⟨_, rfl⟩
      rw [← hy15] at hv15 ⊢
      have bw := HB14.out.1.mono h15
      have bx := HB14.out.2.2.1.mono h15
      have r0 := bx.c0
      have r1 := bx.c1
      have r2 := bx.c2
      have r3 := bx.fr 0
      have r4 := bx.fr 1
      have r5 := bx.fr 2
      have r6 := bx.lt
      have bx2 := bx.put y15 a15 n15 c15 e15 d15 f15
      have bw2 := Box.other2 bw (fun e => HB14.out.2.2.2 e.symm) (.bool y15) (.slice a15 n15 c15) (.slice e15 d15 f15)
      have hfw2 := (HB14.out.2.1.mono h15).put bx (.bool y15) (.slice a15 n15 c15) (.slice e15 d15 f15)
      have hfx2 := hv15.put bx (.bool y15) (.slice a15 n15 c15) (.slice e15 d15 f15)
      have T16 : Add w (put3 w15 g5 (.bool y15) (.slice a15 n15 c15) (.slice e15 d15 f15)) := put3_below _ _ _ (Add.trans HT14.out h15) HG5.out
      have hfn : Fit (-LinM.det k (mQ n1 L k)) := ⟨by rw [Rat.neg_num, Int.natAbs_neg]; exact HFA.out.1, by rw [Rat.neg_den]; exact HFA.out.2⟩
      have CSa := Lib.hid (equalN true (Sm.arg hfw2 HFT.out.sm) (Sm.arg hfx2 hfn.sm) (Lib.hid ⟨HFT.out.ok, hfn.ok⟩) (Lib.hid (by rw [qv_can, qv_can, turn_det hik hjk, if_neg hij]; simp)))
      obtain ⟨W16, hW16⟩ : ∃ W, W = put3 w15 g5 (.bool y15) (.slice a15 n15 c15) (.slice e15 d15 f15) := ⟨_, rfl⟩
      rw [← hW16] at bx2 bw2 T16 CSa
      unfold put3 at hW16
      have HW16 := Lib.hid hW16
      have HT16 := Lib.hid T16
      clear p0 p1 p2 q0 q1 q2
      have p0 := bw2.c0
      have p1 := bw2.c1
      have p2 := bw2.c2
      have q0 := bx2.c0
      have q1 := bx2.c1
      have q2 := bx2.c2
      clear hv15 hy15 bw bx hfw2 hfx2 T16 hfn hW16 COp HB14 bx2 bw2 h15
      go_upto_region 16 with fail
      rw [← HW16.out]
      clear HW16 r0 r1 r2 r3 r4 r5 r6
      go_wp2_with fail
      refine CSa.out.mono ?_
      rintro e w17 ⟨rfl, h17⟩
      have CA := Lib.hid (awakeN w17 (HT.out.mono (Add.trans HT16.out h17)))
      have HT17 := Lib.hid (Add.trans HT16.out h17)
      clear h17 CSa p0 p1 p2 q0 q1 q2
      go_wp2_with fail
      refine CA.out.mono ?_
      rintro e w18 ⟨rfl, h18⟩
      go_wp2_with fail
      go_ret
      exact ⟨rfl, Add.trans HT17.out h18⟩
end Go.Proofs.YtbeoeackahmpbaaGreatDoor
