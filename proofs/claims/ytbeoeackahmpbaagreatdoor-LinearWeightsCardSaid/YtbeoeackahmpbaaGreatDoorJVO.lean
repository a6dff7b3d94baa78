import Derived.Test.YtbeoeackahmpbaaGreatDoorJV7
import Derived.Test.YtbeoeackahmpbaaGreatDoorJDX
import Derived.Test.YtbeoeackahmpbaaGreatDoorJVY
import Derived.Test.YtbeoeackahmpbaaGreatDoorJU
namespace Go.Proofs.YtbeoeackahmpbaaGreatDoor
open Go.RowKit NatM Go.Proofs.YtbeoeackahmpbaaGreatDoor.Api LinM
def mulV (A : Mat) (b : Nat → Rat) (c : Nat) : Nat → Rat := fun i => LinM.sumQ (fun j => A i j * b j) c
def AppP (w : World) (n c : Nat) (A : Mat) (b : Nat → Rat) (e : Ending) (w' : World) : Prop :=
 ∃ g, e = .returned (.tuple #[.slice (some ⟨g, 0, none⟩) n n, .int .i64 0]) ∧ FBlk w' g n (fun i => can (mulV A b c i)) ∧ w.heap.size ≤ g ∧ Add w w'
end Go.Proofs.YtbeoeackahmpbaaGreatDoor
namespace Go.Proofs.YtbeoeackahmpbaaGreatDoor
open Go.RowKit NatM Go.Proofs.YtbeoeackahmpbaaGreatDoor.Api LinM
theorem hb_alloc (w : World) (n : Nat) : HB (w.alloc (.cells (madeCells #[Value.slice none 0 0] n) 23)) w.heap.size n (fun _ => .slice none 0 0) := by
 refine ⟨_, heap_alloc_new w _, by simp [madeCells], fun i hi => ⟨?_, none, 0, 0, rfl⟩⟩
 rw [madeCells_get hi]
 show some (#[Value.slice none 0 0][i % 1]!) = _
 rw [Nat.mod_one]; rfl
theorem run_mkM (w : World) {n : Nat} (hn : n ≤ 1000) : (Instr.makeSlice 22 (.int .i64 (n : Nat)) (.int .i64 (n : Nat))).run Tryz.prog w = .ok (.slice (some ⟨w.heap.size, 0, none⟩) n n) (w.alloc (.cells (madeCells #[Value.slice none 0 0] n) 23)) := by
 obtain ⟨i1, hi1, hy0, hy1, hy2⟩ := info_parts infoFracs
 have := run_make (P := Tryz.prog) w 22 23 i1 (.slice none 0 0) Tryz.underlying22 hi1 hy0 .i64 .i64 (n : Int) (n : Int) (by omega) (by omega) (by rw [hy2]; omega) (by omega)
 rw [hy1] at this
 simpa [Value.cells] using this
def mulM (A B : Mat) (c : Nat) : Mat := fun i l => LinM.sumQ (fun k => A i k * B k l) c
theorem sumK_up {f g : Nat → Nat} {n : Nat} (h : ∀ i, i < n → f i ≤ g i) : sumK f n ≤ sumK g n := by
 induction n with
 | zero => exact Nat.le_refl _
 | succ n ih =>
  have := ih fun i hi => h i (by omega)
  have := h n (by omega)
  show sumK f n + f n ≤ sumK g n + g n
  omega
theorem wt_col (B : Mat) (c p : Nat) {l : Nat} (hl : l < p) : wtR (fun k => can (B k l)) c ≤ wtM (fun i j => can (B i j)) (fun _ => p) c :=
 sumK_up fun k _ => sumK_one (f := fun j => wtF (can (B k j))) hl
theorem dots2 {A B : Mat} {n c p : Nat} (hA : ∀ i j, i < n → j < c → Fit (A i j)) (hB : ∀ i j, i < c → j < p → Fit (B i j)) (hc : c ≤ 24) (hw : wtM (fun i j => can (A i j)) (fun _ => c) n + wtM (fun i j => can (B i j)) (fun _ => p) c ≤ 3800) {i l : Nat} (hi : i < n) (hl : l < p) :
 dotT (fun k => can (B k l)) (fun k => can (A i k)) c = can (mulM A B c i l) := by
 rw [dot_can (x := fun k => B k l) (y := fun k => A i k) (x0 := 3800) (fun j hj => hB j l hj hl) (fun j hj => hA i j hi hj) (by
  have h1 := wtM_row (fun i j => can (A i j)) (fun _ => c) hi
  have h2 := wt_col B c p hl
  omega) (Nat.le_refl _) hc]
 unfold mulM
 exact congrArg can (LinM.sumQ_congr fun k _ => Rat.mul_comm _ _)
theorem AM.chgG {w w' : World} {base G n Gm : Nat} {hv : Nat → Value} {len : Nat → Nat} {X : Nat → Nat → Tri} (h : AM w base G n hv len X) (hc : Chg (fun b => b = Gm) w w') (hne : G ≠ Gm) (hr : ∀ i, i < n → (hv i).ownBlock ≠ some Gm) : AM w' base G n hv len X :=
 ⟨h.head.chg hc hne, fun i hi => (h.rows i hi).chg hc fun g hg e => hr i hi (by rw [hg, e]), h.sep, h.low⟩
def MulP (w : World) (n c p : Nat) (A B : Mat) (e : Ending) (w' : World) : Prop :=
 ∃ G gs, e = .returned (.tuple #[.slice (some ⟨G, 0, none⟩) n n, .int .i64 0]) ∧ EM w' w.heap.size G n n gs (fun _ => p) (fun i l => can (mulM A B c i l)) ∧ Add w w'
set_option maxRecDepth 100000 in
set_option maxHeartbeats 4000000 in
theorem mulN_ok {w : World} {va vb : Value} {n c p : Nat} {ma mb : Nat → Nat} {X Y : Nat → Nat → Tri} (h : MatP false w va n ma X) (hv : MatP false w vb c mb Y) (hT : Tab w) (hb : shapeOk X ma n = true) (hc : ma 0 = c) (hy : shapeOk Y mb c = true) (hp : mb 0 = p)
 (hw : wtM (fun i j => can (qm X i j)) (fun _ => c) n + wtM (fun i j => can (qm Y i j)) (fun _ => p) c ≤ 3800) :
 Calls Tryz.prog 26 #[va, vb] w (MulP w n c p (qm X) (qm Y)) := by
 obtain ⟨hn, hc1, hX⟩ := shapeOk_iff.1 hb
 rw [hc] at hX hc1
 obtain ⟨-, hp1, hY⟩ := shapeOk_iff.1 hy
 rw [hp] at hY hp1
 have CS := Lib.hid (shapeN (n, c, true) h (Lib.hid (by unfold shN; rw [if_pos hb, hc])))
 have CS2 := Lib.hid (fun w' (ha : Add w w') => shapeN (c, p, true) (hv.add ha) (Lib.hid (by unfold shN; rw [if_pos hy, hp])))
 have C1 := Lib.hid (fun w' (ha : Add w w') => reducedN (h.add ha) (hT.mono ha) (by omega) (fun i hi => by rw [(hX i hi).1]; omega))
 have C2 := Lib.hid (fun w' (ha : Add w w') => reducedN (hv.add ha) (hT.mono ha) (by omega) (fun i hi => by rw [(hY i hi).1]; omega))
 have HX := Lib.hid hX
 have HY := Lib.hid hY
 have HT := Lib.hid hT
 have HW := Lib.hid hw
 obtain ⟨ao, ca, rfl, -⟩ := h.isSlice
 obtain ⟨bo, cb, rfl, -⟩ := hv.isSlice
 clear h hv hT hb hy hX hY hw hc hp
 go_enter Tryz.func26, Tryz.ntmps26
 go_wp2_with fail
 refine CS.out.mono ?_
 rintro e w1 ⟨rfl, h1⟩
 go_wp2_with fail
 refine (CS2.out w1 h1).mono ?_
 rintro e w2 ⟨rfl, h2⟩
 replace h2 := Add.trans h1 h2
 clear h1 CS CS2
 go_wp2_with fail
 refine (C1.out w2 h2).mono ?_
 rintro e w3 ⟨Ga, ga, rfl, hEa, h3⟩
 replace h3 := Add.trans h2 h3
 have hMa := red_mat hEa (by omega) (by omega) (fun i hi => (HX.out i hi).1) (fun i j hi hj => (HX.out i hi).2 j hj)
 have HMa := Lib.hid hMa
 clear hEa h2 hMa C1
 go_wp2_with fail
 refine (C2.out w3 h3).mono ?_
 rintro e w4 ⟨Gb, gb, rfl, hEb, h4⟩
 have hMa := HMa.out.add h4
 have hMb := red_mat hEb (by omega) (by omega) (fun i hi => (HY.out i hi).1) (fun i j hi hj => (HY.out i hi).2 j hj)
 replace h4 := Add.trans h3 h4
 have hF : ∀ i j, i < n → j < c → Fit (qm X i j) := fun i j hi hj => fit_red ((HX.out i hi).2 j (by rw [(HX.out i hi).1]; exact hj))
 have hFb : ∀ i j, i < c → j < p → Fit (qm Y i j) := fun i j hi hj => fit_red ((HY.out i hi).2 j (by rw [(HY.out i hi).1]; exact hj))
 have CW1 := Lib.hid (weightN hMa (fun i j hi hj => (hF i j hi hj).sm) (by omega) (fun i hi => by omega))
 have CW2 := Lib.hid (fun w' (ha : Add w4 w') => weightN (hMb.add ha) (fun i j hi hj => (hFb i j hi hj).sm) (by omega) (fun i hi => by omega))
 have HM := Lib.hid (And.intro hMa hMb)
 have HF := Lib.hid (And.intro hF hFb)
 have H4 := Lib.hid h4
 clear hMa hMb hF hFb hEb h3 h4 HMa C2
 go_wp2_with fail
 refine CW1.out.mono ?_
 rintro e w5 ⟨rfl, h5⟩
 go_wp2_with fail
 refine (CW2.out w5 h5).mono ?_
 rintro e wo ⟨rfl, h6⟩
 have hw2 := HW.out
 have HT6 := Lib.hid (Add.trans H4.out (Add.trans h5 h6))
 have HM6 := Lib.hid (And.intro (HM.out.1.add (Add.trans h5 h6)) (HM.out.2.add (Add.trans h5 h6)))
 have CTR : Hid (∀ w', Add wo w' → Calls Tryz.prog 48 #[.slice (some ⟨Gb, 0, none⟩) c c] w' (RetAM w' p (fun _ => c) (fun j i => can (qm Y i j)))) := Lib.hid fun w' ha => transposedN (HM6.out.2.add ha) (by omega) (by omega) (by omega)
 have HMK : Hid (∀ w', (Instr.makeSlice 22 (.int .i64 (n : Nat)) (.int .i64 (n : Nat))).run Tryz.prog w' = .ok (.slice (some ⟨w'.heap.size, 0, none⟩) n n) (w'.alloc (.cells (madeCells #[Value.slice none 0 0] n) 23))) := Lib.hid fun w' => run_mkM w' (by omega)
 clear h5 h6 CW1 CW2 HM H4
 go_upto_region 8 with fail
 refine wp_region_held_drew (S := fun _ => True) (by kernel_rfl) trivial (fun hHeld => ?_)
 refine wpAnyH_take (i := 0) (v := ?_) (by simp only [List.getElem?_toArray, List.getElem?_cons_zero]; rfl) (by kernel_rfl) (by kernel_rfl) (by kernel_rfl) (by intro _ _ _ h; exact h) (Or.inl ⟨by rfl, ?_⟩) (by assumption) ?_
 rotate_left
 · intro w0 hSw
   try dsimp only at hSw
   go_simp
   try with_reducible rfl
 try simp only [Act.put, List.setIfInBounds_toArray, List.set_cons_zero, List.set_cons_succ]
 refine wpAnyH_take (i := 2) (v := ?_) (by simp only [List.getElem?_toArray, List.getElem?_cons_zero, List.getElem?_cons_succ]; rfl) (by kernel_rfl) (by kernel_rfl) (by kernel_rfl) (by intro _ _ _ h; exact h) (Or.inl ⟨by rfl, ?_⟩) (by assumption) ?_
 rotate_left
 · intro w0 hSw
   try dsimp only at hSw
   go_simp
   try with_reducible rfl
 try simp only [Act.put, List.setIfInBounds_toArray, List.set_cons_zero, List.set_cons_succ]
 refine wpAnyH_take (i := 3) (v := ?_) (by simp only [List.getElem?_toArray, List.getElem?_cons_zero, List.getElem?_cons_succ]; rfl) (by kernel_rfl) (by kernel_rfl) (by kernel_rfl) (by intro _ _ _ h; exact h) (Or.inl ⟨by rfl, ?_⟩) (by assumption) ?_
 rotate_left
 · intro w0 hSw
   try dsimp only at hSw
   go_simp
   try with_reducible rfl
 try simp only [Act.put, List.setIfInBounds_toArray, List.set_cons_zero, List.set_cons_succ]
 refine wpAnyH_ready (rs := [1, 4]) (by kernel_rfl) (by simp) ?_
 refine AllReadyH.cons (o := _) (by simp only [List.getElem?_toArray, List.getElem?_cons_zero, List.getElem?_cons_succ]; rfl) (fun K hK => ?_) ?_
 · skip
   go_simp
   refine (CTR.out _ (Below.drew (Below.refl _ _))).mono ?_
   rintro e z1 ⟨G1, hv1, rfl, hA1, hq1⟩
   have t2 := Add.trans (Below.drew (Below.refl _ _) : Add wo (World.drew wo)) hq1
   have HA1 := Lib.hid hA1
   clear hA1 hq1
   refine hK.out _ _ trivial (fun hHeld => ?_)
   clear hK K
   try simp only [Act.put, List.setIfInBounds_toArray, List.set_cons_zero, List.set_cons_succ]
   refine wpAnyH_take (i := 5) (v := ?_) (by simp only [List.getElem?_toArray, List.getElem?_cons_zero, List.getElem?_cons_succ]; rfl) (by kernel_rfl) (by kernel_rfl) (by kernel_rfl) (by intro _ _ _ h; exact h) (Or.inl ⟨by rfl, ?_⟩) (by assumption) ?_
   rotate_left
   · intro w0 hSw
     try dsimp only at hSw
     go_simp
     try with_reducible rfl
   try simp only [Act.put, List.setIfInBounds_toArray, List.set_cons_zero, List.set_cons_succ]
   refine wpAnyH_ready (rs := [4]) (by kernel_rfl) (by simp) ?_
   refine AllReadyH.cons (o := _) (by simp only [List.getElem?_toArray, List.getElem?_cons_zero, List.getElem?_cons_succ]; rfl) (fun K hK => ?_) ?_
   · skip
     go_simp
     rw [HMK.out]
     go_simp
     refine hK.out _ _ trivial (fun hHeld => ?_)
     clear hK K
     try simp only [Act.put, List.setIfInBounds_toArray, List.set_cons_zero, List.set_cons_succ]
     refine wpAnyH_take (i := 6) (v := ?_) (by simp only [List.getElem?_toArray, List.getElem?_cons_zero, List.getElem?_cons_succ]; rfl) (by kernel_rfl) (by kernel_rfl) (by kernel_rfl) (by intro _ _ _ h; exact h) (Or.inl ⟨by rfl, ?_⟩) (by assumption) ?_
     rotate_left
     · intro w0 hSw
       try dsimp only at hSw
       go_simp
       try with_reducible rfl
     try simp only [Act.put, List.setIfInBounds_toArray, List.set_cons_zero, List.set_cons_succ]
     refine wpAnyH_done (by kernel_rfl) ?_ _
     obtain ⟨W9, hW9⟩ : ∃ W9, W9 = z1.alloc (.cells (madeCells #[Value.slice none 0 0] n) 23) := ⟨_, rfl⟩
     have hB9 : HB W9 z1.heap.size n (fun _ => .slice none 0 0) := by rw [hW9]; exact hb_alloc z1 n
     have hA9 : AM W9 wo.heap.size G1 p hv1 (fun _ => c) (fun j i => can (qm Y i j)) := by rw [hW9]; exact (HA1.out.base (by simp)).add (add_new _ _)
     have t9 : Add wo W9 := by rw [hW9]; exact Add.trans t2 (add_new _ _)
     obtain ⟨Gm, hGm⟩ : ∃ g, g = z1.heap.size := ⟨_, rfl⟩
     have hGm2 : wo.heap.size ≤ Gm := by rw [hGm]; exact t2.size
     have hne : G1 ≠ Gm := by have := HA1.out.head.lt; rw [hGm]; omega
     rw [← hW9, ← hGm]
     rw [← hGm] at hB9
     clear hW9 hGm HA1 t2 hHeld CTR
     have T9 := Add.trans HT6.out t9
     have hE9 := EM.start (base := w.heap.size) (fun _ => 0) (fun _ => p) (fun i l => can (mulM (qm X) (qm Y) c i l)) hB9 (Nat.le_trans HT6.out.size hGm2)
     have HROW : Hid (∀ i, i < p → (hv1 i).ownBlock ≠ some Gm) := Lib.hid fun i hi => (hA9.rows i hi).ne hB9
     have HNE := Lib.hid (And.intro hne hGm2)
     have HD : Hid (∀ i l, i < n → l < p → dotT (fun k => can (qm Y k l)) (fun k => can (qm X i k)) c = can (mulM (qm X) (qm Y) c i l)) := Lib.hid fun i l hi hl => dots2 HF.out.1 HF.out.2 (by omega) HW.out hi hl
     clear hB9 T9 hGm2 HMK hne
     go_wp2_with fail
     go_loopw [56] (fun i wk => ∃ (k : Nat) (gs : Nat → Nat), k ≤ n ∧ i = .int .i64 (k : Nat) ∧ EM wk w.heap.size Gm n k gs (fun _ => p) (fun i l => can (mulM (qm X) (qm Y) c i l)) ∧ AM wk wo.heap.size G1 p hv1 (fun _ => c) (fun j i => can (qm Y i j)) ∧ Add wo wk) (fun i _ => n - (intOf i).toNat)
     case atStart => exact ⟨0, _, Nat.zero_le _, rfl, hE9, hA9, t9⟩
     case round =>
      clear hE9 hA9 t9
      obtain ⟨k, gs, hk, rfl, hE, hA, T⟩ := hrel
      by_cases h0 : k = n
      · have HFF : Hid (MulP w n c p (qm X) (qm Y) (.returned (.tuple #[.slice (some ⟨Gm, 0, none⟩) n n, .int .i64 0])) wr) := Lib.hid ⟨Gm, gs, rfl, by rw [← h0]; rw [← h0] at hE; exact hE, Add.trans HT6.out T⟩
        clear hE hA T
        subst h0
        go_wp2_with fail
        go_ret2
        exact HFF.out
      · have hlt : k < n := by omega
        obtain ⟨b, off, ar, cr, e, hm63, hcell0, hrow0⟩ := HM6.out.1.row hlt
        simp only [Option.some.injEq, Addr.mk.injEq, and_true] at e
        obtain ⟨rfl, rfl⟩ := e
        rw [Nat.zero_add] at hcell0
        rename World => wk
        have hcell := cell_addL hcell0 T
        have CP := Lib.hid (productsN (hA.mat (by unfold maxLen; omega)) (hrow0.add T) (fun i j hi hj => (HF.out.2 j i hj hi).sm) (fun j hj => (HF.out.1 k j hlt hj).sm) (HT.out.mono (Add.trans HT6.out T)) (by omega) (by omega))
        have HE := Lib.hid (And.intro hE (And.intro hA T))
        have hGl := hE.head.lt
        clear hE hA T hrow0 hcell0 h0 hm63
        go_wp2_with fail
        refine CP.out.mono ?_
        rintro e w8 ⟨g8, rfl, hB8, hg8, h8⟩
        obtain ⟨hE, hA, T⟩ := HE.out
        have hh8 := hE.head.add h8
        have d1 := hh8.cell hlt
        rw [if_neg (by omega)] at d1
        have d2 := hh8.free k
        have d3 := hh8.lt
        have hB9 : FBlk w8 g8 p (fun l => can (mulM (qm X) (qm Y) c k l)) := hB8.congr fun l hl => HD.out k l hlt hl
        have hE2 := (hE.push hlt h8 hB9 hg8 (Nat.le_trans (Add.trans HT6.out T).size hg8)).congr (X' := fun i l => can (mulM (qm X) (qm Y) c i l)) (fun i l _ _ => by
         by_cases e : i = k
         · rw [if_pos e, e]
         · rw [if_neg e])
        have T8 : Add wo (w8.setCell ⟨Gm, k, none⟩ (.slice (some ⟨g8, 0, none⟩) p p)) := (Add.trans T h8).setCell HNE.out.2 _
        have hA2 := (hA.add h8).chgG (hh8.chgS (S := fun b => b = Gm) rfl hlt (.slice (some ⟨g8, 0, none⟩) p p)) HNE.out.1 HROW.out
        have HN := Lib.hid (And.intro hE2 (And.intro hA2 T8))
        clear hE hA hA2 T hh8 hB8 hB9 hE2 T8 h8 hg8 HE CP
        go_wp2_with fail
        go_roundw
        case rel => exact ⟨k + 1, _, by omega, by go_num, HN.out.1, HN.out.2.1, HN.out.2.2⟩
        case measure => simp [intOf]; omega
   exact AllReadyH.nil
 refine AllReadyH.cons (o := _) (by simp only [List.getElem?_toArray, List.getElem?_cons_zero, List.getElem?_cons_succ]; rfl) (fun K hK => ?_) ?_
 · skip
   go_simp
   rw [HMK.out]
   go_simp
   refine hK.out _ _ trivial (fun hHeld => ?_)
   clear hK K
   try simp only [Act.put, List.setIfInBounds_toArray, List.set_cons_zero, List.set_cons_succ]
   refine wpAnyH_ready (rs := [1]) (by kernel_rfl) (by simp) ?_
   refine AllReadyH.cons (o := _) (by simp only [List.getElem?_toArray, List.getElem?_cons_zero, List.getElem?_cons_succ]; rfl) (fun K hK => ?_) ?_
   · skip
     go_simp
     refine (CTR.out _ (Add.trans (Below.drew (Below.refl _ _)) (add_new _ _))).mono ?_
     rintro e z1 ⟨G1, hv1, rfl, hA1, hq1⟩
     have t2 := Add.trans (Add.trans (Below.drew (Below.refl _ _) : Add wo (World.drew wo)) (add_new _ (.cells (madeCells #[Value.slice none 0 0] n) 23))) hq1
     have hBm := (hb_alloc (World.drew wo) n).add hq1
     have HA1 := Lib.hid hA1
     clear hA1 hq1
     refine hK.out _ _ trivial (fun hHeld => ?_)
     clear hK K
     try simp only [Act.put, List.setIfInBounds_toArray, List.set_cons_zero, List.set_cons_succ]
     refine wpAnyH_take (i := 5) (v := ?_) (by simp only [List.getElem?_toArray, List.getElem?_cons_zero, List.getElem?_cons_succ]; rfl) (by kernel_rfl) (by kernel_rfl) (by kernel_rfl) (by intro _ _ _ h; exact h) (Or.inl ⟨by rfl, ?_⟩) (by assumption) ?_
     rotate_left
     · intro w0 hSw
       try dsimp only at hSw
       go_simp
       try with_reducible rfl
     try simp only [Act.put, List.setIfInBounds_toArray, List.set_cons_zero, List.set_cons_succ]
     refine wpAnyH_take (i := 6) (v := ?_) (by simp only [List.getElem?_toArray, List.getElem?_cons_zero, List.getElem?_cons_succ]; rfl) (by kernel_rfl) (by kernel_rfl) (by kernel_rfl) (by intro _ _ _ h; exact h) (Or.inl ⟨by rfl, ?_⟩) (by assumption) ?_
     rotate_left
     · intro w0 hSw
       try dsimp only at hSw
       go_simp
       try with_reducible rfl
     try simp only [Act.put, List.setIfInBounds_toArray, List.set_cons_zero, List.set_cons_succ]
     refine wpAnyH_done (by kernel_rfl) ?_ _
     obtain ⟨W9, hW9⟩ : ∃ W9, W9 = z1 := ⟨_, rfl⟩
     have hB9 : HB W9 wo.heap.size n (fun _ => .slice none 0 0) := by rw [hW9]; exact hBm
     have hA9 : AM W9 wo.heap.size G1 p hv1 (fun _ => c) (fun j i => can (qm Y i j)) := by rw [hW9]; exact HA1.out.base (by simp)
     have t9 : Add wo W9 := by rw [hW9]; exact t2
     obtain ⟨Gm, hGm⟩ : ∃ g, g = wo.heap.size := ⟨_, rfl⟩
     have hGm2 : wo.heap.size ≤ Gm := by omega
     have hne : G1 ≠ Gm := by have := HA1.out.low; rw [hGm]; simp at this; omega
     rw [← hW9, ← hGm]
     rw [← hGm] at hB9
     clear hW9 hGm HA1 t2 hHeld CTR
     clear hBm
     have T9 := Add.trans HT6.out t9
     have hE9 := EM.start (base := w.heap.size) (fun _ => 0) (fun _ => p) (fun i l => can (mulM (qm X) (qm Y) c i l)) hB9 (Nat.le_trans HT6.out.size hGm2)
     have HROW : Hid (∀ i, i < p → (hv1 i).ownBlock ≠ some Gm) := Lib.hid fun i hi => (hA9.rows i hi).ne hB9
     have HNE := Lib.hid (And.intro hne hGm2)
     have HD : Hid (∀ i l, i < n → l < p → dotT (fun k => can (qm Y k l)) (fun k => can (qm X i k)) c = can (mulM (qm X) (qm Y) c i l)) := Lib.hid fun i l hi hl => dots2 HF.out.1 HF.out.2 (by omega) HW.out hi hl
     clear hB9 T9 hGm2 HMK hne
     go_wp2_with fail
     go_loopw [56] (fun i wk => ∃ (k : Nat) (gs : Nat → Nat), k ≤ n ∧ i = .int .i64 (k : Nat) ∧ EM wk w.heap.size Gm n k gs (fun _ => p) (fun i l => can (mulM (qm X) (qm Y) c i l)) ∧ AM wk wo.heap.size G1 p hv1 (fun _ => c) (fun j i => can (qm Y i j)) ∧ Add wo wk) (fun i _ => n - (intOf i).toNat)
     case atStart => exact ⟨0, _, Nat.zero_le _, rfl, hE9, hA9, t9⟩
     case round =>
      clear hE9 hA9 t9
      obtain ⟨k, gs, hk, rfl, hE, hA, T⟩ := hrel
      by_cases h0 : k = n
      · have HFF : Hid (MulP w n c p (qm X) (qm Y) (.returned (.tuple #[.slice (some ⟨Gm, 0, none⟩) n n, .int .i64 0])) wr) := Lib.hid ⟨Gm, gs, rfl, by rw [← h0]; rw [← h0] at hE; exact hE, Add.trans HT6.out T⟩
        clear hE hA T
        subst h0
        go_wp2_with fail
        go_ret2
        exact HFF.out
      · have hlt : k < n := by omega
        obtain ⟨b, off, ar, cr, e, hm63, hcell0, hrow0⟩ := HM6.out.1.row hlt
        simp only [Option.some.injEq, Addr.mk.injEq, and_true] at e
        obtain ⟨rfl, rfl⟩ := e
        rw [Nat.zero_add] at hcell0
        rename World => wk
        have hcell := cell_addL hcell0 T
        have CP := Lib.hid (productsN (hA.mat (by unfold maxLen; omega)) (hrow0.add T) (fun i j hi hj => (HF.out.2 j i hj hi).sm) (fun j hj => (HF.out.1 k j hlt hj).sm) (HT.out.mono (Add.trans HT6.out T)) (by omega) (by omega))
        have HE := Lib.hid (And.intro hE (And.intro hA T))
        have hGl := hE.head.lt
        clear hE hA T hrow0 hcell0 h0 hm63
        go_wp2_with fail
        refine CP.out.mono ?_
        rintro e w8 ⟨g8, rfl, hB8, hg8, h8⟩
        obtain ⟨hE, hA, T⟩ := HE.out
        have hh8 := hE.head.add h8
        have d1 := hh8.cell hlt
        rw [if_neg (by omega)] at d1
        have d2 := hh8.free k
        have d3 := hh8.lt
        have hB9 : FBlk w8 g8 p (fun l => can (mulM (qm X) (qm Y) c k l)) := hB8.congr fun l hl => HD.out k l hlt hl
        have hE2 := (hE.push hlt h8 hB9 hg8 (Nat.le_trans (Add.trans HT6.out T).size hg8)).congr (X' := fun i l => can (mulM (qm X) (qm Y) c i l)) (fun i l _ _ => by
         by_cases e : i = k
         · rw [if_pos e, e]
         · rw [if_neg e])
        have T8 : Add wo (w8.setCell ⟨Gm, k, none⟩ (.slice (some ⟨g8, 0, none⟩) p p)) := (Add.trans T h8).setCell HNE.out.2 _
        have hA2 := (hA.add h8).chgG (hh8.chgS (S := fun b => b = Gm) rfl hlt (.slice (some ⟨g8, 0, none⟩) p p)) HNE.out.1 HROW.out
        have HN := Lib.hid (And.intro hE2 (And.intro hA2 T8))
        clear hE hA hA2 T hh8 hB8 hB9 hE2 T8 h8 hg8 HE CP
        go_wp2_with fail
        go_roundw
        case rel => exact ⟨k + 1, _, by omega, by go_num, HN.out.1, HN.out.2.1, HN.out.2.2⟩
        case measure => simp [intOf]; omega
   exact AllReadyH.nil
 exact AllReadyH.nil
end Go.Proofs.YtbeoeackahmpbaaGreatDoor
namespace Go.Proofs.YtbeoeackahmpbaaGreatDoor
open Go.RowKit NatM Go.Proofs.YtbeoeackahmpbaaGreatDoor.Api LinM
def mulOk (X Y : Nat → Nat → Tri) (ma mb : Nat → Nat) (n c : Nat) : Bool := shapeOk X ma n && shapeOk Y mb c && decide (ma 0 = c)
set_option maxRecDepth 100000 in
set_option maxHeartbeats 2000000 in
theorem mulN_arg {w : World} {va vb : Value} {n c : Nat} {ma mb : Nat → Nat} {X Y : Nat → Nat → Tri} (h : MatP false w va n ma X) (hv : MatP false w vb c mb Y) (hb : mulOk X Y ma mb n c = false) :
 Calls Tryz.prog 26 #[va, vb] w (RefP w 1) := by
 obtain ⟨p1, q1, b1, e1⟩ : ∃ p q b, shN X ma n = (p, q, b) := ⟨_, _, _, rfl⟩
 obtain ⟨p2, q2, b2, e2⟩ : ∃ p q b, shN Y mb c = (p, q, b) := ⟨_, _, _, rfl⟩
 have CS := Lib.hid (shapeN (p1, q1, b1) h (Lib.hid e1))
 have CS2 := Lib.hid (fun w' (ha : Add w w') => shapeN (p2, q2, b2) (hv.add ha) (Lib.hid e2))
 obtain ⟨ao, ca, rfl, -⟩ := h.isSlice
 obtain ⟨bo, cb, rfl, -⟩ := hv.isSlice
 have key : b1 = false ∨ (b1 = true ∧ b2 = false) ∨ (b1 = true ∧ b2 = true ∧ q1 ≠ p2) := by
  unfold shN at e1 e2
  unfold mulOk at hb
  by_cases s1 : shapeOk X ma n = true
  · rw [if_pos s1] at e1
    by_cases s2 : shapeOk Y mb c = true
    · rw [if_pos s2] at e2
      simp only [Prod.mk.injEq] at e1 e2
      rw [s1, s2] at hb
      refine .inr (.inr ⟨e1.2.2.symm, e2.2.2.symm, ?_⟩)
      rw [← e1.2.1, ← e2.1]
      simpa using hb
    · rw [if_neg s2] at e2
      simp only [Prod.mk.injEq] at e1 e2
      exact .inr (.inl ⟨e1.2.2.symm, e2.2.2.symm⟩)
  · rw [if_neg s1] at e1
    simp only [Prod.mk.injEq] at e1
    exact .inl e1.2.2.symm
 clear h hv hb e1 e2
 rcases key with rfl | ⟨rfl, rfl⟩ | ⟨rfl, rfl, hne⟩
 · cases b2
   all_goals
    go_enter Tryz.func26, Tryz.ntmps26
    go_wp2_with fail
    refine CS.out.mono ?_
    rintro e w1 ⟨rfl, h1⟩
    go_wp2_with fail
    refine (CS2.out w1 h1).mono ?_
    rintro e w2 ⟨rfl, h2⟩
    have H2 := Lib.hid (Add.trans h1 h2)
    clear h1 h2 CS CS2
    go_wp2_with fail
    go_ret2
    exact refP1 H2.out
 · skip
   go_enter Tryz.func26, Tryz.ntmps26
   go_wp2_with fail
   refine CS.out.mono ?_
   rintro e w1 ⟨rfl, h1⟩
   go_wp2_with fail
   refine (CS2.out w1 h1).mono ?_
   rintro e w2 ⟨rfl, h2⟩
   have H2 := Lib.hid (Add.trans h1 h2)
   clear h1 h2 CS CS2
   go_wp2_with fail
   go_ret2
   exact refP1 H2.out
 · have d : ((q1 : Int) != (p2 : Int)) = true := by simp; omega
   go_enter Tryz.func26, Tryz.ntmps26
   go_wp2_with fail
   refine CS.out.mono ?_
   rintro e w1 ⟨rfl, h1⟩
   go_wp2_with fail
   refine (CS2.out w1 h1).mono ?_
   rintro e w2 ⟨rfl, h2⟩
   have H2 := Lib.hid (Add.trans h1 h2)
   clear h1 h2 CS CS2
   go_wp2_with fail
   go_ret2
   exact refP1 H2.out
end Go.Proofs.YtbeoeackahmpbaaGreatDoor
