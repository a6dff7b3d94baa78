import Derived.Test.YtbeoeackahmpbaaGreatDoorJV7
import Derived.Test.YtbeoeackahmpbaaGreatDoorJU
import Derived.Deep.Cut
namespace Go.Proofs.YtbeoeackahmpbaaGreatDoor
open Go.RowKit NatM Go.Proofs.YtbeoeackahmpbaaGreatDoor.Api LinM
def RefP (w : World) (k : Nat) (e : Ending) (w' : World) : Prop := e = .returned (.tuple #[.slice none 0 0, .int .i64 (k : Nat)]) ∧ Add w w'
theorem refP1 {w w' : World} (h : Add w w') : RefP w 1 (.returned (.tuple #[.slice none 0 0, .int .i64 1])) w' := ⟨rfl, h⟩
theorem refP2 {w w' : World} (h : Add w w') : RefP w 2 (.returned (.tuple #[.slice none 0 0, .int .i64 2])) w' := ⟨rfl, h⟩
set_option maxRecDepth 100000 in
set_option maxHeartbeats 1000000 in
theorem solveN_arg {w : World} {va vb : Value} {n q : Nat} {m : Nat → Nat} {X : Nat → Nat → Tri} {y : Nat → Tri} (h : MatP false w va n m X) (hv : RowP false w vb q y) (hn : n ≤ 9223372036854775807) (hb : sqOkL X m n = false ∨ vecOk y q n = false) :
 Calls Tryz.prog 15 #[va, vb] w (RefP w 1) := by
 by_cases hs : sqOkL X m n = true
 · have hy : vecOk y q n = false := by
    rcases hb with e | e
    · rw [hs] at e; cases e
    · exact e
   have CS := Lib.hid (isSquareN true h (Lib.hid hs))
   have CV := Lib.hid (fun w' (ha : Add w w') => isVectorN false (hv.add ha) hn (Lib.hid hy))
   obtain ⟨ao, ca, rfl, hl⟩ := h.isSlice
   obtain ⟨bo, cb, rfl, -, -, -⟩ := hv
   clear h hb hs hy
   go_enter Tryz.func15, Tryz.ntmps15
   go_wp2_with fail
   refine CS.out.mono ?_
   rintro e w1 ⟨rfl, h1⟩
   go_wp2_with fail
   refine (CV.out w1 h1).mono ?_
   rintro e w2 ⟨rfl, h2⟩
   have H2 := Lib.hid (Add.trans h1 h2)
   clear h1 h2 CS CV
   go_wp2_with fail
   go_ret2
   exact refP1 H2.out
 · have CS := Lib.hid (isSquareN false h (Lib.hid (by simpa using hs)))
   obtain ⟨ao, ca, rfl, hl⟩ := h.isSlice
   obtain ⟨bo, cb, rfl, -, -, -⟩ := hv
   clear h hb hs
   go_enter Tryz.func15, Tryz.ntmps15
   go_wp2_with fail
   refine CS.out.mono ?_
   rintro e w1 ⟨rfl, h1⟩
   have H2 := Lib.hid h1
   clear h1 CS
   go_wp2_with fail
   go_ret2
   exact refP1 H2.out
end Go.Proofs.YtbeoeackahmpbaaGreatDoor
namespace Go.Proofs.YtbeoeackahmpbaaGreatDoor
open Go.RowKit NatM Go.Proofs.YtbeoeackahmpbaaGreatDoor.Api LinM
set_option maxRecDepth 100000 in
set_option maxHeartbeats 4000000 in
theorem solveN_size {w : World} {va vb : Value} {n q : Nat} {m : Nat → Nat} {X : Nat → Nat → Tri} {y : Nat → Tri} (h : MatP false w va n m X) (hv : RowP false w vb q y) (hT : Tab w) (hb : sqOkL X m n = true) (hy : vecOk y q n = true)
 (hw : wtM (fun i j => can (qm X i j)) (fun _ => n) n + wtR (fun j => can (qr y j)) n > 1900) :
 Calls Tryz.prog 15 #[va, vb] w (RefP w 2) := by
 obtain ⟨hn, hX⟩ := sqOkL_iff.1 hb
 obtain ⟨rfl, hyo⟩ := vecOk_iff.1 hy
 have CS := Lib.hid (isSquareN true h (Lib.hid hb))
 have CV := Lib.hid (fun w' (ha : Add w w') => isVectorN true (hv.add ha) (show q ≤ 9223372036854775807 by omega) (Lib.hid hy))
 have HX := Lib.hid hX
 have HY := Lib.hid hyo
 have HT := Lib.hid hT
 have HW := Lib.hid hw
 have HA := Lib.hid (And.intro h hv)
 obtain ⟨ao, ca, rfl, -⟩ := h.isSlice
 obtain ⟨bo, cb, rfl, -, -, -⟩ := hv
 clear h hT hb hy hX hw hyo
 go_enter Tryz.func15, Tryz.ntmps15
 go_wp2_with fail
 refine CS.out.mono ?_
 rintro e w1 ⟨rfl, h1⟩
 go_wp2_with fail
 refine (CV.out w1 h1).mono ?_
 rintro e wr ⟨rfl, h2⟩
 have HT1 := Lib.hid (Add.trans h1 h2)
 have C1 : Hid (∀ w', Add wr w' → Calls Tryz.prog 45 #[.slice ao q ca] w' (RetM w' q m (redX X))) := Lib.hid fun w' ha => reducedN (HA.out.1.add (Add.trans HT1.out ha)) (HT.out.mono (Add.trans HT1.out ha)) (by omega) (fun i hi => by rw [(HX.out i hi).1]; omega)
 have C2 : Hid (∀ w' g, w'.heap[g]? = some (.cells #[.slice bo q cb] 23 (0, 0)) → Add wr w' → Calls Tryz.prog 45 #[.slice (some ⟨g, 0, none⟩) 1 1] w' (RetM w' 1 (fun _ => q) (redX fun _ => y))) := Lib.hid fun w' g hg ha => reducedN (one_row hg (HA.out.2.add (Add.trans HT1.out ha))) (HT.out.mono (Add.trans HT1.out ha)) (by omega) (fun i hi => by omega)
 clear CS CV h1 h2
 go_upto_region 3 with fail
 refine wp_region_held_drew (S := fun _ => True) (by kernel_rfl) trivial (fun hHeld => ?_)
 refine wpAnyH_take (i := 0) (v := ?_) (by simp only [List.getElem?_toArray, List.getElem?_cons_zero]; rfl) (by kernel_rfl) (by kernel_rfl) (by kernel_rfl) (by intro _ _ _ h; exact h) (Or.inl ⟨by rfl, ?_⟩) (by assumption) ?_
 rotate_left
 · intro w0 hSw
   try dsimp only at hSw
   go_simp
   try with_reducible rfl
 try simp only [Act.put, List.setIfInBounds_toArray, List.set_cons_zero, List.set_cons_succ]
 refine wpAnyH_take (i := 2) (v := ?_) (by simp only [List.getElem?_toArray, List.getElem?_cons_zero, List.getElem?_cons_succ]; rfl) (by kernel_rfl) (by kernel_rfl) (by kernel_rfl) (by intro _ _ _ h; exact h) (Or.inl ⟨by rfl, ?_⟩) (by assumption) ?_
 rotate_left
 · intro w0 hSw
   try dsimp only at hSw
   go_simp
   try with_reducible rfl
 try simp only [Act.put, List.setIfInBounds_toArray, List.set_cons_zero, List.set_cons_succ]
 refine wpAnyH_ready (rs := [1, 3]) (by kernel_rfl) (by simp) ?_
 refine AllReadyH.cons (o := _) (by simp only [List.getElem?_toArray, List.getElem?_cons_zero, List.getElem?_cons_succ]; rfl) (fun K hK => ?_) ?_
 · skip
   go_simp
   refine (C1.out _ (Below.drew (Below.refl _ _))).mono ?_
   rintro e z1 ⟨G1, gs1, rfl, hE1, hq1⟩
   have t2 := Add.trans (Below.drew (Below.refl _ _) : Add wr (World.drew wr)) hq1
   have HE1 := Lib.hid hE1
   clear hE1 hq1
   refine hK.out _ _ trivial (fun hHeld => ?_)
   clear hK K
   try simp only [Act.put, List.setIfInBounds_toArray, List.set_cons_zero, List.set_cons_succ]
   refine wpAnyH_ready (rs := [3]) (by kernel_rfl) (by simp) ?_
   refine AllReadyH.cons (o := _) (by simp only [List.getElem?_toArray, List.getElem?_cons_zero, List.getElem?_cons_succ]; rfl) (fun K hK => ?_) ?_
   · skip
     go_simp
     refine hK.out _ _ trivial (fun hHeld => ?_)
     clear hK K
     try simp only [Act.put, List.setIfInBounds_toArray, List.set_cons_zero, List.set_cons_succ]
     refine wpAnyH_ready (rs := [4]) (by kernel_rfl) (by simp) ?_
     refine AllReadyH.cons (o := _) (by simp only [List.getElem?_toArray, List.getElem?_cons_zero, List.getElem?_cons_succ]; rfl) (fun K hK => ?_) ?_
     · skip
       go_simp
       refine (C2.out _ _ (heap_alloc_new _ _) (Add.trans t2 (add_new _ _))).mono ?_
       rintro e z2 ⟨G2, gs2, rfl, hE2, hq2⟩
       have t3 := Add.trans (Add.trans t2 (add_new _ _)) hq2
       have HE3 := Lib.hid (HE1.out.add (Add.trans (add_new _ _) hq2))
       have c9 : z2.cell? ⟨G2, 0, none⟩ = some (.slice (some ⟨gs2 0, 0, none⟩) q q) := (by have := hE2.head.cell (show 0 < 1 by omega); exact this)
       have HE2 := Lib.hid hE2
       clear hE2 hq2 HE1
       refine hK.out _ _ trivial (fun hHeld => ?_)
       clear hK K
       try simp only [Act.put, List.setIfInBounds_toArray, List.set_cons_zero, List.set_cons_succ]
       refine wpAnyH_more (S' := fun W : World => W.cell? ⟨G2, 0, none⟩ = some (.slice (some ⟨gs2 0, 0, none⟩) q q)) (fun _ _ => trivial) c9 (fun hHeld => ?_)
       refine wpAnyH_take (i := 5) (v := ?_) (by simp only [List.getElem?_toArray, List.getElem?_cons_zero, List.getElem?_cons_succ]; rfl) (by kernel_rfl) (by kernel_rfl) (by kernel_rfl) (by intro _ _ _ h; exact h) (Or.inl ⟨by rfl, ?_⟩) (by assumption) ?_
       rotate_left
       · intro w0 hSw
         try dsimp only at hSw
         go_simp
         try with_reducible rfl
       try simp only [Act.put, List.setIfInBounds_toArray, List.set_cons_zero, List.set_cons_succ]
       refine wpAnyH_take (i := 6) (v := ?_) (by simp only [List.getElem?_toArray, List.getElem?_cons_zero, List.getElem?_cons_succ]; rfl) (by kernel_rfl) (by kernel_rfl) (by kernel_rfl) (by intro _ _ _ h; exact h) (Or.inl ⟨by rfl, ?_⟩) (by assumption) ?_
       rotate_left
       · intro w0 hSw
         try dsimp only at hSw
         go_simp
         try with_reducible rfl
       try simp only [Act.put, List.setIfInBounds_toArray, List.set_cons_zero, List.set_cons_succ]
       refine wpAnyH_take (i := 7) (v := ?_) (by simp only [List.getElem?_toArray, List.getElem?_cons_zero, List.getElem?_cons_succ]; rfl) (by kernel_rfl) (by kernel_rfl) (by kernel_rfl) (by intro _ _ _ h; exact h) (Or.inl ⟨by rfl, ?_⟩) (by assumption) ?_
       rotate_left
       · intro w0 hSw
         try dsimp only at hSw
         go_simp
         try with_reducible rfl
       try simp only [Act.put, List.setIfInBounds_toArray, List.set_cons_zero]
       refine wpAnyH_take (i := 8) (v := ?_) (by simp only [List.getElem?_toArray, List.getElem?_cons_zero, List.getElem?_cons_succ]; rfl) (by kernel_rfl) (by kernel_rfl) (by kernel_rfl) (by intro _ _ _ h; exact h) (Or.inl ⟨by rfl, ?_⟩) (by assumption) ?_
       rotate_left
       · intro w0 hSw
         try dsimp only at hSw
         go_simp
         try with_reducible rfl
       try simp only [Act.put, List.setIfInBounds_toArray, List.set_cons_zero, List.set_cons_succ]
       refine wpAnyH_done (by kernel_rfl) ?_ _
       clear c9 C1 C2 hHeld
       have hM := red_mat HE3.out (by omega) (by omega) (fun i hi => (HX.out i hi).1) (fun i j hi hj => (HX.out i hi).2 j (by rw [← (HX.out i hi).1]; exact hj))
       have hR := red_row HE2.out (by omega) HY.out
       have hF : ∀ i j, i < q → j < q → Fit (qm X i j) := fun i j hi hj => fit_red ((HX.out i hi).2 j hj)
       have hFy : ∀ j, j < q → Fit (qr y j) := fun j hj => fit_red (HY.out j hj)
       have hbA : wtM (fun i j => can (qm X i j)) (fun _ => q) q ≤ q * (q * 8192) := sumK_le fun i hi => sumK_le fun j hj => wtF_le (hF i j hi hj).sm
       have hbA2 : q * (q * 8192) ≤ 24 * (24 * 8192) := Nat.mul_le_mul hn.2 (Nat.mul_le_mul_right _ hn.2)
       have hbB : wtR (fun j => can (qr y j)) q ≤ q * 8192 := sumK_le fun j hj => wtF_le (hFy j hj).sm
       have hbC : q * 8192 ≤ 24 * 8192 := Nat.mul_le_mul_right _ hn.2
       have hb3 : wtM (fun i j => can (qm X i j)) (fun _ => q) q ≤ 4718592 := by omega
       have hb4 : wtR (fun j => can (qr y j)) q ≤ 196608 := by omega
       clear hbA hbA2 hbB hbC
       obtain ⟨gb, hgb⟩ : ∃ g, g = gs2 0 := ⟨_, rfl⟩
       rw [← hgb] at hR ⊢
       have T3 := Add.trans HT1.out t3
       have CW1 := Lib.hid (weightN hM (fun i j hi hj => (hF i j hi hj).sm) (by omega) (fun i hi => by omega))
       have CW2 := Lib.hid (fun (w' : World) (g : Nat) (hg : w'.heap[g]? = some (.cells #[.slice (some ⟨gb, 0, none⟩) q q] 23 (0, 0))) (ha : Add z2 w') => weightN (one_row hg (hR.add ha)) (fun i j hi hj => (hFy j hj).sm) (by omega) (fun i hi => by omega))
       have HT3 := Lib.hid T3
       clear hM hR hF hFy hgb T3 t2 t3 HE2 HE3
       go_wp2_with fail
       refine CW1.out.mono ?_
       rintro e w3 ⟨rfl, h3⟩
       go_wp2_with fail
       refine (CW2.out _ _ (heap_alloc_new w3 _) (Add.trans h3 (add_new _ _))).mono ?_
       rintro e w4 ⟨rfl, h4⟩
       rw [wtM_one]
       have T4 := Add.trans HT3.out (Add.trans (Add.trans h3 (add_new w3 (.cells #[.slice (some ⟨gb, 0, none⟩) q q] 23))) h4)
       have hw2 := HW.out
       have d : ((1900 : Int)) < ((wtM (fun i j => can (qm X i j)) (fun _ => q) q : Nat) : Int) + ((wtR (fun j => can (qr y j)) q : Nat) : Int) := by omega
       have H4 := Lib.hid T4
       clear h3 h4 T4 CW1 CW2
       go_wp2_with fail
       go_ret2
       exact refP2 H4.out
     exact AllReadyH.nil
   exact AllReadyH.nil
 refine AllReadyH.cons (o := _) (by simp only [List.getElem?_toArray, List.getElem?_cons_zero, List.getElem?_cons_succ]; rfl) (fun K hK => ?_) ?_
 · skip
   go_simp
   refine hK.out _ _ trivial (fun hHeld => ?_)
   clear hK K
   try simp only [Act.put, List.setIfInBounds_toArray, List.set_cons_zero, List.set_cons_succ]
   refine wpAnyH_ready (rs := [1]) (by kernel_rfl) (by simp) ?_
   refine AllReadyH.cons (o := _) (by simp only [List.getElem?_toArray, List.getElem?_cons_zero, List.getElem?_cons_succ]; rfl) (fun K hK => ?_) ?_
   · skip
     go_simp
     refine (C1.out _ (Add.trans (Below.drew (Below.refl _ _)) (add_new _ _))).mono ?_
     rintro e z1 ⟨G1, gs1, rfl, hE1, hq1⟩
     have t2 := Add.trans (Add.trans (Below.drew (Below.refl _ _) : Add wr (World.drew wr)) (add_new _ (.cells #[.slice bo q cb] 23))) hq1
     have hblk : z1.heap[wr.heap.size]? = some (.cells #[.slice bo q cb] 23 (0, 0)) := (by have := heap_alloc_new (World.drew wr) (.cells #[.slice bo q cb] 23); exact (hq1.block _ (by simp)).trans this)
     have HE1 := Lib.hid hE1
     clear hE1 hq1
     refine hK.out _ _ trivial (fun hHeld => ?_)
     clear hK K
     try simp only [Act.put, List.setIfInBounds_toArray, List.set_cons_zero, List.set_cons_succ]
     refine wpAnyH_ready (rs := [4]) (by kernel_rfl) (by simp) ?_
     refine AllReadyH.cons (o := _) (by simp only [List.getElem?_toArray, List.getElem?_cons_zero, List.getElem?_cons_succ]; rfl) (fun K hK => ?_) ?_
     · skip
       go_simp
       refine (C2.out _ _ hblk (t2)).mono ?_
       rintro e z2 ⟨G2, gs2, rfl, hE2, hq2⟩
       have t3 := Add.trans (t2) hq2
       have HE3 := Lib.hid (HE1.out.add (hq2))
       have c9 : z2.cell? ⟨G2, 0, none⟩ = some (.slice (some ⟨gs2 0, 0, none⟩) q q) := (by have := hE2.head.cell (show 0 < 1 by omega); exact this)
       have HE2 := Lib.hid hE2
       clear hE2 hq2 HE1
       refine hK.out _ _ trivial (fun hHeld => ?_)
       clear hK K
       try simp only [Act.put, List.setIfInBounds_toArray, List.set_cons_zero, List.set_cons_succ]
       refine wpAnyH_more (S' := fun W : World => W.cell? ⟨G2, 0, none⟩ = some (.slice (some ⟨gs2 0, 0, none⟩) q q)) (fun _ _ => trivial) c9 (fun hHeld => ?_)
       refine wpAnyH_take (i := 5) (v := ?_) (by simp only [List.getElem?_toArray, List.getElem?_cons_zero, List.getElem?_cons_succ]; rfl) (by kernel_rfl) (by kernel_rfl) (by kernel_rfl) (by intro _ _ _ h; exact h) (Or.inl ⟨by rfl, ?_⟩) (by assumption) ?_
       rotate_left
       · intro w0 hSw
         try dsimp only at hSw
         go_simp
         try with_reducible rfl
       try simp only [Act.put, List.setIfInBounds_toArray, List.set_cons_zero, List.set_cons_succ]
       refine wpAnyH_take (i := 6) (v := ?_) (by simp only [List.getElem?_toArray, List.getElem?_cons_zero, List.getElem?_cons_succ]; rfl) (by kernel_rfl) (by kernel_rfl) (by kernel_rfl) (by intro _ _ _ h; exact h) (Or.inl ⟨by rfl, ?_⟩) (by assumption) ?_
       rotate_left
       · intro w0 hSw
         try dsimp only at hSw
         go_simp
         try with_reducible rfl
       try simp only [Act.put, List.setIfInBounds_toArray, List.set_cons_zero, List.set_cons_succ]
       refine wpAnyH_take (i := 7) (v := ?_) (by simp only [List.getElem?_toArray, List.getElem?_cons_zero, List.getElem?_cons_succ]; rfl) (by kernel_rfl) (by kernel_rfl) (by kernel_rfl) (by intro _ _ _ h; exact h) (Or.inl ⟨by rfl, ?_⟩) (by assumption) ?_
       rotate_left
       · intro w0 hSw
         try dsimp only at hSw
         go_simp
         try with_reducible rfl
       try simp only [Act.put, List.setIfInBounds_toArray, List.set_cons_zero]
       refine wpAnyH_take (i := 8) (v := ?_) (by simp only [List.getElem?_toArray, List.getElem?_cons_zero, List.getElem?_cons_succ]; rfl) (by kernel_rfl) (by kernel_rfl) (by kernel_rfl) (by intro _ _ _ h; exact h) (Or.inl ⟨by rfl, ?_⟩) (by assumption) ?_
       rotate_left
       · intro w0 hSw
         try dsimp only at hSw
         go_simp
         try with_reducible rfl
       try simp only [Act.put, List.setIfInBounds_toArray, List.set_cons_zero, List.set_cons_succ]
       refine wpAnyH_done (by kernel_rfl) ?_ _
       clear c9 C1 C2 hHeld
       have hM := red_mat HE3.out (by omega) (by omega) (fun i hi => (HX.out i hi).1) (fun i j hi hj => (HX.out i hi).2 j (by rw [← (HX.out i hi).1]; exact hj))
       have hR := red_row HE2.out (by omega) HY.out
       have hF : ∀ i j, i < q → j < q → Fit (qm X i j) := fun i j hi hj => fit_red ((HX.out i hi).2 j hj)
       have hFy : ∀ j, j < q → Fit (qr y j) := fun j hj => fit_red (HY.out j hj)
       have hbA : wtM (fun i j => can (qm X i j)) (fun _ => q) q ≤ q * (q * 8192) := sumK_le fun i hi => sumK_le fun j hj => wtF_le (hF i j hi hj).sm
       have hbA2 : q * (q * 8192) ≤ 24 * (24 * 8192) := Nat.mul_le_mul hn.2 (Nat.mul_le_mul_right _ hn.2)
       have hbB : wtR (fun j => can (qr y j)) q ≤ q * 8192 := sumK_le fun j hj => wtF_le (hFy j hj).sm
       have hbC : q * 8192 ≤ 24 * 8192 := Nat.mul_le_mul_right _ hn.2
       have hb3 : wtM (fun i j => can (qm X i j)) (fun _ => q) q ≤ 4718592 := by omega
       have hb4 : wtR (fun j => can (qr y j)) q ≤ 196608 := by omega
       clear hbA hbA2 hbB hbC
       obtain ⟨gb, hgb⟩ : ∃ g, g = gs2 0 := ⟨_, rfl⟩
       rw [← hgb] at hR ⊢
       have T3 := Add.trans HT1.out t3
       have CW1 := Lib.hid (weightN hM (fun i j hi hj => (hF i j hi hj).sm) (by omega) (fun i hi => by omega))
       have CW2 := Lib.hid (fun (w' : World) (g : Nat) (hg : w'.heap[g]? = some (.cells #[.slice (some ⟨gb, 0, none⟩) q q] 23 (0, 0))) (ha : Add z2 w') => weightN (one_row hg (hR.add ha)) (fun i j hi hj => (hFy j hj).sm) (by omega) (fun i hi => by omega))
       have HT3 := Lib.hid T3
       clear hM hR hF hFy hgb T3 t2 t3 HE2 HE3
       go_wp2_with fail
       refine CW1.out.mono ?_
       rintro e w3 ⟨rfl, h3⟩
       go_wp2_with fail
       refine (CW2.out _ _ (heap_alloc_new w3 _) (Add.trans h3 (add_new _ _))).mono ?_
       rintro e w4 ⟨rfl, h4⟩
       rw [wtM_one]
       have T4 := Add.trans HT3.out (Add.trans (Add.trans h3 (add_new w3 (.cells #[.slice (some ⟨gb, 0, none⟩) q q] 23))) h4)
       have hw2 := HW.out
       have d : ((1900 : Int)) < ((wtM (fun i j => can (qm X i j)) (fun _ => q) q : Nat) : Int) + ((wtR (fun j => can (qr y j)) q : Nat) : Int) := by omega
       have H4 := Lib.hid T4
       clear h3 h4 T4 CW1 CW2
       go_wp2_with fail
       go_ret2
       exact refP2 H4.out
     exact AllReadyH.nil
   exact AllReadyH.nil
 exact AllReadyH.nil
end Go.Proofs.YtbeoeackahmpbaaGreatDoor
namespace Go.Proofs.YtbeoeackahmpbaaGreatDoor
open Go.RowKit NatM Go.Proofs.YtbeoeackahmpbaaGreatDoor.Api LinM
def MRes (w : World) (n : Nat) (m : Nat → Nat) (X : Nat → Nat → Tri) (k : Nat) (e : Ending) (w' : World) : Prop := ∃ a c, e = .returned (.tuple #[.slice a n c, .int .i64 (k : Nat)]) ∧ MatP true w' (.slice a n c) n m X ∧ Add w w'
def VRes (w : World) (n : Nat) (t : Nat → Tri) (k : Nat) (e : Ending) (w' : World) : Prop := ∃ a c, e = .returned (.tuple #[.slice a n c, .int .i64 (k : Nat)]) ∧ RowP true w' (.slice a n c) n t ∧ Add w w'
theorem matNil (w : World) (m : Nat → Nat) (X : Nat → Nat → Tri) : MatP true w (.slice none 0 0) 0 m X := ⟨none, 0, rfl, Nat.le_refl _, by unfold maxLen; omega, fun h => by omega⟩
theorem RefP.mat {w : World} {k : Nat} {e : Ending} {w' : World} (m : Nat → Nat) (X : Nat → Nat → Tri) (h : RefP w k e w') : MRes w 0 m X k e w' := ⟨none, 0, h.1, matNil _ _ _, h.2⟩
theorem wtM_shape {A : Mat} {m : Nat → Nat} {n c : Nat} (h : ∀ i, i < n → m i = c) : wtM (fun i j => can (A i j)) m n = wtM (fun i j => can (A i j)) (fun _ => c) n := sumK_congr fun i hi => by rw [h i hi]
end Go.Proofs.YtbeoeackahmpbaaGreatDoor
