import Derived.Test.YtbeoeackahmpbaaGreatDoorJV6
import Derived.Test.YtbeoeackahmpbaaGreatDoorJD
import Derived.Deep.Cut
import Derived.Deep.RegionHeld3
import Derived.Test.YtbeoeackahmpbaaGreatDoorJU
namespace Go.Proofs.YtbeoeackahmpbaaGreatDoor
open Go.RowKit NatM Go.Proofs.YtbeoeackahmpbaaGreatDoor.Api LinM
theorem fieldRankL (r : Value) (k : Int) (b b' : Bool) (a a' : Option Addr) (n c n' c' : Nat) (e e' : Option Addr) (d f d' f' : Nat) (w : World) : Sem.run Tryz.prog (Instr.field 76 (Value.agg #[r, .int .i64 k, .bool b, .slice a n c, .slice e d f, .bool b', .slice a' n' c', .slice e' d' f']) 1) w = .ok (.int .i64 k) w := by kernel_rfl
def qm (X : Nat → Nat → Tri) : Mat := fun i j => qv (X i j)
theorem MatP.same {R : Bool} {w : World} {v : Value} {n : Nat} {m m' : Nat → Nat} {X X' : Nat → Nat → Tri} (h : MatP R w v n m X) (hm : ∀ i, i < n → m i = m' i) (hX : ∀ i j, i < n → j < m i → X i j = X' i j) : MatP R w v n m' X' := by
 obtain ⟨ao, c, e, h1, h2, h3⟩ := h
 refine ⟨ao, c, e, h1, h2, fun hn => ?_⟩
 obtain ⟨b, off, e, h4⟩ := h3 hn
 refine ⟨b, off, e, fun i hi => ?_⟩
 obtain ⟨u, g1, g2⟩ := h4 i hi
 exact ⟨u, g1, by rw [← hm i hi]; exact g2.congr fun j hj => hX i j hi hj⟩
theorem red_mat {w : World} {base G n q : Nat} {gs m : Nat → Nat} {X : Nat → Nat → Tri} (h : EM w base G n n gs m (redX X)) (hn : n ≤ 1000) (hq : q ≤ 1000) (hm : ∀ i, i < n → m i = q) (hok : ∀ i j, i < n → j < m i → okF (X i j) = true) :
 MatP true w (.slice (some ⟨G, 0, none⟩) n n) n (fun _ => q) (fun i j => can (qm X i j)) :=
 (h.mat (by unfold maxLen; omega) (fun i hi => by rw [hm i hi]; unfold maxLen; omega)).same hm fun i j hi hj => red_can (hok i j hi hj)
def detF (X : Nat → Nat → Tri) (m : Nat → Nat) (n : Nat) : Tri × Nat :=
 if sqOkL X m n = true then (if wtM (fun i j => can (qm X i j)) (fun _ => n) n ≤ 1900 then (can (det n (qm X)), 0) else ((false, 0, 0), 2)) else ((false, 0, 0), 1)
theorem sqOkL_iff {X : Nat → Nat → Tri} {m : Nat → Nat} {n : Nat} : sqOkL X m n = true ↔ (1 ≤ n ∧ n ≤ 24) ∧ ∀ i, i < n → m i = n ∧ ∀ j, j < n → okF (X i j) = true := by
 unfold sqOkL
 rw [Bool.and_eq_true, decide_eq_true_eq, shapeOk_iff]
 constructor
 · rintro ⟨⟨h1, h2, h3⟩, h4⟩
   refine ⟨h1, fun i hi => ?_⟩
   obtain ⟨k1, k2⟩ := h3 i hi
   rw [k1, ← h4] at k2
   exact ⟨by rw [k1, h4], k2⟩
 · rintro ⟨h1, h2⟩
   have h0 := (h2 0 (by omega)).1
   refine ⟨⟨h1, by omega, fun i hi => ?_⟩, h0.symm⟩
   obtain ⟨k1, k2⟩ := h2 i hi
   exact ⟨by rw [k1, h0], by rw [k1]; exact k2⟩
set_option maxRecDepth 100000 in
set_option maxHeartbeats 2000000 in
theorem rankN_ok {w : World} {v : Value} {n q : Nat} {m : Nat → Nat} {X : Nat → Nat → Tri} (h : MatP false w v n m X) (hT : Tab w) (hb : shapeOk X m n = true) (hq : m 0 = q) (hw : wtM (fun i j => can (qm X i j)) (fun _ => q) n ≤ 1900) :
 Calls Tryz.prog 22 #[v] w (fun e w' => ∃ (k : Nat) (p s : Rat) (Y : Mat) (c : Nat → Nat) (W : Mat), Elim (qm X) n q ((2 ^ 1900 : Nat) : Rat) q k p s Y c W ∧ e = .returned (.tuple #[.int .i64 (k : Nat), .int .i64 0]) ∧ Add w w') := by
 obtain ⟨hn, hq1, hX⟩ := shapeOk_iff.1 hb
 rw [hq] at hX hq1
 have CS := Lib.hid (shapeN (n, q, true) h (Lib.hid (by unfold shN; rw [if_pos hb, hq])))
 have CR := Lib.hid (fun w' (ha : Add w w') => reducedN (h.add ha) (hT.mono ha) (by omega) (fun i hi => by rw [(hX i hi).1]; omega))
 have HX := Lib.hid hX
 have HW := Lib.hid hw
 have HT := Lib.hid hT
 obtain ⟨ao, ca, rfl, -⟩ := h.isSlice
 clear h hT hb hX hw hq
 go_enter Tryz.func22, Tryz.ntmps22
 go_wp2_with fail
 refine CS.out.mono ?_
 rintro e w1 ⟨rfl, h1⟩
 go_wp2_with fail
 refine (CR.out w1 h1).mono ?_
 rintro e w2 ⟨G, gs, rfl, hE, h2⟩
 have T2 := Add.trans h1 h2
 have hM := red_mat hE (by omega) (by omega) (fun i hi => (HX.out i hi).1) (fun i j hi hj => (HX.out i hi).2 j hj)
 have hF : ∀ i j, i < n → j < q → Fit (qm X i j) := fun i j hi hj => fit_red ((HX.out i hi).2 j (by rw [(HX.out i hi).1]; exact hj))
 have CW := Lib.hid (fun w' (ha : Add w2 w') => weightN (hM.add ha) (fun i j hi hj => (hF i j hi hj).sm) (by omega) (fun i hi => by omega))
 have CE := Lib.hid (fun w' (ha : Add w2 w') => eliminateN (hM.add ha) hn.1 hn.2 (show q ≤ 100 by omega) (Nat.le_refl q) hF HW.out (show 1900 ≤ 1930 by omega) (HT.out.mono (Add.trans T2 ha)))
 have HT2 := Lib.hid T2
 clear hE hM hF T2 h1 h2 CS CR
 go_wp2_with fail
 refine (CW.out w2 (Below.refl _ _)).mono ?_
 rintro e w3 ⟨rfl, h3⟩
 have hw2 := HW.out
 go_wp2_with fail
 refine (CE.out w3 h3).mono ?_
 rintro e w4 ⟨Ge, cap, rk, p, s, pv, sv, T, Y, c, W, rfl, -, -, -, -, hEl, -, h4⟩
 have HF := Lib.hid (And.intro hEl (Add.trans HT2.out (Add.trans h3 h4)))
 clear hEl h3 h4 CW CE
 go_wp2_with fail
 rw [fieldRankL]
 go_wp2_with fail
 go_ret2
 exact ⟨rk, p, s, Y, c, W, HF.out.1, rfl, HF.out.2⟩
set_option maxRecDepth 100000 in
set_option maxHeartbeats 2000000 in
theorem rankN_arg {w : World} {v : Value} {n : Nat} {m : Nat → Nat} {X : Nat → Nat → Tri} (h : MatP false w v n m X) (hb : shapeOk X m n = false) :
 Calls Tryz.prog 22 #[v] w (fun e w' => e = .returned (.tuple #[.int .i64 0, .int .i64 1]) ∧ Add w w') := by
 have CS := Lib.hid (shapeN (0, 0, false) h (Lib.hid (by unfold shN; rw [if_neg (by rw [hb]; decide)])))
 obtain ⟨ao, ca, rfl, -⟩ := h.isSlice
 clear h hb
 go_enter Tryz.func22, Tryz.ntmps22
 go_wp2_with fail
 refine CS.out.mono ?_
 rintro e w1 ⟨rfl, h1⟩
 go_wp2_with fail
 go_ret2
 exact ⟨rfl, h1⟩
set_option maxRecDepth 100000 in
set_option maxHeartbeats 2000000 in
theorem rankN_size {w : World} {v : Value} {n q : Nat} {m : Nat → Nat} {X : Nat → Nat → Tri} (h : MatP false w v n m X) (hT : Tab w) (hb : shapeOk X m n = true) (hq : m 0 = q) (hw : ¬ wtM (fun i j => can (qm X i j)) (fun _ => q) n ≤ 1900) :
 Calls Tryz.prog 22 #[v] w (fun e w' => e = .returned (.tuple #[.int .i64 0, .int .i64 2]) ∧ Add w w') := by
 obtain ⟨hn, hq1, hX⟩ := shapeOk_iff.1 hb
 rw [hq] at hX hq1
 have CS := Lib.hid (shapeN (n, q, true) h (Lib.hid (by unfold shN; rw [if_pos hb, hq])))
 have CR := Lib.hid (fun w' (ha : Add w w') => reducedN (h.add ha) (hT.mono ha) (by omega) (fun i hi => by rw [(hX i hi).1]; omega))
 have HX := Lib.hid hX
 have HW := Lib.hid hw
 obtain ⟨ao, ca, rfl, -⟩ := h.isSlice
 clear h hT hb hX hw hq
 go_enter Tryz.func22, Tryz.ntmps22
 go_wp2_with fail
 refine CS.out.mono ?_
 rintro e w1 ⟨rfl, h1⟩
 go_wp2_with fail
 refine (CR.out w1 h1).mono ?_
 rintro e w2 ⟨G, gs, rfl, hE, h2⟩
 have T2 := Add.trans h1 h2
 have hM := red_mat hE (by omega) (by omega) (fun i hi => (HX.out i hi).1) (fun i j hi hj => (HX.out i hi).2 j hj)
 have hF : ∀ i j, i < n → j < q → Fit (qm X i j) := fun i j hi hj => fit_red ((HX.out i hi).2 j (by rw [(HX.out i hi).1]; exact hj))
 have CW := Lib.hid (fun w' (ha : Add w2 w') => weightN (hM.add ha) (fun i j hi hj => (hF i j hi hj).sm) (by omega) (fun i hi => by omega))
 have HT2 := Lib.hid T2
 clear hE hM hF T2 h1 h2 CS CR
 go_wp2_with fail
 refine (CW.out w2 (Below.refl _ _)).mono ?_
 rintro e w3 ⟨rfl, h3⟩
 have hw2 := HW.out
 have d : decide ((1900 : Int) < ((wtM (fun i j => can (qm X i j)) (fun _ => q) n : Nat) : Int)) = true := by simp; omega
 go_wp2_with fail
 go_ret2
 exact ⟨rfl, Add.trans HT2.out h3⟩
def DetP (w : World) (x : Tri) (k : Nat) (e : Ending) (w' : World) : Prop := ∃ v, e = .returned (.tuple #[v, .int .i64 (k : Nat)]) ∧ FracT w' v x ∧ Add w w'
set_option maxRecDepth 100000 in
set_option maxHeartbeats 2000000 in
theorem detN {w : World} {v : Value} {n : Nat} {m : Nat → Nat} {X : Nat → Nat → Tri} (h : MatP false w v n m X) (hT : Tab w) (p : Tri × Nat) (hp : Hid (detF X m n = p)) :
 Calls Tryz.prog 20 #[v] w (ResF w p) := by
 obtain ⟨T1, hB⟩ := laid_var w false none 0 0 none 0 0
 by_cases hb : sqOkL X m n = true
 · obtain ⟨hn, hX⟩ := sqOkL_iff.1 hb
   have CS := Lib.hid (isSquareN true (h.add T1) (Lib.hid hb))
   have CR := Lib.hid (fun w' (ha : Add w w') => reducedN (h.add ha) (hT.mono ha) (by omega) (fun i hi => by rw [(hX i hi).1]; omega))
   have HX := Lib.hid hX
   have HT := Lib.hid hT
   have HTB := Lib.hid (And.intro T1 hB)
   by_cases hw : wtM (fun i j => can (qm X i j)) (fun _ => n) n ≤ 1900
   · have HP : Hid (p = (can (LinM.det n (qm X)), 0)) := Lib.hid (by rw [← hp.out]; unfold detF; rw [if_pos hb, if_pos hw])
     have HW := Lib.hid hw
     obtain ⟨ao, ca, rfl, -⟩ := h.isSlice
     clear h hT hb hX hw hp T1 hB
     go_enter Tryz.func20, Tryz.ntmps20
     go_wp2_with fail
     refine CS.out.mono ?_
     rintro e w1 ⟨rfl, h1⟩
     have T2 := h1
     go_wp2_with fail
     refine (CR.out w1 (Add.trans HTB.out.1 T2)).mono ?_
     rintro e w2 ⟨G, gs, rfl, hE, h2⟩
     replace T2 := Add.trans T2 h2
     have hM := red_mat hE (by omega) (by omega) (fun i hi => (HX.out i hi).1) (fun i j hi hj => (HX.out i hi).2 j (by rw [← (HX.out i hi).1]; exact hj))
     have hF : ∀ i j, i < n → j < n → Fit (qm X i j) := fun i j hi hj => fit_red ((HX.out i hi).2 j hj)
     have CW := Lib.hid (fun w' (ha : Add w2 w') => weightN (hM.add ha) (fun i j hi hj => (hF i j hi hj).sm) (by omega) (fun i hi => by omega))
     have CE := Lib.hid (fun w' (ha : Add w2 w') => eliminateN (hM.add ha) hn.1 hn.2 (show n ≤ 100 by omega) (Nat.le_refl n) hF HW.out (show 1900 ≤ 1930 by omega) ((HT.out.mono HTB.out.1).mono (Add.trans T2 ha)))
     have HT2 := Lib.hid T2
     clear hE hM hF T2 h1 h2 CS CR
     go_wp2_with fail
     refine (CW.out w2 (Below.refl _ _)).mono ?_
     rintro e w3 ⟨rfl, h3⟩
     have hw2 := HW.out
     go_wp2_with fail
     refine (CE.out w3 h3).mono ?_
     rintro e w4 ⟨Ge, cap, rk, pq, sq, ⟨pa, pn, pc, pe, pd, pf⟩, ⟨sa, sn, sc, se, sd, sf⟩, TM, Y, c, W, rfl, hfp, hfs, -, -, hEl, hFs, h4⟩
     obtain ⟨pb, hpb⟩ : ∃ b, b = (can pq).1 := ⟨_, rfl⟩
     obtain ⟨sb, hsb⟩ : ∃ b, b = (can sq).1 := ⟨_, rfl⟩
     rw [← hpb] at hfp
     rw [← hsb] at hfs
     rw [← hpb, ← hsb]
     have T4 := Add.trans HT2.out (Add.trans h3 h4)
     have T5 := add_new w4 (.cells #[.slice (some ⟨Ge, 0, none⟩) n cap, .int .i64 (rk : Nat), .bool pb, .slice pa pn pc, .slice pe pd pf, .bool sb, .slice sa sn sc, .slice se sd sf] 76)
     have hBx : EBox (w4.alloc (.cells #[.slice (some ⟨Ge, 0, none⟩) n cap, .int .i64 (rk : Nat), .bool pb, .slice pa pn pc, .slice pe pd pf, .bool sb, .slice sa sn sc, .slice se sd sf] 76)) w4.heap.size (.slice (some ⟨Ge, 0, none⟩) n cap) rk pb ⟨pa, pn, pc, pe, pd, pf⟩ sb ⟨sa, sn, sc, se, sd, sf⟩ := heap_alloc_new w4 _
     obtain ⟨W1, hW1⟩ : ∃ W1, W1 = w4.alloc (.cells #[.slice (some ⟨Ge, 0, none⟩) n cap, .int .i64 (rk : Nat), .bool pb, .slice pa pn pc, .slice pe pd pf, .bool sb, .slice sa sn sc, .slice se sd sf] 76) := ⟨_, rfl⟩
     obtain ⟨ge, hge⟩ : ∃ g, g = w4.heap.size := ⟨_, rfl⟩
     rw [← hW1] at T5
     rw [← hW1, ← hge] at hBx
     have HW1 := Lib.hid hW1
     have HGE := Lib.hid hge
     replace T4 := Add.trans T4 T5
     replace hfp := hfp.mono T5
     replace hfs := hfs.mono T5
     have HE := Lib.hid hEl
     have HB1 := Lib.hid (HTB.out.2.mono T4)
     have HT4 := Lib.hid (Add.trans HTB.out.1 T4)
     have e1 := hBx.c1
     clear hW1 hge T5 hpb hsb hEl h3 h4 CW CE T4 HT2
     go_upto_region 7 with fail
     rw [← HW1.out, ← HGE.out]
     clear HW1 HGE
     have hnk := HE.out.kn
     by_cases hrk : rk < n
     · have hz := HE.out.less hrk
       have CI := Lib.hid (by
        have := integerN _ (HT.out.mono HT4.out) (Lib.hid (by decide)) (Lib.hid (rfl : makeF 0 1 = _))
        rwa [idZero] at this)
       have HP2 : Hid (p = (can 0, 0)) := Lib.hid (by rw [HP.out, hz])
       clear hfp hfs hBx HE hnk hz
       go_wp2_with fail
       refine CI.out.mono ?_
       rintro e w5 ⟨v5, rfl, hv5, h5⟩
       obtain ⟨a5, n5, c5, e5, d5, f5, rfl, -, -⟩ := id hv5
       obtain ⟨yb, hyb⟩ : ∃ y, y = (can (0 : Rat)).1 := ⟨_, rfl⟩
       rw [← hyb] at hv5 ⊢
       have hB5 := HB1.out.mono h5
       have hF := resF_put (w := w) (p := (can 0, 0)) hB5 hv5 (Add.trans HT4.out h5) (Nat.le_refl _)
       have s0 := hB5.c0
       have s1 := hB5.c1
       have s2 := hB5.c2
       have s3 := hB5.fr 0
       have s4 := hB5.fr 1
       have s5 := hB5.fr 2
       unfold put3 at hF
       have HF := Lib.hid hF
       clear hF hv5 hB5 h5 hyb
       go_wp2_with fail
       rw [HP2.out]
       exact bodyPost_ret (v := .tuple #[.agg #[.bool yb, .slice a5 n5 c5, .slice e5 d5 f5], .int .i64 0]) (by simp [results, Tryz.results20, go_sem, s0, s1, s2]) rfl HF.out
     · have hrk2 : rk = n := by omega
       subst hrk2
       have hwb := elim_wb HE.out hn.2 (Nat.le_refl _)
       have hFp : Fit pq := fitX (by omega) hwb.1
       have hfull := HE.out.full.1
       have hs0 := HE.out.s0
       have hdet : pq / sq = LinM.det rk (qm X) := by
        rw [hfull]
        generalize LinM.det rk (qm X) = D
        grind
       obtain ⟨xs, hxs, hws⟩ := hFs
       have hFs : Fit sq := hws.fit (pw_two128 (Nat.le_refl _) (by omega))
       have hFd : Fit (pq / sq) := wb_div hwb.1 hws hs0 (pw_two128 (Nat.le_refl _) (by omega)) (pw_two128 (Nat.le_refl _) (by omega))
       have hq := quo_can hFp hFs hs0 hFd
       rw [hdet] at hq
       have hfp1 : FracT W1 (.agg #[.bool pb, .slice pa pn pc, .slice pe pd pf]) (can pq) := hfp
       have hfs1 : FracT W1 (.agg #[.bool sb, .slice sa sn sc, .slice se sd sf]) (can sq) := hfs
       have CQ := Lib.hid (quotientN _ (Sm.arg hfp1 hFp.sm) (Sm.arg hfs1 hFs.sm) (HT.out.mono HT4.out) (Lib.hid hq))
       have c2 := hBx.c2
       have c3 : W1.cell? ⟨ge, 3, none⟩ = some (.slice pa pn pc) := hBx.c3
       have c4 : W1.cell? ⟨ge, 4, none⟩ = some (.slice pe pd pf) := hBx.c4
       have c5 := hBx.c5
       have c6 : W1.cell? ⟨ge, 6, none⟩ = some (.slice sa sn sc) := hBx.c6
       have c7 : W1.cell? ⟨ge, 7, none⟩ = some (.slice se sd sf) := hBx.c7
       clear hfp hfs hBx HE hnk hwb hFp hfull hs0 hdet hxs hws hFs hFd hq hfp1 hfs1
       go_wp2_with fail
       refine CQ.out.mono ?_
       rintro e w5 ⟨v5, rfl, hv5, h5⟩
       obtain ⟨a5, n5, c5', e5, d5, f5, rfl, -, -⟩ := id hv5
       obtain ⟨yb, hyb⟩ : ∃ y, y = (can (LinM.det rk (qm X))).1 := ⟨_, rfl⟩
       dsimp only at hv5 ⊢
       rw [← hyb] at hv5 ⊢
       have hB5 := HB1.out.mono h5
       have hF := resF_put (w := w) (p := (can (LinM.det rk (qm X)), 0)) hB5 hv5 (Add.trans HT4.out h5) (Nat.le_refl _)
       have s0 := hB5.c0
       have s1 := hB5.c1
       have s2 := hB5.c2
       have s3 := hB5.fr 0
       have s4 := hB5.fr 1
       have s5 := hB5.fr 2
       unfold put3 at hF
       have HF := Lib.hid hF
       clear hF hv5 hB5 h5 hyb
       go_wp2_with fail
       rw [HP.out]
       exact bodyPost_ret (v := .tuple #[.agg #[.bool yb, .slice a5 n5 c5', .slice e5 d5 f5], .int .i64 0]) (by simp [results, Tryz.results20, go_sem, s0, s1, s2]) rfl HF.out
   · have HP : Hid (p = ((false, 0, 0), 2)) := Lib.hid (by rw [← hp.out]; unfold detF; rw [if_pos hb, if_neg hw])
     have HW := Lib.hid hw
     obtain ⟨ao, ca, rfl, -⟩ := h.isSlice
     clear h hT hb hX hw hp T1 hB
     go_enter Tryz.func20, Tryz.ntmps20
     go_wp2_with fail
     refine CS.out.mono ?_
     rintro e w1 ⟨rfl, h1⟩
     have T2 := h1
     go_wp2_with fail
     refine (CR.out w1 (Add.trans HTB.out.1 T2)).mono ?_
     rintro e w2 ⟨G, gs, rfl, hE, h2⟩
     replace T2 := Add.trans T2 h2
     have hM := red_mat hE (by omega) (by omega) (fun i hi => (HX.out i hi).1) (fun i j hi hj => (HX.out i hi).2 j (by rw [← (HX.out i hi).1]; exact hj))
     have hF : ∀ i j, i < n → j < n → Fit (qm X i j) := fun i j hi hj => fit_red ((HX.out i hi).2 j hj)
     have CW := Lib.hid (fun w' (ha : Add w2 w') => weightN (hM.add ha) (fun i j hi hj => (hF i j hi hj).sm) (by omega) (fun i hi => by omega))
     have HT2 := Lib.hid T2
     clear hE hM hF T2 h1 h2 CS CR
     go_wp2_with fail
     refine (CW.out w2 (Below.refl _ _)).mono ?_
     rintro e w3 ⟨rfl, h3⟩
     have hw2 := HW.out
     have d : decide ((1900 : Int) < ((wtM (fun i j => can (qm X i j)) (fun _ => n) n : Nat) : Int)) = true := by simp; omega
     have hB5 := HTB.out.2.mono (Add.trans HT2.out h3)
     have hF := resF_put (w := w) (p := ((false, 0, 0), 2)) hB5 (fracT_zero _) (Add.trans HTB.out.1 (Add.trans HT2.out h3)) (Nat.le_refl _)
     have s0 := hB5.c0
     have s1 := hB5.c1
     have s2 := hB5.c2
     have s3 := hB5.fr 0
     have s4 := hB5.fr 1
     have s5 := hB5.fr 2
     unfold put3 at hF
     have HF := Lib.hid hF
     clear hF hB5 h3
     go_wp2_with fail
     rw [HP.out]
     exact bodyPost_ret (v := .tuple #[.agg #[.bool false, .slice none 0 0, .slice none 0 0], .int .i64 2]) (by simp [results, Tryz.results20, go_sem, s0, s1, s2]) rfl HF.out
 · have HP : Hid (p = ((false, 0, 0), 1)) := Lib.hid (by rw [← hp.out]; unfold detF; rw [if_neg hb])
   have CS := Lib.hid (isSquareN false (h.add T1) (Lib.hid (by simpa using hb)))
   have HTB := Lib.hid (And.intro T1 hB)
   obtain ⟨ao, ca, rfl, -⟩ := h.isSlice
   clear h hT hb hp T1 hB
   go_enter Tryz.func20, Tryz.ntmps20
   go_wp2_with fail
   refine CS.out.mono ?_
   rintro e w1 ⟨rfl, h1⟩
   have hB5 := HTB.out.2.mono h1
   have hF := resF_put (w := w) (p := ((false, 0, 0), 1)) hB5 (fracT_zero _) (Add.trans HTB.out.1 h1) (Nat.le_refl _)
   have s0 := hB5.c0
   have s1 := hB5.c1
   have s2 := hB5.c2
   have s3 := hB5.fr 0
   have s4 := hB5.fr 1
   have s5 := hB5.fr 2
   unfold put3 at hF
   have HF := Lib.hid hF
   clear hF hB5 h1
   go_wp2_with fail
   rw [HP.out]
   exact bodyPost_ret (v := .tuple #[.agg #[.bool false, .slice none 0 0, .slice none 0 0], .int .i64 1]) (by simp [results, Tryz.results20, go_sem, s0, s1, s2]) rfl HF.out
end Go.Proofs.YtbeoeackahmpbaaGreatDoor
namespace Go.Proofs.YtbeoeackahmpbaaGreatDoor
open Go.RowKit NatM Go.Proofs.YtbeoeackahmpbaaGreatDoor.Api LinM
theorem sumK_join (f g : Nat → Nat) (n r : Nat) : sumK (fun j => if j < n then f j else g (j - n)) (n + r) = sumK f n + sumK g r := by
 induction r with
 | zero => exact sumK_congr fun i hi => by rw [if_pos (by omega)]
 | succ r ih =>
  show sumK _ (n + r) + (if n + r < n then f (n + r) else g (n + r - n)) = sumK f n + (sumK g r + g r)
  rw [ih, if_neg (by omega), show n + r - n = r by omega]; omega
theorem wtR_beside (n r : Nat) (A B : Mat) (i : Nat) : wtR (fun j => can (besideQ n A B i j)) (n + r) = wtR (fun j => can (A i j)) n + wtR (fun j => can (B i j)) r := by
 unfold wtR
 rw [← sumK_join]
 exact sumK_congr fun j _ => by
  unfold besideQ
  dsimp only
  by_cases e : j < n
  · rw [if_pos e, if_pos e]
  · rw [if_neg e, if_neg e]
theorem wtM_beside (n r k : Nat) (A B : Mat) : wtM (fun i j => can (besideQ n A B i j)) (fun _ => n + r) k = wtM (fun i j => can (A i j)) (fun _ => n) k + wtM (fun i j => can (B i j)) (fun _ => r) k := by
 unfold wtM
 rw [← sumK_add]
 exact sumK_congr fun i _ => wtR_beside n r A B i
def idQ : Mat := fun i j => if i = j then 1 else 0
theorem wt_one : wtF (can 1) = 1 := by
 have h : can ((1 : Nat) : Rat) = (false, 1, 1) := can_nat 1
 rw [show (1 : Rat) = ((1 : Nat) : Rat) from rfl, h]; decide
theorem wt_zero : wtF (can 0) = 0 := by
 have h : can ((0 : Nat) : Rat) = (false, 0, 1) := can_nat 0
 rw [show (0 : Rat) = ((0 : Nat) : Rat) from rfl, h]; decide
theorem wtR_id (i : Nat) : ∀ r, wtR (fun j => can (idQ i j)) r ≤ if i < r then 1 else 0
 | 0 => Nat.zero_le _
 | r + 1 => by
  have ih := wtR_id i r
  show wtR (fun j => can (idQ i j)) r + wtF (can (idQ i r)) ≤ _
  unfold idQ at ih ⊢
  by_cases e : i = r
  · rw [if_neg (by omega)] at ih
    rw [if_pos e, wt_one, if_pos (by omega)]; omega
  · rw [if_neg e, wt_zero]
    by_cases e2 : i < r
    · rw [if_pos e2] at ih; rw [if_pos (by omega)]; omega
    · rw [if_neg e2] at ih; rw [if_neg (by omega)]; omega
theorem wtM_id (n : Nat) : wtM (fun i j => can (idQ i j)) (fun _ => n) n ≤ n := by
 have := sumK_le (f := fun i => wtR (fun j => can (idQ i j)) n) (c := 1) (n := n) fun i hi => by
  have := wtR_id i n
  rw [if_pos hi] at this; exact this
 unfold wtM
 rw [Nat.mul_one] at this; exact this
theorem fit_id (i j : Nat) : Fit (idQ i j) := by
 unfold idQ
 split
 · exact fit_nat (n := 1) (small128 (by decide))
 · exact fit_nat (n := 0) (small128 (by decide))
theorem fit_beside {n r : Nat} {A B : Mat} (ha : ∀ i j, i < n → j < n → Fit (A i j)) (hb : ∀ i j, i < n → j < r → Fit (B i j)) : ∀ i j, i < n → j < n + r → Fit (besideQ n A B i j) := by
 intro i j hi hj
 unfold besideQ
 split
 · exact ha i j hi (by omega)
 · exact hb i (j - n) hi (by omega)
theorem det_beside (n : Nat) (A B : Mat) : LinM.det n (besideQ n A B) = LinM.det n A := det_congr n fun i k _ hk => by unfold besideQ; rw [if_pos hk]
def solB (n : Nat) (A B : Mat) : Mat := fun i l => solQ n (besideQ n A B) i (n + l)
theorem sol_facts {n r : Nat} {A B : Mat} {b : Rat} {p s : Rat} {X : Mat} {c : Nat → Nat} {W : Mat} (h : Elim (besideQ n A B) n (n + r) b n n p s X c W) :
 LinM.det n A ≠ 0 ∧ (∀ i l, i < n → X i (n + l) / p = solB n A B i l) ∧ ∀ i l, i < n → B i l = LinM.sumQ (fun q => A i q * solB n A B q l) n := by
 refine ⟨by rw [← det_beside n A B]; exact h.det0, fun i l hi => h.sol hi (n + l), fun i l hi => ?_⟩
 have h1 := h.solves hi (n + l)
 have e : besideQ n A B i (n + l) = B i l := by unfold besideQ; rw [if_neg (by omega), show n + l - n = l by omega]
 rw [e] at h1
 rw [h1]
 exact LinM.sumQ_congr fun q hq => by
  have : besideQ n A B i q = A i q := by unfold besideQ; rw [if_pos hq]
  rw [this]; rfl
theorem wb_div2 {N M : Nat} {x y : Rat} (hx : WB N x) (hy : WB M y) (h0 : y ≠ 0) : (x / y).num.natAbs ≤ N ∧ (x / y).den ≤ M := by
 have h1 := frac_self x
 have h2 := frac_self y
 rw [hx.den] at h1
 rw [hy.den] at h2
 have hM0 : y.num.natAbs ≠ 0 := fun e => h0 (by rw [← h2, e]; exact frac_zero _ _)
 have e : x / y = frac (decide (x.num < 0) != decide (y.num < 0)) (x.num.natAbs * 1) (1 * y.num.natAbs) := by
  have : x / y = frac (decide (x.num < 0)) x.num.natAbs 1 / frac (decide (y.num < 0)) y.num.natAbs 1 := by rw [h1, h2]
  rw [this]; exact frac_quo hM0 (by decide)
 rw [e, frac_abs (by omega), frac_den (by omega)]
 have k1 := hx.num
 have k2 := hy.num
 exact ⟨Nat.le_trans (Nat.div_le_self _ _) (by omega), Nat.le_trans (Nat.div_le_self _ _) (by omega)⟩
theorem sol_bound {n r x : Nat} {A B : Mat} {p s : Rat} {X : Mat} {c : Nat → Nat} {W : Mat} (h : Elim (besideQ n A B) n (n + r) ((2 ^ x : Nat) : Rat) n n p s X c W) (hn : n ≤ 24) {i l : Nat} (hi : i < n) (hl : l < r) :
 (solB n A B i l).num.natAbs ≤ 2 ^ (80 + x) ∧ (solB n A B i l).den ≤ 2 ^ (80 + x) := by
 obtain ⟨h1, h2⟩ := elim_wb h hn (by omega)
 rw [← (sol_facts h).2.1 i l hi]
 exact wb_div2 (h2 i (n + l) hi (by omega)) h1 h.bar.1
def InvP (w : World) (n : Nat) (A : Mat) (e : Ending) (w' : World) : Prop :=
 (LinM.det n A = 0 ∧ e = .returned (.tuple #[.slice none 0 0, .int .i64 9]) ∧ Add w w') ∨
 (LinM.det n A ≠ 0 ∧ (∀ i l, i < n → idQ i l = LinM.sumQ (fun q => A i q * solB n A idQ q l) n) ∧ ∃ G hv, e = .returned (.tuple #[.slice (some ⟨G, 0, none⟩) n n, .int .i64 0]) ∧ AM w' w.heap.size G n hv (fun _ => n) (fun i l => can (solB n A idQ i l)) ∧ Add w w')
set_option maxRecDepth 100000 in
set_option maxHeartbeats 2000000 in
theorem invertN_ok {w : World} {v : Value} {n : Nat} {m : Nat → Nat} {X : Nat → Nat → Tri} (h : MatP false w v n m X) (hT : Tab w) (hb : sqOkL X m n = true) (hw : wtM (fun i j => can (qm X i j)) (fun _ => n) n ≤ 1900) :
 Calls Tryz.prog 18 #[v] w (InvP w n (qm X)) := by
 obtain ⟨hn, hX⟩ := sqOkL_iff.1 hb
 have CS := Lib.hid (isSquareN true h (Lib.hid hb))
 have CR := Lib.hid (fun w' (ha : Add w w') => reducedN (h.add ha) (hT.mono ha) (by omega) (fun i hi => by rw [(hX i hi).1]; omega))
 have HX := Lib.hid hX
 have HT := Lib.hid hT
 have HW := Lib.hid hw
 obtain ⟨ao, ca, rfl, -⟩ := h.isSlice
 clear h hT hb hX hw
 go_enter Tryz.func18, Tryz.ntmps18
 go_wp2_with fail
 refine CS.out.mono ?_
 rintro e w1 ⟨rfl, h1⟩
 have T2 := h1
 go_wp2_with fail
 refine (CR.out w1 T2).mono ?_
 rintro e w2 ⟨G, gs, rfl, hE, h2⟩
 replace T2 := Add.trans T2 h2
 have hM := red_mat hE (by omega) (by omega) (fun i hi => (HX.out i hi).1) (fun i j hi hj => (HX.out i hi).2 j (by rw [← (HX.out i hi).1]; exact hj))
 have hF : ∀ i j, i < n → j < n → Fit (qm X i j) := fun i j hi hj => fit_red ((HX.out i hi).2 j hj)
 have CW := Lib.hid (fun w' (ha : Add w2 w') => weightN (hM.add ha) (fun i j hi hj => (hF i j hi hj).sm) (by omega) (fun i hi => by omega))
 have CI := Lib.hid (fun w' (ha : Add w2 w') => identityN (n := n) (HT.out.mono (Add.trans T2 ha)) hn.1 hn.2)
 have CE := Lib.hid (fun w' (ha : Add w2 w') (v : Value) (hv : MatP true w' v n (fun _ => n) (fun i j => can (idQ i j))) => solutionN (x := 1924) (hM.add ha) hv hn.1 hn.2 hn.1 hn.2 (fit_beside hF fun i j _ _ => fit_id i j) (by rw [wtM_beside]; have := wtM_id n; have := HW.out; omega) (by omega) (HT.out.mono (Add.trans T2 ha)))
 have HT2 := Lib.hid T2
 clear hE hM hF T2 h1 h2 CS CR
 go_wp2_with fail
 refine (CW.out w2 (Below.refl _ _)).mono ?_
 rintro e w3 ⟨rfl, h3⟩
 have hw2 := HW.out
 go_wp2_with fail
 refine (CI.out w3 h3).mono ?_
 rintro e w4 ⟨Gi, gi, rfl, hI, h4⟩
 have T4 := Add.trans h3 h4
 have hIM : MatP true w4 (.slice (some ⟨Gi, 0, none⟩) n n) n (fun _ => n) (fun i j => can (idQ i j)) := hI.mat (by unfold maxLen; omega) (fun i hi => by unfold maxLen; omega)
 have CE2 := Lib.hid (CE.out w4 T4 _ hIM)
 have HT4 := Lib.hid (Add.trans HT2.out T4)
 clear CE CI CW hI hIM T4 h3 h4 HT2
 go_wp2_with fail
 refine CE2.out.mono ?_
 rintro e w5 ⟨k, p, s, Y, c, W, hEl, (⟨hk, rfl, h5⟩ | ⟨rfl, Go, hv, rfl, hA, h5⟩)⟩
 · have HF : Hid (InvP w n (qm X) (.returned (.tuple #[.slice none 0 0, .int .i64 9])) w5) := Lib.hid (.inl ⟨by rw [← det_beside n (qm X) idQ]; exact hEl.less hk, rfl, Add.trans HT4.out h5⟩)
   clear CE2 hEl hk h5
   go_wp2_with fail
   go_ret2
   exact HF.out
 · obtain ⟨f1, f2, f3⟩ := sol_facts hEl
   have HF : Hid (InvP w k (qm X) (.returned (.tuple #[.slice (some ⟨Go, 0, none⟩) k k, .int .i64 0])) w5) := Lib.hid (.inr ⟨f1, f3, Go, hv, rfl, (hA.base HT4.out.size).congr (fun _ _ => rfl) (fun i j hi hj => by rw [f2 i j hi]), Add.trans HT4.out h5⟩)
   clear CE2 hEl h5 hA f1 f2 f3
   go_wp2_with fail
   go_ret2
   exact HF.out
set_option maxRecDepth 100000 in
set_option maxHeartbeats 2000000 in
theorem invertN_arg {w : World} {v : Value} {n : Nat} {m : Nat → Nat} {X : Nat → Nat → Tri} (h : MatP false w v n m X) (hb : sqOkL X m n = false) :
 Calls Tryz.prog 18 #[v] w (fun e w' => e = .returned (.tuple #[.slice none 0 0, .int .i64 1]) ∧ Add w w') := by
 have CS := Lib.hid (isSquareN false h (Lib.hid hb))
 obtain ⟨ao, ca, rfl, -⟩ := h.isSlice
 clear h hb
 go_enter Tryz.func18, Tryz.ntmps18
 go_wp2_with fail
 refine CS.out.mono ?_
 rintro e w1 ⟨rfl, h1⟩
 go_wp2_with fail
 go_ret2
 exact ⟨rfl, h1⟩
set_option maxRecDepth 100000 in
set_option maxHeartbeats 2000000 in
theorem invertN_size {w : World} {v : Value} {n : Nat} {m : Nat → Nat} {X : Nat → Nat → Tri} (h : MatP false w v n m X) (hT : Tab w) (hb : sqOkL X m n = true) (hw : ¬ wtM (fun i j => can (qm X i j)) (fun _ => n) n ≤ 1900) :
 Calls Tryz.prog 18 #[v] w (fun e w' => e = .returned (.tuple #[.slice none 0 0, .int .i64 2]) ∧ Add w w') := by
 obtain ⟨hn, hX⟩ := sqOkL_iff.1 hb
 have CS := Lib.hid (isSquareN true h (Lib.hid hb))
 have CR := Lib.hid (fun w' (ha : Add w w') => reducedN (h.add ha) (hT.mono ha) (by omega) (fun i hi => by rw [(hX i hi).1]; omega))
 have HX := Lib.hid hX
 have HW := Lib.hid hw
 obtain ⟨ao, ca, rfl, -⟩ := h.isSlice
 clear h hT hb hX hw
 go_enter Tryz.func18, Tryz.ntmps18
 go_wp2_with fail
 refine CS.out.mono ?_
 rintro e w1 ⟨rfl, h1⟩
 have T2 := h1
 go_wp2_with fail
 refine (CR.out w1 T2).mono ?_
 rintro e w2 ⟨G, gs, rfl, hE, h2⟩
 replace T2 := Add.trans T2 h2
 have hM := red_mat hE (by omega) (by omega) (fun i hi => (HX.out i hi).1) (fun i j hi hj => (HX.out i hi).2 j (by rw [← (HX.out i hi).1]; exact hj))
 have hF : ∀ i j, i < n → j < n → Fit (qm X i j) := fun i j hi hj => fit_red ((HX.out i hi).2 j hj)
 have CW := Lib.hid (fun w' (ha : Add w2 w') => weightN (hM.add ha) (fun i j hi hj => (hF i j hi hj).sm) (by omega) (fun i hi => by omega))
 have HT2 := Lib.hid T2
 clear hE hM hF T2 h1 h2 CS CR
 go_wp2_with fail
 refine (CW.out w2 (Below.refl _ _)).mono ?_
 rintro e w3 ⟨rfl, h3⟩
 have hw2 := HW.out
 have d : decide ((1900 : Int) < ((wtM (fun i j => can (qm X i j)) (fun _ => n) n : Nat) : Int)) = true := by simp; omega
 go_wp2_with fail
 go_ret2
 exact ⟨rfl, Add.trans HT2.out h3⟩
end Go.Proofs.YtbeoeackahmpbaaGreatDoor
namespace Go.Proofs.YtbeoeackahmpbaaGreatDoor
open Go.RowKit NatM Go.Proofs.YtbeoeackahmpbaaGreatDoor.Api LinM
theorem one_row {R : Bool} {w : World} {g n : Nat} {u : Value} {t : Nat → Tri} (h : w.heap[g]? = some (.cells #[u] 23 (0, 0))) (hu : RowP R w u n t) :
 MatP R w (.slice (some ⟨g, 0, none⟩) 1 1) 1 (fun _ => n) (fun _ => t) := by
 refine ⟨_, 1, rfl, Nat.le_refl _, by unfold maxLen; omega, fun _ => ⟨g, 0, rfl, fun i hi => ?_⟩⟩
 obtain rfl : i = 0 := by omega
 exact ⟨u, by rw [cell_of_row w g _ _ _ (0, 0) h]; rfl, hu⟩
def qr (y : Nat → Tri) : Nat → Rat := fun i => qv (y i)
theorem red_row {w : World} {base G q : Nat} {gs : Nat → Nat} {y : Nat → Tri} (h : EM w base G 1 1 gs (fun _ => q) (redX fun _ => y)) (hq : q ≤ 1000) (hok : ∀ j, j < q → okF (y j) = true) :
 RowP true w (.slice (some ⟨gs 0, 0, none⟩) q q) q (fun j => can (qr y j)) :=
 ((h.rows 0 (by omega)).row (by unfold maxLen; omega)).congr fun j hj => red_can (hok j hj)
theorem vecOk_iff {x : Nat → Tri} {m n : Nat} : vecOk x m n = true ↔ m = n ∧ ∀ j, j < m → okF (x j) = true := by
 unfold vecOk
 rw [Bool.and_eq_true, decide_eq_true_eq, okR_iff]
theorem wtM_one (t : Nat → Tri) (q : Nat) : wtM (fun _ => t) (fun _ => q) 1 = wtR t q := by
 show 0 + _ = _; rw [Nat.zero_add]
theorem wtM_col (t : Nat → Tri) (n : Nat) : wtM (fun i _ => t i) (fun _ => 1) n = wtR t n := by
 unfold wtM wtR
 exact sumK_congr fun i _ => by show 0 + _ = _; rw [Nat.zero_add]
theorem lenC_one (n : Nat) : lenC (fun _ => 1) n = n := by
 induction n with
 | zero => rfl
 | succ n ih => show lenC _ n + 1 = n + 1; rw [ih]
theorem catT_one (X : Nat → Nat → Tri) (n : Nat) : ∀ i, i < n → catT (fun _ => 1) X n i = X i 0 := by
 induction n with
 | zero => intro i hi; omega
 | succ n ih =>
  intro i hi
  show (if i < lenC _ n then catT _ X n i else X n (i - lenC _ n)) = _
  rw [lenC_one]
  by_cases e : i < n
  · rw [if_pos e]; exact ih i e
  · have : i = n := by omega
    rw [if_neg e, this, Nat.sub_self]
def wtAb (n : Nat) (A : Mat) (b : Nat → Rat) : Nat := wtM (fun i j => can (A i j)) (fun _ => n) n + wtR (fun j => can (b j)) n
def SlvP (w : World) (n : Nat) (A : Mat) (b : Nat → Rat) (e : Ending) (w' : World) : Prop :=
 (LinM.det n A = 0 ∧ ∃ a c, e = .returned (.tuple #[.slice a 0 c, .int .i64 9]) ∧ Add w w') ∨
 (LinM.det n A ≠ 0 ∧ (∀ i, i < n → b i = LinM.sumQ (fun q => A i q * solB n A (fun i _ => b i) q 0) n) ∧ (∀ i, i < n → (solB n A (fun i _ => b i) i 0).num.natAbs ≤ 2 ^ (80 + wtAb n A b) ∧ (solB n A (fun i _ => b i) i 0).den ≤ 2 ^ (80 + wtAb n A b)) ∧ ∃ a c, e = .returned (.tuple #[.slice a n c, .int .i64 0]) ∧ OwnF w' w.heap.size (.slice a n c) n (fun i => can (solB n A (fun i _ => b i) i 0)) ∧ Add w w')
set_option maxRecDepth 100000 in
set_option maxHeartbeats 4000000 in
theorem solveN_ok {w : World} {va vb : Value} {n q : Nat} {m : Nat → Nat} {X : Nat → Nat → Tri} {y : Nat → Tri} (h : MatP false w va n m X) (hv : RowP false w vb q y) (hT : Tab w) (hb : sqOkL X m n = true) (hy : vecOk y q n = true)
 (hw : wtM (fun i j => can (qm X i j)) (fun _ => n) n + wtR (fun j => can (qr y j)) n ≤ 1900) :
 Calls Tryz.prog 15 #[va, vb] w (SlvP w n (qm X) (qr y)) := by
 obtain ⟨hn, hX⟩ := sqOkL_iff.1 hb
 obtain ⟨rfl, hyo⟩ := vecOk_iff.1 hy
 have CS := Lib.hid (isSquareN true h (Lib.hid hb))
 have CV := Lib.hid (fun w' (ha : Add w w') => isVectorN true (hv.add ha) (show q ≤ 9223372036854775807 by omega) (Lib.hid hy))
 have HX := Lib.hid hX
 have HY := Lib.hid hyo
 have HT := Lib.hid hT
 have HW := Lib.hid hw
 have HA := Lib.hid (And.intro h hv)
 obtain ⟨ao, ca, rfl, -⟩ := h.isSlice
 obtain ⟨bo, cb, rfl, -, -, -⟩ := hv
 clear h hT hb hy hX hw hyo
 go_enter Tryz.func15, Tryz.ntmps15
 go_wp2_with fail
 refine CS.out.mono ?_
 rintro e w1 ⟨rfl, h1⟩
 go_wp2_with fail
 refine (CV.out w1 h1).mono ?_
 rintro e wr ⟨rfl, h2⟩
 have HT1 := Lib.hid (Add.trans h1 h2)
 have C1 : Hid (∀ w', Add wr w' → Calls Tryz.prog 45 #[.slice ao q ca] w' (RetM w' q m (redX X))) := Lib.hid fun w' ha => reducedN (HA.out.1.add (Add.trans HT1.out ha)) (HT.out.mono (Add.trans HT1.out ha)) (by omega) (fun i hi => by rw [(HX.out i hi).1]; omega)
 have C2 : Hid (∀ w' g, w'.heap[g]? = some (.cells #[.slice bo q cb] 23 (0, 0)) → Add wr w' → Calls Tryz.prog 45 #[.slice (some ⟨g, 0, none⟩) 1 1] w' (RetM w' 1 (fun _ => q) (redX fun _ => y))) := Lib.hid fun w' g hg ha => reducedN (one_row hg (HA.out.2.add (Add.trans HT1.out ha))) (HT.out.mono (Add.trans HT1.out ha)) (by omega) (fun i hi => by omega)
 clear CS CV h1 h2
 go_upto_region 3 with fail
 refine wp_region_held_drew (S := fun _ => True) (by kernel_rfl) trivial (fun hHeld => ?_)
 refine wpAnyH_take (i := 0) (v := ?_) (by simp only [List.getElem?_toArray, List.getElem?_cons_zero]; rfl) (by kernel_rfl) (by kernel_rfl) (by kernel_rfl) (by intro _ _ _ h; exact h) (Or.inl ⟨by rfl, ?_⟩) (by assumption) ?_
 rotate_left
 · intro w0 hSw
   try dsimp only at hSw
   go_simp
   try with_reducible rfl
 try simp only [Act.put, List.setIfInBounds_toArray, List.set_cons_zero, List.set_cons_succ]
 refine wpAnyH_take (i := 2) (v := ?_) (by simp only [List.getElem?_toArray, List.getElem?_cons_zero, List.getElem?_cons_succ]; rfl) (by kernel_rfl) (by kernel_rfl) (by kernel_rfl) (by intro _ _ _ h; exact h) (Or.inl ⟨by rfl, ?_⟩) (by assumption) ?_
 rotate_left
 · intro w0 hSw
   try dsimp only at hSw
   go_simp
   try with_reducible rfl
 try simp only [Act.put, List.setIfInBounds_toArray, List.set_cons_zero, List.set_cons_succ]
 refine wpAnyH_ready (rs := [1, 3]) (by kernel_rfl) (by simp) ?_
 refine AllReadyH.cons (o := _) (by simp only [List.getElem?_toArray, List.getElem?_cons_zero, List.getElem?_cons_succ]; rfl) (fun K hK => ?_) ?_
 · skip
   go_simp
   refine (C1.out _ (Below.drew (Below.refl _ _))).mono ?_
   rintro e z1 ⟨G1, gs1, rfl, hE1, hq1⟩
   have t2 := Add.trans (Below.drew (Below.refl _ _) : Add wr (World.drew wr)) hq1
   have HE1 := Lib.hid hE1
   clear hE1 hq1
   refine hK.out _ _ trivial (fun hHeld => ?_)
   clear hK K
   try simp only [Act.put, List.setIfInBounds_toArray, List.set_cons_zero, List.set_cons_succ]
   refine wpAnyH_ready (rs := [3]) (by kernel_rfl) (by simp) ?_
   refine AllReadyH.cons (o := _) (by simp only [List.getElem?_toArray, List.getElem?_cons_zero, List.getElem?_cons_succ]; rfl) (fun K hK => ?_) ?_
   · skip
     go_simp
     refine hK.out _ _ trivial (fun hHeld => ?_)
     clear hK K
     try simp only [Act.put, List.setIfInBounds_toArray, List.set_cons_zero, List.set_cons_succ]
     refine wpAnyH_ready (rs := [4]) (by kernel_rfl) (by simp) ?_
     refine AllReadyH.cons (o := _) (by simp only [List.getElem?_toArray, List.getElem?_cons_zero, List.getElem?_cons_succ]; rfl) (fun K hK => ?_) ?_
     · skip
       go_simp
       refine (C2.out _ _ (heap_alloc_new _ _) (Add.trans t2 (add_new _ _))).mono ?_
       rintro e z2 ⟨G2, gs2, rfl, hE2, hq2⟩
       have t3 := Add.trans (Add.trans t2 (add_new _ _)) hq2
       have HE3 := Lib.hid (HE1.out.add (Add.trans (add_new _ _) hq2))
       have c9 : z2.cell? ⟨G2, 0, none⟩ = some (.slice (some ⟨gs2 0, 0, none⟩) q q) := (by have := hE2.head.cell (show 0 < 1 by omega); exact this)
       have HE2 := Lib.hid hE2
       clear hE2 hq2 HE1
       refine hK.out _ _ trivial (fun hHeld => ?_)
       clear hK K
       try simp only [Act.put, List.setIfInBounds_toArray, List.set_cons_zero, List.set_cons_succ]
       refine wpAnyH_more (S' := fun W : World => W.cell? ⟨G2, 0, none⟩ = some (.slice (some ⟨gs2 0, 0, none⟩) q q)) (fun _ _ => trivial) c9 (fun hHeld => ?_)
       refine wpAnyH_take (i := 5) (v := ?_) (by simp only [List.getElem?_toArray, List.getElem?_cons_zero, List.getElem?_cons_succ]; rfl) (by kernel_rfl) (by kernel_rfl) (by kernel_rfl) (by intro _ _ _ h; exact h) (Or.inl ⟨by rfl, ?_⟩) (by assumption) ?_
       rotate_left
       · intro w0 hSw
         try dsimp only at hSw
         go_simp
         try with_reducible rfl
       try simp only [Act.put, List.setIfInBounds_toArray, List.set_cons_zero, List.set_cons_succ]
       refine wpAnyH_take (i := 6) (v := ?_) (by simp only [List.getElem?_toArray, List.getElem?_cons_zero, List.getElem?_cons_succ]; rfl) (by kernel_rfl) (by kernel_rfl) (by kernel_rfl) (by intro _ _ _ h; exact h) (Or.inl ⟨by rfl, ?_⟩) (by assumption) ?_
       rotate_left
       · intro w0 hSw
         try dsimp only at hSw
         go_simp
         try with_reducible rfl
       try simp only [Act.put, List.setIfInBounds_toArray, List.set_cons_zero, List.set_cons_succ]
       refine wpAnyH_take (i := 7) (v := ?_) (by simp only [List.getElem?_toArray, List.getElem?_cons_zero, List.getElem?_cons_succ]; rfl) (by kernel_rfl) (by kernel_rfl) (by kernel_rfl) (by intro _ _ _ h; exact h) (Or.inl ⟨by rfl, ?_⟩) (by assumption) ?_
       rotate_left
       · intro w0 hSw
         try dsimp only at hSw
         go_simp
         try with_reducible rfl
       try simp only [Act.put, List.setIfInBounds_toArray, List.set_cons_zero]
       refine wpAnyH_take (i := 8) (v := ?_) (by simp only [List.getElem?_toArray, List.getElem?_cons_zero, List.getElem?_cons_succ]; rfl) (by kernel_rfl) (by kernel_rfl) (by kernel_rfl) (by intro _ _ _ h; exact h) (Or.inl ⟨by rfl, ?_⟩) (by assumption) ?_
       rotate_left
       · intro w0 hSw
         try dsimp only at hSw
         go_simp
         try with_reducible rfl
       try simp only [Act.put, List.setIfInBounds_toArray, List.set_cons_zero, List.set_cons_succ]
       refine wpAnyH_done (by kernel_rfl) ?_ _
       clear c9 C1 C2 hHeld
       have hM := red_mat HE3.out (by omega) (by omega) (fun i hi => (HX.out i hi).1) (fun i j hi hj => (HX.out i hi).2 j (by rw [← (HX.out i hi).1]; exact hj))
       have hR := red_row HE2.out (by omega) HY.out
       have hF : ∀ i j, i < q → j < q → Fit (qm X i j) := fun i j hi hj => fit_red ((HX.out i hi).2 j hj)
       have hFy : ∀ j, j < q → Fit (qr y j) := fun j hj => fit_red (HY.out j hj)
       obtain ⟨gb, hgb⟩ : ∃ g, g = gs2 0 := ⟨_, rfl⟩
       rw [← hgb] at hR ⊢
       have T3 := Add.trans HT1.out t3
       have CW1 := Lib.hid (weightN hM (fun i j hi hj => (hF i j hi hj).sm) (by omega) (fun i hi => by omega))
       have CW2 := Lib.hid (fun (w' : World) (g : Nat) (hg : w'.heap[g]? = some (.cells #[.slice (some ⟨gb, 0, none⟩) q q] 23 (0, 0))) (ha : Add z2 w') => weightN (one_row hg (hR.add ha)) (fun i j hi hj => (hFy j hj).sm) (by omega) (fun i hi => by omega))
       have CT := Lib.hid (fun (w' : World) (g : Nat) (hg : w'.heap[g]? = some (.cells #[.slice (some ⟨gb, 0, none⟩) q q] 23 (0, 0))) (ha : Add z2 w') => transposedN (one_row hg (hR.add ha)) (by omega) (by omega) (by omega))
       have CS := Lib.hid (fun (w' : World) (ha : Add z2 w') (v : Value) (hv : MatP true w' v q (fun _ => 1) (fun i _ => can (qr y i))) => solutionN (x := wtAb q (qm X) (qr y)) (B := fun i _ => qr y i) (hM.add ha) hv hn.1 hn.2 (by omega) (by omega) (fit_beside hF fun i j hi _ => hFy i hi) (by rw [wtM_beside, wtM_col]; exact Nat.le_refl _) (by have := HW.out; unfold wtAb; omega) (HT.out.mono (Add.trans T3 ha)))
       have HT3 := Lib.hid T3
       clear hM hR hF hFy hgb T3 t2 t3 HE2 HE3
       go_wp2_with fail
       refine CW1.out.mono ?_
       rintro e w3 ⟨rfl, h3⟩
       have hw2 := HW.out
       go_wp2_with fail
       refine (CW2.out _ _ (heap_alloc_new w3 _) (Add.trans h3 (add_new _ _))).mono ?_
       rintro e w4 ⟨rfl, h4⟩
       rw [wtM_one]
       have T4 := Add.trans (Add.trans h3 (add_new w3 (.cells #[.slice (some ⟨gb, 0, none⟩) q q] 23))) h4
       clear h3 h4 CW1 CW2
       go_wp2_with fail
       refine (CT.out _ _ (heap_alloc_new w4 _) (Add.trans T4 (add_new _ _))).mono ?_
       rintro e w5 ⟨G3, hv3, rfl, hA3, h5⟩
       have T5 := Add.trans (Add.trans T4 (add_new w4 (.cells #[.slice (some ⟨gb, 0, none⟩) q q] 23))) h5
       have CS5 := Lib.hid (CS.out w5 T5 _ (hA3.mat (by unfold maxLen; omega)))
       have HT5 := Lib.hid (Add.trans HT3.out T5)
       clear h5 T4 T5 CT CS hA3 HT3
       go_wp2_with fail
       refine CS5.out.mono ?_
       rintro e w6 ⟨k, p, s, Y, c, W, hEl, (⟨hk, rfl, h6⟩ | ⟨rfl, Go, hv, rfl, hA, h6⟩)⟩
       · have hz : LinM.det q (qm X) = 0 := by rw [← det_beside q (qm X) fun i _ => qr y i]; exact hEl.less hk
         have CC : Hid (Calls Tryz.prog 49 #[.slice none 0 0] w6 (RetOF w6 0 (fun _ => (false, 0, 0)))) := Lib.hid (concatN (w := w6) (v := .slice none 0 0) (n := 0) (m := fun _ => 0) (X := fun _ _ => (false, 0, 0)) ⟨none, 0, rfl, Nat.le_refl _, by unfold maxLen; omega, fun h => by omega⟩ (by omega) (fun i hi => by omega) (Nat.zero_le _))
         have HT6 := Lib.hid (Add.trans HT5.out h6)
         have HZ := Lib.hid hz
         clear CS5 HT5 hEl hk h6 hz
         go_wp2_with fail
         refine CC.out.mono ?_
         rintro e w7 ⟨a7, c7, rfl, -, h7⟩
         have HF : Hid (SlvP w q (qm X) (qr y) (.returned (.tuple #[.slice a7 0 c7, .int .i64 9])) w7) := Lib.hid (.inl ⟨HZ.out, a7, c7, rfl, Add.trans HT6.out h7⟩)
         clear h7 CC
         go_wp2_with fail
         go_ret2
         exact HF.out
       · obtain ⟨f1, f2, f3⟩ := sol_facts hEl
         have hc := concatN (hA.mat (by unfold maxLen; omega)) (by omega) (fun _ _ => Nat.one_pos) (by rw [lenC_one]; omega)
         rw [lenC_one] at hc
         have CC := Lib.hid hc
         have HT6 := Lib.hid (Add.trans HT5.out h6)
         have HFF := Lib.hid (And.intro f1 (And.intro f2 f3))
         have HBD := Lib.hid (fun i hi => sol_bound hEl hn.2 (i := i) (l := 0) hi (by omega))
         clear CS5 HT5 hEl h6 hc hA f1 f2 f3
         go_wp2_with fail
         refine CC.out.mono ?_
         rintro e w7 ⟨a7, c7, rfl, hO, h7⟩
         have HF : Hid (SlvP w k (qm X) (qr y) (.returned (.tuple #[.slice a7 k c7, .int .i64 0])) w7) := Lib.hid (.inr ⟨HFF.out.1, fun i hi => HFF.out.2.2 i 0 hi, fun i hi => HBD.out i hi, a7, c7, rfl, (hO.base HT6.out.size).congr (fun i hi => by rw [catT_one _ _ i hi, HFF.out.2.1 i 0 hi]), Add.trans HT6.out h7⟩)
         clear hO h7 CC
         go_wp2_with fail
         go_ret2
         exact HF.out
     exact AllReadyH.nil
   exact AllReadyH.nil
 refine AllReadyH.cons (o := _) (by simp only [List.getElem?_toArray, List.getElem?_cons_zero, List.getElem?_cons_succ]; rfl) (fun K hK => ?_) ?_
 · skip
   go_simp
   refine hK.out _ _ trivial (fun hHeld => ?_)
   clear hK K
   try simp only [Act.put, List.setIfInBounds_toArray, List.set_cons_zero, List.set_cons_succ]
   refine wpAnyH_ready (rs := [1]) (by kernel_rfl) (by simp) ?_
   refine AllReadyH.cons (o := _) (by simp only [List.getElem?_toArray, List.getElem?_cons_zero, List.getElem?_cons_succ]; rfl) (fun K hK => ?_) ?_
   · skip
     go_simp
     refine (C1.out _ (Add.trans (Below.drew (Below.refl _ _)) (add_new _ _))).mono ?_
     rintro e z1 ⟨G1, gs1, rfl, hE1, hq1⟩
     have t2 := Add.trans (Add.trans (Below.drew (Below.refl _ _) : Add wr (World.drew wr)) (add_new _ (.cells #[.slice bo q cb] 23))) hq1
     have hblk : z1.heap[wr.heap.size]? = some (.cells #[.slice bo q cb] 23 (0, 0)) := (by have := heap_alloc_new (World.drew wr) (.cells #[.slice bo q cb] 23); exact (hq1.block _ (by simp)).trans this)
     have HE1 := Lib.hid hE1
     clear hE1 hq1
     refine hK.out _ _ trivial (fun hHeld => ?_)
     clear hK K
     try simp only [Act.put, List.setIfInBounds_toArray, List.set_cons_zero, List.set_cons_succ]
     refine wpAnyH_ready (rs := [4]) (by kernel_rfl) (by simp) ?_
     refine AllReadyH.cons (o := _) (by simp only [List.getElem?_toArray, List.getElem?_cons_zero, List.getElem?_cons_succ]; rfl) (fun K hK => ?_) ?_
     · skip
       go_simp
       refine (C2.out _ _ hblk (t2)).mono ?_
       rintro e z2 ⟨G2, gs2, rfl, hE2, hq2⟩
       have t3 := Add.trans (t2) hq2
       have HE3 := Lib.hid (HE1.out.add (hq2))
       have c9 : z2.cell? ⟨G2, 0, none⟩ = some (.slice (some ⟨gs2 0, 0, none⟩) q q) := (by have := hE2.head.cell (show 0 < 1 by omega); exact this)
       have HE2 := Lib.hid hE2
       clear hE2 hq2 HE1
       refine hK.out _ _ trivial (fun hHeld => ?_)
       clear hK K
       try simp only [Act.put, List.setIfInBounds_toArray, List.set_cons_zero, List.set_cons_succ]
       refine wpAnyH_more (S' := fun W : World => W.cell? ⟨G2, 0, none⟩ = some (.slice (some ⟨gs2 0, 0, none⟩) q q)) (fun _ _ => trivial) c9 (fun hHeld => ?_)
       refine wpAnyH_take (i := 5) (v := ?_) (by simp only [List.getElem?_toArray, List.getElem?_cons_zero, List.getElem?_cons_succ]; rfl) (by kernel_rfl) (by kernel_rfl) (by kernel_rfl) (by intro _ _ _ h; exact h) (Or.inl ⟨by rfl, ?_⟩) (by assumption) ?_
       rotate_left
       · intro w0 hSw
         try dsimp only at hSw
         go_simp
         try with_reducible rfl
       try simp only [Act.put, List.setIfInBounds_toArray, List.set_cons_zero, List.set_cons_succ]
       refine wpAnyH_take (i := 6) (v := ?_) (by simp only [List.getElem?_toArray, List.getElem?_cons_zero, List.getElem?_cons_succ]; rfl) (by kernel_rfl) (by kernel_rfl) (by kernel_rfl) (by intro _ _ _ h; exact h) (Or.inl ⟨by rfl, ?_⟩) (by assumption) ?_
       rotate_left
       · intro w0 hSw
         try dsimp only at hSw
         go_simp
         try with_reducible rfl
       try simp only [Act.put, List.setIfInBounds_toArray, List.set_cons_zero, List.set_cons_succ]
       refine wpAnyH_take (i := 7) (v := ?_) (by simp only [List.getElem?_toArray, List.getElem?_cons_zero, List.getElem?_cons_succ]; rfl) (by kernel_rfl) (by kernel_rfl) (by kernel_rfl) (by intro _ _ _ h; exact h) (Or.inl ⟨by rfl, ?_⟩) (by assumption) ?_
       rotate_left
       · intro w0 hSw
         try dsimp only at hSw
         go_simp
         try with_reducible rfl
       try simp only [Act.put, List.setIfInBounds_toArray, List.set_cons_zero]
       refine wpAnyH_take (i := 8) (v := ?_) (by simp only [List.getElem?_toArray, List.getElem?_cons_zero, List.getElem?_cons_succ]; rfl) (by kernel_rfl) (by kernel_rfl) (by kernel_rfl) (by intro _ _ _ h; exact h) (Or.inl ⟨by rfl, ?_⟩) (by assumption) ?_
       rotate_left
       · intro w0 hSw
         try dsimp only at hSw
         go_simp
         try with_reducible rfl
       try simp only [Act.put, List.setIfInBounds_toArray, List.set_cons_zero, List.set_cons_succ]
       refine wpAnyH_done (by kernel_rfl) ?_ _
       clear c9 C1 C2 hHeld
       have hM := red_mat HE3.out (by omega) (by omega) (fun i hi => (HX.out i hi).1) (fun i j hi hj => (HX.out i hi).2 j (by rw [← (HX.out i hi).1]; exact hj))
       have hR := red_row HE2.out (by omega) HY.out
       have hF : ∀ i j, i < q → j < q → Fit (qm X i j) := fun i j hi hj => fit_red ((HX.out i hi).2 j hj)
       have hFy : ∀ j, j < q → Fit (qr y j) := fun j hj => fit_red (HY.out j hj)
       obtain ⟨gb, hgb⟩ : ∃ g, g = gs2 0 := ⟨_, rfl⟩
       rw [← hgb] at hR ⊢
       have T3 := Add.trans HT1.out t3
       have CW1 := Lib.hid (weightN hM (fun i j hi hj => (hF i j hi hj).sm) (by omega) (fun i hi => by omega))
       have CW2 := Lib.hid (fun (w' : World) (g : Nat) (hg : w'.heap[g]? = some (.cells #[.slice (some ⟨gb, 0, none⟩) q q] 23 (0, 0))) (ha : Add z2 w') => weightN (one_row hg (hR.add ha)) (fun i j hi hj => (hFy j hj).sm) (by omega) (fun i hi => by omega))
       have CT := Lib.hid (fun (w' : World) (g : Nat) (hg : w'.heap[g]? = some (.cells #[.slice (some ⟨gb, 0, none⟩) q q] 23 (0, 0))) (ha : Add z2 w') => transposedN (one_row hg (hR.add ha)) (by omega) (by omega) (by omega))
       have CS := Lib.hid (fun (w' : World) (ha : Add z2 w') (v : Value) (hv : MatP true w' v q (fun _ => 1) (fun i _ => can (qr y i))) => solutionN (x := wtAb q (qm X) (qr y)) (B := fun i _ => qr y i) (hM.add ha) hv hn.1 hn.2 (by omega) (by omega) (fit_beside hF fun i j hi _ => hFy i hi) (by rw [wtM_beside, wtM_col]; exact Nat.le_refl _) (by have := HW.out; unfold wtAb; omega) (HT.out.mono (Add.trans T3 ha)))
       have HT3 := Lib.hid T3
       clear hM hR hF hFy hgb T3 t2 t3 HE2 HE3
       go_wp2_with fail
       refine CW1.out.mono ?_
       rintro e w3 ⟨rfl, h3⟩
       have hw2 := HW.out
       go_wp2_with fail
       refine (CW2.out _ _ (heap_alloc_new w3 _) (Add.trans h3 (add_new _ _))).mono ?_
       rintro e w4 ⟨rfl, h4⟩
       rw [wtM_one]
       have T4 := Add.trans (Add.trans h3 (add_new w3 (.cells #[.slice (some ⟨gb, 0, none⟩) q q] 23))) h4
       clear h3 h4 CW1 CW2
       go_wp2_with fail
       refine (CT.out _ _ (heap_alloc_new w4 _) (Add.trans T4 (add_new _ _))).mono ?_
       rintro e w5 ⟨G3, hv3, rfl, hA3, h5⟩
       have T5 := Add.trans (Add.trans T4 (add_new w4 (.cells #[.slice (some ⟨gb, 0, none⟩) q q] 23))) h5
       have CS5 := Lib.hid (CS.out w5 T5 _ (hA3.mat (by unfold maxLen; omega)))
       have HT5 := Lib.hid (Add.trans HT3.out T5)
       clear h5 T4 T5 CT CS hA3 HT3
       go_wp2_with fail
       refine CS5.out.mono ?_
       rintro e w6 ⟨k, p, s, Y, c, W, hEl, (⟨hk, rfl, h6⟩ | ⟨rfl, Go, hv, rfl, hA, h6⟩)⟩
       · have hz : LinM.det q (qm X) = 0 := by rw [← det_beside q (qm X) fun i _ => qr y i]; exact hEl.less hk
         have CC : Hid (Calls Tryz.prog 49 #[.slice none 0 0] w6 (RetOF w6 0 (fun _ => (false, 0, 0)))) := Lib.hid (concatN (w := w6) (v := .slice none 0 0) (n := 0) (m := fun _ => 0) (X := fun _ _ => (false, 0, 0)) ⟨none, 0, rfl, Nat.le_refl _, by unfold maxLen; omega, fun h => by omega⟩ (by omega) (fun i hi => by omega) (Nat.zero_le _))
         have HT6 := Lib.hid (Add.trans HT5.out h6)
         have HZ := Lib.hid hz
         clear CS5 HT5 hEl hk h6 hz
         go_wp2_with fail
         refine CC.out.mono ?_
         rintro e w7 ⟨a7, c7, rfl, -, h7⟩
         have HF : Hid (SlvP w q (qm X) (qr y) (.returned (.tuple #[.slice a7 0 c7, .int .i64 9])) w7) := Lib.hid (.inl ⟨HZ.out, a7, c7, rfl, Add.trans HT6.out h7⟩)
         clear h7 CC
         go_wp2_with fail
         go_ret2
         exact HF.out
       · obtain ⟨f1, f2, f3⟩ := sol_facts hEl
         have hc := concatN (hA.mat (by unfold maxLen; omega)) (by omega) (fun _ _ => Nat.one_pos) (by rw [lenC_one]; omega)
         rw [lenC_one] at hc
         have CC := Lib.hid hc
         have HT6 := Lib.hid (Add.trans HT5.out h6)
         have HFF := Lib.hid (And.intro f1 (And.intro f2 f3))
         have HBD := Lib.hid (fun i hi => sol_bound hEl hn.2 (i := i) (l := 0) hi (by omega))
         clear CS5 HT5 hEl h6 hc hA f1 f2 f3
         go_wp2_with fail
         refine CC.out.mono ?_
         rintro e w7 ⟨a7, c7, rfl, hO, h7⟩
         have HF : Hid (SlvP w k (qm X) (qr y) (.returned (.tuple #[.slice a7 k c7, .int .i64 0])) w7) := Lib.hid (.inr ⟨HFF.out.1, fun i hi => HFF.out.2.2 i 0 hi, fun i hi => HBD.out i hi, a7, c7, rfl, (hO.base HT6.out.size).congr (fun i hi => by rw [catT_one _ _ i hi, HFF.out.2.1 i 0 hi]), Add.trans HT6.out h7⟩)
         clear hO h7 CC
         go_wp2_with fail
         go_ret2
         exact HF.out
     exact AllReadyH.nil
   exact AllReadyH.nil
 exact AllReadyH.nil
end Go.Proofs.YtbeoeackahmpbaaGreatDoor
