import Derived.Test.YtbeoeackahmpbaaGreatDoorJN
import Derived.Test.YtbeoeackahmpbaaGreatDoorF15
import Derived.Deep.Cut
import Derived.Test.YtbeoeackahmpbaaGreatDoorJTC
import Derived.Test.YtbeoeackahmpbaaGreatDoorJTE
import Derived.Test.YtbeoeackahmpbaaGreatDoorJV9
import Derived.Test.YtbeoeackahmpbaaGreatDoorJT3
namespace Go.Proofs.YtbeoeackahmpbaaGreatDoor
open Go.RowKit NatM Go.Proofs.YtbeoeackahmpbaaGreatDoor.Api
theorem shiftL_up {A k N : Nat} (hN : A * 2 ^ k = N) (h : N < pw 512) (hk : k ≤ 16384) : shiftS A (k : Nat) = (N, 0) := by
 have hA : A ≤ A * 2 ^ k := Nat.le_mul_of_pos_right _ (Nat.two_pow_pos k)
 unfold shiftS
 rw [if_neg (by omega)]
 by_cases h0 : A = 0
 · rw [if_pos (.inl h0), ← hN, h0, Nat.zero_mul]
 · rw [if_neg (by omega), if_neg (by omega), if_neg (by omega), Int.toNat_natCast, hN, if_neg (by omega)]
theorem two_ltL {n : Nat} (h : n ≤ 2000) : 2 ^ n < pw 512 := by
 obtain ⟨m, hm⟩ : ∃ m, m = 32 * 512 := ⟨_, rfl⟩
 rw [pw_two, ← hm]; exact Nat.pow_lt_pow_right (by decide) (by omega)
theorem litOneL (w : World) (g : Nat) (hg : w.heap.size = g) : Nv (w.alloc (.cells #[.int .u32 1] 93)) (.slice (some ⟨g, 0, none⟩) 1 1) 1 :=
 num_nv (num_lit w g hg 1 1 rfl (by decide) (by decide)) (Nat.lt_of_lt_of_le (show 1 < pw 1 by decide) (pw_le (by decide)))
set_option maxRecDepth 100000 in
set_option maxHeartbeats 4000000 in
theorem refPowerL (k : Nat) {w : World} (hk : Hid (k ≤ 2000)) : Calls Tryz.prog 73 #[.int .i64 (k : Nat)] w (RetF w (false, 1, 2 ^ k)) := by
 obtain ⟨T, hB⟩ := laid_var w false none 0 0 none 0 0
 obtain ⟨E, hE⟩ : ∃ E, 2 ^ k = E := ⟨_, rfl⟩
 have FS : Hid (shiftS 1 (k : Nat) = (E, 0) ∧ -9223372036854775808 ≤ ((k : Nat) : Int) ∧ ((k : Nat) : Int) ≤ 9223372036854775807) := Lib.hid (by have := hk.out; exact ⟨shiftL_up (by rw [Nat.one_mul]; exact hE) (by rw [← hE]; exact two_ltL this) (by omega), by omega, by omega⟩)
 rw [hE]
 clear hE
 go_enter Tryz.func73, Tryz.ntmps73
 go_wp2_with fail
 refine (refShiftX (E, 0) (litOneL _ _ (by simp)) FS).mono ?_
 rintro e w1 ⟨vd, rfl, nd, h1⟩
 have t1 := Add.trans (add_new _ _) h1
 replace hB := hB.mono t1
 replace T := Add.trans T t1
 clear h1 t1 FS
 have nl := num_lit w1 _ rfl 1 1 rfl (by decide) (by decide)
 have tt : Add w1 (w1.alloc (.cells #[.int .u32 1] 93)) := add_new _ _
 replace hB := hB.mono tt
 replace nd := nd.mono tt
 replace T := Add.trans T tt
 clear tt
 obtain ⟨a2, n2, c2, rfl⟩ := num_slice nd
 have s0 := hB.c0
 have s1 := hB.c1
 have s2 := hB.c2
 have s3 := hB.fr 0
 have s4 := hB.fr 1
 have s5 := hB.fr 2
 have hF := retF_put (w := w) (x := (false, 1, E)) hB ⟨_, _, _, a2, n2, c2, rfl, nl, nd⟩ T (Nat.le_refl _)
 unfold put3 at hF
 have HF := Lib.hid hF
 clear hF hB T nl nd
 go_wp2_with fail
 exact bodyPost_ret (v := .agg #[.bool false, .slice (some ⟨w1.heap.size, 0, none⟩) 1 1, .slice a2 n2 c2]) (by simp [results, Tryz.results73, go_sem, s0, s1, s2]) rfl HF.out
def pwF (k : Nat) (b : Bool) : Tri := if b = true then (false, 1, 2 ^ k) else (false, 2 ^ k, 1)
set_option maxRecDepth 100000 in
set_option maxHeartbeats 4000000 in
theorem powerN (k : Nat) (b : Bool) {w : World} (hk : Hid (k ≤ 2000)) : Calls Tryz.prog 40 #[.int .i64 (k : Nat), .bool b] w (RetF w (pwF k b)) := by
 obtain ⟨T, hB⟩ := laid_var w false none 0 0 none 0 0
 go_enter Tryz.func40, Tryz.ntmps40
 go_wp2_with fail
 refine (refPowerL k hk).mono ?_
 rintro e w1 ⟨v1, rfl, hv1, h1⟩
 obtain ⟨a1, n1, c1, a2, n2, c2, rfl, m1, m2⟩ := id hv1
 replace hB := hB.mono h1
 replace T := Add.trans T h1
 have hC := box_new w1 false a1 n1 c1 a2 n2 c2
 have tt := add_new w1 (.cells #[.bool false, .slice a1 n1 c1, .slice a2 n2 c2] 37)
 obtain ⟨W, hW⟩ : ∃ W, W = w1.alloc (.cells #[.bool false, .slice a1 n1 c1, .slice a2 n2 c2] 37) := ⟨_, rfl⟩
 obtain ⟨g, hg⟩ : ∃ g, g = w1.heap.size := ⟨_, rfl⟩
 rw [← hW, ← hg] at hC
 rw [← hW] at tt
 replace hB := hB.mono tt
 replace T := Add.trans T tt
 replace m1 := m1.mono tt
 replace m2 := m2.mono tt
 have HW := Lib.hid (And.intro hW hg)
 have HM := Lib.hid (And.intro m1 m2)
 have HT := Lib.hid T
 clear hv1 h1 tt hW hg m1 m2 T
 go_upto_region 2 with fail
 rw [← HW.out.1, ← HW.out.2]
 clear HW
 have r0 := hC.c0
 have r1 := hC.c1
 have r2 := hC.c2
 cases b with
 | true =>
  have s0 := hB.c0
  have s1 := hB.c1
  have s2 := hB.c2
  have s3 := hB.fr 0
  have s4 := hB.fr 1
  have s5 := hB.fr 2
  have hF := retF_put (w := w) (x := (false, 1, 2 ^ k)) hB ⟨_, _, _, a2, n2, c2, rfl, HM.out.1, HM.out.2⟩ HT.out (Nat.le_refl _)
  unfold put3 at hF
  have HF := Lib.hid hF
  clear hF hB hC HT HM
  go_wp2_with fail
  exact bodyPost_ret (v := .agg #[.bool false, .slice a1 n1 c1, .slice a2 n2 c2]) (by simp [results, Tryz.results40, go_sem, s0, s1, s2]) rfl (by unfold pwF; exact HF.out)
 | false =>
  have tt := add_new W (.cells #[.int .u32 1] 93)
  have nl := num_lit W _ rfl 1 1 rfl (by decide) (by decide)
  have hD := hB.mono tt
  have m2 := HM.out.2.mono tt
  have T := Add.trans HT.out tt
  have s0 := hD.c0
  have s1 := hD.c1
  have s2 := hD.c2
  have s3 := hD.fr 0
  have s4 := hD.fr 1
  have s5 := hD.fr 2
  have hF := retF_put (w := w) (x := (false, 2 ^ k, 1)) hD ⟨_, _, _, _, 1, 1, rfl, m2, nl⟩ T (Nat.le_refl _)
  unfold put3 at hF
  have HF := Lib.hid hF
  clear hF hB hC HT HM tt nl m2 T hD
  go_wp2_with fail
  exact bodyPost_ret (v := .agg #[.bool false, .slice a2 n2 c2, .slice (some ⟨W.heap.size, 0, none⟩) 1 1]) (by simp [results, Tryz.results40, go_sem, s0, s1, s2]) rfl (by unfold pwF; exact HF.out)
end Go.Proofs.YtbeoeackahmpbaaGreatDoor
namespace Go.Proofs.YtbeoeackahmpbaaGreatDoor
open Go.RowKit NatM Go.Proofs.YtbeoeackahmpbaaGreatDoor.Api LinM
theorem row_one {w : World} {g : Nat} {y : Bool} {a : Option Addr} {n c : Nat} {e : Option Addr} {d f : Nat} {t : Tri} (h : w.heap[g]? = some (.cells #[.bool y, .slice a n c, .slice e d f] 37 (0, 0)))
 (h0 : FracT w (.agg #[.bool y, .slice a n c, .slice e d f]) t) : RowP true w (.slice (some ⟨g, 0, none⟩) 1 1) 1 (fun _ => t) := by
 refine ⟨_, 1, rfl, Nat.le_refl _, by unfold maxLen; omega, fun _ => ⟨g, 0, rfl, fun i hi => ?_⟩⟩
 obtain rfl : i = 0 := by omega
 refine ⟨y, a, n, c, e, d, f, ?_, ?_, ?_, h0⟩ <;> (rw [cell_of_row w g _ _ _ (0, 0) h]; rfl)
theorem mat_one {w u v : World} {y : Bool} {a : Option Addr} {n c : Nat} {e : Option Addr} {d f : Nat} {t : Tri} (h0 : FracT w (.agg #[.bool y, .slice a n c, .slice e d f]) t)
 (hu : u = w.alloc (.cells #[.bool y, .slice a n c, .slice e d f] 37)) (hv : v = u.alloc (.cells #[.slice (some ⟨w.heap.size, 0, none⟩) 1 1] 23)) :
 Add w v ∧ MatP true v (.slice (some ⟨w.heap.size + 1, 0, none⟩) 1 1) 1 (fun _ => 1) (fun _ _ => t) := by
 have A1 : Add w u := by rw [hu]; exact add_new w _
 have A2 : Add u v := by rw [hv]; exact add_new u _
 have es : u.heap.size = w.heap.size + 1 := by rw [hu]; simp
 refine ⟨Add.trans A1 A2, _, 1, rfl, Nat.le_refl _, by unfold maxLen; omega, fun _ => ⟨w.heap.size + 1, 0, rfl, fun i hi => ?_⟩⟩
 obtain rfl : i = 0 := by omega
 have hb : v.heap[u.heap.size]? = some (.cells #[.slice (some ⟨w.heap.size, 0, none⟩) 1 1] 23 (0, 0)) := by rw [hv]; exact heap_alloc_new u _
 have hb1 : u.heap[w.heap.size]? = some (.cells #[.bool y, .slice a n c, .slice e d f] 37 (0, 0)) := by rw [hu]; exact heap_alloc_new w _
 rw [es] at hb
 exact ⟨_, by rw [cell_of_row v _ _ _ _ (0, 0) hb]; rfl, (row_one hb1 (h0.mono A1)).add A2⟩
theorem FracT.opened {w : World} {v : Value} {t : Tri} (h : FracT w v t) : ∃ y a n c e d f, v = .agg #[.bool y, .slice a n c, .slice e d f] ∧ FracT w (.agg #[.bool y, .slice a n c, .slice e d f]) t := by
 obtain ⟨a, n, c, e, d, f, rfl, h1, h2⟩ := id h
 exact ⟨_, _, _, _, _, _, _, rfl, h⟩
theorem pw_sm {k : Nat} {b : Bool} (h : k ≤ 2000) : Sm (pwF k b) := by
 have h1 : 1 < pw 128 := small128 (by decide)
 have h2 : 2 ^ k < pw 128 := by
  obtain ⟨m, hm⟩ : ∃ m, m = 32 * 128 := ⟨_, rfl⟩
  rw [pw_two, ← hm]; exact Nat.pow_lt_pow_right (by decide) (by omega)
 unfold pwF
 split
 · exact ⟨h1, h2⟩
 · exact ⟨h2, h1⟩
theorem mul_both2 (n c : Nat) (ma mb : Nat → Nat) (X Y : Nat → Nat → Tri) :
 ∃ (N p : Nat) (t : Nat → Nat → Tri) (k : Nat), p ≤ 24 ∧ ∀ w' va vb, MatP false w' va n ma X → MatP false w' vb c mb Y → Tab w' → Calls Tryz.prog 26 #[va, vb] w' (MRes w' N (fun _ => p) t k) ∧ Calls Tryz.prog 27 #[va, vb] w' (MRes w' N (fun _ => p) t k) := by
 by_cases hs : mulOk X Y ma mb n c = true
 · have hs' := hs
   unfold mulOk at hs'
   rw [Bool.and_eq_true, Bool.and_eq_true, decide_eq_true_eq] at hs'
   obtain ⟨⟨h1, h2⟩, h3⟩ := hs'
   obtain ⟨hn, hc1, -⟩ := shapeOk_iff.1 h1
   obtain ⟨-, hp1, -⟩ := shapeOk_iff.1 h2
   by_cases hw : wtM (fun i j => can (qm X i j)) (fun _ => c) n + wtM (fun i j => can (qm Y i j)) (fun _ => mb 0) c ≤ 3800
   · refine ⟨n, mb 0, fun i l => can (mulM (qm X) (qm Y) c i l), 0, hp1.2, fun w' va vb h hv hT => ⟨(mulN_ok h hv hT h1 h3 h2 rfl hw).mono ?_, refMul_ok h hv h1 h3 h2 rfl hw⟩⟩
     rintro e w2 ⟨G, gs, rfl, hE, h2⟩
     exact ⟨_, _, rfl, hE.mat (by unfold maxLen; omega) (fun i hi => by unfold maxLen; omega), h2⟩
   · exact ⟨0, 0, fun _ _ => can 0, 2, by omega, fun w' va vb h hv hT => ⟨(mulN_size h hv hT h1 h3 h2 rfl (by omega)).mono fun _ _ g => g.mat _ _, (refMul_size h hv h1 h3 h2 rfl (by omega)).mono fun _ _ g => g.mat _ _⟩⟩
 · exact ⟨0, 0, fun _ _ => can 0, 1, by omega, fun w' va vb h hv hT => ⟨(mulN_arg h hv (by simpa using hs)).mono fun _ _ g => g.mat _ _, (refMul_arg h hv (by simpa using hs)).mono fun _ _ g => g.mat _ _⟩⟩
theorem powerZ {z : Int} (k : Nat) (b : Bool) (hz : z = (k : Nat)) (hk : k ≤ 2000) (w : World) : Calls Tryz.prog 40 #[.int .i64 z, .bool b] w (RetF w (pwF k b)) := by
 rw [hz]; exact powerN k b (Lib.hid hk)
set_option maxRecDepth 100000 in
set_option maxHeartbeats 400000 in
theorem weights_any {w : World} {n m : Nat} {below two : Bool} {t1 t2 t3 : Tri} (HT : Hid (Tab w)) (hn : n < 256) (hm : m < 256)
 (P1 : Hid (∀ w, Calls Tryz.prog 40 #[.int .i64 (1897 + (n : Int) % 5), .bool below] w (RetF w t1)))
 (P2 : Hid (∀ w, Calls Tryz.prog 40 #[.int .i64 ((m : Int) % 4), .bool two] w (RetF w t2)))
 (P3 : Hid (∀ w, Calls Tryz.prog 40 #[.int .i64 (1897 + (n : Int) % 5 + (m : Int) % 4), .bool two] w (RetF w t3)))
 (S1 : Hid (Sm t1)) (S2 : Hid (Sm t2)) (S3 : Hid (Sm t3)) :
 Calls Tryz.prog 10 #[.int .u8 (n : Nat), .int .u8 (m : Nat), .bool below, .bool two] w (BoolIs w true) := by
 obtain ⟨Na, pa, ta, za, hpa, CM⟩ := mul_both2 1 1 (fun _ => 1) (fun _ => 1) (fun _ _ => t1) (fun _ _ => t3)
 have HCM := Lib.hid CM
 clear CM
 go_enter Tryz.func10, Tryz.ntmps10
 go_wp2_with fail
 refine (P1.out _).mono ?_
 rintro e w1 ⟨v1, rfl, hv1, h1⟩
 obtain ⟨y1, a1, n1, c1, e1, d1, f1, rfl, hv1⟩ := hv1.opened
 obtain ⟨u2, hu2⟩ : ∃ u, u = w1.alloc (.cells #[.bool y1, .slice a1 n1 c1, .slice e1 d1 f1] 37) := ⟨_, rfl⟩
 obtain ⟨W2, hW2⟩ : ∃ W, W = u2.alloc (.cells #[.slice (some ⟨w1.heap.size, 0, none⟩) 1 1] 23) := ⟨_, rfl⟩
 obtain ⟨A2, M2⟩ := mat_one hv1 hu2 hW2
 obtain ⟨g2, hg2⟩ : ∃ g, g = w1.heap.size + 1 := ⟨_, rfl⟩
 rw [← hg2] at M2
 have HT2 := Lib.hid (Add.trans h1 A2)
 have HM2 := Lib.hid (M2.arg fun _ _ _ _ => S1.out)
 have HW2 := Lib.hid (And.intro hu2 (And.intro hW2 hg2))
 clear hv1 h1 A2 M2 hu2 hW2 hg2
 go_upto_region 3 with fail
 rw [← HW2.out.1, ← HW2.out.2.1, ← HW2.out.2.2]
 clear HW2
 go_wp2_with fail
 refine (P2.out _).mono ?_
 rintro e w3 ⟨v3, rfl, hv3, h3⟩
 obtain ⟨y3, a3, n3, c3, e3, d3, f3, rfl, hv3⟩ := hv3.opened
 obtain ⟨W3, hW3⟩ : ∃ W, W = w3.alloc (.cells #[.bool y3, .slice a3 n3 c3, .slice e3 d3 f3] 37) := ⟨_, rfl⟩
 obtain ⟨g3, hg3⟩ : ∃ g, g = w3.heap.size := ⟨_, rfl⟩
 have A3 : Add w3 W3 := by rw [hW3]; exact add_new _ _
 have R3 : RowP true W3 (.slice (some ⟨g3, 0, none⟩) 1 1) 1 (fun _ => t2) := row_one (by rw [hW3, hg3]; exact heap_alloc_new w3 _) (hv3.mono A3)
 have hMA := HM2.out.add (Add.trans h3 A3)
 have T3 := Add.trans HT2.out (Add.trans h3 A3)
 have hRV := R3.arg fun _ _ => S2.out
 obtain ⟨N1, s1, k1, hN1, C1⟩ := solve_both hMA hRV (HT.out.mono T3) (by omega)
 obtain ⟨N2, p2, s2, k2, hp2, C2⟩ := invert_both hMA (HT.out.mono T3)
 obtain ⟨K, Z, C3⟩ := rank_both hMA (HT.out.mono T3)
 have HC1 := Lib.hid C1
 have HC2 := Lib.hid C2
 have HC3 := Lib.hid C3
 have HT3 := Lib.hid T3
 have HTW := Lib.hid (HT.out.mono T3)
 have HM3 := Lib.hid hMA
 have HW3 := Lib.hid (And.intro hW3 hg3)
 clear C1 C2 C3 T3 hMA hRV R3 A3 hv3 h3 hW3 hg3 HT2 HM2
 go_upto_region 4 with fail
 rw [← HW3.out.1, ← HW3.out.2]
 clear HW3
 go_wp2_with fail
 refine (HC1.out _ (Below.refl _ _)).1.mono ?_
 rintro e w4 ⟨a4, c4, rfl, hM4, h4⟩
 have HT4 := Lib.hid h4
 have HM4 := Lib.hid hM4
 clear h4 hM4
 go_wp2_with fail
 refine (HC1.out _ HT4.out).2.mono ?_
 rintro e w5 ⟨a5, c5, rfl, hM5, h5⟩
 have HT5 := Lib.hid (Add.trans HT4.out h5)
 have HM5 := Lib.hid (And.intro (HM4.out.imp id fun q => q.add h5) hM5)
 clear h5 hM5 HM4 HT4 HC1
 go_wp2_with fail
 refine (HC2.out _ HT5.out).1.mono ?_
 rintro e w7 ⟨a7, c7, rfl, hM7, h7⟩
 have HT7 := Lib.hid (Add.trans HT5.out h7)
 have HM7 := Lib.hid hM7
 have HM5b := Lib.hid (And.intro (HM5.out.1.imp id fun q => q.add h7) (HM5.out.2.imp id fun q => q.add h7))
 clear h7 hM7 HM5 HT5
 go_wp2_with fail
 refine (HC2.out _ HT7.out).2.mono ?_
 rintro e w8 ⟨a8, c8, rfl, hM8, h8⟩
 have HT8 := Lib.hid (Add.trans HT7.out h8)
 have HM8 := Lib.hid (And.intro (HM7.out.add h8) hM8)
 have HM5c := Lib.hid (And.intro (HM5b.out.1.imp id fun q => q.add h8) (HM5b.out.2.imp id fun q => q.add h8))
 clear h8 hM8 HM7 HT7 HC2 HM5b
 go_wp2_with fail
 refine (HC3.out _ HT8.out).1.mono ?_
 rintro e w9 ⟨rfl, h9⟩
 have HT9 := Lib.hid (Add.trans HT8.out h9)
 have HS9 := Lib.hid h9
 clear h9
 go_wp2_with fail
 refine (HC3.out _ HT9.out).2.mono ?_
 rintro e w10 ⟨rfl, h10⟩
 have HT10 := Lib.hid (Add.trans HT9.out h10)
 have HS10 := Lib.hid (Add.trans HS9.out h10)
 clear h10 HC3 HT9 HS9
 go_wp2_with fail
 refine (P3.out _).mono ?_
 rintro e w11 ⟨v11, rfl, hv11, h11⟩
 obtain ⟨y11, a11, n11, c11, e11, d11, f11, rfl, hv11⟩ := hv11.opened
 obtain ⟨u11, hu11⟩ : ∃ u, u = w11.alloc (.cells #[.bool y11, .slice a11 n11 c11, .slice e11 d11 f11] 37) := ⟨_, rfl⟩
 obtain ⟨W11, hW11⟩ : ∃ W, W = u11.alloc (.cells #[.slice (some ⟨w11.heap.size, 0, none⟩) 1 1] 23) := ⟨_, rfl⟩
 obtain ⟨A11, M11⟩ := mat_one hv11 hu11 hW11
 obtain ⟨g11, hg11⟩ : ∃ g, g = w11.heap.size + 1 := ⟨_, rfl⟩
 rw [← hg11] at M11
 have T11 := Add.trans HT10.out (Add.trans h11 A11)
 have CM11 := Lib.hid (HCM.out W11 _ _ (HM3.out.add T11) (M11.arg fun _ _ _ _ => S3.out) (HTW.out.mono T11)).1
 have HT11 := Lib.hid T11
 have HS11 := Lib.hid (Add.trans HS10.out (Add.trans h11 A11))
 have HW11 := Lib.hid (And.intro hu11 (And.intro hW11 hg11))
 clear hv11 h11 A11 M11 hu11 hW11 hg11 T11 HT10
 go_wp2_with fail
 rw [← HW11.out.1, ← HW11.out.2.1, ← HW11.out.2.2]
 clear HW11
 refine CM11.out.mono ?_
 rintro e w12 ⟨a12, c12, rfl, hM12, h12⟩
 have HT12 := Lib.hid (Add.trans HT11.out h12)
 have HS12 := Lib.hid (Add.trans HS11.out h12)
 have HM12 := Lib.hid hM12
 clear hM12 h12 CM11 HT11 HS11 HS10
 go_wp2_with fail
 refine (P3.out _).mono ?_
 rintro e w13 ⟨v13, rfl, hv13, h13⟩
 obtain ⟨y13, a13, n13, c13, e13, d13, f13, rfl, hv13⟩ := hv13.opened
 obtain ⟨u13, hu13⟩ : ∃ u, u = w13.alloc (.cells #[.bool y13, .slice a13 n13 c13, .slice e13 d13 f13] 37) := ⟨_, rfl⟩
 obtain ⟨W13, hW13⟩ : ∃ W, W = u13.alloc (.cells #[.slice (some ⟨w13.heap.size, 0, none⟩) 1 1] 23) := ⟨_, rfl⟩
 obtain ⟨A13, M13⟩ := mat_one hv13 hu13 hW13
 obtain ⟨g13, hg13⟩ : ∃ g, g = w13.heap.size + 1 := ⟨_, rfl⟩
 rw [← hg13] at M13
 have T13 := Add.trans HT12.out (Add.trans h13 A13)
 have CM13 := Lib.hid (HCM.out W13 _ _ (HM3.out.add T13) (M13.arg fun _ _ _ _ => S3.out) (HTW.out.mono T13)).2
 have HT13 := Lib.hid T13
 have HR13 := Lib.hid (Add.trans h13 A13)
 have HW13 := Lib.hid (And.intro hu13 (And.intro hW13 hg13))
 clear hv13 h13 A13 M13 hu13 hW13 hg13 T13 HT12
 go_wp2_with fail
 rw [← HW13.out.1, ← HW13.out.2.1, ← HW13.out.2.2]
 clear HW13
 refine CM13.out.mono ?_
 rintro e w14 ⟨a14, c14, rfl, hM14, h14⟩
 have HT14 := Lib.hid (Add.trans HT13.out h14)
 have R14 := Add.trans HR13.out h14
 have S14 := Add.trans HS12.out R14
 have CF := Lib.hid (fracs_yes2 (HM5c.out.1.imp id fun q => q.add S14) (HM5c.out.2.imp id fun q => q.add S14) (by omega))
 have HM8b := Lib.hid (And.intro (HM8.out.1.add S14) (HM8.out.2.add S14))
 have HM14 := Lib.hid (And.intro (HM12.out.add R14) hM14)
 clear hM14 h14 CM13 HT13 R14 S14 HM5c HM8 HM12 HR13 HS12
 go_wp2_with fail
 refine CF.out.mono ?_
 rintro e w15 ⟨rfl, h15⟩
 have HT15 := Lib.hid (Add.trans HT14.out h15)
 have CQ := Lib.hid (matrix_yes (HM8b.out.1.add h15) (HM8b.out.2.add h15) (fun i _ => by omega))
 have HM15 := Lib.hid (And.intro (HM14.out.1.add h15) (HM14.out.2.add h15))
 clear h15 HT14 CF HM8b HM14
 go_wp2_with fail
 refine CQ.out.mono ?_
 rintro e w16 ⟨rfl, h16⟩
 have HT16 := Lib.hid (Add.trans HT15.out h16)
 have CQ2 := Lib.hid (matrix_yes (HM15.out.1.add h16) (HM15.out.2.add h16) (fun i _ => by omega))
 clear h16 HT15 CQ HM15
 go_wp2_with fail
 refine CQ2.out.mono ?_
 rintro e w17 ⟨rfl, h17⟩
 have HT17 := Lib.hid (Add.trans HT16.out h17)
 have CA := Lib.hid (awakeN w17 (HTW.out.mono HT17.out))
 clear h17 HT16 CQ2
 go_wp2_with fail
 refine CA.out.mono ?_
 rintro e w18 ⟨rfl, h18⟩
 go_wp2_with fail
 go_ret
 exact ⟨rfl, Add.trans HT3.out (Add.trans HT17.out h18)⟩
theorem weightsN {w : World} {n m : Nat} {below two : Bool} (hn : n < 256) (hm : m < 256) (hT : Tab w) :
 Calls Tryz.prog 10 #[.int .u8 (n : Nat), .int .u8 (m : Nat), .bool below, .bool two] w (BoolIs w true) :=
 weights_any (Lib.hid hT) hn hm (Lib.hid (powerZ (1897 + n % 5) below (by omega) (by omega))) (Lib.hid (powerZ (m % 4) two (by omega) (by omega))) (Lib.hid (powerZ (1897 + n % 5 + m % 4) two (by omega) (by omega)))
  (Lib.hid (pw_sm (by omega))) (Lib.hid (pw_sm (by omega))) (Lib.hid (pw_sm (by omega)))
end Go.Proofs.YtbeoeackahmpbaaGreatDoor
