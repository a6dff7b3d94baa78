/- The networks that package drydockmake makes of a tape: the walk. -/
import Derived.Test.YtaoibakbnimnkaaNv
namespace Go.Proofs.Ytaoibakbnimnkaa
open Go.RowKit NetM

set_option maxRecDepth 100000 in
set_option maxHeartbeats 4000000 in
theorem network_any {w : World} {g : Nat} (h : Tp w g) : Calls Try.prog 21 #[.pointer (some ⟨g, 0, none⟩)] w (NetworkP w g) := by
  obtain ⟨ba, bm, bc, bs, h⟩ := h
  have CN : Hid (∀ W n, TpS W g ba bm bc bs → 1 ≤ n → n ≤ 1000000 → Calls Try.prog 23 #[.pointer (some ⟨g, 0, none⟩), .int .i64 n] W (NextP W g ba bm bc bs n)) := Lib.hid fun W n h1 h2 h3 => next_any h1 h2 h3
  have hlt := h.lt
  have HBY := Lib.hid h.bytes
  go_enter Try.func21, Try.ntmps21
  go_wp2_with fail
  refine (CN.out _ _ (h.add (add_new _ _)) (by decide) (by decide)).mono ?_
  rintro e w1 ⟨r1, rfl, b1, t1, g1, s1⟩
  have hs1 : w1.heap.size = w.heap.size + 1 := by rw [s1]; simp
  have HR1 : Hid (NBox w1 w.heap.size 0 0 0 none 0 0) := Lib.hid ((nbox_new w 0 0 0 none 0 0).kept g1 (by intro e; have := Option.some.inj e; omega))
  have HG1 : Hid (w.grownBy w1 (some g)) := Lib.hid (grown_trans' (World.grownBy_alloc w _ _) g1)
  obtain ⟨N, hN⟩ : ∃ N : Nat, N = 2 + r1 := ⟨_, rfl⟩
  have EN : Hid ((2 : Int) + (r1 : Int) = (N : Int)) := Lib.hid (by omega)
  have hN2 : 2 ≤ N := by omega
  have hN7 : N ≤ 7 := by omega
  clear hN
  go_wp2_with fail
  rw [EN.out]
  have ht2 : TpS (w1.alloc (.cells #[.int .i64 (N : Nat), .int .i64 0, .int .i64 0, .slice none 0 0] 24)) g ba bm bc bs := t1.add (add_new _ _)
  refine (CN.out _ (N : Nat) ht2 (by omega) (by omega)).mono ?_
  rintro e w2 ⟨r2, rfl, b2, t2, g2, s2⟩
  obtain ⟨gn, hgn⟩ : ∃ gn, gn = w.heap.size + 1 := ⟨_, rfl⟩
  have hbx : NBox w2 gn N 0 0 none 0 0 := by
    rw [hgn, ← hs1]
    exact (nbox_new w1 N 0 0 none 0 0).kept g2 (by intro e; have := Option.some.inj e; omega)
  have HR2 : Hid (NBox w2 w.heap.size 0 0 0 none 0 0) := Lib.hid ((HR1.out.add (add_new w1 _)).kept g2 (by intro e; have := Option.some.inj e; omega))
  have hs2 : w2.heap.size = gn + 1 := by rw [s2]; simp; omega
  have HG2 : Hid (w.grownBy w2 (some g)) := Lib.hid (grown_trans' (grown_new HG1.out _) g2)
  have hgg : g < gn := by omega
  have hgw : w.heap.size < gn := by omega
  rw [← hgn]
  have c1 := hbx.c1
  have f1 := frozen_of_row w2 gn 1 _ 24 hbx
  have HBX := Lib.hid hbx
  clear hgn ht2 g2 hbx g1 t1 s1 s2 hs1
  go_upto_region 3 with fail
  obtain ⟨W3, hW3⟩ : ∃ W3, W3 = w2.setCell ⟨gn, 1, none⟩ (.int .i64 (r2 : Nat)) := ⟨_, rfl⟩
  rw [← hW3]
  have hb3 : NBox W3 gn N r2 0 none 0 0 := by rw [hW3]; exact (heap_setCell_same w2 gn 1 _ _ _ HBX.out).trans rfl
  have ht3 : TpS W3 g ba bm bc bs := by rw [hW3]; exact t2.low (Below.setCell (Below.refl _ _) (by exact Nat.le_of_lt hgw) _) hlt HBY.out
  have HG3 : Hid (w.grownBy W3 (some g) ∧ W3.heap.size = gn + 1) := Lib.hid (by
    rw [hW3]
    exact ⟨grown_setOther HG2.out (by omega) _ _, by simpa using hs2⟩)
  have HR3 : Hid (NBox W3 w.heap.size 0 0 0 none 0 0) := Lib.hid (by rw [hW3]; exact (heap_setCell_other w2 ⟨gn, 1, none⟩ _ _ (by dsimp only; omega)).trans HR2.out)
  have hs3 : W3.heap.size = gn + 1 := HG3.out.2
  have c0 := hb3.c0
  have c1' := hb3.c1
  have HB3 := Lib.hid hb3
  have HT3 := Lib.hid ht3
  clear hW3 hb3 ht3 c1 f1 HBX t2 hs2 HG2 HG1
  have W1 : IntKind.i64.wrap ((r2 : Int) + 1) = (r2 : Int) + 1 := IntWalk.i64_in _ (by omega)
  have W2 : IntKind.i64.wrap ((N : Int) - 1) = (N : Int) - 1 := IntWalk.i64_in _ (by omega)
  have hN0 : ¬ (N = 0) := by omega
  go_region_held3 (fun w' => w'.cell? ⟨gn, 0, none⟩ = some (.int .i64 (N : Nat)) ∧ w'.cell? ⟨gn, 1, none⟩ = some (.int .i64 (r2 : Nat)))
    (first | (exact ⟨hk0, hk1⟩) | (exact ⟨(bz.set2 _).c0, (bz.set2 _).c1⟩) | go_keep)
    ((go_at_call 23; ((with_reducible refine (CN.out _ ((N : Int) - 1) (HT3.out.add (b_drew (Below.refl _ _))) (by omega) (by omega)).mono ?_); rintro e z1 ⟨r3, rfl, b3, t3, g3, s3⟩; have bz := (HB3.out.add (b_drew (Below.refl _ _))).kept g3 (by intro e; have := Option.some.inj e; omega); have hk0 := bz.c0; have hk1 := bz.c1; have hk2 := bz.c2; have hf2 := frozen_of_row z1 gn 2 _ 24 bz)))
  obtain ⟨T, hT⟩ : ∃ T : Nat, T = (r2 + 1 + r3) % N := ⟨_, rfl⟩
  have eT : (IntKind.i64.wrap ((r2 : Int) + 1 + (r3 : Int))).tmod (N : Int) = (T : Int) := by rw [IntWalk.i64_in _ (by omega), Int.tmod_eq_emod_of_nonneg (by omega), hT]; simp
  rw [eT]
  have hTN : T < N := by rw [hT]; exact Nat.mod_lt _ (by omega)
  have hTs : r2 ≠ T := by
    intro e
    have h1 : r2 + 1 + r3 < r2 + N ∧ r2 < r2 + 1 + r3 := by omega
    rw [hT] at e
    rcases Nat.lt_or_ge (r2 + 1 + r3) N with h2 | h2
    · rw [Nat.mod_eq_of_lt h2] at e; omega
    · rw [Nat.mod_eq_sub_mod h2, Nat.mod_eq_of_lt (by omega)] at e; omega
  clear hT eT
  obtain ⟨W4, hW4⟩ : ∃ W4, W4 = z1.setCell ⟨gn, 2, none⟩ (.int .i64 (T : Nat)) := ⟨_, rfl⟩
  rw [← hW4]
  have hb4 : NBox W4 gn N r2 T none 0 0 := by rw [hW4]; exact bz.set2 _
  have ht4 : TpS W4 g ba bm bc bs := by rw [hW4]; exact t3.low (Below.setCell (Below.refl _ _) (by exact Nat.le_of_lt hgw) _) hlt HBY.out
  have hg4 : w.grownBy W4 (some g) := by rw [hW4]; exact grown_setOther (grown_trans' (HG3.out.1) (grown_trans' (grown_of_add (b_drew (Below.refl _ _))) g3)) (by omega) _ _
  have HR4 : Hid (NBox W4 w.heap.size 0 0 0 none 0 0) := Lib.hid (by rw [hW4]; exact (heap_setCell_other z1 ⟨gn, 2, none⟩ _ _ (by dsimp only; omega)).trans ((HR3.out.add (b_drew (Below.refl _ _))).kept g3 (by intro e; have := Option.some.inj e; omega)))
  have hs4 : W4.heap.size = gn + 1 := by rw [hW4]; simp; rw [s3]; simpa using hs3
  clear hW4 hk0 hk1 hk2 hf2 bz t3 g3 s3 hs3 c0 c1' HB3 HT3 HG3 W1 W2
  go_wp2_with fail
  refine (CN.out _ 14 ht4 (by decide) (by decide)).mono ?_
  rintro e w5 ⟨r4, rfl, b4, t5, g5, s5⟩
  obtain ⟨M, hM⟩ : ∃ M : Nat, M = 2 + r4 := ⟨_, rfl⟩
  have EM : Hid ((2 : Int) + (r4 : Int) = (M : Int)) := Lib.hid (by omega)
  have hM2 : 2 ≤ M := by omega
  have hM15 : M ≤ 15 := by omega
  have hb5 : NBox w5 gn N r2 T none 0 0 := hb4.kept g5 (by intro e; have := Option.some.inj e; omega)
  have hg5 : w.grownBy w5 (some g) := grown_trans' hg4 g5
  have hs5 : w5.heap.size = gn + 1 := by rw [s5]; exact hs4
  have HST : Hid (NetS w w5 g gn ba bm bc bs N r2 T []) := Lib.hid ⟨none, 0, hb5, World.ownsRow_nil _ _ _ _, t5, hg5, by omega, HR4.out.kept g5 (by intro e; have := Option.some.inj e; omega)⟩
  clear HR1 HR2 HR3 HR4 hM hb4 ht4 hg4 hs4 t5 g5 s5 hb5 hg5 hs5
  go_wp2_with fail
  rw [EM.out]
  go_wp2_with fail
  go_loopw [5] (fun i wr => ∃ (k : Nat) (A : List Arc), k ≤ M ∧ i = .int .i64 k ∧ Hid (NetS w wr g gn ba bm bc bs N r2 T A) ∧ Hid (A.length = k ∧ okArcs N A ∧ ∀ x ∈ A, x.2.2.1 ≤ 5 ∧ 0 ≤ x.2.2.2 ∧ x.2.2.2 ≤ 4)) (fun i _ => M - (intOf i).toNat)
  case atStart => exact ⟨0, [], Nat.zero_le _, rfl, HST, Lib.hid ⟨rfl, by simp [okArcs], by simp⟩⟩
  case round =>
    clear HST
    obtain ⟨k, A, hk, rfl, hst, hA⟩ := hrel
    obtain ⟨a, c, hb, hown, ht, hg, hsz, hrv⟩ := hst.out
    obtain ⟨l, hl⟩ : ∃ l, l = A.length := ⟨_, rfl⟩
    rw [← hl] at hb hown
    have HLK : Hid (l = k) := Lib.hid (hl.trans hA.out.1)
    have HL := Lib.hid hl
    clear hl
    have hl15 : l ≤ 15 := by have := HLK.out; omega
    by_cases hlt2 : k < M
    · have c0 := hb.c0
      have c3 := hb.c3
      have hA0 : Add wr wr.drew := b_drew (Below.refl _ _)
      have t0 := ht.add hA0
      have b0 := hb.add hA0
      have o0 : wr.drew.ownsRow (gn + 1) 35 4 (.slice a l c) l (cellsA A) := hown.drew
      have g0 := grown_trans' hg (grown_of_add hA0)
      have OWNB := Lib.hid (own_block' hown)
      have HNE : Hid ((Value.slice a l c).ownBlock = none ∨ (Value.slice a l c).ownBlock ≠ some g) := Lib.hid (by
        refine .inr fun e => ?_
        have := (OWNB.out g e).1
        omega)
      have T0 := Lib.hid t0
      have B0 := Lib.hid b0
      have O0 := Lib.hid o0
      have G0 := Lib.hid g0
      obtain ⟨i2, hi2, hq0, hq1, hq2⟩ := info_parts infoArc
      have HRV := Lib.hid (hrv.add hA0)
      clear t0 b0 o0 g0 hA0 hb hown ht hg hrv
      go_wp2_with fail
      go_region_law
        (first
          | (go_simp; go_at_call 23; ((with_reducible refine (CN.out _ ((N : Nat) : Int) T0.out (by omega) (by omega)).mono ?_); rintro e z1 ⟨x, rfl, bx, t1, q1, s1⟩; have S1 := Lib.hid s1; clear s1; have n1 := B0.out.kept q1 (by intro e; have := Option.some.inj e; omega); have k1 := n1.c3; have k10 := n1.c0; have o1 := O0.out.kept q1 HNE.out))
          | (go_simp; go_at_call 23; ((with_reducible refine (CN.out _ ((N : Nat) : Int) t1 (by omega) (by omega)).mono ?_); rintro e z2 ⟨y, rfl, bz, t2, q2, s2⟩; have S2 := Lib.hid s2; clear s2; have n2 := n1.kept q2 (by intro e; have := Option.some.inj e; omega); have k2 := n2.c3; have o2 := o1.kept q2 HNE.out))
          | (go_simp; go_at_call 23; ((with_reducible refine (CN.out _ 6 t2 (by omega) (by omega)).mono ?_); rintro e z3 ⟨cp, rfl, bc3, t3, q3, s3⟩; have S3 := Lib.hid s3; clear s3; have n3 := n2.kept q3 (by intro e; have := Option.some.inj e; omega); have k3 := n3.c3; have o3 := o2.kept q3 HNE.out))
          | (go_simp; go_at_call 23; ((with_reducible refine (CN.out _ 5 t3 (by omega) (by omega)).mono ?_); rintro e z4 ⟨co, rfl, bc4, t4, q4, s4⟩; have S4 := Lib.hid s4; clear s4; have n4 := n3.kept q4 (by intro e; have := Option.some.inj e; omega); have k4 := n4.c3; have l4 := n4.lt; have k5 := (n4.add (add_new z4 (.cells #[.int .i64 (x : Nat), .int .i64 (y : Nat), .int .i64 (cp : Nat), .int .i64 (co : Nat)] 35))).c3; have o4 := o3.kept q4 HNE.out))
          | (refine step_append_lies _ rfl _ _ 22 rfl (gn + 1) 35 i2 (.agg #[.int .i64 0, .int .i64 0, .int .i64 0, .int .i64 0]) 4 32 Try.underlying22 hi2 hq0 hq1 hq2 rfl (by decide) (.slice a l c) l (cellsA A) rfl (World.ownsRow.alloc o4 _) ⟨z4.heap.size, 0, none⟩ 1 1 [.int .i64 (x : Nat), .int .i64 (y : Nat), .int .i64 (cp : Nat), .int .i64 (co : Nat)] rfl rfl (World.news_of_block (heap_alloc_new z4 _)) (by intro u hu; simp at hu; rcases hu with rfl | rfl | rfl | rfl <;> rfl) (by decide) (by unfold maxLen; omega) (by omega) (by have h1 := S1.out; have h2 := S2.out; have h3 := S3.out; have h4 := S4.out; simp at h1 ⊢; omega) _ rfl ?_; intro g6 cap6 w6 hown6 hgr6 hat6 hlt6; have n6 := (n4.add (add_new z4 _)).kept hgr6 (by intro e; have := (OWNB.out gn e.symm).1; omega); have k6 := n6.c3; have f6 := frozen_of_row w6 gn 3 _ 24 n6))
      all_goals
        have hob : ∀ k, (Value.slice a l c).ownBlock = some k → gn + 1 ≤ k := fun k e => (OWNB.out k e).1
        have hneg : some w.heap.size ≠ some g := by intro e; have := Option.some.inj e; omega
        have hG4 := grown_trans' (grown_trans' (grown_trans' (grown_trans' G0.out q1) q2) q3) q4
        have hR4 := (((HRV.out.kept q1 hneg).kept q2 hneg).kept q3 hneg).kept q4 hneg
        have hpush := net_push t4 hG4 hR4 n6 hown6 hgr6 hob HL.out hgw hlt HBY.out
        have HP := Lib.hid hpush
        have HA2 : Hid ((A ++ [((x : Int), (y : Int), (cp : Int), (co : Int))]).length = k + 1 ∧ okArcs N (A ++ [((x : Int), (y : Int), (cp : Int), (co : Int))]) ∧ ∀ e ∈ A ++ [((x : Int), (y : Int), (cp : Int), (co : Int))], e.2.2.1 ≤ 5 ∧ 0 ≤ e.2.2.2 ∧ e.2.2.2 ≤ 4) := Lib.hid (by
          refine ⟨by rw [List.length_append, hA.out.1]; rfl, fun e he => ?_, fun e he => ?_⟩
          · rcases List.mem_append.1 he with he | he
            · exact hA.out.2.1 e he
            · obtain rfl : e = ((x : Int), (y : Int), (cp : Int), (co : Int)) := by simpa using he
              unfold okArc; dsimp only; omega
          · rcases List.mem_append.1 he with he | he
            · exact hA.out.2.2 e he
            · obtain rfl : e = ((x : Int), (y : Int), (cp : Int), (co : Int)) := by simpa using he
              dsimp only; omega)
        clear hpush hob hneg hG4 hR4 n1 n2 n3 n4 n6 k1 k2 k3 k4 k5 k6 f6 l4 t1 t2 t3 t4 q1 q2 q3 q4 o1 o2 o3 o4 hown6 hgr6 hat6 hlt6 hi2 hq0 hq1 hq2
        go_wp2_with fail
        go_roundw
        case rel => exact ⟨k + 1, _, by omega, by go_num, HP, HA2⟩
        case measure => simp [intOf]; omega
    · obtain rfl : k = M := by omega
      have c0 := hb.c0
      have c1 := hb.c1
      have c2 := hb.c2
      have c3 := hb.c3
      have r0 := hrv.c0
      have r1' := hrv.c1
      have r2' := hrv.c2
      have r3' := hrv.c3
      have f0 := frozen_of_row wr w.heap.size 0 _ 24 hrv
      have f1 := frozen_of_row wr w.heap.size 1 _ 24 hrv
      have f2 := frozen_of_row wr w.heap.size 2 _ 24 hrv
      have f3 := frozen_of_row wr w.heap.size 3 _ 24 hrv
      have hSM : Small N r2 T A := ⟨⟨hA.out.2.1, by omega, hTN, hTs, hN2, by omega, by rw [← HL.out, HLK.out]; omega⟩, hN7, by rw [← HL.out, HLK.out]; omega, by rw [← HL.out, HLK.out]; omega, hA.out.2.2⟩
      have HE := Lib.hid (net_end hown HL.out hg hgw hSM)
      have HQ := Lib.hid (nbox_put4 hrv (N : Nat) (r2 : Nat) (T : Nat) a l c)
      clear hSM hown hg ht
      go_wp2_with fail
      obtain ⟨W9, hW9⟩ : ∃ W9, W9 = put4 wr w.heap.size (N : Nat) (r2 : Nat) (T : Nat) (.slice a l c) := ⟨_, rfl⟩
      rw [← hW9] at HE HQ
      unfold put4 at hW9
      rw [← hW9]
      have y0 := HQ.out.c0
      have y1 := HQ.out.c1
      have y2 := HQ.out.c2
      have y3 := HQ.out.c3
      clear hW9 HQ c0 c1 c2 c3 r0 r1' r2' r3' f0 f1 f2 f3 hrv hb
      exact bodyPost_ret (v := .agg #[.int .i64 (N : Nat), .int .i64 (r2 : Nat), .int .i64 (T : Nat), .slice a l c]) (by simp [results, Try.results21, go_sem, y0, y1, y2, y3]) rfl HE.out
end Go.Proofs.Ytaoibakbnimnkaa
