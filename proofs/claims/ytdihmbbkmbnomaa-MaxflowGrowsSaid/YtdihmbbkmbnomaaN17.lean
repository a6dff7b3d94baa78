/- The law MaxflowGrows: the walk. -/
import Derived.Test.YtdihmbbkmbnomaaN16
namespace Go.Proofs.Ytdihmbbkmbnomaa
open Go.RowKit NetM

set_option maxRecDepth 100000 in
set_option maxHeartbeats 4000000 in
theorem grows_any {w : World} {v : Value} {bs : List Nat} (h : RdU w v bs) (hb : ∀ x ∈ bs, x < 256) (n : Nat) (hn : n < 256) : Calls Try.prog 7 #[v, .int .u8 (n : Nat)] w (LawB w) := by
  have CT := Lib.hid (new_any h hb)
  have CN : Hid (∀ W g, Tp W g → Calls Try.prog 22 #[.pointer (some ⟨g, 0, none⟩)] W (NetworkP W g)) := Lib.hid fun W g h => network_any h
  have CA : Hid (∀ W, Calls Try.prog 10 #[] W (LawB W)) := Lib.hid awake_any
  have CS : Hid (∀ W v (N s t : Nat) A, NetA W v N s t A → VNet N s t A → Calls Try.prog 20 #[v] W (SolvedP W N s t A)) := Lib.hid fun W v N s t A h1 h2 => solved_any h1 h2
  clear h hb
  go_enter Try.func7, Try.ntmps7
  go_wp2_with fail
  refine CT.out.mono ?_
  rintro e w1 ⟨g, rfl, ht, h1, hg⟩
  have HT := Lib.hid ht
  have H1 := Lib.hid h1
  have HG := Lib.hid hg
  clear ht h1 hg
  go_wp2_with fail
  refine (CN.out _ _ HT.out).mono ?_
  intro e w2 hnet
  obtain ⟨vn, N, s, t, A, rfl, hA, hsm, h2⟩ := made_of H1.out HG.out hnet
  obtain ⟨va, rfl, ha⟩ := id hA
  obtain ⟨a, l, c, rfl, hl, hlc, hcm, -⟩ := id ha
  obtain ⟨b0, off0, rfl, -⟩ := ha.cell (k := 0) (by have := hsm.2.2; omega)
  unfold maxLen at hcm
  have HSM := Lib.hid hsm
  have HL := Lib.hid hl
  have HAR := Lib.hid ha
  have H2 := Lib.hid h2
  obtain ⟨g1, hg1⟩ : ∃ g1, g1 = w2.heap.size := ⟨_, rfl⟩
  obtain ⟨W3, hW3⟩ : ∃ W3, W3 = w2.alloc (.cells #[.int .i64 (N : Nat), .int .i64 (s : Nat), .int .i64 (t : Nat), .slice (some ⟨b0, off0, none⟩) l c] 24) := ⟨_, rfl⟩
  have hb3 : NBox W3 g1 N s t (some ⟨b0, off0, none⟩) l c := by rw [hW3, hg1]; exact nbox_new w2 N s t _ l c
  have hT3 : Add w2 W3 := by rw [hW3]; exact add_new _ _
  have hl2 : 2 ≤ l ∧ l ≤ 15 := by have := hsm.2.2; omega
  obtain ⟨hl2, hl15⟩ := hl2
  have hg1w : w2.heap.size ≤ g1 := by omega
  obtain ⟨j, hj⟩ : ∃ j, j = n % l := ⟨_, rfl⟩
  have EJ : Hid ((n : Int) % (l : Int) = (j : Int)) := Lib.hid (by rw [hj]; simp)
  have hjl : j < l := by rw [hj]; exact Nat.mod_lt _ (by omega)
  have HN3 : Hid (NetA W3 (.agg #[.int .i64 (N : Nat), .int .i64 (s : Nat), .int .i64 (t : Nat), .slice (some ⟨b0, off0, none⟩) l c]) N s t A) := Lib.hid (hA.add hT3)
  have c0 := hb3.c0
  have c1 := hb3.c1
  have c2 := hb3.c2
  have c3 := hb3.c3
  have HB3 := Lib.hid hb3
  have HT3 := Lib.hid hT3
  clear hA ha hsm hnet h2 HT H1 HG CT CN hl hj hb3 hT3
  go_upto_region 2 with fail
  rw [← hW3, ← hg1]
  clear hW3 hg1
  go_upto_region 3 with fail
  rw [EJ.out]
  go_wp2_with fail
  refine (CS.out _ _ _ _ _ _ HN3.out HSM.out.1).mono ?_
  rintro e w4 ⟨x, rfl, hopt, h4⟩
  have hb4 := HB3.out.add h4
  have c0' := hb4.c0
  have c1' := hb4.c1
  have c2' := hb4.c2
  have c3' := hb4.c3
  have hT4 := Add.trans HT3.out h4
  have HO := Lib.hid hopt
  obtain ⟨g2, hg2⟩ : ∃ g2, g2 = w4.heap.size := ⟨_, rfl⟩
  obtain ⟨W5, hW5⟩ : ∃ W5, W5 = w4.alloc (.cells #[.int .i64 (N : Nat), .int .i64 (s : Nat), .int .i64 (t : Nat), .slice (some ⟨b0, off0, none⟩) l c] 24) := ⟨_, rfl⟩
  have hb5 : NBox W5 g2 N s t (some ⟨b0, off0, none⟩) l c := by rw [hW5, hg2]; exact nbox_new w4 N s t _ l c
  have hb51 : NBox W5 g1 N s t (some ⟨b0, off0, none⟩) l c := by rw [hW5]; exact hb4.add (add_new _ _)
  have hT5 : Add w2 W5 := by rw [hW5]; exact Add.trans hT4 (add_new _ _)
  have hz5 : W5.heap.size = g2 + 1 := by rw [hW5, hg2]; simp
  have h12 : g1 < g2 := by have := hb4.lt; omega
  have hN4 : Hid (NBox w4 g1 N s t (some ⟨b0, off0, none⟩) l c) := Lib.hid hb4
  obtain ⟨g6, c6, w7, hrun, hn7, hG8⟩ := grow_copy HAR.out HL.out hl2 hl15 hb51 hb5 hT5 hz5 h12 hg1w
  rw [← hz5] at hrun
  have HR := Lib.hid hrun
  have HG8 := Lib.hid hG8
  have k3 := hb51.c3
  have l5 := hb51.lt
  have m3 := hn7.c3
  have mf := frozen_of_row w7 g2 3 _ 24 hn7
  have HZ5 := Lib.hid hz5
  clear c0 c1 c2 c3 h4 hopt hb4 hT4 hb5 hb51 hT5 hz5 hrun hn7 hG8
  go_upto_region 5 with fail
  rw [← hW5, ← hg2]
  clear hW5 hg2 c0' c1' c2' c3'
  go_upto_region 6 with (at_builtin; refine Lib.wpList_append_run _ rfl _ _ _ _ rfl _ _ rfl rfl _ _ HR.out ?_)
  obtain ⟨W8, hW8⟩ : ∃ W8, W8 = w7.setCell ⟨g2, 3, none⟩ (.slice (some ⟨g6, 0, none⟩) l c6) := ⟨_, rfl⟩
  rw [← hW8] at HG8 ⊢
  clear hW8 HR m3 mf k3
  obtain ⟨⟨px, py, z, pu⟩, hp⟩ : ∃ q, at' A j = q := ⟨_, rfl⟩
  obtain ⟨q1, f1⟩ := HG8.out.cell (j := j) (by rw [HL.out]; exact hjl)
  rw [hp] at q1
  dsimp only at q1
  have m3 := HG8.out.1.c3
  rw [HL.out] at m3
  have hz : 0 ≤ z ∧ z ≤ 5 := by
    have h1 := okArcs_at HSM.out.1.1 (i := j) (by rw [HL.out]; exact hjl)
    have h2 := HSM.out.2.2.2.2 _ (at_mem (A := A) (k := j) (by rw [HL.out]; exact hjl))
    rw [hp] at h1 h2
    unfold okArc at h1
    dsimp only at h1 h2
    omega
  obtain ⟨hz0, hz5⟩ := hz
  have hG9 := HG8.out.raise (j := j) (by rw [HL.out]; exact hjl) h12 hg1w (z + 1)
  have HP := Lib.hid hp
  have HG9 := Lib.hid hG9
  clear hG9 hp
  go_upto_region 7 with fail
  obtain ⟨W9, hW9⟩ : ∃ W9, W9 = W8.setCell ⟨g6, j * 4 + 2, none⟩ (.int .i64 (z + 1)) := ⟨_, rfl⟩
  rw [← hW9] at HG9 ⊢
  clear hW9 q1 f1 m3
  have hlB : (A.set j ((at' A j).1, (at' A j).2.1, z + 1, (at' A j).2.2.2)).length = l := by rw [List.length_set, HL.out]
  obtain ⟨n0, no, n1, t9⟩ := HG9.out
  have hArc := arcs_own no
  rw [hlB] at n0 hArc
  have hV2 : VNet N s t (A.set j ((at' A j).1, (at' A j).2.1, z + 1, (at' A j).2.2.2)) := by
    obtain ⟨k1, k2, k3, k4, k5, k6, k7⟩ := HSM.out.1
    refine ⟨fun e he => ?_, k2, k3, k4, k5, k6, by rw [List.length_set]; exact k7⟩
    rcases List.mem_or_eq_of_mem_set he with he | rfl
    · exact k1 e he
    · have := okArcs_at k1 (i := j) (by rw [HL.out]; exact hjl)
      unfold okArc at this ⊢; dsimp only; omega
  have CM := Lib.hid (CS.out W9 (.agg #[.int .i64 (N : Nat), .int .i64 (s : Nat), .int .i64 (t : Nat), .slice (some ⟨g6, 0, none⟩) l c6]) N s t _ ⟨_, rfl, hArc⟩ hV2)
  have c0 := n0.c0
  have c1 := n0.c1
  have c2 := n0.c2
  have c3 := n0.c3
  have HN0 := Lib.hid n0
  have HN1 := Lib.hid n1
  have HT9 := Lib.hid t9
  clear n0 no n1 t9 hArc hV2 hlB
  go_wp2_with fail
  refine CM.out.mono ?_
  rintro e w10 ⟨y, rfl, hopt2, h10⟩
  have HO2 := Lib.hid hopt2
  have hb10 := HN0.out.add h10
  have hb11 := HN1.out.add h10
  have HT10 := Lib.hid (Add.trans HT9.out h10)
  have HO3 : Hid (x ≤ y ∧ y ≤ x + 1) := Lib.hid (HO.out.more (by rw [HL.out]; exact hjl) HSM.out.1.2.1 HSM.out.1.1 (by rw [HP.out]; dsimp only; omega) (by
    have := hopt2
    rw [HP.out] at this ⊢
    exact this))
  have k3 := hb11.c3
  have m3 := hb10.c3
  have mf := frozen_of_row w10 g2 3 _ 24 hb10
  obtain ⟨so, hso⟩ : ∃ so, (if c = j + 1 then some (⟨b0, off0, none⟩ : Addr) else some ⟨b0, off0 + (j + 1) * 4, none⟩) = so := ⟨_, rfl⟩
  obtain ⟨a7, c7, w11, a9, c9, w12, r1, r2, y1, y2, y3, y4, y5⟩ := grow_cut HAR.out HL.out hjl hl15 hb11 hb10 HT10.out h12 hg1w hso
  have R1 := Lib.hid r1
  have R2 := Lib.hid r2
  have Y1 := Lib.hid y1
  have Y2 := Lib.hid y2
  have Y3 := Lib.hid y3
  have Y4 := Lib.hid y4
  have Y5 := Lib.hid y5
  have m12 := y3.c3
  have mf12 := frozen_of_row w12 g2 3 _ 24 y3
  have l10 := hb11.lt
  have x11 := y1.c3
  have x12 := y2.c3
  have y6 : NBox (w12.setCell ⟨g2, 3, none⟩ (.slice a9 (l - 1) c9)) g1 N s t (some ⟨b0, off0, none⟩) l c := (heap_setCell_other w12 ⟨g2, 3, none⟩ g1 _ (by dsimp only; omega)).trans y2
  have y7 : NBox (w12.setCell ⟨g2, 3, none⟩ (.slice a9 (l - 1) c9)) g2 N s t a9 (l - 1) c9 := y3.set3 _ _ _
  have x13 := y6.c3
  have Y6 := Lib.hid y6
  have Y7 := Lib.hid y7
  have i1 : (0 : Int) ≤ (j : Int) := by omega
  have i2 : (j : Int) ≤ (c : Int) := by omega
  have i3 : (j : Int) + 1 ≤ (l : Int) := by omega
  have i4 : (l : Int) ≤ (c : Int) := by omega
  have i5 : (0 : Int) ≤ (j : Int) + 1 := by omega
  have i6 : (j : Int) + 1 ≤ (c : Int) := by omega
  have wj : IntKind.i64.wrap ((j : Int) + 1) = (j : Int) + 1 := IntWalk.i64_in _ (by omega)
  clear c0 c1 c2 c3 hopt2 h10 r1 r2 y1 y2 y3 y4 y5 y6 y7 hb10 hb11 m3 mf
  go_upto_region 8 with fail
  go_region_held3 (fun w' => w'.cell? ⟨g1, 3, none⟩ = some (.slice (some ⟨b0, off0, none⟩) l c))
    (first | exact x11 | exact x12 | exact x13 | go_keep)
    (first | (refine step_append_run rfl _ _ _ rfl _ _ rfl rfl _ _ R1.out ?_) | (refine step_append_run rfl _ _ _ rfl _ _ rfl rfl _ _ R2.out ?_))
  all_goals
    obtain ⟨W13, hW13⟩ : ∃ W13, W13 = w12.setCell ⟨g2, 3, none⟩ (.slice a9 (l - 1) c9) := ⟨_, rfl⟩
    rw [← hW13] at Y4 Y5 Y6 Y7 ⊢
    clear hW13 x11 x12 x13 m12 mf12 k3 R1 R2 Y1 Y2 Y3
    have hV3 : VNet N s t (A.take j ++ A.drop (j + 1)) := by
      obtain ⟨k1, k2, k3, k4, k5, k6, k7⟩ := HSM.out.1
      refine ⟨fun e he => ?_, k2, k3, k4, k5, k6, ?_⟩
      · rcases List.mem_append.1 he with he | he
        · exact k1 e (List.mem_of_mem_take he)
        · exact k1 e (List.mem_of_mem_drop he)
      · rw [List.length_append, List.length_take, List.length_drop]; omega
    have HV3 := Lib.hid hV3
    have CQ := Lib.hid (CS.out W13 (.agg #[.int .i64 (N : Nat), .int .i64 (s : Nat), .int .i64 (t : Nat), .slice a9 (l - 1) c9]) N s t _ ⟨_, rfl, Y4.out⟩ hV3)
    have c0 := Y7.out.c0
    have c1 := Y7.out.c1
    have c2 := Y7.out.c2
    have c3 := Y7.out.c3
    clear hV3
    go_upto_region 9 with fail
    go_wp2_with fail
    refine CQ.out.mono ?_
    rintro e w14 ⟨uu, rfl, hopt3, h14⟩
    obtain ⟨o1, o2⟩ := HO3.out
    obtain ⟨o3, o4⟩ := HO.out.less (by rw [HL.out]; exact hjl) HSM.out.1.2.1 HSM.out.1.1 hopt3
    rw [HP.out] at o4
    dsimp only at o4
    obtain ⟨hbig1, hbig2⟩ := NetM_Opt_big HO.out HSM.out.1
    obtain ⟨hbu1, hbu2⟩ := NetM_Opt_big hopt3 HV3.out
    have T14 := Lib.hid (Add.trans H2.out (Add.trans Y5.out h14))
    have k3 := (Y6.out.add h14).c3
    obtain ⟨b2, off2, e2, z0, z1, z2, z3⟩ := (HAR.out.add (Add.trans Y5.out h14)).cell (k := j) hjl
    simp only [Option.some.injEq, Addr.mk.injEq, and_true] at e2
    obtain ⟨rfl, rfl⟩ := e2
    rw [HP.out] at z2
    dsimp only at z2
    clear hopt3 h14 c0 c1 c2 c3 z0 z1 z3
    have d3 : decide (uu ≤ x) = true := decide_eq_true o3
    have d4 : decide (x ≤ uu + z) = true := decide_eq_true o4
    have hcase : (y == x) = true ∨ ((y == x) = false ∧ (y == x + 1) = true) := by
      by_cases hyx : y = x
      · exact .inl (by simpa using hyx)
      · have h2 : y = x + 1 := by omega
        exact .inr ⟨by simpa using hyx, by simpa using h2⟩
    clear o1 o2
    rcases hcase with d1 | ⟨d1, d2⟩
    all_goals
      go_wp2_with fail
      refine (CA.out _).mono ?_
      rintro e w15 ⟨rfl, h15⟩
      have HE : Hid (LawB w (.returned (.bool true)) w15) := Lib.hid ⟨rfl, Add.trans T14.out h15⟩
      clear h15
      go_wp2_with fail
      go_ret
      exact HE.out
end Go.Proofs.Ytdihmbbkmbnomaa
