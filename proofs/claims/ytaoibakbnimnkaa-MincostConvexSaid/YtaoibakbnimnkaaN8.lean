/- The reference of layer 12: reach. -/
import Derived.Test.YtaoibakbnimnkaaN7
import Derived.Deep.LoopGhost
import Derived.Deep.Cut
import Derived.Deep.CutRange
namespace Go.Proofs.Ytaoibakbnimnkaa
open Go.RowKit NetM

theorem make_run {e t : TypeId} {i : TypeInfo} {z : Value} {b : Nat} (ht : Try.prog.underlying t = some (.slice e)) (hi : Try.prog.info? e = some i) (hz : i.zero = some z) (hs : i.size = 1) (hb : i.bytes = b) (hzc : z.cells = #[z]) (hb8 : b ≤ 8) (N : Nat) (hN : N ≤ 700) (w : World) :
    (Instr.makeSlice t (.int .i64 (N : Int)) (.int .i64 (N : Int))).run Try.prog w = .ok (.slice (some ⟨w.heap.size, 0, none⟩) N N) (w.alloc (.cells (List.replicate N z).toArray e)) := by
  have hr := run_make (P := Try.prog) w t e i z ht hi hz .i64 .i64 N N (by omega) (Int.le_refl _) (by rw [hb]; have : (b : Int) * (N : Int) ≤ 8 * 700 := Int.mul_le_mul (by omega) (by omega) (by omega) (by omega); omega) (by omega)
  simp only [Int.toNat_natCast] at hr
  rw [hr, hzc, hs, Nat.mul_one]
  have : madeCells #[z] N = (List.replicate N z).toArray := by rw [← toList_madeCells_one]
  rw [this]
/-- Both lists are laid. -/
def Made (w0 w : World) (N s t : Nat) (a : Option Addr) (m c gs gb : Nat) : Prop :=
  BBlk w gs (List.replicate N false) ∧ IBlk w gb (List.replicate N 0) ∧ NBox w w0.heap.size N s t a m c ∧ Add w0 w ∧ w0.heap.size < gs ∧ w0.heap.size < gb ∧ gs ≠ gb
theorem made_a {w : World} {N s t : Nat} {a : Option Addr} {m c : Nat} {ZB ZI : Array Value} (hB : ZB = ((List.replicate N false).map bv).toArray) (hI : ZI = ((List.replicate N (0 : Int)).map iv).toArray) :
    Made w (World.drew (((w.alloc (.cells #[.int .i64 N, .int .i64 s, .int .i64 t, .slice a m c] 24)).alloc (.cells ZB 4)).alloc (.cells ZI 3))) N s t a m c (w.heap.size + 1) (w.heap.size + 1 + 1) := by
  subst hB hI
  have e1 : (w.alloc (.cells #[.int .i64 N, .int .i64 s, .int .i64 t, .slice a m c] 24)).heap.size = w.heap.size + 1 := by simp
  have A1 := add_new w (.cells #[.int .i64 N, .int .i64 s, .int .i64 t, .slice a m c] 24)
  have H1 := heap_alloc_new (w.alloc (.cells #[.int .i64 N, .int .i64 s, .int .i64 t, .slice a m c] 24)) (.cells ((List.replicate N false).map bv).toArray 4)
  rw [e1] at H1
  have B1 : BBlk _ _ _ := H1
  have A2 := add_new (w.alloc (.cells #[.int .i64 N, .int .i64 s, .int .i64 t, .slice a m c] 24)) (.cells ((List.replicate N false).map bv).toArray 4)
  have H2 := heap_alloc_new ((w.alloc (.cells #[.int .i64 N, .int .i64 s, .int .i64 t, .slice a m c] 24)).alloc (.cells ((List.replicate N false).map bv).toArray 4)) (.cells ((List.replicate N (0 : Int)).map iv).toArray 3)
  have e2 : ((w.alloc (.cells #[.int .i64 N, .int .i64 s, .int .i64 t, .slice a m c] 24)).alloc (.cells ((List.replicate N false).map bv).toArray 4)).heap.size = w.heap.size + 1 + 1 := by simp
  rw [e2] at H2
  have A3 := add_new ((w.alloc (.cells #[.int .i64 N, .int .i64 s, .int .i64 t, .slice a m c] 24)).alloc (.cells ((List.replicate N false).map bv).toArray 4)) (.cells ((List.replicate N (0 : Int)).map iv).toArray 3)
  exact ⟨Blk.add (Blk.add B1 A3) (b_drew (Below.refl _ _)), H2, ((nbox_new w N s t a m c).add (Add.trans A2 A3)).add (b_drew (Below.refl _ _)), b_drew (Add.trans A1 (Add.trans A2 A3)), by omega, by omega, by omega⟩
theorem made_b {w : World} {N s t : Nat} {a : Option Addr} {m c : Nat} {ZB ZI : Array Value} (hB : ZB = ((List.replicate N false).map bv).toArray) (hI : ZI = ((List.replicate N (0 : Int)).map iv).toArray) :
    Made w (World.drew (((w.alloc (.cells #[.int .i64 N, .int .i64 s, .int .i64 t, .slice a m c] 24)).alloc (.cells ZI 3)).alloc (.cells ZB 4))) N s t a m c (w.heap.size + 1 + 1) (w.heap.size + 1) := by
  subst hB hI
  have e1 : (w.alloc (.cells #[.int .i64 N, .int .i64 s, .int .i64 t, .slice a m c] 24)).heap.size = w.heap.size + 1 := by simp
  have A1 := add_new w (.cells #[.int .i64 N, .int .i64 s, .int .i64 t, .slice a m c] 24)
  have H1 := heap_alloc_new (w.alloc (.cells #[.int .i64 N, .int .i64 s, .int .i64 t, .slice a m c] 24)) (.cells ((List.replicate N (0 : Int)).map iv).toArray 3)
  rw [e1] at H1
  have B1 : IBlk _ _ _ := H1
  have A2 := add_new (w.alloc (.cells #[.int .i64 N, .int .i64 s, .int .i64 t, .slice a m c] 24)) (.cells ((List.replicate N (0 : Int)).map iv).toArray 3)
  have H2 := heap_alloc_new ((w.alloc (.cells #[.int .i64 N, .int .i64 s, .int .i64 t, .slice a m c] 24)).alloc (.cells ((List.replicate N (0 : Int)).map iv).toArray 3)) (.cells ((List.replicate N false).map bv).toArray 4)
  have e2 : ((w.alloc (.cells #[.int .i64 N, .int .i64 s, .int .i64 t, .slice a m c] 24)).alloc (.cells ((List.replicate N (0 : Int)).map iv).toArray 3)).heap.size = w.heap.size + 1 + 1 := by simp
  rw [e2] at H2
  have A3 := add_new ((w.alloc (.cells #[.int .i64 N, .int .i64 s, .int .i64 t, .slice a m c] 24)).alloc (.cells ((List.replicate N (0 : Int)).map iv).toArray 3)) (.cells ((List.replicate N false).map bv).toArray 4)
  exact ⟨H2, Blk.add (Blk.add B1 A3) (b_drew (Below.refl _ _)), ((nbox_new w N s t a m c).add (Add.trans A2 A3)).add (b_drew (Below.refl _ _)), b_drew (Add.trans A1 (Add.trans A2 A3)), by omega, by omega, by omega⟩
theorem rs_start {w0 w : World} {N s t : Nat} {a : Option Addr} {m c gs gb : Nat} (h : Made w0 w N s t a m c gs gb) (x : Nat) :
    RS w0 ((w.setCell ⟨gs, x, none⟩ (.bool true)).alloc (.cells #[.int .i64 (x : Nat)] 3)) N s t a m c gs gb ((List.replicate N false).set x true) (List.replicate N 0) [x] (.slice (some ⟨w.heap.size, 0, none⟩) 1 1) := by
  obtain ⟨h1, h2, h3, h4, h5, h6, h7⟩ := h
  have e : (w.setCell ⟨gs, x, none⟩ (.bool true)).heap.size = w.heap.size := by simp
  have hA := add_new (w.setCell ⟨gs, x, none⟩ (.bool true)) (.cells #[.int .i64 (x : Nat)] 3)
  have hz := h4.size
  have l1 := Blk.lt h1
  have l2 := Blk.lt h2
  have hq := Que.start (w.setCell ⟨gs, x, none⟩ (.bool true)) 3 (natv x) (base := w0.heap.size + 1) (by rw [e]; have := h3.lt; omega)
  rw [e] at hq
  refine ⟨w.heap.size, 0, hq, Blk.add (BBlk.put h1 x true) hA, Blk.add (Blk.other h2 (Ne.symm h7) _ _) hA, ?_, Add.trans (add_setLow h4 (Nat.le_of_lt h5) x _) hA, by omega, by omega⟩
  refine NBox.add ?_ hA
  exact (heap_setCell_other _ ⟨gs, x, none⟩ _ _ (by dsimp only; omega)).trans h3
set_option maxRecDepth 100000 in
set_option maxHeartbeats 4000000 in
theorem refReach_any {w : World} {v vf : Value} {N s t : Nat} {A : List Arc} {F : List Int} (h : NetA w v N s t A) (hv : VNet N s t A) (hf : RdI w vf F) (hw : Hid (within A F)) :
    Calls Try.prog 39 #[v, vf] w (ReachP w N s A F) := by
  obtain ⟨i0, hi0, hz0, hs0, hb0⟩ := info_parts infoInt
  obtain ⟨i1, hi1, hz1, hs1, hb1⟩ := info_parts infoBool
  obtain ⟨va, rfl, ha⟩ := h
  obtain ⟨a, m, c, rfl, hl, hc, hm, -⟩ := id ha
  obtain ⟨fa, fc, rfl, hfc, hfm, -⟩ := hf.open
  have HV := Lib.hid hv
  have HA := Lib.hid ha
  have HL := Lib.hid hl
  obtain ⟨-, hs, ht, hst, hN, hN2, hm2⟩ := hv
  have hfl := NetM.within_length hw.out
  rw [hl] at hm2 hfl
  rw [hfl] at hf hfc ⊢
  have HF := Lib.hid hf
  have HFL := Lib.hid hfl
  unfold maxLen at hm hfm
  clear hl ha hf hfl
  have mkB := fun w => make_run (e := 4) (t := 46) (z := .bool false) Try.underlying46 hi1 hz1 hs1 hb1 rfl (by decide) N hN2 w
  have mkI := fun w => make_run (e := 3) (t := 25) (z := .int .i64 0) Try.underlying25 hi0 hz0 hs0 hb0 rfl (by decide) N hN2 w
  obtain ⟨ZB, hZB⟩ : ∃ Z, Z = (List.replicate N (Value.bool false)).toArray := ⟨_, rfl⟩
  obtain ⟨ZI, hZI⟩ : ∃ Z, Z = (List.replicate N (Value.int .i64 0)).toArray := ⟨_, rfl⟩
  rw [← hZB] at mkB
  rw [← hZI] at mkI
  have HZB : Hid (ZB = ((List.replicate N false).map bv).toArray) := Lib.hid (by rw [hZB, List.map_replicate]; rfl)
  have HZI : Hid (ZI = ((List.replicate N (0 : Int)).map iv).toArray) := Lib.hid (by rw [hZI, List.map_replicate]; rfl)
  clear hZB hZI hi0 hz0 hs0 hb0 hi1 hz1 hs1 hb1
  have HB1 := Lib.hid (nbox_new w N s t a m c)
  go_enter Try.func39, Try.ntmps39
  go_wp2_with fail
  go_cut [6, 7] from 12 (fun p q wx => ∃ gs gb, p = .slice (some ⟨gs, 0, none⟩) N N ∧ q = .slice (some ⟨gb, 0, none⟩) N N ∧ Made w wx N s t a m c gs gb)
  case first =>
    go_region
    all_goals go_wp2_with fail
    all_goals go_meet
    all_goals first | exact ⟨_, _, rfl, rfl, made_a HZB.out HZI.out⟩ | exact ⟨_, _, rfl, rfl, made_b HZB.out HZI.out⟩
  case rest =>
    obtain ⟨gs, gb, rfl, rfl, hmade⟩ := hcut
    clear mkB mkI HZB HZI HB1
    have hb0 := hmade.2.2.1
    have b0 := hb0.c1
    have b1 := hb0.c3
    have c1 := BBlk.get hmade.1 s (by simpa using hs)
    have f1 := Blk.free hmade.1 s
    have hlt0 := hb0.lt
    have g1 := Blk.lt hmade.1
    have g2 := Blk.lt hmade.2.1
    have g3 := hmade.2.2.2.2.1
    have g4 := hmade.2.2.2.2.2.1
    have g5 := hmade.2.2.2.2.2.2
    have HM := Lib.hid hmade
    clear hb0 hmade
    go_wp2_with fail
    have hst0 : RS w ((wc.setCell ⟨gs, s, none⟩ (.bool true)).alloc (.cells #[.int .i64 (s : Nat)] 3)) N s t a m c gs gb ((List.replicate N false).set s true) (List.replicate N 0) [s] (.slice (some ⟨wc.heap.size, 0, none⟩) 1 1) := rs_start HM.out s
    have HS0 := Lib.hid hst0
    clear hst0 b0 b1 c1 f1
    go_loopg [8] N (fun k tv wr => ∃ S Y Q p, Hid (RS w wr N s t a m c gs gb S Y Q tv) ∧ Hid (Bfs A F N s S Y Q p) ∧ Hid (∃ x0, Closed A F N S Q x0 A.length) ∧ p + k = N)
    case atStart => exact ⟨_, _, _, 0, HS0, Lib.hid (Bfs.start hs), Lib.hid ⟨0, Closed.start hs⟩, by omega⟩
    case round =>
      obtain ⟨S, Y, Q, p, hRS, hbfs, hcl, hpk⟩ := hrel
      clear HS0 HM g1 g2
      cases Q with
      | nil =>
        obtain ⟨gq, off, hq, hS, hY, hB, hadd, k6, k7⟩ := hRS.out
        obtain ⟨cap, cur, rfl, -⟩ := hq
        have HF : Hid (ReachP w N s A F (.returned (.tuple #[.slice (some ⟨gs, 0, none⟩) N N, .slice (some ⟨gb, 0, none⟩) N N])) wr) := Lib.hid ⟨gs, gb, S, Y, rfl, hS, hY, ⟨hbfs.out.1, hbfs.out.2.1, hbfs.out.2.2.1, hbfs.out.2.2.2.2.2, hcl.out⟩, hadd, Nat.le_of_lt g3, Nat.le_of_lt g4, g5⟩
        clear hS hY hB hadd hRS hbfs hcl
        go_wp2_with fail
        go_ret2
        exact HF.out
      | cons x Q =>
        obtain ⟨gq, off, hq, hS, hY, hB, hadd, k6, k7⟩ := id hRS.out
        have hhead := hq.head
        have hqlt := hq.lt
        obtain ⟨cap, cur, rfl, -, -, hcap, hcapm, -⟩ := id hq
        rw [List.map_cons, List.length_cons, List.length_map] at hcap
        have e1 : ((x :: Q).map natv).length = Q.length + 1 := by simp
        rw [e1] at hq hRS ⊢
        obtain ⟨so, hso⟩ : ∃ so, (if cap = 1 then some (⟨gq, off, none⟩ : Addr) else some ⟨gq, off + 1, none⟩) = so := ⟨_, rfl⟩
        have hh : wr.cell? ⟨gq, off, none⟩ = some (.int .i64 (x : Nat)) := hhead
        unfold maxLen at hcapm
        clear e1 hhead hS hY hadd
        have HQ := Lib.hid hq
        have b3 := hB.c3
        clear hq hB
        go_wp2_with fail
        have hRS1 : ∃ off', Que wr (w.heap.size + 1) gq off' 3 (.slice so Q.length (cap - 1)) (Q.map natv) := by
          have := Que.pop HQ.out hso.symm
          simpa using this
        obtain ⟨off', hq1⟩ := hRS1
        obtain ⟨gq0, off0, j1, j2, j3, j4, j5, j6, j7⟩ := hRS.out
        have HR1 : Hid (RS w wr N s t a m c gs gb S Y Q (.slice so Q.length (cap - 1))) := Lib.hid ⟨gq, off', hq1, j2, j3, j4, j5, k6, k7⟩
        obtain ⟨q1, hxN, hxS, hpN⟩ := hbfs.out.pop
        have HB1 := Lib.hid q1
        have HC1 : Hid (Closed A F N S Q x 0) := Lib.hid hcl.out.choose_spec.pop
        have HX1 := Lib.hid hxS
        clear hq1 j1 j2 j3 j4 j5 j6 j7 q1 hxS hso hh HQ b3 hRS hbfs hcl hqlt k6 k7 hcap hcapm
        obtain ⟨wm, rfl⟩ : ∃ wm : World, wm = wr := ⟨_, rfl⟩
        go_loopw [8, 10] (fun tv i wr => ∃ (S : List Bool) (Y : List Int) (Q : List Nat) (k : Nat), k ≤ m ∧ i = .int .i64 k ∧ Hid (RS w wr N s t a m c gs gb S Y Q tv) ∧ Hid (Bfs A F N s S Y Q (p + 1)) ∧ Hid (Closed A F N S Q x k) ∧ Hid (getB S x = true)) (fun _ i _ => m - (intOf i).toNat)
        case atStart => exact ⟨S, Y, Q, 0, Nat.zero_le _, rfl, HR1, HB1, HC1, HX1⟩
        case round =>
          clear HR1 HB1 HC1 HX1
          obtain ⟨S, Y, Q, k, hk, rfl, hRS, hbfs, hcl, hxS⟩ := hrel
          obtain ⟨gq, off, hq, hS, hY, hB, hadd, k6, k7⟩ := id hRS.out
          obtain ⟨capq, curq, rfl, -⟩ := id hq
          have eq : (Q.map natv).length = Q.length := by simp
          rw [eq] at hRS hq ⊢
          clear eq
          have b3 := hB.c3
          have hsz := hB.lt
          have l1 := Blk.lt hS
          have l2 := Blk.lt hY
          have HADD := Lib.hid hadd
          by_cases hlt : k < m
          · obtain ⟨b, off1, rfl, r0, r1, r2, r3⟩ := (HA.out.add hadd).cell hlt
            obtain ⟨b', off', rfl, q4'⟩ := RdI.cell HF.out hlt
            have hbw : b' < w.heap.size := World.block_lt_of_cell? _ _ q4'
            have q4 := (hadd.cell (p := ⟨b', off' + k, none⟩) hbw).trans q4'
            obtain ⟨fx, ty, z, u, hx, hfN, hyN, hz0, hz1⟩ := HV.out.at (k := k) (by rw [HL.out]; exact hlt)
            rw [hx] at r0 r1 r2 r3
            dsimp only at r0 r1 r2 r3
            obtain ⟨f, hf⟩ : ∃ f, F.getD k 0 = f := ⟨_, rfl⟩
            rw [hf] at q4 q4'
            have Q4 := Lib.hid q4'
            have hSl : S.length = N := hbfs.out.1
            have hYl : Y.length = N := hbfs.out.2.1
            have hbl : b' < wr.heap.size := by omega
            have HX := Lib.hid hx
            have HFF := Lib.hid hf
            obtain ⟨sy, hsy⟩ : ∃ b, getB S ty = b := ⟨_, rfl⟩
            have c1 : wr.cell? ⟨gs, ty, none⟩ = some (.bool sy) := by rw [← hsy]; exact BBlk.get hS ty (by omega)
            have f1 := Blk.free hS ty
            have c2 : wr.cell? ⟨gb, ty, none⟩ = some (.int .i64 (Y.getD ty 0)) := IBlk.get hY ty (by omega)
            have f2 := Blk.free hY ty
            have HSY := Lib.hid hsy
            clear q4' hq hS hY hB hadd hx hf hsy
            have hcase : (fx = x ∧ sy = false ∧ f < z) ∨ fx ≠ x ∨ (fx = x ∧ sy = true) ∨ (fx = x ∧ sy = false ∧ ¬ f < z) := by
              by_cases h1 : fx = x
              · cases sy with
                | true => exact .inr (.inr (.inl ⟨h1, rfl⟩))
                | false =>
                  by_cases h3 : f < z
                  · exact .inl ⟨h1, rfl, h3⟩
                  · exact .inr (.inr (.inr ⟨h1, rfl, h3⟩))
              · exact .inr (.inl h1)
            have HN : Hid (¬ (fx = x ∧ sy = false ∧ f < z) → ∀ q, Half w ((wr.alloc (.cells #[.int .i64 (fx : Nat), .int .i64 (ty : Nat), .int .i64 z, .int .i64 u] 35)).drewN q) N s t (some ⟨b, off1, none⟩) m c gs gb A F (p + 1) x k wr.heap.size fx ty z u S Y Q (.slice (some ⟨gq, off, none⟩) Q.length capq)) := Lib.hid fun hn q => half_no hRS.out hbfs.out hcl.out hxS.out (by rw [HSY.out, HFF.out]; exact hn) q
            rcases hcase with ⟨h1, h2, h3⟩ | h1 | ⟨h1, h2⟩ | ⟨h1, h2, h3⟩
            focus
              have H1 := Lib.hid h1
              subst h2
              clear HN
              have d1 : ((fx : Int) == (x : Int)) = true := by simp; omega
              have d3 : decide (f < z) = true := decide_eq_true h3
              have HFZ := Lib.hid h3
              clear h3 h1
              go_wp2_with fail
              go_quiet (fail)
              clear d1 d3
              go_wp2_with fail
              go_region
              go_upto_region 13 with fail
              obtain ⟨W4, hW4⟩ : ∃ W4, W4 = ((((wr.alloc (.cells #[.int .i64 (fx : Nat), .int .i64 (ty : Nat), .int .i64 z, .int .i64 u] 35)).drewN (nq + 1)).setCell ⟨gs, ty, none⟩ (.bool true)).setCell ⟨gb, ty, none⟩ (.int .i64 (k : Nat))) := ⟨_, rfl⟩
              rw [← hW4]
              obtain ⟨hAB, tv1, W5, hrun, hH⟩ := half_yes H1.out hRS.out hbfs.out hcl.out hxS.out hxN hyN hN2 HSY.out (.inl ⟨by rw [HL.out]; exact hlt, by rw [HX.out, H1.out], by rw [HX.out], by rw [HX.out, HFF.out]; exact HFZ.out⟩) g5 g3 g4 (nq + 1) hW4
              have a1 := hAB.c1
              have HR := Lib.hid hrun
              obtain ⟨S1, hS1⟩ : ∃ S1, S1 = S.set ty true := ⟨_, rfl⟩
              obtain ⟨Y1, hY1⟩ : ∃ Y1, Y1 = Y.set ty (k : Int) := ⟨_, rfl⟩
              obtain ⟨Q1, hQ1⟩ : ∃ Q1, Q1 = Q ++ [ty] := ⟨_, rfl⟩
              rw [← hS1, ← hY1, ← hQ1] at hH
              have HH := Lib.hid hH
              clear hrun hH hW4 hAB c1 f1 c2 f2 q4 r0 r1 r2 r3 b3 hS1 hY1 hQ1
              go_upto_region 14 with (at_builtin; refine Lib.wpList_append_run _ rfl _ _ _ _ rfl _ _ rfl rfl _ _ HR.out ?_)
              clear HR a1 HSY HFZ hRS hbfs hcl hxS H1
            rotate_left
            focus
              have HH2 : Hid (∀ q, Half w ((wr.alloc (.cells #[.int .i64 (fx : Nat), .int .i64 (ty : Nat), .int .i64 z, .int .i64 u] 35)).drewN q) N s t (some ⟨b, off1, none⟩) m c gs gb A F (p + 1) x k wr.heap.size fx ty z u S Y Q (.slice (some ⟨gq, off, none⟩) Q.length capq)) := Lib.hid (HN.out fun h => h1 h.1)
              have d1 : ((fx : Int) == (x : Int)) = false := by simp; omega
              clear h1 HN
              go_wp2_with fail
              go_quiet (fail)
              clear d1
              go_upto_region 14 with fail
              have HH := Lib.hid (HH2.out nq)
              clear HH2
              obtain ⟨W5, hW5⟩ : ∃ W5, W5 = ((wr.alloc (.cells #[.int .i64 (fx : Nat), .int .i64 (ty : Nat), .int .i64 z, .int .i64 u] 35)).drewN nq) := ⟨_, rfl⟩
              obtain ⟨tv1, htv1⟩ : ∃ tv1, tv1 = Value.slice (some ⟨gq, off, none⟩) Q.length capq := ⟨_, rfl⟩
              rw [← hW5, ← htv1] at HH ⊢
              obtain ⟨S1, hS1⟩ : ∃ S1, S1 = S := ⟨_, rfl⟩
              obtain ⟨Y1, hY1⟩ : ∃ Y1, Y1 = Y := ⟨_, rfl⟩
              obtain ⟨Q1, hQ1⟩ : ∃ Q1, Q1 = Q := ⟨_, rfl⟩
              rw [← hS1, ← hY1, ← hQ1] at HH
              clear hS1 hY1 hQ1 hW5 htv1 HSY hRS hbfs hcl hxS c1 f1 c2 f2 q4 r0 r1 r2 r3 b3
            rotate_left
            focus
              have HH2 : Hid (∀ q, Half w ((wr.alloc (.cells #[.int .i64 (fx : Nat), .int .i64 (ty : Nat), .int .i64 z, .int .i64 u] 35)).drewN q) N s t (some ⟨b, off1, none⟩) m c gs gb A F (p + 1) x k wr.heap.size fx ty z u S Y Q (.slice (some ⟨gq, off, none⟩) Q.length capq)) := Lib.hid (HN.out fun h => by rw [h2] at h; exact Bool.noConfusion h.2.1)
              have d1 : ((fx : Int) == (x : Int)) = true := by simp; omega
              rw [h2] at c1
              clear h1 h2 HN
              go_wp2_with fail
              go_quiet (fail)
              clear d1
              go_upto_region 14 with fail
              have HH := Lib.hid (HH2.out nq)
              clear HH2
              obtain ⟨W5, hW5⟩ : ∃ W5, W5 = ((wr.alloc (.cells #[.int .i64 (fx : Nat), .int .i64 (ty : Nat), .int .i64 z, .int .i64 u] 35)).drewN nq) := ⟨_, rfl⟩
              obtain ⟨tv1, htv1⟩ : ∃ tv1, tv1 = Value.slice (some ⟨gq, off, none⟩) Q.length capq := ⟨_, rfl⟩
              rw [← hW5, ← htv1] at HH ⊢
              obtain ⟨S1, hS1⟩ : ∃ S1, S1 = S := ⟨_, rfl⟩
              obtain ⟨Y1, hY1⟩ : ∃ Y1, Y1 = Y := ⟨_, rfl⟩
              obtain ⟨Q1, hQ1⟩ : ∃ Q1, Q1 = Q := ⟨_, rfl⟩
              rw [← hS1, ← hY1, ← hQ1] at HH
              clear hS1 hY1 hQ1 hW5 htv1 HSY hRS hbfs hcl hxS c1 f1 c2 f2 q4 r0 r1 r2 r3 b3
            rotate_left
            focus
              have HH2 : Hid (∀ q, Half w ((wr.alloc (.cells #[.int .i64 (fx : Nat), .int .i64 (ty : Nat), .int .i64 z, .int .i64 u] 35)).drewN q) N s t (some ⟨b, off1, none⟩) m c gs gb A F (p + 1) x k wr.heap.size fx ty z u S Y Q (.slice (some ⟨gq, off, none⟩) Q.length capq)) := Lib.hid (HN.out fun h => h3 h.2.2)
              have d1 : ((fx : Int) == (x : Int)) = true := by simp; omega
              have d3 : decide (f < z) = false := decide_eq_false h3
              rw [h2] at c1
              clear h1 h2 h3 HN
              go_wp2_with fail
              go_quiet (fail)
              clear d1 d3
              go_upto_region 14 with fail
              have HH := Lib.hid (HH2.out nq)
              clear HH2
              obtain ⟨W5, hW5⟩ : ∃ W5, W5 = ((wr.alloc (.cells #[.int .i64 (fx : Nat), .int .i64 (ty : Nat), .int .i64 z, .int .i64 u] 35)).drewN nq) := ⟨_, rfl⟩
              obtain ⟨tv1, htv1⟩ : ∃ tv1, tv1 = Value.slice (some ⟨gq, off, none⟩) Q.length capq := ⟨_, rfl⟩
              rw [← hW5, ← htv1] at HH ⊢
              obtain ⟨S1, hS1⟩ : ∃ S1, S1 = S := ⟨_, rfl⟩
              obtain ⟨Y1, hY1⟩ : ∃ Y1, Y1 = Y := ⟨_, rfl⟩
              obtain ⟨Q1, hQ1⟩ : ∃ Q1, Q1 = Q := ⟨_, rfl⟩
              rw [← hS1, ← hY1, ← hQ1] at HH
              clear hS1 hY1 hQ1 hW5 htv1 HSY hRS hbfs hcl hxS c1 f1 c2 f2 q4 r0 r1 r2 r3 b3
            rotate_left
            all_goals
              clear HADD
              obtain ⟨hR5, hb5, hc5, hx5, hA5, h15, hadd5⟩ := HH.out
              obtain ⟨gq1, o1, hq1, hS5, hY5, hB5, -, k61, k71⟩ := id hR5
              obtain ⟨cap1, cur1, rfl, -⟩ := id hq1
              have eq : (Q1.map natv).length = Q1.length := by simp
              rw [eq] at hR5 hq1 ⊢
              clear eq
              have b3 := hB5.c3
              have a0 := hA5.c0
              have a1 := hA5.c1
              have hS1l : S1.length = N := hb5.1
              have hY1l : Y1.length = N := hb5.2.1
              have m1 := Blk.lt hS5
              have m2 := Blk.lt hY5
              have m3 := hA5.lt
              have m4 := hB5.lt
              have hbw5 := hadd5.size
              have q5 : W5.cell? ⟨b', off' + k, none⟩ = some (.int .i64 f) := (hadd5.cell (p := ⟨b', off' + k, none⟩) hbw).trans Q4.out
              obtain ⟨sx, hsx⟩ : ∃ b, getB S1 fx = b := ⟨_, rfl⟩
              have c1 : W5.cell? ⟨gs, fx, none⟩ = some (.bool sx) := by rw [← hsx]; exact BBlk.get hS5 fx (by omega)
              have f1 := Blk.free hS5 fx
              have c2 : W5.cell? ⟨gb, fx, none⟩ = some (.int .i64 (Y1.getD fx 0)) := IBlk.get hY5 fx (by omega)
              have f2 := Blk.free hY5 fx
              have HSX := Lib.hid hsx
              clear hsx
              have hcase : (ty = x ∧ sx = false ∧ 0 < f) ∨ ty ≠ x ∨ (ty = x ∧ sx = true) ∨ (ty = x ∧ sx = false ∧ ¬ 0 < f) := by
                by_cases h1 : ty = x
                · cases sx with
                  | true => exact .inr (.inr (.inl ⟨h1, rfl⟩))
                  | false =>
                    by_cases h3 : 0 < f
                    · exact .inl ⟨h1, rfl, h3⟩
                    · exact .inr (.inr (.inr ⟨h1, rfl, h3⟩))
                · exact .inr (.inl h1)
              have HEND : Hid (¬ (ty = x ∧ sx = false ∧ 0 < f) → Closed A F N S1 Q1 x (k + 1)) := Lib.hid fun hn => close_step hc5 HX.out h15 (fun e1 e2 => by
                rw [HFF.out] at e2
                cases e : sx with
                | true => rw [HSX.out, e]
                | false => exact absurd ⟨e1, e, e2⟩ hn)
              have H15 := Lib.hid h15
              have HR5 := Lib.hid hR5
              have HB5 := Lib.hid hb5
              have HC5 := Lib.hid hc5
              have HX5 := Lib.hid hx5
              clear hR5 hb5 hc5 hx5 h15 hadd5 HH hq1 hS5 hY5 hB5 hA5
              rcases hcase with ⟨h1, h2, h3⟩ | h1 | ⟨h1, h2⟩ | ⟨h1, h2, h3⟩
              · have H1 := Lib.hid h1
                have H3 := Lib.hid h3
                have d1 : ((ty : Int) == (x : Int)) = true := by simp; omega
                have d3 : decide (0 < f) = true := decide_eq_true h3
                have W2 : IntKind.i64.wrap ((m : Int) + (k : Int)) = (m : Int) + (k : Int) := IntWalk.i64_in _ (by omega)
                rw [h2] at c1 HSX
                clear h1 h2 h3 HEND
                go_wp2_with fail
                clear d1 d3
                go_region
                go_upto_region 16 with fail
                obtain ⟨W6, hW6⟩ : ∃ W6, W6 = World.drew ((W5.setCell ⟨gs, fx, none⟩ (.bool true)).setCell ⟨gb, fx, none⟩ (.int .i64 ((m : Int) + (k : Int)))) := ⟨_, rfl⟩
                rw [← hW6]
                obtain ⟨tv2, W7, hrun, hR7, hb7, hc7⟩ := half_two (i := m + k) HR5.out HB5.out HC5.out HX5.out hxN hfN hN2 HSX.out (.inr ⟨k, by rw [HL.out], by rw [HL.out]; exact hlt, by rw [HX.out, H1.out], by rw [HX.out], by rw [HFF.out]; exact H3.out⟩) (by omega) g5 g3 g4 hW6
                have a3 : W6.cell? ⟨wr.heap.size, 0, none⟩ = some (.int .i64 (fx : Nat)) := by
                  rw [hW6]
                  have e1 : (World.drew ((W5.setCell ⟨gs, fx, none⟩ (.bool true)).setCell ⟨gb, fx, none⟩ (.int .i64 ((m : Int) + (k : Int))))).heap[wr.heap.size]? = W5.heap[wr.heap.size]? :=
                    (heap_setCell_other _ ⟨gb, fx, none⟩ wr.heap.size _ (by dsimp only; omega)).trans (heap_setCell_other _ ⟨gs, fx, none⟩ wr.heap.size _ (by dsimp only; omega))
                  exact (World.cell?_of_block (a := ⟨wr.heap.size, 0, none⟩) e1).trans a0
                have hS1l2 : fx < S1.length := by omega
                have hc8 : Closed A F N (S1.set fx true) (Q1 ++ [fx]) x (k + 1) := close_step hc7 HX.out (fun e1 e2 => getB_mono hS1l2 (H15.out e1 e2)) (fun _ _ => by rw [getB_set S1 fx fx hS1l2, if_pos rfl])
                have hx8 : getB (S1.set fx true) x = true := getB_mono hS1l2 HX5.out
                have HR := Lib.hid hrun
                have HR7 := Lib.hid hR7
                have HB7 := Lib.hid hb7
                have HC8 := Lib.hid hc8
                have HX8 := Lib.hid hx8
                clear hrun hR7 hb7 hc7 hc8 hx8 hW6 c1 c2 f1 f2 a0 a1 q5 b3 W2
                go_wp2_with (at_builtin; refine Lib.wpList_append_run _ rfl _ _ _ _ rfl _ _ rfl rfl _ _ HR.out ?_)
                go_roundw
                case rel => exact ⟨_, _, _, k + 1, by omega, by go_num, HR7, HB7, HC8, HX8⟩
                case measure => simp [intOf]; omega
              · have HE := Lib.hid (HEND.out fun h => h1 h.1)
                have d1 : ((ty : Int) == (x : Int)) = false := by simp; omega
                clear h1 HEND
                go_wp2_with fail
                go_roundw
                case rel => exact ⟨S1, Y1, Q1, k + 1, by omega, by go_num, HR5, HB5, HE, HX5⟩
                case measure => simp [intOf]; omega
              · have HE := Lib.hid (HEND.out fun h => by rw [h2] at h; exact Bool.noConfusion h.2.1)
                have d1 : ((ty : Int) == (x : Int)) = true := by simp; omega
                rw [h2] at c1
                clear h1 h2 HEND
                go_wp2_with fail
                go_roundw
                case rel => exact ⟨S1, Y1, Q1, k + 1, by omega, by go_num, HR5, HB5, HE, HX5⟩
                case measure => simp [intOf]; omega
              · have HE := Lib.hid (HEND.out fun h => h3 h.2.2)
                have d1 : ((ty : Int) == (x : Int)) = true := by simp; omega
                have d3 : decide (0 < f) = false := decide_eq_false h3
                rw [h2] at c1
                clear h1 h2 h3 HEND
                go_wp2_with fail
                go_roundw
                case rel => exact ⟨S1, Y1, Q1, k + 1, by omega, by go_num, HR5, HB5, HE, HX5⟩
                case measure => simp [intOf]; omega
          · obtain rfl : k = m := by omega
            clear hadd hq hS hY hB
            go_wp2_with fail
            go_roundg (gk - 1)
            case measure => omega
            case rel => exact ⟨S, Y, Q, p + 1, hRS, hbfs, Lib.hid ⟨x, by rw [HL.out]; exact hcl.out⟩, by omega⟩
end Go.Proofs.Ytaoibakbnimnkaa
