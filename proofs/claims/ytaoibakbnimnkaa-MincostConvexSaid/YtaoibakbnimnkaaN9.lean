/- The reference of layer 12: Solve. -/
import Derived.Test.YtaoibakbnimnkaaN8
namespace Go.Proofs.Ytaoibakbnimnkaa
open Go.RowKit NetM

/-- A greatest flow, its value, and a least cut are returned. -/
def SolveP (w : World) (N s t : Nat) (A : List Arc) (e : Ending) (w' : World) : Prop :=
  ∃ vf v vc F S, e = .returned (.tuple #[vf, .int .i64 v, vc, .int .i64 0]) ∧ RdI w' vf F ∧ RdB w' vc S ∧ isFlow N s t A F ∧ isCut N s t S ∧ net s A F = v ∧ capF (cutOf S) A = v ∧ Add w w'
theorem isCut.c {N s t : Nat} {S : List Bool} (h : isCut N s t S) : cutOf S s = true ∧ cutOf S t = false := by
  rw [cutOf_nat, cutOf_nat]; exact h.2
theorem SolveP.opt {w w' : World} {N s t : Nat} {A : List Arc} {e : Ending} (h : SolveP w N s t A e w') : ∃ vf v vc, e = .returned (.tuple #[vf, .int .i64 v, vc, .int .i64 0]) ∧ Opt N s t A v ∧ Add w w' := by
  obtain ⟨vf, v, vc, F, S, h1, h2, h3, h4, h5, h6, h7, h8⟩ := h
  exact ⟨vf, v, vc, h1, ⟨F, S, h4, h5.1, h5.c.1, h5.c.2, h6, h7⟩, h8⟩
theorem zero_net (x : Int) (A : List Arc) : net x A (List.replicate A.length 0) = 0 := by
  induction A with
  | nil => rfl
  | cons a l ih =>
    rw [List.length_cons, List.replicate_succ]
    dsimp only [net]
    rw [ih]; split <;> split <;> rfl
theorem min_if (a b : Int) : (if b < a then b else a) = min a b := by split <;> omega
/-- Where the search doesn't reach the sink. -/
theorem reached_cut {A : List Arc} {F : List Int} {N s t : Nat} {S : List Bool} {Y : List Int} (h : Reached A F N s S Y) (hv : VNet N s t A) (hf : isFlow N s t A F) (ht : getB S t = false) : isCut N s t S ∧ net s A F = capF (cutOf S) A := by
  obtain ⟨h1, -, h3, -, x0, h5⟩ := h
  refine ⟨⟨h1, h3, ht⟩, ?_⟩
  exact value_eq hv.2.1 hv.1 hf (by rw [cutOf_nat]; exact h3) (by rw [cutOf_nat]; exact ht) (h5.tight hv.1 hf.1)

set_option maxRecDepth 100000 in
set_option maxHeartbeats 4000000 in
theorem refSolve_any {w : World} {v : Value} {N s t : Nat} {A : List Arc} (h : NetA w v N s t A) (hv : VNet N s t A) :
    Calls Try.prog 25 #[v] w (SolveP w N s t A) := by
  obtain ⟨i0, hi, hz0, hz1, hz2⟩ := info_parts infoInt
  have CV : Hid (∀ W1, Add w W1 → Calls Try.prog 31 #[v] W1 (RetB W1 true)) := Lib.hid fun W1 ha => refValid_yes (h.add ha) hv
  have CR : Hid (∀ W1 vf F, Add w W1 → RdI W1 vf F → within A F → Calls Try.prog 39 #[v, vf] W1 (ReachP W1 N s A F)) := Lib.hid fun W1 vf F ha hf hw => refReach_any (h.add ha) hv hf (Lib.hid hw)
  have CL : Hid (∀ W1 vf F, Add w W1 → RdI W1 vf F → Calls Try.prog 24 #[v, vf] W1 (ValP W1 N s t A F)) := Lib.hid fun W1 vf F ha hf => refValue_any (h.add ha) hv hf
  obtain ⟨va, rfl, ha⟩ := h
  obtain ⟨a, m, c, rfl, hl, hc, hm, -⟩ := id ha
  have HV := Lib.hid hv
  have HA := Lib.hid ha
  have HL := Lib.hid hl
  have HZ : Hid (isFlow N s t A (List.replicate m 0)) := Lib.hid (by rw [← hl]; exact zero_flow hv.1)
  obtain ⟨-, hs, ht, hst, hN, hN2, hm2⟩ := hv
  rw [hl] at hm2
  unfold maxLen at hm
  clear ha hl
  have B1 := Lib.hid (nbox_new w N s t a m c)
  have T1 := add_new w (.cells #[.int .i64 N, .int .i64 s, .int .i64 t, .slice a m c] 24)
  go_enter Try.func25, Try.ntmps25
  go_wp2_with fail
  refine (CV.out _ T1).mono ?_
  rintro e w1 ⟨rfl, h1⟩
  replace T1 := Add.trans T1 h1
  have hB := B1.out.add h1
  have b3 := hB.c3
  have hlt := hB.lt
  have HB := Lib.hid hB
  clear h1 hB B1
  go_wp2_with (at_make; refine wpList_make_full _ rfl _ _ 25 rfl w1.heap.size 3 i0 (.int .i64 0) 1 Try.underlying25 hi hz0 hz1 _ _ _ _ m rfl rfl rfl rfl (by rw [hz2]; omega) (by unfold maxLen; omega) (Nat.le_refl _) ?_)
  intro w2 hown hgr
  have hI := IBlk.made hown
  have hgr2 : Add w1 w2 := grown_add hgr
  replace T1 := Lib.hid (Add.trans T1 hgr2)
  replace HB := Lib.hid (HB.out.add hgr2)
  obtain ⟨g, hg⟩ : ∃ g, g = w1.heap.size := ⟨_, rfl⟩
  rw [← hg] at hI hlt ⊢
  have HI := Lib.hid hI
  clear hown hgr hgr2 hI hg b3 hi hz0 hz1 hz2
  go_wp2_with fail
  go_loopg [11] (m * 2147483647) (fun k _ wr => ∃ F, Hid (IBlk wr g F) ∧ Hid (isFlow N s t A F) ∧ Hid (NBox wr w.heap.size N s t a m c) ∧ Hid (Add w wr) ∧ Hid (net s A F + (k : Int) = (m : Int) * 2147483647))
  case atStart => exact ⟨_, HI, HZ, HB, T1, Lib.hid (by rw [← HL.out]; have := zero_net s A; rw [this]; simp)⟩
  case round =>
    obtain ⟨F, hI, hfl, hB, hadd, hnk⟩ := hrel
    clear HI HZ HB T1
    have hFl : F.length = m := by rw [NetM.within_length hfl.out.1, HL.out]
    have hrd : RdI wr (.slice (some ⟨g, 0, none⟩) m m) F := Blk.rdAll hI.out (by simpa using hFl) (Nat.le_refl _) (by unfold maxLen; omega)
    have c0 := hB.out.c0
    have c1 := hB.out.c1
    have c2 := hB.out.c2
    have c3 := hB.out.c3
    have HRD := Lib.hid hrd
    clear hrd
    go_wp2_with fail
    refine (CR.out _ _ _ hadd.out HRD.out hfl.out.1).mono ?_
    rintro e w3 ⟨gs, gb, S, Y, rfl, hS, hY, hre, h3, l1, l2, l3⟩
    have hadd3 := Lib.hid (Add.trans hadd.out h3)
    have hI3 : Hid (IBlk w3 g F) := Lib.hid (Blk.add hI.out h3)
    have hB3 := Lib.hid (hB.out.add h3)
    have hgl := Blk.lt hI.out
    have HRE := Lib.hid hre
    have HS := Lib.hid hS
    have HY := Lib.hid hY
    have HRD3 := Lib.hid (Rd.add HRD.out h3)
    obtain ⟨st, hst2⟩ : ∃ b, getB S t = b := ⟨_, rfl⟩
    have hq : w3.cell? ⟨gs, t, none⟩ = some (.bool st) := by rw [← hst2]; exact BBlk.get hS t (by rw [hre.1]; exact ht)
    clear c0 c1 c2 c3 hS hY hre h3 HRD
    have c0 := hB3.out.c0
    have c1 := hB3.out.c1
    have c2 := hB3.out.c2
    have c3 := hB3.out.c3
    cases st with
    | false =>
      obtain ⟨hcut, hval⟩ := reached_cut HRE.out HV.out hfl.out hst2
      have HCUT := Lib.hid hcut
      have HVAL := Lib.hid hval
      clear hst2 hcut hval
      go_wp2_with fail
      refine (CL.out _ _ _ hadd3.out HRD3.out).mono ?_
      rintro e w4 ⟨v, b, rfl, h4, y1, n1⟩
      have hb : b = true := by
        cases b with
        | true => rfl
        | false => exact absurd hfl.out (n1 rfl).1
      subst hb
      have hF : SolveP w N s t A (.returned (.tuple #[.slice (some ⟨g, 0, none⟩) m m, .int .i64 v, .slice (some ⟨gs, 0, none⟩) N N, .int .i64 0])) w4 := by
        have e1 := (y1 rfl).2
        refine ⟨_, v, _, F, S, rfl, HRD3.out.add h4, Rd.add (Blk.rdAll HS.out (by simpa using HRE.out.1) (Nat.le_refl _) (by unfold maxLen; omega)) h4, hfl.out, HCUT.out, e1.symm, ?_, Add.trans hadd3.out h4⟩
        rw [e1, HVAL.out]
      have HF := Lib.hid hF
      clear hF h4 y1 n1 hq c0 c1 c2 c3
      go_wp2_with fail
      exact bodyPost_ret (v := .tuple #[.slice (some ⟨g, 0, none⟩) m m, .int .i64 v, .slice (some ⟨gs, 0, none⟩) N N, .int .i64 0]) (by simp [results, Try.results25, go_sem]) rfl HF.out
    | true =>
      obtain ⟨rk, hT⟩ := HRE.out.2.2.2.1
      have HT := Lib.hid hT
      have HST := Lib.hid hst2
      have hSl := HRE.out.1
      have hYl := HRE.out.2.1
      clear hT hst2
      go_wp2_with fail
      clear hq c0 c1 c2 c3
      go_loopw [11, 12] (fun mv xv wx => ∃ (most : Int) (X : Nat), mv = .int .i64 most ∧ xv = .int .i64 X ∧ Hid (NetM.Way A F N s t S Y rk most X) ∧ Hid (Add w3 wx)) (fun _ xv _ => rk (intOf xv).toNat)
      case atStart => exact ⟨2147483647, t, rfl, rfl, Lib.hid (NetM.Way.start ht HST.out), Lib.hid (add_refl _)⟩
      case round =>
        obtain ⟨most, X, rfl, rfl, hway, hax⟩ := hrel
        have hB4 := Lib.hid (hB3.out.add hax.out)
        have c0 := hB4.out.c0
        have c1 := hB4.out.c1
        have c2 := hB4.out.c2
        have c3 := hB4.out.c3
        by_cases hX : X = s
        · subst hX
          have d1 : ((X : Int) == (X : Int)) = true := by simp
          have d2 : ((X : Int) != (X : Int)) = false := by simp
          obtain ⟨m1, m2, m3⟩ := hway.out.done
          have HAUG : Hid (NetM.Aug A F N X t S Y rk most F t) := Lib.hid (NetM.Aug.start ht HST.out m1 m3 hfl.out.1)
          have HI4 : Hid (IBlk wr g F) := Lib.hid (Blk.add hI3.out hax.out)
          have HY4 : Hid (IBlk wr gb Y) := Lib.hid (Blk.add HY.out hax.out)
          have HA4 : Hid (Add w wr) := Lib.hid (Add.trans hadd3.out hax.out)
          clear m3
          go_wp2_with fail
          clear c0 c1 c2 c3
          obtain ⟨wm, rfl⟩ : ∃ wm : World, wm = wr := ⟨_, rfl⟩
          go_loopw [14] (fun xv wx => ∃ (G : List Int) (Z : Nat), xv = .int .i64 Z ∧ Hid (NetM.Aug A F N X t S Y rk most G Z) ∧ Hid (IBlk wx g G) ∧ Hid (IBlk wx gb Y) ∧ Hid (NBox wx w.heap.size N X t a m c) ∧ Hid (Add w wx)) (fun xv _ => rk (intOf xv).toNat)
          case atStart => exact ⟨F, t, rfl, HAUG, HI4, HY4, hB4, HA4⟩
          case round =>
            clear HAUG HI4 HY4 HA4 hB4
            obtain ⟨G, Z, rfl, haug, hIG, hYG, hBG, hAG⟩ := hrel
            have c0 := hBG.out.c0
            have c1 := hBG.out.c1
            have c2 := hBG.out.c2
            have c3 := hBG.out.c3
            by_cases hZ : Z = X
            · subst hZ
              have d3 : ((Z : Int) == (Z : Int)) = true := by simp
              have d4 : ((Z : Int) != (Z : Int)) = false := by simp
              obtain ⟨n1, n2, n3⟩ := haug.out.done hfl.out hst
              have hbd := (net_bound (x := (Z : Int)) HV.out.1 n1.1).2
              rw [HL.out, n2] at hbd
              have hnk2 := hnk.out
              have hgk : gk = (gk - most.toNat) + most.toNat := by omega
              have HN1 := Lib.hid n1
              have HN2 : Hid (net (Z : Int) A G + ((gk - most.toNat : Nat) : Int) = (m : Int) * 2147483647) := Lib.hid (by rw [n2]; omega)
              have HGK : Hid (gk - most.toNat < gk) := Lib.hid (by omega)
              clear n1 n2 n3 hbd hnk2 hgk d1 d2
              go_wp2_with fail
              go_roundg (gk - most.toNat)
              case measure => exact HGK.out
              case rel => exact ⟨G, hIG, HN1, hBG, hAG, HN2⟩
            · have d3 : ((Z : Int) == (X : Int)) = false := by simp; omega
              have d4 : ((Z : Int) != (X : Int)) = true := by simp; omega
              obtain ⟨p1, p2, p3, p4, -⟩ := id haug.out
              obtain ⟨s1, s2, s3⟩ := haug.out.step HT.out hZ
              have q0 : wr.cell? ⟨gb, Z, none⟩ = some (.int .i64 (Y.getD Z 0)) := IBlk.get hYG.out Z (by omega)
              have hGl : G.length = m := by rw [NetM.within_length p4, HL.out]
              have hS1 := Lib.hid s1
              have hgne : w.heap.size ≠ g := by omega
              have hgb : gb ≠ g := by omega
              have m5 := Blk.lt hIG.out
              have hw := Lib.hid p4
              obtain ⟨X2, hX2⟩ : ∃ X2, X2 = predP A Y Z := ⟨_, rfl⟩
              rw [← hX2] at hS1 s2 s3
              clear s1 hX2 p4
              rcases s3 with ⟨i, e1, hi, e3, hnew⟩ | ⟨i, e1, hi, e3, hnew⟩
              · rw [HL.out] at hi
                obtain ⟨b, off, rfl, r0, r1, r2, r3⟩ := HA.out.cell hi
                have hbw : b < w.heap.size := World.block_lt_of_cell? _ _ r0
                have r0' := (hAG.out.cell (p := ⟨b, off + i * 4, none⟩) hbw).trans r0
                obtain ⟨x, y, z, u, hx, hxN, hyN, hz0, hz1⟩ := HV.out.at (k := i) (by rw [HL.out]; exact hi)
                have hwi := (NetM.within_iff.1 hw.out).2 i (by rw [HL.out]; exact hi)
                rw [hx] at r0' e3 hwi
                dsimp only at r0' e3 hwi
                have q1 : wr.cell? ⟨g, i, none⟩ = some (.int .i64 (G.getD i 0)) := IBlk.get hIG.out i (by omega)
                have f1 := Blk.free hIG.out i
                obtain ⟨f, hf⟩ : ∃ f, G.getD i 0 = f := ⟨_, rfl⟩
                rw [hf] at q1 hnew hwi
                rw [e1] at q0
                have hbg : b ≠ g := by omega
                have ex : x = X2 := by omega
                subst ex
                have HNEW := Lib.hid hnew
                have W1 : IntKind.i64.wrap (f + most) = f + most := IntWalk.i64_in _ (by omega)
                clear e1 e3 hnew hx hf r0 r1 r2 r3
                go_wp2_with fail
                go_roundw
                case rel => exact ⟨_, x, rfl, HNEW, Lib.hid (IBlk.put hIG.out i (f + most)), Lib.hid (Blk.other hYG.out hgb _ _), Lib.hid ((heap_setCell_other _ ⟨g, i, none⟩ _ _ hgne).trans hBG.out), Lib.hid (add_setLow hAG.out (by omega) _ _)⟩
                case measure => simpa [intOf] using hS1.out
              · rw [HL.out] at hi
                obtain ⟨b, off, rfl, r0, r1, r2, r3⟩ := HA.out.cell hi
                have hbw : b < w.heap.size := World.block_lt_of_cell? _ _ r0
                have r1' := (hAG.out.cell (p := ⟨b, off + i * 4 + 1, none⟩) hbw).trans r1
                obtain ⟨x, y, z, u, hx, hxN, hyN, hz0, hz1⟩ := HV.out.at (k := i) (by rw [HL.out]; exact hi)
                have hwi := (NetM.within_iff.1 hw.out).2 i (by rw [HL.out]; exact hi)
                rw [hx] at r1' e3 hwi
                dsimp only at r1' e3 hwi
                have q1 : wr.cell? ⟨g, i, none⟩ = some (.int .i64 (G.getD i 0)) := IBlk.get hIG.out i (by omega)
                have f1 := Blk.free hIG.out i
                obtain ⟨f, hf⟩ : ∃ f, G.getD i 0 = f := ⟨_, rfl⟩
                rw [hf] at q1 hnew hwi
                have e1' : Y.getD Z 0 = (m : Int) + (i : Int) := by rw [e1, HL.out]; omega
                rw [e1'] at q0
                have hbg : b ≠ g := by omega
                have ex : y = X2 := by omega
                subst ex
                have HNEW := Lib.hid hnew
                have W1 : IntKind.i64.wrap (f - most) = f - most := IntWalk.i64_in _ (by omega)
                have W2 : IntKind.i64.wrap ((m : Int) + (i : Int) - (m : Int)) = (i : Int) := by rw [IntWalk.i64_in _ (by omega)]; omega
                have W3 : (m : Int) + (i : Int) - (m : Int) = (i : Int) := by omega
                have dlt : decide ((m : Int) + (i : Int) < (m : Int)) = false := decide_eq_false (by omega)
                clear e1 e1' e3 hnew hx hf r0 r1 r2 r3
                go_wp2_with fail
                go_region
                go_upto_region 22 with fail
                obtain ⟨W6, hW6⟩ : ∃ W6, W6 = World.drew (wr.setCell ⟨g, i, none⟩ (.int .i64 (f - most))) := ⟨_, rfl⟩
                rw [← hW6]
                have t1 : Hid (IBlk W6 g (G.set i (f - most))) := Lib.hid (by rw [hW6]; exact Blk.add (IBlk.put hIG.out i (f - most)) (b_drew (Below.refl _ _)))
                have t2 : Hid (IBlk W6 gb Y) := Lib.hid (by rw [hW6]; exact Blk.add (Blk.other hYG.out hgb _ _) (b_drew (Below.refl _ _)))
                have t3 : Hid (NBox W6 w.heap.size N X t (some ⟨b, off, none⟩) m c) := Lib.hid (by rw [hW6]; exact (heap_setCell_other wr ⟨g, i, none⟩ _ _ hgne).trans hBG.out)
                have t4 : Hid (Add w W6) := Lib.hid (by rw [hW6]; exact b_drew (add_setLow hAG.out (by omega) _ _))
                have r5 := (t4.out.cell (p := ⟨b, off + i * 4 + 1, none⟩) hbw).trans ((hAG.out.cell (p := ⟨b, off + i * 4 + 1, none⟩) hbw).symm.trans r1')
                have c5 := t3.out.c3
                clear hW6 r1' q0 q1 f1 c0 c1 c2 c3 W1
                go_wp2_with fail
                go_roundw
                case rel => exact ⟨_, y, rfl, HNEW, t1, t2, t3, t4⟩
                case measure => simpa [intOf] using hS1.out
        · have d1 : ((X : Int) == (s : Int)) = false := by simp; omega
          have d2 : ((X : Int) != (s : Int)) = true := by simp; omega
          obtain ⟨p1, p2, p3, p4, -⟩ := id hway.out
          have hstep := hway.out.step HT.out hX
          obtain ⟨t1, t2, t3, t4, t5⟩ := HT.out.at p1 p2 hX
          have q0 : wr.cell? ⟨gb, X, none⟩ = some (.int .i64 (Y.getD X 0)) := IBlk.get (Blk.add HY.out hax.out) X (by omega)
          have HSTEP := Lib.hid hstep
          have HP4 := Lib.hid t4
          clear hstep t4
          rcases t5 with ⟨i, e1, hi, e3, e4, e5⟩ | ⟨j, e1, hj, e3, e4, e5⟩
          · rw [HL.out] at hi
            obtain ⟨b, off, rfl, r0, r1, r2, r3⟩ := (HA.out.add (Add.trans hadd3.out hax.out)).cell hi
            have q1 : wr.cell? ⟨g, i, none⟩ = some (.int .i64 (F.getD i 0)) := IBlk.get (Blk.add hI3.out hax.out) i (by omega)
            obtain ⟨x, y, z, u, hx, hxN, hyN, hz0, hz1⟩ := HV.out.at (k := i) (by rw [HL.out]; exact hi)
            have hwi := (NetM.within_iff.1 hfl.out.1).2 i (by rw [HL.out]; exact hi)
            rw [hx] at r0 r1 r2 r3 e3 e5 hwi
            dsimp only at r0 r1 r2 r3 e3 e5 hwi
            obtain ⟨f, hf⟩ : ∃ f, F.getD i 0 = f := ⟨_, rfl⟩
            rw [hf] at q1 e5 hwi
            rw [e1] at q0
            have W1 : IntKind.i64.wrap (z - f) = z - f := IntWalk.i64_in _ (by omega)
            obtain ⟨X2, hX2⟩ : ∃ X2, X2 = predP A Y X := ⟨_, rfl⟩
            rw [← hX2] at HSTEP HP4 e3
            rw [e5] at HSTEP
            have ex : x = X2 := by omega
            subst ex
            clear e1 e3 e4 e5 hx hf hX2
            go_wp2_with fail
            go_region
            go_wp2_with fail
            go_roundw
            case rel => exact ⟨_, x, rfl, rfl, Lib.hid (by rw [min_if]; exact HSTEP.out.1), Lib.hid (b_drew hax.out)⟩
            case measure => simpa [intOf] using HP4.out
          · rw [HL.out] at hj
            obtain ⟨b, off, rfl, r0, r1, r2, r3⟩ := (HA.out.add (Add.trans hadd3.out hax.out)).cell hj
            have q1 : wr.cell? ⟨g, j, none⟩ = some (.int .i64 (F.getD j 0)) := IBlk.get (Blk.add hI3.out hax.out) j (by omega)
            obtain ⟨x, y, z, u, hx, hxN, hyN, hz0, hz1⟩ := HV.out.at (k := j) (by rw [HL.out]; exact hj)
            have hwi := (NetM.within_iff.1 hfl.out.1).2 j (by rw [HL.out]; exact hj)
            rw [hx] at r0 r1 r2 r3 e3 hwi
            dsimp only at r0 r1 r2 r3 e3 hwi
            obtain ⟨f, hf⟩ : ∃ f, F.getD j 0 = f := ⟨_, rfl⟩
            rw [hf] at q1 e5 hwi
            have e1' : Y.getD X 0 = (m : Int) + (j : Int) := by rw [e1, HL.out]; omega
            rw [e1'] at q0
            have W1 : IntKind.i64.wrap ((m : Int) + (j : Int) - (m : Int)) = (j : Int) := by rw [IntWalk.i64_in _ (by omega)]; omega
            have dlt : decide ((m : Int) + (j : Int) < (m : Int)) = false := decide_eq_false (by omega)
            obtain ⟨X2, hX2⟩ : ∃ X2, X2 = predP A Y X := ⟨_, rfl⟩
            rw [← hX2] at HSTEP HP4 e3
            rw [e5] at HSTEP
            have ex : y = X2 := by omega
            subst ex
            clear e1 e1' e3 e4 e5 hx hf hX2
            go_wp2_with fail
            go_region
            go_wp2_with fail
            go_roundw
            case rel => exact ⟨_, y, rfl, rfl, Lib.hid (by rw [min_if]; exact HSTEP.out.1), Lib.hid (b_drew hax.out)⟩
            case measure => simpa [intOf] using HP4.out
end Go.Proofs.Ytaoibakbnimnkaa
