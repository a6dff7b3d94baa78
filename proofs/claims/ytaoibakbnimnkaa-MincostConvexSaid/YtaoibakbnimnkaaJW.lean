/- The reference of layer 13: Solve. | The laws of layer 13: what the program's functions return (the words of the contracts of text Mp). -/
import Derived.Test.YtaoibakbnimnkaaM6
import Derived.Test.YtaoibakbnimnkaaN9

namespace NetM
theorem augfit_step {A : List Arc} {F : List Int} {N s t : Nat} {P : Nat → Int} {D Y : List Int} {rk : Nat → Nat} {most : Int} {G : List Int} {x : Nat}
    (h : Aug A F N s t (reachedS D) Y rk most G x) (hF : Fit A F P D t G x) (hT : Tree A F N s (reachedS D) Y rk) (hD : DS A F N s P D Y) (hP : PotR A F N P) (hc : ClosedD A F D A.length) (hne : x ≠ s) :
    rk (predP A Y x) < rk x ∧ predP A Y x < N ∧
    ((∃ i : Nat, Y.getD x 0 = (i : Int) ∧ i < A.length ∧ (at' A i).1 = (predP A Y x : Int) ∧ Aug A F N s t (reachedS D) Y rk most (G.set i (G.getD i 0 + most)) (predP A Y x) ∧ Fit A F P D t (G.set i (G.getD i 0 + most)) (predP A Y x)) ∨
     (∃ j : Nat, Y.getD x 0 = ((A.length + j : Nat) : Int) ∧ j < A.length ∧ (at' A j).2.1 = (predP A Y x : Int) ∧ Aug A F N s t (reachedS D) Y rk most (G.set j (G.getD j 0 - most)) (predP A Y x) ∧ Fit A F P D t (G.set j (G.getD j 0 - most)) (predP A Y x))) := by
  obtain ⟨-, -, -, -, g5⟩ := hT.at h.1 h.2.1 hne
  obtain ⟨f1, f2⟩ := hF.step hD hP hc h.1 hne
  obtain ⟨s1, s2, s3⟩ := h.step hT hne
  refine ⟨s1, s2, ?_⟩
  rcases s3 with ⟨i, e1, hi, e3, e4⟩ | ⟨i, e1, hi, e3, e4⟩
  · refine .inl ⟨i, e1, hi, e3, e4, f1 i e1 hi e3 ?_ _⟩
    rcases g5 with ⟨i', q1, q2, q3, q4, -⟩ | ⟨i', q1, q2, q3, q4, -⟩
    · have : i' = i := by omega
      subst this; exact q4
    · omega
  · refine .inr ⟨i, e1, hi, e3, e4, f2 i e1 hi e3 ?_ _⟩
    rcases g5 with ⟨i', q1, q2, q3, q4, -⟩ | ⟨i', q1, q2, q3, q4, -⟩
    · omega
    · have : i' = i := by omega
      subst this; exact q4
/-- Where the sink is not reached the flow is greatest. -/
theorem dist_opt {A : List Arc} {F : List Int} {N s t : Nat} {P : Nat → Int} {D Y : List Int} (hD : DS A F N s P D Y) (hP : PotR A F N P) (hc : ClosedD A F D A.length) (hk : okCosts A) (ha : okArcs N A) (hf : isFlow N s t A F) (hN : N ≤ 700) (hs : s < N) (ht : t < N) (hfar : D.getD t 0 = far) : Opt N s t A (net s A F) := by
  have cs : cutOf (reachedS D) (s : Int) = true := by
    have : cutOf (reachedS D) (s : Int) = getB (reachedS D) s := by simp [cutOf]
    rw [this, reachedS_get (by rw [hD.1]; exact hs), hD.2.2.1]; decide
  have ct : cutOf (reachedS D) (t : Int) = false := by
    have : cutOf (reachedS D) (t : Int) = getB (reachedS D) t := by simp [cutOf]
    rw [this, Bool.eq_false_iff]
    intro h
    have h2 := (reachedS_get (by rw [hD.1]; exact ht)).1 h
    omega
  refine ⟨F, reachedS D, hf, by simp [reachedS, hD.1], cs, ct, rfl, ?_⟩
  exact (value_eq hs ha hf cs ct (dist_tight hD hP hc hk ha hf.1 hN)).symm
end NetM
namespace Go.Proofs.Ytaoibakbnimnkaa
open Go.RowKit NetM

/-- A cheapest flow of the value am is found, or the greatest value is below am. -/
def SolveC (w : World) (N s t : Nat) (A : List Arc) (am : Int) (e : Ending) (w' : World) : Prop :=
  (∃ vf c vq, e = .returned (.tuple #[vf, .int .i64 c, vq, .int .i64 0]) ∧ MinC N s t A am c ∧ Add w w') ∨
  (e = .returned (.tuple #[.slice none 0 0, .int .i64 0, .slice none 0 0, .int .i64 12]) ∧ (∃ v, Opt N s t A v ∧ v < am) ∧ Add w w')

set_option maxRecDepth 100000 in
set_option maxHeartbeats 4000000 in
theorem refSolveC_any {w : World} {v : Value} {N s t : Nat} {A : List Arc} {am : Int} (h : NetA w v N s t A) (hv : CNet N s t A) (ham : 0 ≤ am) (ham2 : am ≤ 4611686018427387904) :
    Calls Try.prog 22 #[v, .int .i64 am] w (SolveC w N s t A am) := by
  obtain ⟨i0, hi, hz0, hz1, hz2⟩ := info_parts infoInt
  have CV : Hid (∀ W1, Add w W1 → Calls Try.prog 14 #[v] W1 (RetB W1 true)) := Lib.hid fun W1 ha => refValidC_yes (h.add ha) hv
  have CR : Hid (∀ W1 vf F P, Add w W1 → RdI W1 vf F → within A F → PotB A F N s t P → Calls Try.prog 37 #[v, vf] W1 (DistP W1 N s A F P)) := Lib.hid fun W1 vf F P ha hf hw hP => refDist_any (h.add ha) hv hf (Lib.hid hw) (Lib.hid hP)
  have CP : Hid (∀ W1 vf F P, Add w W1 → RdI W1 vf F → within A F → PotB A F N s t P → Calls Try.prog 38 #[v, vf] W1 (RetL W1 N)) := Lib.hid fun W1 vf F P ha hf hw hP => refPots_any (h.add ha) hv hf (Lib.hid hw) (Lib.hid hP)
  have CL : Hid (∀ W1 vf F, Add w W1 → RdI W1 vf F → Calls Try.prog 12 #[v, vf] W1 (CostP W1 N s t A F)) := Lib.hid fun W1 vf F ha hf => refCost_any (h.add ha) hv hf
  obtain ⟨va, rfl, ha⟩ := h
  obtain ⟨a, m, c, rfl, hl, hc, hm, -⟩ := id ha
  have HV := Lib.hid hv
  have HA := Lib.hid ha
  have HL := Lib.hid hl
  have HZ : Hid (isFlow N s t A (List.replicate m 0)) := Lib.hid (by rw [← hl]; exact zero_flow hv.1.1)
  have HP0 : Hid (PotB A (List.replicate m 0) N s t fun _ => 0) := Lib.hid (by rw [← hl]; exact PotB.start hv.2)
  obtain ⟨⟨-, hs, ht, hst, hN, hN2, hm2⟩, -⟩ := hv
  rw [hl] at hm2
  unfold maxLen at hm
  clear ha hl
  have dam : decide (am < 0) = false := decide_eq_false (by omega)
  have B1 := Lib.hid (nbox_new w N s t a m c)
  have T1 := add_new w (.cells #[.int .i64 N, .int .i64 s, .int .i64 t, .slice a m c] 24)
  go_enter Try.func22, Try.ntmps22
  go_wp2_with fail
  refine (CV.out _ T1).mono ?_
  rintro e w1 ⟨rfl, h1⟩
  replace T1 := Add.trans T1 h1
  have hB := B1.out.add h1
  have b3 := hB.c3
  have hlt := hB.lt
  have HB := Lib.hid hB
  clear h1 hB B1
  go_wp2_with (at_make; refine wpList_make_full _ rfl _ _ 25 rfl w1.heap.size 3 i0 (.int .i64 0) 1 Try.underlying25 hi hz0 hz1 _ _ _ _ m rfl rfl rfl rfl (by rw [hz2]; omega) (by unfold maxLen; omega) (Nat.le_refl _) ?_)
  intro w2 hown hgr
  have hI := IBlk.made hown
  have hgr2 : Add w1 w2 := grown_add hgr
  replace T1 := Lib.hid (Add.trans T1 hgr2)
  replace HB := Lib.hid (HB.out.add hgr2)
  obtain ⟨g, hg⟩ : ∃ g, g = w1.heap.size := ⟨_, rfl⟩
  rw [← hg] at hI hlt ⊢
  have HI := Lib.hid hI
  clear hown hgr hgr2 hI hg b3 hi hz0 hz1 hz2 dam
  go_wp2_with fail
  go_loopw [9] (fun lv wr => ∃ (L : Int) (F : List Int) (P : Nat → Int), lv = .int .i64 L ∧ 0 ≤ L ∧ L ≤ am ∧ Hid (IBlk wr g F) ∧ Hid (isFlow N s t A F) ∧ Hid (PotB A F N s t P) ∧ Hid (NBox wr w.heap.size N s t a m c) ∧ Hid (Add w wr) ∧ Hid (net s A F + L = am)) (fun lv _ => (intOf lv).toNat)
  case atStart => exact ⟨am, _, _, rfl, ham, Int.le_refl _, HI, HZ, HP0, HB, T1, Lib.hid (by rw [← HL.out]; have := zero_net s A; rw [this]; simp)⟩
  case round =>
    obtain ⟨L, F, P, rfl, hL0, hLa, hI, hfl, hpot, hB, hadd, hnk⟩ := hrel
    clear HI HZ HP0 HB T1
    have hFl : F.length = m := by rw [NetM.within_length hfl.out.1, HL.out]
    have hrd : RdI wr (.slice (some ⟨g, 0, none⟩) m m) F := Blk.rdAll hI.out (by simpa using hFl) (Nat.le_refl _) (by unfold maxLen; omega)
    have c0 := hB.out.c0
    have c1 := hB.out.c1
    have c2 := hB.out.c2
    have c3 := hB.out.c3
    have HRD := Lib.hid hrd
    clear hrd
    by_cases hL : 0 < L
    · have dL : decide (0 < L) = true := decide_eq_true hL
      go_wp2_with fail
      refine (CR.out _ _ _ _ hadd.out HRD.out hfl.out.1 hpot.out).mono ?_
      rintro e w3 ⟨gd, gb, D, Y, rfl, hD, hY, hds, hcl, h3, l1, l2, l3⟩
      have hadd3 := Lib.hid (Add.trans hadd.out h3)
      have hI3 : Hid (IBlk w3 g F) := Lib.hid (Blk.add hI.out h3)
      have hB3 := Lib.hid (hB.out.add h3)
      have hgl := Blk.lt hI.out
      have HDS := Lib.hid hds
      have HCL := Lib.hid hcl
      have HY := Lib.hid hY
      obtain ⟨dt, hdt⟩ : ∃ d, D.getD t 0 = d := ⟨_, rfl⟩
      have hq : w3.cell? ⟨gd, t, none⟩ = some (.int .i64 dt) := by rw [← hdt]; exact IBlk.get hD t (by rw [hds.1]; exact ht)
      have hdtb := (hds.2.2.2.1 t ht).2
      rw [hdt] at hdtb
      unfold far at hdtb
      clear c0 c1 c2 c3 hD hY h3 HRD dL hds hcl
      have c0 := hB3.out.c0
      have c1 := hB3.out.c1
      have c2 := hB3.out.c2
      have c3 := hB3.out.c3
      by_cases hfar : dt = 1099511627776
      · subst hfar
        have hopt := dist_opt HDS.out hpot.out.1 HCL.out HV.out.2 HV.out.1.1 hfl.out hN2 hs ht hdt
        have hF : SolveC w N s t A am (.returned (.tuple #[.slice none 0 0, .int .i64 0, .slice none 0 0, .int .i64 12])) w3 := .inr ⟨rfl, ⟨_, hopt, by have := hnk.out; omega⟩, hadd3.out⟩
        have HF := Lib.hid hF
        clear hF hopt hdt
        go_wp2_with fail
        exact bodyPost_ret (v := .tuple #[.slice none 0 0, .int .i64 0, .slice none 0 0, .int .i64 12]) (by simp [results, Try.results22, go_sem]) rfl HF.out
      · have dfar : (dt == 1099511627776) = false := by simpa using hfar
        have htf : D.getD t 0 < far := by rw [hdt]; unfold far; omega
        have hSt : getB (reachedS D) t = true := (reachedS_get (by rw [HDS.out.1]; exact ht)).2 htf
        obtain ⟨rk, hT⟩ := HDS.out.tree hpot.out.1
        have HT := Lib.hid hT
        have HST := Lib.hid hSt
        have HTF := Lib.hid htf
        have hDl := HDS.out.1
        have hYl := HDS.out.2.1
        clear hT hSt htf hdt hdtb hfar
        go_wp2_with fail
        clear hq c0 c1 c2 c3 dfar
        go_loopw [12, 13] (fun mv xv wx => ∃ (most : Int) (X : Nat), mv = .int .i64 most ∧ xv = .int .i64 X ∧ Hid (NetM.WayM A F N s t (reachedS D) Y rk L most X) ∧ Hid (Add w3 wx)) (fun _ xv _ => rk (intOf xv).toNat)
        case atStart => exact ⟨L, t, rfl, rfl, Lib.hid (NetM.WayM.start ht HST.out hL), Lib.hid (add_refl _)⟩
        case round =>
          obtain ⟨most, X, rfl, rfl, hway, hax⟩ := hrel
          have hB4 := Lib.hid (hB3.out.add hax.out)
          have c0 := hB4.out.c0
          have c1 := hB4.out.c1
          have c2 := hB4.out.c2
          have c3 := hB4.out.c3
          by_cases hX : X = s
          · subst hX
            have d1 : ((X : Int) == (X : Int)) = true := by simp
            have d2 : ((X : Int) != (X : Int)) = false := by simp
            obtain ⟨m1, m2, m3⟩ := hway.out.done
            have HAUG : Hid (NetM.Aug A F N X t (reachedS D) Y rk most F t ∧ NetM.Fit A F P D t F t) := Lib.hid ⟨NetM.AugM.start ht HST.out m1 m3 hfl.out.1, NetM.Fit.start HTF.out⟩
            have HI4 : Hid (IBlk wr g F) := Lib.hid (Blk.add hI3.out hax.out)
            have HY4 : Hid (IBlk wr gb Y) := Lib.hid (Blk.add HY.out hax.out)
            have HA4 : Hid (Add w wr) := Lib.hid (Add.trans hadd3.out hax.out)
            clear m3
            go_wp2_with fail
            clear c0 c1 c2 c3
            obtain ⟨wm, rfl⟩ : ∃ wm : World, wm = wr := ⟨_, rfl⟩
            go_loopw [15] (fun xv wx => ∃ (G : List Int) (Z : Nat), xv = .int .i64 Z ∧ Hid (NetM.Aug A F N X t (reachedS D) Y rk most G Z ∧ NetM.Fit A F P D t G Z) ∧ Hid (IBlk wx g G) ∧ Hid (IBlk wx gb Y) ∧ Hid (NBox wx w.heap.size N X t a m c) ∧ Hid (Add w wx)) (fun xv _ => rk (intOf xv).toNat)
            case atStart => exact ⟨F, t, rfl, HAUG, HI4, HY4, hB4, HA4⟩
            case round =>
              clear HAUG HI4 HY4 HA4 hB4
              obtain ⟨G, Z, rfl, haug, hIG, hYG, hBG, hAG⟩ := hrel
              have c0 := hBG.out.c0
              have c1 := hBG.out.c1
              have c2 := hBG.out.c2
              have c3 := hBG.out.c3
              by_cases hZ : Z = X
              · subst hZ
                have d3 : ((Z : Int) == (Z : Int)) = true := by simp
                have d4 : ((Z : Int) != (Z : Int)) = false := by simp
                obtain ⟨n1, n2, n3⟩ := haug.out.1.done hfl.out hst
                have hpn := haug.out.2.done HDS.out hpot.out HCL.out HV.out.2 hN2 hs ht HTF.out hfl.out.1 n1.1
                have hnk2 := hnk.out
                have HN1 := Lib.hid n1
                have HPN := Lib.hid hpn
                have HN2 : Hid (net (Z : Int) A G + (L - most) = am) := Lib.hid (by rw [n2]; omega)
                have W1 : IntKind.i64.wrap (L - most) = L - most := IntWalk.i64_in _ (by omega)
                clear n1 n2 n3 hnk2 d1 d2 hpn
                go_wp2_with fail
                go_roundw
                case rel => exact ⟨L - most, G, _, rfl, by omega, by omega, hIG, HN1, HPN, hBG, hAG, HN2⟩
                case measure => simp [intOf]; omega
              · have d3 : ((Z : Int) == (X : Int)) = false := by simp; omega
                have d4 : ((Z : Int) != (X : Int)) = true := by simp; omega
                obtain ⟨p1, p2, p3, p4, -⟩ := id haug.out.1
                obtain ⟨s1, s2, s3⟩ := augfit_step haug.out.1 haug.out.2 HT.out HDS.out hpot.out.1 HCL.out hZ
                have q0 : wr.cell? ⟨gb, Z, none⟩ = some (.int .i64 (Y.getD Z 0)) := IBlk.get hYG.out Z (by omega)
                have hGl : G.length = m := by rw [NetM.within_length p4, HL.out]
                have hS1 := Lib.hid s1
                have hgne : w.heap.size ≠ g := by omega
                have hgb : gb ≠ g := by omega
                have m5 := Blk.lt hIG.out
                have hw := Lib.hid p4
                obtain ⟨X2, hX2⟩ : ∃ X2, X2 = predP A Y Z := ⟨_, rfl⟩
                rw [← hX2] at hS1 s2 s3
                clear s1 hX2 p4
                rcases s3 with ⟨i, e1, hi, e3, hnew⟩ | ⟨i, e1, hi, e3, hnew⟩
                · rw [HL.out] at hi
                  obtain ⟨b, off, rfl, r0, r1, r2, r3⟩ := HA.out.cell hi
                  have hbw : b < w.heap.size := World.block_lt_of_cell? _ _ r0
                  have r0' := (hAG.out.cell (p := ⟨b, off + i * 4, none⟩) hbw).trans r0
                  obtain ⟨x, y, z, u, hx, hxN, hyN, hz0, hz1⟩ := HV.out.1.at (k := i) (by rw [HL.out]; exact hi)
                  have hwi := (NetM.within_iff.1 hw.out).2 i (by rw [HL.out]; exact hi)
                  have hwn := (NetM.within_iff.1 hnew.1.2.2.2.1).2 i (by rw [HL.out]; exact hi)
                  rw [getD_set_same _ (by omega)] at hwn
                  rw [hx] at r0' e3 hwi hwn
                  dsimp only at r0' e3 hwi hwn
                  have q1 : wr.cell? ⟨g, i, none⟩ = some (.int .i64 (G.getD i 0)) := IBlk.get hIG.out i (by omega)
                  have f1 := Blk.free hIG.out i
                  obtain ⟨f, hf⟩ : ∃ f, G.getD i 0 = f := ⟨_, rfl⟩
                  rw [hf] at q1 hnew hwi hwn
                  rw [e1] at q0
                  have hbg : b ≠ g := by omega
                  have ex : x = X2 := by omega
                  subst ex
                  have HNEW := Lib.hid hnew
                  have W1 : IntKind.i64.wrap (f + most) = f + most := IntWalk.i64_in _ (by omega)
                  clear e1 e3 hnew hx hf r0 r1 r2 r3
                  go_wp2_with fail
                  go_roundw
                  case rel => exact ⟨_, x, rfl, HNEW, Lib.hid (IBlk.put hIG.out i (f + most)), Lib.hid (Blk.other hYG.out hgb _ _), Lib.hid ((heap_setCell_other _ ⟨g, i, none⟩ _ _ hgne).trans hBG.out), Lib.hid (add_setLow hAG.out (by omega) _ _)⟩
                  case measure => simpa [intOf] using hS1.out
                · rw [HL.out] at hi
                  obtain ⟨b, off, rfl, r0, r1, r2, r3⟩ := HA.out.cell hi
                  have hbw : b < w.heap.size := World.block_lt_of_cell? _ _ r0
                  have r1' := (hAG.out.cell (p := ⟨b, off + i * 4 + 1, none⟩) hbw).trans r1
                  obtain ⟨x, y, z, u, hx, hxN, hyN, hz0, hz1⟩ := HV.out.1.at (k := i) (by rw [HL.out]; exact hi)
                  have hwi := (NetM.within_iff.1 hw.out).2 i (by rw [HL.out]; exact hi)
                  have hwn := (NetM.within_iff.1 hnew.1.2.2.2.1).2 i (by rw [HL.out]; exact hi)
                  rw [getD_set_same _ (by omega)] at hwn
                  rw [hx] at r1' e3 hwi hwn
                  dsimp only at r1' e3 hwi hwn
                  have q1 : wr.cell? ⟨g, i, none⟩ = some (.int .i64 (G.getD i 0)) := IBlk.get hIG.out i (by omega)
                  have f1 := Blk.free hIG.out i
                  obtain ⟨f, hf⟩ : ∃ f, G.getD i 0 = f := ⟨_, rfl⟩
                  rw [hf] at q1 hnew hwi hwn
                  have e1' : Y.getD Z 0 = (m : Int) + (i : Int) := by rw [e1, HL.out]; omega
                  rw [e1'] at q0
                  have hbg : b ≠ g := by omega
                  have ex : y = X2 := by omega
                  subst ex
                  have HNEW := Lib.hid hnew
                  have W1 : IntKind.i64.wrap (f - most) = f - most := IntWalk.i64_in _ (by omega)
                  have W2 : IntKind.i64.wrap ((m : Int) + (i : Int) - (m : Int)) = (i : Int) := by rw [IntWalk.i64_in _ (by omega)]; omega
                  have W3 : (m : Int) + (i : Int) - (m : Int) = (i : Int) := by omega
                  have dlt : decide ((m : Int) + (i : Int) < (m : Int)) = false := decide_eq_false (by omega)
                  clear e1 e1' e3 hnew hx hf r0 r1 r2 r3
                  go_wp2_with fail
                  go_region
                  go_upto_region 23 with fail
                  obtain ⟨W6, hW6⟩ : ∃ W6, W6 = World.drew (wr.setCell ⟨g, i, none⟩ (.int .i64 (f - most))) := ⟨_, rfl⟩
                  rw [← hW6]
                  have t1 : Hid (IBlk W6 g (G.set i (f - most))) := Lib.hid (by rw [hW6]; exact Blk.add (IBlk.put hIG.out i (f - most)) (b_drew (Below.refl _ _)))
                  have t2 : Hid (IBlk W6 gb Y) := Lib.hid (by rw [hW6]; exact Blk.add (Blk.other hYG.out hgb _ _) (b_drew (Below.refl _ _)))
                  have t3 : Hid (NBox W6 w.heap.size N X t (some ⟨b, off, none⟩) m c) := Lib.hid (by rw [hW6]; exact (heap_setCell_other wr ⟨g, i, none⟩ _ _ hgne).trans hBG.out)
                  have t4 : Hid (Add w W6) := Lib.hid (by rw [hW6]; exact b_drew (add_setLow hAG.out (by omega) _ _))
                  have r5 := (t4.out.cell (p := ⟨b, off + i * 4 + 1, none⟩) hbw).trans ((hAG.out.cell (p := ⟨b, off + i * 4 + 1, none⟩) hbw).symm.trans r1')
                  have c5 := t3.out.c3
                  clear hW6 r1' q0 q1 f1 c0 c1 c2 c3 W1
                  go_wp2_with fail
                  go_roundw
                  case rel => exact ⟨_, y, rfl, HNEW, t1, t2, t3, t4⟩
                  case measure => simpa [intOf] using hS1.out
          · have d1 : ((X : Int) == (s : Int)) = false := by simp; omega
            have d2 : ((X : Int) != (s : Int)) = true := by simp; omega
            obtain ⟨p1, p2, p3, p4, -⟩ := id hway.out
            have hstep := hway.out.step HT.out hX
            obtain ⟨t1, t2, t3, t4, t5⟩ := HT.out.at p1 p2 hX
            have q0 : wr.cell? ⟨gb, X, none⟩ = some (.int .i64 (Y.getD X 0)) := IBlk.get (Blk.add HY.out hax.out) X (by omega)
            have HSTEP := Lib.hid hstep
            have HP4 := Lib.hid t4
            clear hstep t4
            rcases t5 with ⟨i, e1, hi, e3, e4, e5⟩ | ⟨j, e1, hj, e3, e4, e5⟩
            · rw [HL.out] at hi
              obtain ⟨b, off, rfl, r0, r1, r2, r3⟩ := (HA.out.add (Add.trans hadd3.out hax.out)).cell hi
              have q1 : wr.cell? ⟨g, i, none⟩ = some (.int .i64 (F.getD i 0)) := IBlk.get (Blk.add hI3.out hax.out) i (by omega)
              obtain ⟨x, y, z, u, hx, hxN, hyN, hz0, hz1⟩ := HV.out.1.at (k := i) (by rw [HL.out]; exact hi)
              have hwi := (NetM.within_iff.1 hfl.out.1).2 i (by rw [HL.out]; exact hi)
              rw [hx] at r0 r1 r2 r3 e3 e5 hwi
              dsimp only at r0 r1 r2 r3 e3 e5 hwi
              obtain ⟨f, hf⟩ : ∃ f, F.getD i 0 = f := ⟨_, rfl⟩
              rw [hf] at q1 e5 hwi
              rw [e1] at q0
              have W1 : IntKind.i64.wrap (z - f) = z - f := IntWalk.i64_in _ (by omega)
              obtain ⟨X2, hX2⟩ : ∃ X2, X2 = predP A Y X := ⟨_, rfl⟩
              rw [← hX2] at HSTEP HP4 e3
              rw [e5] at HSTEP
              have ex : x = X2 := by omega
              subst ex
              clear e1 e3 e4 e5 hx hf hX2
              go_wp2_with fail
              go_region
              go_wp2_with fail
              go_roundw
              case rel => exact ⟨_, x, rfl, rfl, Lib.hid (by rw [min_if]; exact HSTEP.out.1), Lib.hid (b_drew hax.out)⟩
              case measure => simpa [intOf] using HP4.out
            · rw [HL.out] at hj
              obtain ⟨b, off, rfl, r0, r1, r2, r3⟩ := (HA.out.add (Add.trans hadd3.out hax.out)).cell hj
              have q1 : wr.cell? ⟨g, j, none⟩ = some (.int .i64 (F.getD j 0)) := IBlk.get (Blk.add hI3.out hax.out) j (by omega)
              obtain ⟨x, y, z, u, hx, hxN, hyN, hz0, hz1⟩ := HV.out.1.at (k := j) (by rw [HL.out]; exact hj)
              have hwi := (NetM.within_iff.1 hfl.out.1).2 j (by rw [HL.out]; exact hj)
              rw [hx] at r0 r1 r2 r3 e3 hwi
              dsimp only at r0 r1 r2 r3 e3 hwi
              obtain ⟨f, hf⟩ : ∃ f, F.getD j 0 = f := ⟨_, rfl⟩
              rw [hf] at q1 e5 hwi
              have e1' : Y.getD X 0 = (m : Int) + (j : Int) := by rw [e1, HL.out]; omega
              rw [e1'] at q0
              have W1 : IntKind.i64.wrap ((m : Int) + (j : Int) - (m : Int)) = (j : Int) := by rw [IntWalk.i64_in _ (by omega)]; omega
              have dlt : decide ((m : Int) + (j : Int) < (m : Int)) = false := decide_eq_false (by omega)
              obtain ⟨X2, hX2⟩ : ∃ X2, X2 = predP A Y X := ⟨_, rfl⟩
              rw [← hX2] at HSTEP HP4 e3
              rw [e5] at HSTEP
              have ex : y = X2 := by omega
              subst ex
              clear e1 e1' e3 e4 e5 hx hf hX2
              go_wp2_with fail
              go_region
              go_wp2_with fail
              go_roundw
              case rel => exact ⟨_, y, rfl, rfl, Lib.hid (by rw [min_if]; exact HSTEP.out.1), Lib.hid (b_drew hax.out)⟩
              case measure => simpa [intOf] using HP4.out
    · obtain rfl : L = 0 := by omega
      go_wp2_with fail
      refine (CL.out _ _ _ hadd.out HRD.out).mono ?_
      rintro e w4 ⟨cv, b, rfl, h4, y1, n1⟩
      have hb : b = true := by
        cases b with
        | true => rfl
        | false => exact absurd hfl.out (n1 rfl).1
      subst hb
      have e1 := (y1 rfl).2
      have hadd4 := Add.trans hadd.out h4
      have hmin : MinC N s t A am cv := ⟨F, _, hfl.out, hpot.out.1.pot HV.out.1.1 hfl.out.1, by have := hnk.out; omega, e1.symm⟩
      have HMIN := Lib.hid hmin
      have hB4 := Lib.hid (hB.out.add h4)
      have HRD4 := Lib.hid (Rd.add HRD.out h4)
      clear y1 n1 e1 hmin h4 c0 c1 c2 c3
      have c0 := hB4.out.c0
      have c1 := hB4.out.c1
      have c2 := hB4.out.c2
      have c3 := hB4.out.c3
      go_wp2_with fail
      refine (CP.out _ _ _ _ hadd4 HRD4.out hfl.out.1 hpot.out).mono ?_
      rintro e w5 ⟨gq, rfl, h5⟩
      have HF : Hid (SolveC w N s t A am (.returned (.tuple #[.slice (some ⟨g, 0, none⟩) m m, .int .i64 cv, .slice (some ⟨gq, 0, none⟩) N N, .int .i64 0])) w5) := Lib.hid (.inl ⟨_, _, _, rfl, HMIN.out, Add.trans hadd4 h5⟩)
      clear h5 hadd4 c0 c1 c2 c3
      go_wp2_with fail
      exact bodyPost_ret (v := .tuple #[.slice (some ⟨g, 0, none⟩) m m, .int .i64 cv, .slice (some ⟨gq, 0, none⟩) N N, .int .i64 0]) (by simp [results, Try.results22, go_sem]) rfl HF.out
end Go.Proofs.Ytaoibakbnimnkaa

namespace Go.Proofs.Ytaoibakbnimnkaa
open Go.RowKit NetM

/-- True is returned; new blocks are laid at most. -/
def LawB (w : World) (e : Ending) (w' : World) : Prop := e = .returned (.bool true) ∧ Add w w'
/-- What Solve returns for a valid network with costs and an amount from 0 on. -/
def SolvePC (w : World) (N s t : Nat) (A : List Arc) (am : Int) (e : Ending) (w' : World) : Prop :=
  (∃ vf c vq F Q, e = .returned (.tuple #[vf, .int .i64 c, vq, .int .i64 0]) ∧ RdI w' vf F ∧ RdI w' vq Q ∧ certOk N s t A am F Q ∧ c = costF A F ∧ Add w w') ∨
  (∃ a c a' c', e = .returned (.tuple #[.slice a 0 c, .int .i64 0, .slice a' 0 c', .int .i64 12]) ∧ (∃ v, Opt N s t A v ∧ v < am) ∧ Add w w')
/-- What Solve returns for others. -/
def SolveCN (w : World) (e : Ending) (w' : World) : Prop := ∃ a c a' c', e = .returned (.tuple #[.slice a 0 c, .int .i64 0, .slice a' 0 c', .int .i64 1]) ∧ Add w w'
end Go.Proofs.Ytaoibakbnimnkaa
