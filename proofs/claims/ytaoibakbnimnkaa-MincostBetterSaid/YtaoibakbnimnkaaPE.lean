/- Package maxflow: Solve. -/
import Derived.Test.YtaoibakbnimnkaaPD
import Derived.Test.YtaoibakbnimnkaaPC
import Derived.Test.YtaoibakbnimnkaaJB
import Derived.Test.YtaoibakbnimnkaaP8
import Derived.Test.YtaoibakbnimnkaaN9
namespace Go.Proofs.Ytaoibakbnimnkaa
open Go.RowKit NetM

/-- What Solve returns for a network that is not valid. -/
def SolveN (w : World) (e : Ending) (w' : World) : Prop := ∃ a c a' c', e = .returned (.tuple #[.slice a 0 c, .int .i64 0, .slice a' 0 c', .int .i64 1]) ∧ Add w w'
set_option maxRecDepth 100000 in
theorem progSolve_inv {w : World} {v : Value} {N s t : Int} {A : List Arc} (h : NetA w v N s t A) (hv : validB N s t A = false) : Calls Try.prog 34 #[v] w (SolveN w) := by
  have CV : Hid (∀ W1, Add w W1 → Calls Try.prog 28 #[v] W1 (RetB W1 false)) := Lib.hid fun W1 ha => progValid_not (h.add ha) hv
  obtain ⟨va, rfl, ⟨a, m, c, rfl, -⟩⟩ := h
  have T1 := add_new w (.cells #[.int .i64 N, .int .i64 s, .int .i64 t, .slice a m c] 24)
  clear hv
  go_enter Try.func34, Try.ntmps34
  go_wp2_with fail
  refine (CV.out _ T1).mono ?_
  rintro e w1 ⟨rfl, h1⟩
  have HF : Hid (SolveN w (.returned (.tuple #[.slice none 0 0, .int .i64 0, .slice none 0 0, .int .i64 1])) w1) := Lib.hid ⟨none, 0, none, 0, rfl, Add.trans T1 h1⟩
  clear h1 T1
  go_wp2_with fail
  exact bodyPost_ret (v := .tuple #[.slice none 0 0, .int .i64 0, .slice none 0 0, .int .i64 1]) (by simp [results, Try.results34, go_sem]) rfl HF.out
theorem pushed_flow {A : List Arc} {N s t : Nat} {D F F' : List Int} {U U' : List (List Nat)} {a p : Int} (h : Pushed A N t D s a F U p F' U') (hf : isFlow N s t A F) (hst : s ≠ t) : isFlow N s t A F' ∧ net s A F' = net s A F + p := by
  obtain ⟨⟨h1, h2, h3, -⟩, -⟩ := h
  refine ⟨⟨h2, fun x hx e1 e2 => ?_⟩, ?_⟩
  · rw [h3 x, hf.2 x hx e1 e2, if_neg (by omega), if_neg (by omega)]; rfl
  · rw [h3 s, if_pos rfl, if_neg (by omega)]; omega
theorem lev_cut {A : List Arc} {F D : List Int} {N s t : Nat} (hL : Lev A F N s D) (hv : VNet N s t A) (hf : isFlow N s t A F) (ht : dl D t = -1) : isCut N s t (D.map fun d => decide (d ≠ -1)) ∧ net s A F = capF (cutOf (D.map fun d => decide (d ≠ -1))) A := by
  have hg : ∀ y : Nat, y < N → getB (D.map fun d => decide (d ≠ -1)) y = decide (dl D y ≠ -1) := by
    intro y hy
    have : y < D.length := by rw [hL.1]; exact hy
    simp [getB, dl, List.getD, this]
  have c1 : getB (D.map fun d => decide (d ≠ -1)) s = true := by rw [hg s hv.2.1, hL.2.1]; rfl
  have c2 : getB (D.map fun d => decide (d ≠ -1)) t = false := by rw [hg t hv.2.2.1, ht]; rfl
  refine ⟨⟨by rw [List.length_map]; exact hL.1, c1, c2⟩, ?_⟩
  exact value_eq hv.2.1 hv.1 hf (by rw [cutOf_nat]; exact c1) (by rw [cutOf_nat]; exact c2) (lev_tight hL hv.1 hf.1)
set_option maxRecDepth 100000 in
set_option maxHeartbeats 4000000 in
theorem progSolve_any {w : World} {v : Value} {N s t : Nat} {A : List Arc} (h : NetA w v N s t A) (hv : VNet N s t A) : Calls Try.prog 34 #[v] w (SolveP w N s t A) := by
  have CV : Hid (∀ W1, Add w W1 → Calls Try.prog 28 #[v] W1 (RetB W1 true)) := Lib.hid fun W1 ha => progValid_yes (h.add ha) hv
  have CR : Hid (∀ W1, Add w W1 → Calls Try.prog 43 #[v] W1 (ResOfP W1 A N s t)) := Lib.hid fun W1 ha => residualOf_any (h.add ha) hv
  obtain ⟨va, rfl, ha⟩ := h
  obtain ⟨a, m, c, rfl, hl, hc, hm, -⟩ := id ha
  have HV := Lib.hid hv
  have HL := Lib.hid hl
  have HZ : Hid (isFlow N s t A (List.replicate A.length 0)) := Lib.hid (zero_flow hv.1)
  obtain ⟨-, hs, ht, hst, hN, hN2, hm2⟩ := hv
  rw [hl] at hm2
  unfold maxLen at hm
  have B1 := Lib.hid (nbox_new w N s t a m c)
  have T1 := add_new w (.cells #[.int .i64 N, .int .i64 s, .int .i64 t, .slice a m c] 24)
  clear ha hl
  go_enter Try.func34, Try.ntmps34
  go_wp2_with fail
  refine (CV.out _ T1).mono ?_
  rintro e w1 ⟨rfl, h1⟩
  replace T1 := Add.trans T1 h1
  have hB := B1.out.add h1
  have b0 := hB.c0
  have b1 := hB.c1
  have b2 := hB.c2
  have b3 := hB.c3
  have hlt := hB.lt
  have HB := Lib.hid hB
  have HT1 := Lib.hid T1
  clear h1 hB B1
  go_wp2_with fail
  refine (CR.out _ T1).mono ?_
  rintro e w2 ⟨gr, gs, gf, gd, H, sv, D, rfl, hR, hH1, hH2, hH3⟩
  have HR := Lib.hid hR
  have HH3 := Lib.hid hH3
  clear hR hH3 T1 b0 b1 b2 b3 CV CR
  go_wp2_with fail
  go_loopg [7] (m * 2147483647) (fun k vv wr => ∃ (F D : List Int) (uv : Value) (x : Int), vv = .int .i64 x ∧ Hid (ResB w1 wr A N s t gr gs gf gd H sv uv (roomS A F) D) ∧ Hid (isFlow N s t A F) ∧ Hid (x = net s A F) ∧ Hid (x + (k : Int) = (m : Int) * 2147483647) ∧ Hid (H ≤ wr.heap.size))
  case atStart => exact ⟨_, D, _, 0, rfl, HR, HZ, Lib.hid (zero_net _ _).symm, Lib.hid (by simp), HH3⟩
  case round =>
    obtain ⟨F, D, uv, x, rfl, hR, hfl, hx, hk, hH⟩ := hrel
    clear HR HZ HH3
    have CM := Lib.hid (measure_any HV.out hR.out hH1 hH2 hH.out)
    go_wp2_with fail
    refine CM.out.mono ?_
    rintro e w3 ⟨b, D', gu, uv', rfl, hR3, hU3, hlev, hb, hH3⟩
    have HR3 := Lib.hid hR3
    have HU3 := Lib.hid hU3
    have HLEV := Lib.hid hlev
    have HH3 := Lib.hid hH3
    have hlim := net_bound (x := (s : Int)) HV.out.1 hfl.out.1
    rw [← hx.out, HL.out] at hlim
    have hx1 : -5368709117500 ≤ x ∧ x ≤ 5368709117500 := by omega
    obtain ⟨hx1, hx2⟩ := hx1
    clear hR3 hU3 hlev hH3 hR hH CM hlim
    cases b with
    | false =>
      have hdt : dl D' t = -1 := by simpa using hb
      obtain ⟨hcut, hval⟩ := lev_cut HLEV.out HV.out hfl.out hdt
      have HCUT := Lib.hid hcut
      have HVAL := Lib.hid hval
      have CF := Lib.hid (flow_any (NetM.within_length hfl.out.1) (by rw [HL.out]; exact hm2) HR3.out)
      have HLL := HL.out
      rw [HLL] at CF
      clear hb hcut hval hdt HLL
      go_wp2_with fail
      refine CF.out.mono ?_
      rintro e w4 ⟨g4, rfl, hI4, h4⟩
      have CS := Lib.hid (reached_any hN2 (HR3.out.add h4))
      have HI4 := Lib.hid hI4
      have H4 := Lib.hid h4
      clear hI4 h4 CF
      go_wp2_with fail
      refine CS.out.mono ?_
      rintro e w5 ⟨g5, rfl, hB5, h5⟩
      have HF : Hid (SolveP w N s t A (.returned (.tuple #[.slice (some ⟨g4, 0, none⟩) m m, .int .i64 x, .slice (some ⟨g5, 0, none⟩) N N, .int .i64 0])) w5) := Lib.hid (by
        have hml : m ≤ maxLen := by unfold maxLen; omega
        have hNl : N ≤ maxLen := by unfold maxLen; omega
        refine ⟨_, x, _, F, _, rfl, Blk.rdAll (Blk.add HI4.out h5) (by rw [List.length_map, NetM.within_length hfl.out.1, HL.out]) (Nat.le_refl _) hml, Blk.rdAll hB5 (by rw [List.length_map]; exact HCUT.out.1) (Nat.le_refl _) hNl, hfl.out, HCUT.out, hx.out.symm, ?_, ?_⟩
        · rw [hx.out, HVAL.out]
        · exact Add.trans HT1.out (Add.trans HR3.out.2.2.2.2.2.1 (Add.trans H4.out h5)))
      clear hB5 h5 CS
      go_wp2_with fail
      exact bodyPost_ret (v := .tuple #[.slice (some ⟨g4, 0, none⟩) m m, .int .i64 x, .slice (some ⟨g5, 0, none⟩) N N, .int .i64 0]) (by simp [results, Try.results34, go_sem]) rfl HF.out
    | true =>
      have hdt : dl D' t ≠ -1 := by simpa using hb
      have HDT := Lib.hid hdt
      have b1 := (HB.out.add HR3.out.2.2.2.2.2.1).c1
      have hD : ∀ y, y < N → -1 ≤ dl D' y ∧ dl D' y ≤ 700 := HLEV.out.2.2.1
      have hs0 := HLEV.out.2.1
      have CP := Lib.hid (push_any (gu := gu) HV.out hD 701 s 5368709117500 F (allU A N) w3 (by rw [hs0]; decide) (by rw [hs0]; decide) hs (by decide) (by decide) hfl.out.1 (Tried.start (allU_len A N) fun x hx => ul_all hx) HR3.out HU3.out)
      have l1 := (HB.out.add HR3.out.2.2.2.2.2.1).lt
      clear hb hdt hD hs0
      go_wp2_with fail
      refine CP.out.mono ?_
      rintro e w4 ⟨p, F2, U2, rfl, hp, hR4, hU4⟩
      have hp0 := push_some HLEV.out hs ht hst HDT.out (by decide) hp
      obtain ⟨hf2, hn2⟩ := pushed_flow hp hfl.out hst
      have hlim := net_bound (x := (s : Int)) HV.out.1 hf2.1
      rw [hn2, ← hx.out, HL.out] at hlim
      obtain ⟨kp, hkp⟩ : ∃ kp : Nat, p = (kp : Int) := ⟨p.toNat, by omega⟩
      have hkk := hk.out
      have hgk : kp ≤ gk ∧ 0 < kp := by omega
      have HX : Hid (x + p = net s A F2) := Lib.hid (by rw [hn2, hx.out])
      have HK : Hid (x + p + ((gk - kp : Nat) : Int) = (m : Int) * 2147483647) := Lib.hid (by omega)
      have HF2 := Lib.hid hf2
      have HR4 := Lib.hid hR4
      have HH4 := Lib.hid hU4.top
      have HGK := Lib.hid hgk
      have hxp : x + p ≤ 5368709117500 := by omega
      clear hp hR4 hU4 hf2 hn2 hlim hkp hkk hgk b1
      go_wp2_with fail
      go_roundg (gk - kp)
      case measure => have := HGK.out; omega
      case rel => exact ⟨F2, D', uv', x + p, rfl, HR4, HF2, HX, HK, HH4⟩
end Go.Proofs.Ytaoibakbnimnkaa
