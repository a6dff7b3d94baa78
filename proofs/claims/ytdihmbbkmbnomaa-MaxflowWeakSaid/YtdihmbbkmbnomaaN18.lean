/- The law MaxflowWeak. -/
import Derived.Test.YtdihmbbkmbnomaaN11
namespace Go.Proofs.Ytdihmbbkmbnomaa
open Go.RowKit NetM
theorem bit_of : ∀ k : Nat, k < 128 → ∀ m : Nat, m < 7 → (bits BinOp.and IntKind.i64 ((k : Int) / 2 ^ m) 1 == 1) = k.testBit m := by decide +kernel
/-- The cut of number k. -/
def cutN (N k : Nat) : List Bool := (List.range N).map fun q => k.testBit q
theorem cutN_get {N k q : Nat} (h : q < N) : getB (cutN N k) q = k.testBit q := by simp [cutN, getB, List.getD, h]
theorem cutN_part {N k m : Nat} : ((List.range N).map fun q => decide (q < m) && k.testBit q).set m (k.testBit m) = (List.range N).map fun q => decide (q < m + 1) && k.testBit q := by
  refine List.ext_getElem (by simp) fun i h1 h2 => ?_
  rw [List.getElem_set]
  by_cases c : m = i
  · subst c; simp
  · rw [if_neg c]
    simp only [List.getElem_map, List.getElem_range]
    have : decide (i < m) = decide (i < m + 1) := by rw [decide_eq_decide]; omega
    rw [this]
theorem cutN_of {N : Nat} {S : List Bool} {k : Nat} (hl : S.length = N) (h : ∀ i, i < S.length → k.testBit i = getB S i) : cutN N k = S := by
  refine List.ext_getElem (by simp [cutN, hl]) fun i h1 h2 => ?_
  have := h i h2
  simp only [cutN, List.getElem_map, List.getElem_range]
  rw [this]; simp [getB, List.getD, h2]
set_option maxRecDepth 100000 in
set_option maxHeartbeats 2000000 in
theorem weak_any {w : World} {v : Value} {bs : List Nat} (h : RdU w v bs) (hb : ∀ x ∈ bs, x < 256) : Calls Try.prog 6 #[v] w (LawB w) := by
  have CT := Lib.hid (new_any h hb)
  have CN : Hid (∀ W g, Tp W g → Calls Try.prog 22 #[.pointer (some ⟨g, 0, none⟩)] W (NetworkP W g)) := Lib.hid fun W g h => network_any h
  have CA : Hid (∀ W, Calls Try.prog 10 #[] W (LawB W)) := Lib.hid awake_any
  clear h hb
  go_enter Try.func6, Try.ntmps6
  go_wp2_with fail
  refine CT.out.mono ?_
  rintro e w1 ⟨g, rfl, ht, h1, hg⟩
  have HT := Lib.hid ht
  have H1 := Lib.hid h1
  have HG := Lib.hid hg
  clear ht h1 hg
  go_wp2_with fail
  refine (CN.out _ _ HT.out).mono ?_
  intro e w2 hnet
  obtain ⟨vn, N, s, t, A, rfl, hA, hsm, h2⟩ := made_of H1.out HG.out hnet
  obtain ⟨va, rfl, ha⟩ := id hA
  obtain ⟨a, l, c, rfl, hl, -⟩ := id ha
  have CS : Hid (∀ W1, Add w2 W1 → Calls Try.prog 19 #[.agg #[.int .i64 (N : Nat), .int .i64 (s : Nat), .int .i64 (t : Nat), .slice a l c]] W1 (SolveP W1 N s t A)) := Lib.hid fun W1 hh => progSolve_any (hA.add hh) hsm.1
  have hN7 : N ≤ 7 := hsm.2.1
  have HSM := Lib.hid hsm
  have HAA := Lib.hid hA
  have H2 := Lib.hid h2
  obtain ⟨g1, hg1⟩ : ∃ g1, g1 = w2.heap.size := ⟨_, rfl⟩
  obtain ⟨W3, hW3⟩ : ∃ W3, W3 = w2.alloc (.cells #[.int .i64 (N : Nat), .int .i64 (s : Nat), .int .i64 (t : Nat), .slice a l c] 24) := ⟨_, rfl⟩
  have hb3 : NBox W3 g1 N s t a l c := by rw [hW3, hg1]; exact nbox_new w2 N s t a l c
  have hT3 : Add w2 W3 := by rw [hW3]; exact add_new _ _
  have c0 := hb3.c0
  have c1 := hb3.c1
  have c2 := hb3.c2
  have c3 := hb3.c3
  have HB3 := Lib.hid hb3
  have HT3 := Lib.hid hT3
  clear hA ha hsm hnet h2 HT H1 HG CT CN hl hb3 hT3
  go_upto_region 2 with fail
  rw [← hW3, ← hg1]
  clear hW3 hg1
  go_wp2_with fail
  refine (CS.out _ HT3.out).mono ?_
  rintro e w4 ⟨vf, x, vc, F, S, rfl, hf, hc, q1, q2, q3, q4, h4⟩
  have hb4 := HB3.out.add h4
  clear c0 c1 c2 c3
  have c0 := hb4.c0
  have d1 : decide ((8 : Int) < (N : Int)) = false := decide_eq_false (by omega)
  have HB4 := Lib.hid hb4
  have CC : Hid (∀ W1 vc S, Add w2 W1 → RdB W1 vc S → Calls Try.prog 13 #[.agg #[.int .i64 (N : Nat), .int .i64 (s : Nat), .int .i64 (t : Nat), .slice a l c], vc] W1 (CapP W1 N s t A S)) := Lib.hid fun W1 vc S hh hc => progCapacity_any (HAA.out.add hh) HSM.out.1 hc
  obtain ⟨K0, hK0, hbits⟩ := bits_num S
  rw [q2.1] at hK0
  have HK0 := Lib.hid (show cutN N K0 = S from cutN_of q2.1 hbits)
  have HLE : Hid (∀ K, isCut N s t K → x ≤ capF (cutOf K) A) := Lib.hid fun K hK => by
    rw [← q3]
    exact value_le HSM.out.1.2.1 HSM.out.1.1 q1 hK.c.1 hK.c.2
  have HEQ : Hid (isCut N s t S ∧ capF (cutOf S) A = x) := Lib.hid ⟨q2, q4⟩
  have HA4 := Lib.hid (Add.trans HT3.out h4)
  clear hf hc q1 q2 q3 q4 h4 hb4 hbits
  go_wp2_with fail
  obtain ⟨P, hP⟩ : ∃ P, P = 2 ^ N := ⟨_, rfl⟩
  have WP : wrap64 (2 ^ N) = (P : Int) := by
    rw [hP]
    have h1 : N = 0 ∨ N = 1 ∨ N = 2 ∨ N = 3 ∨ N = 4 ∨ N = 5 ∨ N = 6 ∨ N = 7 := by omega
    rcases h1 with rfl | rfl | rfl | rfl | rfl | rfl | rfl | rfl <;> (unfold wrap64; omega)
  obtain ⟨i1, hi1, hz1, hs1, hb1⟩ := info_parts infoBool
  rw [← hP] at hK0
  have hP128 : P ≤ 128 := by rw [hP]; exact Nat.pow_le_pow_right (by decide) hN7
  clear hP
  go_loopw [8, 9] (fun rv i wr => ∃ (k : Nat) (b : Bool), k ≤ P ∧ i = .int .i64 k ∧ rv = .bool b ∧ Hid (NBox wr g1 N s t a l c) ∧ Hid (Add w2 wr) ∧ Hid (K0 < k → b = true)) (fun _ i _ => P - (intOf i).toNat)
  case atStart => exact ⟨0, false, Nat.zero_le _, rfl, rfl, HB4, HA4, Lib.hid fun h => absurd h (Nat.not_lt_zero _)⟩
  case round =>
    obtain ⟨k, rb, hk, rfl, rfl, hB, hadd, hre⟩ := hrel
    clear HB4 HA4
    have c0 := hB.out.c0
    have hlt := hB.out.lt
    by_cases hlt2 : k < P
    · go_wp2_with (at_make; refine wpList_make_full _ rfl _ _ 26 rfl wr.heap.size 4 i1 (.bool false) 1 Try.underlying26 hi1 hz1 hs1 _ _ _ _ N rfl rfl rfl rfl (by rw [hb1]; omega) (by unfold maxLen; omega) (Nat.le_refl _) ?_)
      intro w5 hown hgr
      have hI := BBlk.made hown
      have hgr2 : Add wr w5 := grown_add hgr
      obtain ⟨gc, hgc⟩ : ∃ gc, gc = wr.heap.size := ⟨_, rfl⟩
      rw [← hgc] at hI ⊢
      have hI0 : BBlk w5 gc ((List.range N).map fun q => decide (q < 0) && k.testBit q) := by
        have e : ((List.range N).map fun q => decide (q < 0) && k.testBit q) = List.replicate N false := by
          refine List.ext_getElem (by simp) fun i h1 h2 => ?_
          simp
        rw [e]; exact hI
      have HI := Lib.hid hI0
      have HB5 := Lib.hid (hB.out.add hgr2)
      have HA5 := Lib.hid (Add.trans hadd.out hgr2)
      have hgcg : g1 < gc := by omega
      have hgcw : w2.heap.size ≤ gc := by rw [hgc]; exact hadd.out.size
      clear hown hgr hI hI0 hgc hgr2 c0
      go_wp2_with fail
      obtain ⟨wm, rfl⟩ : ∃ wm : World, wm = wr := ⟨_, rfl⟩
      go_loopw [11] (fun i wx => ∃ m : Nat, m ≤ N ∧ i = .int .i64 m ∧ Hid (BBlk wx gc ((List.range N).map fun q => decide (q < m) && k.testBit q)) ∧ Hid (NBox wx g1 N s t a l c) ∧ Hid (Add w2 wx)) (fun i _ => N - (intOf i).toNat)
      case atStart => exact ⟨0, Nat.zero_le _, rfl, HI, HB5, HA5⟩
      case round =>
        clear HI HB5 HA5
        obtain ⟨m, hm, rfl, hI, hB, hA⟩ := hrel
        have c0 := hB.out.c0
        by_cases h3 : m < N
        · have q1 := BBlk.get hI.out m (by simpa using h3)
          have f1 := Blk.free hI.out m
          have EB := Lib.hid (bit_of k (by omega) m (by omega))
          go_upto_region 12 with fail
          rw [EB.out]
          have HI2 : Hid (BBlk (wr.setCell ⟨gc, m, none⟩ (.bool (k.testBit m))) gc ((List.range N).map fun q => decide (q < m + 1) && k.testBit q)) := Lib.hid (by
            rw [← cutN_part]; exact BBlk.put hI.out m _)
          have HB2 : Hid (NBox (wr.setCell ⟨gc, m, none⟩ (.bool (k.testBit m))) g1 N s t a l c) := Lib.hid ((heap_setCell_other wr ⟨gc, m, none⟩ g1 _ (by dsimp only; omega)).trans hB.out)
          have HA2 : Hid (Add w2 (wr.setCell ⟨gc, m, none⟩ (.bool (k.testBit m)))) := Lib.hid (add_setLow hA.out hgcw _ _)
          clear q1 f1 c0
          go_wp2_with fail
          go_roundw
          case rel => exact ⟨m + 1, by omega, by go_num, HI2, HB2, HA2⟩
          case measure => simp [intOf]; omega
        · obtain rfl : N = m := by omega
          have hK : ((List.range N).map fun q => decide (q < N) && k.testBit q) = cutN N k := by
            refine List.map_congr_left fun q hq => ?_
            have := List.mem_range.1 hq
            simp [this]
          rw [hK] at hI
          have hrd : RdB wr (.slice (some ⟨gc, 0, none⟩) N N) (cutN N k) := Blk.rdAll hI.out (by simp [cutN]) (Nat.le_refl _) (by unfold maxLen; omega)
          have HRD := Lib.hid hrd
          have c1 := hB.out.c1
          have c2 := hB.out.c2
          have c3 := hB.out.c3
          clear hrd hK
          go_wp2_with fail
          refine (CC.out _ _ _ hA.out HRD.out).mono ?_
          rintro e w6 ⟨cv, ok, rfl, h6, y1, y2⟩
          have HB6 := Lib.hid (hB.out.add h6)
          have HA6 := Lib.hid (Add.trans hA.out h6)
          have HI6 := Lib.hid (Blk.add hI.out h6)
          obtain ⟨kst, hks⟩ : ∃ b, getB (cutN N k) s = b := ⟨_, rfl⟩
          obtain ⟨ktt, hkt⟩ : ∃ b, getB (cutN N k) t = b := ⟨_, rfl⟩
          have x1 : w6.cell? ⟨gc, s, none⟩ = some (.bool kst) := by rw [← hks]; exact BBlk.get HI6.out s (by simpa [cutN] using HSM.out.1.2.1)
          have x2 : w6.cell? ⟨gc, t, none⟩ = some (.bool ktt) := by rw [← hkt]; exact BBlk.get HI6.out t (by simpa [cutN] using HSM.out.1.2.2.1)
          have hsN := HSM.out.1.2.1
          have htN := HSM.out.1.2.2.1
          have hiff : isCut N s t (cutN N k) ↔ (kst = true ∧ ktt = false) := by
            unfold isCut
            rw [hks, hkt]
            simp [cutN]
          have hok : ok = (kst && !ktt) := by
            cases ok with
            | true => have := hiff.1 (y1 rfl).1; rw [this.1, this.2]; rfl
            | false =>
              cases kst <;> cases ktt <;> first | rfl | (exact absurd (hiff.2 ⟨rfl, rfl⟩) (y2 rfl).1)
          have hcx : ok = true → x ≤ cv := fun h => by rw [(y1 h).2]; exact HLE.out _ (y1 h).1
          have hlast : k = K0 → ok = true ∧ cv = x := fun h => by
            subst h
            have e1 : isCut N s t (cutN N k) := by rw [HK0.out]; exact HEQ.out.1
            have e2 : ok = true := by
              cases ok with
              | true => rfl
              | false => exact absurd e1 (y2 rfl).1
            exact ⟨e2, by rw [(y1 e2).2, HK0.out]; exact HEQ.out.2⟩
          clear c0 c1 c2 c3 y1 y2 h6 hiff hks hkt
          have c1 := HB6.out.c1
          have c2 := HB6.out.c2
          have c0 := HB6.out.c0
          have HCX := Lib.hid hcx
          have HLA := Lib.hid hlast
          clear hcx hlast
          cases ok with
          | false =>
            have HRE : Hid (K0 < k + 1 → rb = true) := Lib.hid fun h => by
              rcases Nat.lt_or_ge K0 k with h2 | h2
              · exact hre.out h2
              · exact absurd (HLA.out (by omega)).1 Bool.false_ne_true
            clear HCX HLA
            cases kst with
            | false =>
              clear hok
              cases rb <;>
              · go_wp2_with fail
                go_roundw
                case rel => exact ⟨k + 1, _, by omega, by go_num, rfl, HB6, HA6, Lib.hid fun h => by first | rfl | exact HRE.out h⟩
                case measure => simp [intOf]; omega
            | true =>
              have hk2 : ktt = true := by cases ktt with | true => rfl | false => cases hok
              subst hk2
              clear hok
              cases rb <;>
              · go_wp2_with fail
                go_roundw
                case rel => exact ⟨k + 1, _, by omega, by go_num, rfl, HB6, HA6, Lib.hid fun h => by first | rfl | exact HRE.out h⟩
                case measure => simp [intOf]; omega
          | true =>
            have hkk : kst = true ∧ ktt = false := by cases kst <;> cases ktt <;> first | exact ⟨rfl, rfl⟩ | cases hok
            obtain ⟨rfl, rfl⟩ := hkk
            have d1 : decide (cv < x) = false := decide_eq_false (by have := HCX.out rfl; omega)
            obtain ⟨eq, heq⟩ : ∃ b, (cv == x) = b := ⟨_, rfl⟩
            have HRE : Hid (K0 < k + 1 → (rb || eq) = true) := Lib.hid fun h => by
              rcases Nat.lt_or_ge K0 k with h2 | h2
              · rw [hre.out h2]; rfl
              · rw [← heq, (HLA.out (by omega)).2]; simp
            clear HCX HLA hok
            cases rb <;> cases eq <;>
            · go_wp2_with fail
              go_roundw
              case rel => exact ⟨k + 1, _, by omega, by go_num, rfl, HB6, HA6, Lib.hid fun h => by first | rfl | exact HRE.out h⟩
              case measure => simp [intOf]; omega
    · obtain rfl : P = k := by omega
      have hrt := hre.out hK0
      subst hrt
      have HW := Lib.hid (Add.trans H2.out hadd.out)
      go_wp2_with fail
      refine (CA.out _).mono ?_
      rintro e w9 ⟨rfl, h9⟩
      have HE : Hid (LawB w (.returned (.bool true)) w9) := Lib.hid ⟨rfl, Add.trans HW.out h9⟩
      clear h9
      go_wp2_with fail
      go_ret
      exact HE.out
end Go.Proofs.Ytdihmbbkmbnomaa
