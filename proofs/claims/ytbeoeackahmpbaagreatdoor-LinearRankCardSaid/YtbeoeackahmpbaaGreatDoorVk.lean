/- The law LinearRank Made by gen/lrank.py. -/
import Derived.Test.YtbeoeackahmpbaaGreatDoorDB
import Derived.Test.YtbeoeackahmpbaaGreatDoorJU
import Derived.Test.YtbeoeackahmpbaaGreatDoorVb
import Derived.Deep.Cut
import Derived.Lib.AppendZeros
namespace Go.Proofs.YtbeoeackahmpbaaGreatDoor
open Go.RowKit NatM Go.Proofs.YtbeoeackahmpbaaGreatDoor.Api LinM

theorem makeF_int {z : Int} (h : -128 ≤ z ∧ z ≤ 127) : makeF z 1 = (can (z : Rat), 0) := by
  have e : frac (!(decide (z < 0) == decide ((1 : Int) < 0))) z.natAbs (1 : Int).natAbs = (z : Rat) := by
    have h1 : (!(decide (z < 0) == decide ((1 : Int) < 0))) = decide (z < 0) := by by_cases c : z < 0 <;> simp [c]
    rw [h1]
    show mkRat (sgq (decide (z < 0)) z.natAbs) 1 = _
    rw [sgq_self, Rat.mkRat_eq_div]
    have : ((1 : Nat) : Rat) = 1 := rfl
    rw [this]; grind
  have hf : Fit (z : Rat) := ⟨by rw [Rat.num_intCast]; exact small128 (by omega), by rw [Rat.den_intCast]; exact small128 (by decide)⟩
  unfold makeF
  rw [if_neg (by decide), e]; exact hf.fit
theorem fit_byte {z : Int} (h : -128 ≤ z ∧ z ≤ 127) : Fit (z : Rat) := ⟨by rw [Rat.num_intCast]; exact small128 (by omega), by rw [Rat.den_intCast]; exact small128 (by decide)⟩
theorem fit_zmul {z : Int} {q : Rat} (h : -128 ≤ z ∧ z ≤ 127) (hq : Small q) : Fit ((z : Rat) * q) := by
  have := comb_fit (c := fun _ => z) (A := fun _ _ => if True then q else 0) (k := 1) (by omega) (fun _ _ => h) (fun _ _ => by rw [if_pos trivial]; exact hq) 0
  have e : combQ (fun _ => z) (fun _ _ => if True then q else 0) 1 0 = (z : Rat) * q := by
    show (0 : Rat) + (z : Rat) * (if True then q else 0) = _
    rw [if_pos trivial]; grind
  rwa [e] at this
theorem resMk {w w' : World} {p : Tri × Nat} {e : Ending} (g : ResF w p e w') : MkP w p.1 e w' := by
  obtain ⟨v, rfl, hv, h⟩ := g
  obtain ⟨a, n, c, e', d, f, rfl, g1, g2⟩ := id hv
  exact ⟨_, a, n, c, e', d, f, p.2, rfl, hv, h⟩
set_option maxRecDepth 100000 in
set_option maxHeartbeats 8000000 in
theorem rank_any {w : World} {m0 m1 n1 n2 : Nat} {v1 v2 : Value} {L Lc : Nat → Int} (h0 : m0 < 256) (h00 : m1 < 256) (h1 : Ri8 w v1 n1 L) (h2 : Ri8 w v2 n2 Lc) (hT : Tab w) :
    Calls Tryz.prog 8 #[.int .u8 (m0 : Nat), .int .u8 (m1 : Nat), v1, v2] w (BoolIs w true) := by
  obtain ⟨n, hn⟩ : ∃ n, ordB m0 = n := ⟨_, rfl⟩
  obtain ⟨m, hm⟩ : ∃ m, ordB m1 = m := ⟨_, rfl⟩
  have hn1 : 1 ≤ n ∧ n ≤ 5 := by rw [← hn]; unfold ordB; omega
  have hm1 : 1 ≤ m ∧ m ≤ 5 := by rw [← hm]; unfold ordB; omega
  have CO := Lib.hid (orderLN (w := w) h0 (Lib.hid hn))
  have CO2 := Lib.hid (fun w' => orderLN (w := w') h00 (Lib.hid hm))
  have HL := Lib.hid (And.intro h1.lims h2.lims)
  have HC := Lib.hid h2
  have CM1 := Lib.hid (fun w' (ha : Add w w') => matrixN (rows := n) (cols := m) (h1.add ha) (hT.mono ha) (by omega) (by omega))
  have HT := Lib.hid hT
  obtain ⟨ao, ca, rfl, -, -⟩ := h1
  obtain ⟨bo, cb, rfl, -, -⟩ := h2
  clear h0 h00 hT hn hm
  go_enter Tryz.func8, Tryz.ntmps8
  go_wp2_with fail
  refine CO.out.mono ?_
  rintro e w1 ⟨rfl, h1⟩
  go_wp2_with fail
  refine (CO2.out w1).mono ?_
  rintro e w2 ⟨rfl, h2⟩
  have h12 := Add.trans h1 h2
  clear h1 h2 CO CO2
  go_wp2_with fail
  refine (CM1.out w2 h12).mono ?_
  rintro e w3 ⟨ra, hva, rfl, hGa, h3⟩
  obtain ⟨ra1, rc1, rfl⟩ := own_isSlice hGa.own
  have HT3 := Lib.hid (Add.trans h12 h3)
  have HM := Lib.hid hGa.mat
  clear h12 h3 hGa CM1
  go_wp2_with fail
  go_loopw [12, 13] (fun rv j wr => ∃ (q : Nat) (hv : Nat → Value), q ≤ m ∧ j = .int .i64 (q : Nat) ∧ GM wr w3.heap.size rv q hv n (fun j i => matT n1 L m i j) ∧ Add w3 wr) (fun _ j _ => m - (intOf j).toNat)
  case atStart => exact ⟨0, fun _ => .slice none 0 0, Nat.zero_le _, rfl, GM.nil _ _ _ _ _, Below.refl _ _⟩
  case round =>
    obtain ⟨q, hv, hq, rfl, hE, T⟩ := hrel
    obtain ⟨rt, rtc, rfl⟩ := own_isSlice hE.own
    by_cases h0 : q = m
    · have hMt := hE.mat
      subst h0
      have hsA := small_mQ HL.out.1 q
      have hshA : shapeOk (matT n1 L q) (fun _ => q) n = true := shapeOk_iff.2 ⟨⟨hn1.1, by omega⟩, ⟨hm1.1, by omega⟩, fun i _ => ⟨rfl, fun j _ => by rw [matT_can]; exact (hsA i j).fit.ok⟩⟩
      have hshT : shapeOk (fun j i => matT n1 L q i j) (fun _ => n) q = true := shapeOk_iff.2 ⟨⟨hm1.1, by omega⟩, ⟨hn1.1, by omega⟩, fun i _ => ⟨rfl, fun j _ => by rw [matT_can]; exact (hsA j i).fit.ok⟩⟩
      have hnm : n * (q * 8) ≤ 5 * (5 * 8) := Nat.mul_le_mul hn1.2 (Nat.mul_le_mul_right 8 hm1.2)
      have hmn : q * (n * 8) ≤ 5 * (5 * 8) := Nat.mul_le_mul hm1.2 (Nat.mul_le_mul_right 8 hn1.2)
      have hqT : qm (fun j i => matT n1 L q i j) = fun j i => mQ n1 L q i j := by funext j i; unfold qm; dsimp only; rw [matT_can, qv_can]
      have hwA : wtM (fun i j => can (qm (matT n1 L q) i j)) (fun _ => q) n ≤ 200 := by
        rw [qm_mat]; have := small_wtM hsA n q; omega
      have hwT : wtM (fun i j => can (qm (fun j i => matT n1 L q i j) i j)) (fun _ => n) q ≤ 200 := by
        rw [hqT]; exact Nat.le_trans (small_wtM (A := fun j i => mQ n1 L q i j) (fun j i => hsA i j) q n) hmn
      have CR1 := Lib.hid (rankR ((HM.out.add T).arg fun i j _ _ => small_sm HL.out.1 q i j) (HT.out.mono (Add.trans HT3.out T)) hshA rfl (by omega))
      have CR2 := Lib.hid (fun w' (ha : Add wr w') => rankR ((hMt.add ha).arg fun j i _ _ => small_sm HL.out.1 q i j) (HT.out.mono (Add.trans HT3.out (Add.trans T ha))) hshT rfl (by omega))
      have HT4 := Lib.hid T
      clear hE T hMt hshA hshT hnm hmn hwA hwT
      rename World => wl
      go_wp2_with fail
      refine CR1.out.mono ?_
      rintro e w4 ⟨k1, rfl, hR1, h4⟩
      go_wp2_with fail
      refine (CR2.out w4 h4).mono ?_
      rintro e w5 ⟨k2, rfl, hR2, h5⟩
      rw [qm_mat] at hR1
      rw [hqT] at hR2
      have hkk := rank_turn hR1 hR2
      subst hkk
      have hsm := hR1.small
      have HRK := Lib.hid hR1
      have HT5 := Lib.hid (Add.trans HT4.out (Add.trans h4 h5))
      have dmin : decide (min (n : Int) (q : Int) < (k1 : Int)) = false := by simp; omega
      have dmin2 : ¬ (min (n : Int) (q : Int) < (k1 : Int)) := by omega
      clear hR1 hR2 hqT h4 h5 CR1 CR2 HT4
      go_wp2_with fail
      obtain ⟨r, hr⟩ : ∃ r, r = min n n2 := ⟨_, rfl⟩
      have hrn : r ≤ n ∧ r ≤ n2 := by omega
      have hrx : ∀ t, t = r ∨ t < r ∨ r < t := fun t => by omega
      have hrm : r = n ∨ r = n2 := by omega
      obtain ⟨cq, hcq⟩ : ∃ cq : Nat → Nat → Rat, cq = fun t j => combQ Lc (mQ n1 L q) t j := ⟨_, rfl⟩
      have hlc : ∀ t, t ≤ r → ∀ i, i < t → -128 ≤ Lc i ∧ Lc i ≤ 127 := fun t ht i hi => HL.out.2 i (by omega)
      have HCF : Hid (∀ t j, t ≤ r → Fit (cq t j)) := Lib.hid fun t j ht => by rw [hcq]; exact comb_fit (by omega) (hlc t ht) hsA j
      have HCS : Hid (∀ t j, cq (t + 1) j = cq t j + ((Lc t : Int) : Rat) * mQ n1 L q t j) := Lib.hid fun t j => by rw [hcq]; rfl
      have HC0 : Hid (∀ j, cq 0 j = 0) := Lib.hid fun j => by rw [hcq]; rfl
      have HCQ := Lib.hid hcq
      have I0 : Hid (∀ w', Calls Tryz.prog 38 #[.int .i64 0] w' (RetQ w' 0)) := Lib.hid fun w' => intQ w' (by decide) (by decide +kernel)
      clear hr hcq hlc dmin dmin2
      go_loopw [20, 21] (fun u j wr => ∃ p : Nat, p ≤ q ∧ j = .int .i64 (p : Nat) ∧ OwnF wr w5.heap.size u p (fun j => can (cq r j)) ∧ Add w5 wr) (fun _ j _ => q - (intOf j).toNat)
      case atStart => exact ⟨0, Nat.zero_le _, rfl, OwnF.nil _ _ _, Below.refl _ _⟩
      case round =>
        obtain ⟨p, hp, rfl, hO, T⟩ := hrel
        obtain ⟨ua, uc, rfl, -, -⟩ := hO.slice
        by_cases h0 : p = q
        · rename World => wr
          rw [h0] at hO
          have T5 := Add.trans HT5.out T
          have hMr := HM.out.add T5
          obtain ⟨b4, off4, rb, rbc, hv4, w6, e4, hrun6, hown6, hsoft6, hrows6, hA6⟩ := copyOwn hMr (by omega) (by omega)
          subst e4
          have hO6 := hO.add hA6
          have hbk : (w6.alloc (.cells #[.slice ua q uc] 23)).heap[w6.heap.size]? = some (.cells #[.slice ua q uc] 23 (0, 0)) := heap_alloc_new w6 _
          have hA7 := add_new w6 (.cells #[.slice ua q uc] 23)
          obtain ⟨a7, c7, w7, hrun7, hM7, hT7⟩ := pushOwn hown6 hsoft6 hrows6 hA6 hA7 (hO6.add hA7) hbk (by omega) (c := 1)
          obtain ⟨B, hB⟩ : ∃ B : Mat, B = fun i j => if i = n then cq r j else mQ n1 L q i j := ⟨_, rfl⟩
          have eB : (fun i => if i = n then (fun j => can (cq r j)) else matT n1 L q i) = fun i j => can (B i j) := by
            funext i j
            rw [hB]
            dsimp only
            by_cases e : i = n
            · rw [if_pos e, if_pos e]
            · rw [if_neg e, if_neg e]; exact matT_can n1 L q i j
          rw [eB] at hM7
          have hfB : ∀ i j, Fit (B i j) := fun i j => by
            rw [hB]; dsimp only
            by_cases e : i = n
            · rw [if_pos e]; exact HCF.out r j (Nat.le_refl r)
            · rw [if_neg e]; exact (hsA i j).fit
          have hwB : wtM (fun i j => can (B i j)) (fun _ => q) (n + 1) ≤ 1440 := by
            have h1 : wtM (fun i j => can (B i j)) (fun _ => q) (n + 1) ≤ (n + 1) * 240 := sumK_le fun i _ => by
              by_cases e : i = n
              · have e1 : (fun j => can (B i j)) = fun j => can (combQ Lc (mQ n1 L q) r j) := by funext j; rw [hB]; dsimp only; rw [if_pos e, HCQ.out]
                have := comb_wt (q := q) (c := Lc) (A := mQ n1 L q) (k := r) (by omega) (fun i hi => HL.out.2 i (by omega)) hsA
                show wtR (fun j => can (B i j)) q ≤ 240
                rw [e1]; omega
              · have e1 : (fun j => can (B i j)) = fun j => can (mQ n1 L q i j) := by funext j; rw [hB]; dsimp only; rw [if_neg e]
                have := small_wtR (t := mQ n1 L q i) (hsA i) q
                show wtR (fun j => can (B i j)) q ≤ 240
                rw [e1]; omega
            omega
          have hshB : shapeOk (fun i j => can (B i j)) (fun _ => q) (n + 1) = true := shapeOk_iff.2 ⟨⟨by omega, by omega⟩, ⟨hm1.1, by omega⟩, fun i _ => ⟨rfl, fun j _ => (hfB i j).ok⟩⟩
          have CR3 := Lib.hid (rankR (hM7.arg fun i j _ _ => (hfB i j).sm) (HT.out.mono (Add.trans HT3.out (Add.trans T5 hT7))) hshB rfl (by rw [qm_can]; omega))
          rw [qm_can] at CR3
          have hcomb : ∃ a : Nat → Rat, ∀ l, l < q → B n l = LinM.sumQ (fun i => a i * mQ n1 L q i l) n := ⟨fun i => if i < r then ((Lc i : Int) : Rat) else 0, fun l _ => by
            rw [hB]; dsimp only
            rw [if_pos rfl, HCQ.out]
            have key : ∀ k, r ≤ k → LinM.sumQ (fun i => (if i < r then ((Lc i : Int) : Rat) else 0) * mQ n1 L q i l) k = combQ Lc (mQ n1 L q) r l := by
              intro k hk
              induction k with
              | zero =>
                have : r = 0 := by omega
                subst this; rfl
              | succ k ih =>
                by_cases e : r = k + 1
                · subst e
                  exact LinM.sumQ_congr fun i hi => by rw [if_pos hi]
                · show LinM.sumQ (fun i => (if i < r then ((Lc i : Int) : Rat) else 0) * mQ n1 L q i l) k + (if k < r then ((Lc k : Int) : Rat) else 0) * mQ n1 L q k l = _
                  rw [ih (by omega), if_neg (by omega)]; grind
            exact (key n hrn.1).symm⟩
          have HBB : Hid (∀ k2, RankIs B (n + 1) q k2 → k1 = k2) := Lib.hid fun k2 h2 => rank_more HRK.out h2 (fun i l hi _ => by rw [hB]; dsimp only; rw [if_neg (by omega)]) hcomb
          have HRUN6 := Lib.hid hrun6
          have HRUN7 := Lib.hid hrun7
          have HT7 := Lib.hid (Add.trans HT5.out (Add.trans T hT7))
          have HTr := Lib.hid hT7
          clear hO T T5 hMr hrun6 hown6 hsoft6 hrows6 hA6 hO6 hbk hA7 hrun7 hM7 hT7 hB eB hfB hwB hshB hcomb HCF HCS HC0 HCQ I0 HC
          subst h0
          go_wp2_with (first | (at_builtin; refine Lib.wpList_append_run _ rfl _ _ _ _ rfl _ _ rfl rfl _ _ HRUN6.out ?_) | (at_builtin; refine Lib.wpList_append_run _ rfl _ _ _ _ rfl _ _ rfl rfl _ _ HRUN7.out ?_))
          refine CR3.out.mono ?_
          rintro e w8 ⟨k2, rfl, hR3, h8⟩
          have hkk3 := HBB.out k2 hR3
          subst hkk3
          have HT8 := Lib.hid (Add.trans HT7.out h8)
          clear hR3 h8 CR3 HBB HRUN6 HRUN7 HT7 HTr
          by_cases hnq : n = p
          · subst hnq
            have hsq : sqOkL (matT n1 L n) (fun _ => n) n = true := small_sq HL.out.1 hn1.1 (by omega)
            have hw1 := small_wtM hsA n n
            have hnn : n * (n * 8) ≤ 5 * (5 * 8) := Nat.mul_le_mul hn1.2 (Nat.mul_le_mul_right 8 hn1.2)
            have hdF : detF (matT n1 L n) (fun _ => n) n = (can (LinM.det n (mQ n1 L n)), 0) := by
              unfold detF
              rw [if_pos hsq, if_pos (by rw [qm_mat]; omega), qm_mat]
            have hfd : Fit (LinM.det n (mQ n1 L n)) := det_fit (x := 200) (by omega) (by omega) (by omega)
            have CD := Lib.hid (detN ((HM.out.add HT8.out).arg fun i j _ _ => small_sm HL.out.1 n i j) (HT.out.mono (Add.trans HT3.out HT8.out)) _ (Lib.hid hdF))
            have hfull := rank_full HRK.out
            obtain ⟨dt, hdt⟩ : ∃ d, d = LinM.det n (mQ n1 L n) := ⟨_, rfl⟩
            rw [← hdt] at CD hfd hfull
            obtain ⟨sg, hsg⟩ : ∃ s, signQ dt = s := ⟨_, rfl⟩
            have hsz : sg = 0 ↔ dt = 0 := by rw [← hsg]; exact sign_zero
            have HFD := Lib.hid (And.intro hfd hsg)
            have HCMP : Hid ((sg = 0 ∧ k1 ≠ n) ∨ (sg ≠ 0 ∧ k1 = n)) := Lib.hid (by
              by_cases e : dt = 0
              · exact .inl ⟨hsz.2 e, fun h => hfull.1 h e⟩
              · exact .inr ⟨fun h => e (hsz.1 h), hfull.2 e⟩)
            clear hsq hw1 hnn hdF hfd hfull hdt hsg hsz hsA
            go_wp2_with fail
            refine CD.out.mono ?_
            rintro e w9 ⟨v9, rfl, hv9, h9⟩
            obtain ⟨a9, n9, c9, e9, d9, f9, rfl, -, -⟩ := id hv9
            obtain ⟨y9, hy9⟩ : ∃ y, y = (can dt).1 := ⟨_, rfl⟩
            dsimp only at hv9 ⊢
            rw [← hy9] at hv9 ⊢
            rw [Int.natCast_zero]
            have hB := box_new w9 y9 a9 n9 c9 e9 d9 f9
            have hA := add_new w9 (.cells #[.bool y9, .slice a9 n9 c9, .slice e9 d9 f9] 37)
            obtain ⟨W9, hW⟩ : ∃ W, W = w9.alloc (.cells #[.bool y9, .slice a9 n9 c9, .slice e9 d9 f9] 37) := ⟨_, rfl⟩
            obtain ⟨g9, hg⟩ : ∃ g, g = w9.heap.size := ⟨_, rfl⟩
            rw [← hW, ← hg] at hB
            rw [← hW] at hA
            have HT9 := Lib.hid (Add.trans HT8.out (Add.trans h9 hA))
            have HW9 := Lib.hid (And.intro hW hg)
            have CSg := Lib.hid (refSignN sg (Sm.arg (hv9.mono hA) HFD.out.1.sm) (Lib.hid HFD.out.1.ok) (Lib.hid (by rw [qv_can]; exact HFD.out.2)))
            have p0 := hB.c0
            have p1 := hB.c1
            have p2 := hB.c2
            clear hv9 hB hA h9 hW hg hy9 CD HT8
            go_upto_region 34 with fail
            rw [← HW9.out.1, ← HW9.out.2]
            clear HW9
            go_wp2_with fail
            refine CSg.out.mono ?_
            rintro e w10 ⟨rfl, h10⟩
            have HT10 := Lib.hid (Add.trans HT9.out h10)
            have CA := Lib.hid (awakeN w10 (HT.out.mono (Add.trans HT3.out HT10.out)))
            clear h10 CSg HT9 p0 p1 p2
            rcases HCMP.out with ⟨hz, hk⟩ | ⟨hz, hk⟩
            · have d1 : (sg != 0) = false := by simp [hz]
              have d2 : ((k1 : Int) == (n : Int)) = false := by simp; omega
              have d3 : ¬ ((k1 : Int) = (n : Int)) := by omega
              have d4 : ¬ (k1 = n) := hk
              go_wp2_with fail
              refine CA.out.mono ?_
              rintro e w11 ⟨rfl, h11⟩
              go_wp2_with fail
              go_ret
              exact ⟨rfl, Add.trans HT3.out (Add.trans HT10.out h11)⟩
            · have d1 : (sg != 0) = true := by simp [hz]
              have d2 : ((k1 : Int) == (n : Int)) = true := by simp [hk]
              have d3 : ¬ (sg = 0) := hz
              subst hk
              go_wp2_with fail
              refine CA.out.mono ?_
              rintro e w11 ⟨rfl, h11⟩
              go_wp2_with fail
              go_ret
              exact ⟨rfl, Add.trans HT3.out (Add.trans HT10.out h11)⟩
          · have d1 : ((n : Int) != (p : Int)) = true := by simp; omega
            have d2 : ¬ ((n : Int) = (p : Int)) := by omega
            have CA := Lib.hid (awakeN w8 (HT.out.mono (Add.trans HT3.out HT8.out)))
            clear hsA
            go_wp2_with fail
            refine CA.out.mono ?_
            rintro e w11 ⟨rfl, h11⟩
            go_wp2_with fail
            go_ret
            exact ⟨rfl, Add.trans HT3.out (Add.trans HT8.out h11)⟩
        · have hpq : p < q := by omega
          have HQ := Lib.hid (And.intro hO T)
          clear hO T h0
          go_wp2_with fail
          refine (I0.out _).mono ?_
          rintro e w6 ⟨y6, a6, n6, c6, e6, d6, f6, rfl, x6, h6⟩
          have hB := box_new w6 y6 a6 n6 c6 e6 d6 f6
          have hA := add_new w6 (.cells #[.bool y6, .slice a6 n6 c6, .slice e6 d6 f6] 37)
          have hE6 : FracT (w6.alloc (.cells #[.bool y6, .slice a6 n6 c6, .slice e6 d6 f6] 37)) (.agg #[.bool y6, .slice a6 n6 c6, .slice e6 d6 f6]) (can (cq 0 p)) := by
            rw [HC0.out]; exact x6.mono hA
          have hO6 := (HQ.out.1.add h6).add hA
          have T6 := Add.trans HQ.out.2 (Add.trans h6 hA)
          obtain ⟨gx, hgx⟩ : ∃ g, g = w6.heap.size := ⟨_, rfl⟩
          have hgw : w5.heap.size ≤ gx := by have := (Add.trans HQ.out.2 h6).size; omega
          have hgo : ∀ g, (Value.slice ua p uc).ownBlock = some g → g ≠ gx := fun g hg e => by have := (HQ.out.1.lt g hg).2; have := h6.size; omega
          rw [← hgx] at hB
          have HGX := Lib.hid (And.intro hgx (And.intro hgw hgo))
          clear x6 h6 hA HQ hgx hgw hgo
          go_wp2_with fail
          rw [← HGX.out.1]
          go_loopw [23] (fun i wr => ∃ (t : Nat) (y : Bool) (a : Option Addr) (n' c : Nat) (e : Option Addr) (d f : Nat), t ≤ r ∧ i = .int .i64 (t : Nat) ∧ Box wr gx y a n' c e d f ∧ FracT wr (.agg #[.bool y, .slice a n' c, .slice e d f]) (can (cq t p)) ∧ OwnF wr w5.heap.size (.slice ua p uc) p (fun j => can (cq r j)) ∧ Add w5 wr) (fun i _ => r - (intOf i).toNat)
          case atStart => exact ⟨0, _, _, _, _, _, _, _, Nat.zero_le _, rfl, hB, hE6, hO6, T6⟩
          case round =>
            clear hB hE6 hO6 T6
            obtain ⟨t, y, a, n', c, e, d, f, ht, rfl, hB, hx, hO, T⟩ := hrel
            have p0 := hB.c0
            have p1 := hB.c1
            have p2 := hB.c2
            by_cases h1 : t = r
            · rw [h1] at hx
              obtain ⟨a9, c9, w9, hrun, hO9, T9⟩ := app_box hO hx T (by omega)
              have HRUN := Lib.hid hrun
              have HN := Lib.hid (And.intro (hO9.congr (t' := fun j => can (cq r j)) fun i hi => by
                by_cases e : i = p
                · rw [if_pos e, e]
                · rw [if_neg e]) T9)
              clear hB hx hO T hrun hO9 T9
              by_cases htn : t < n
              · have htc : ¬ t < n2 := by omega
                have d1 : decide ((t : Int) < (n : Int)) = true := by simp; omega
                have d2 : decide ((t : Int) < (n2 : Int)) = false := by simp; omega
                go_wp2_with (at_builtin; refine Lib.wpList_append_run _ rfl _ _ _ _ rfl _ _ rfl rfl _ _ HRUN.out ?_)
                go_roundw
                case rel => exact ⟨p + 1, by omega, by go_num, HN.out.1, HN.out.2⟩
                case measure => simp [intOf]; omega
              · have d1 : decide ((t : Int) < (n : Int)) = false := by simp; omega
                go_wp2_with (at_builtin; refine Lib.wpList_append_run _ rfl _ _ _ _ rfl _ _ rfl rfl _ _ HRUN.out ?_)
                go_roundw
                case rel => exact ⟨p + 1, by omega, by go_num, HN.out.1, HN.out.2⟩
                case measure => simp [intOf]; omega
            · have htn : t < n := by omega
              have htc : t < n2 := by omega
              rename World => wr
              obtain ⟨b1, off1, e1, hcells⟩ : ∃ b1 off1, bo = some ⟨b1, off1, none⟩ ∧ ∀ i, i < n2 → w.cell? ⟨b1, off1 + i, none⟩ = some (.int .i8 (Lc i)) := by
                obtain ⟨ao', c', e9, -, h9⟩ := HC.out
                obtain ⟨b1, off1, e8, h8⟩ := h9 (by omega)
                simp only [Value.slice.injEq] at e9
                exact ⟨b1, off1, e9.1.trans e8, fun i hi => (h8 i hi).1⟩
              subst e1
              obtain ⟨b2, off2, a2, l2, rfl, -, c0, r0⟩ := HM.out.row htn
              obtain ⟨b3, off3, sx, an, qn, cn, ad, dn, cd, rfl, -, k0, k1', k2, hx3⟩ := r0.get hpq
              have T3 := Add.trans HT5.out T
              have Tw := Add.trans HT3.out T3
              obtain ⟨z, hz⟩ : ∃ z, z = Lc t := ⟨_, rfl⟩
              have hzb := HL.out.2 t htc
              have hcz := hcells t htc
              rw [← hz] at hzb hcz
              have ew : IntKind.i64.wrap z = z := by rw [IntKind.wrap_i64]; omega
              have HS : Hid (∀ w', Add wr w' → w'.cell? ⟨b1, off1 + t, none⟩ = some (.int .i8 z) ∧ w'.cell? ⟨b2, off2 + t, none⟩ = some (.slice (some ⟨b3, off3, none⟩) q l2) ∧ w'.cell? ⟨b3, off3 + p * 3, none⟩ = some (.bool sx) ∧ w'.cell? ⟨b3, off3 + p * 3 + 1, none⟩ = some (.slice an qn cn) ∧ w'.cell? ⟨b3, off3 + p * 3 + 2, none⟩ = some (.slice ad dn cd)) := Lib.hid fun w' g => ⟨cell_addL (cell_addL hcz Tw) g, cell_addL (cell_addL c0 T3) g, cell_addL (cell_addL k0 T3) g, cell_addL (cell_addL k1' T3) g, cell_addL (cell_addL k2 T3) g⟩
              have l1 : b1 < wr.heap.size := World.block_lt_of_cell? wr _ (cell_addL hcz Tw)
              have l2' : b2 < wr.heap.size := World.block_lt_of_cell? wr _ (cell_addL c0 T3)
              have l3 : b3 < wr.heap.size := World.block_lt_of_cell? wr _ (cell_addL k0 T3)
              have HS3 : Hid (∀ (W : World) (g : Nat), Add wr W → wr.heap.size ≤ g → ∀ u0 u1 u2 : Value, (((W.setCell ⟨g, 0, none⟩ u0).setCell ⟨g, 1, none⟩ u1).setCell ⟨g, 2, none⟩ u2).cell? ⟨b1, off1 + t, none⟩ = some (.int .i8 z) ∧ (((W.setCell ⟨g, 0, none⟩ u0).setCell ⟨g, 1, none⟩ u1).setCell ⟨g, 2, none⟩ u2).cell? ⟨b2, off2 + t, none⟩ = some (.slice (some ⟨b3, off3, none⟩) q l2) ∧ (((W.setCell ⟨g, 0, none⟩ u0).setCell ⟨g, 1, none⟩ u1).setCell ⟨g, 2, none⟩ u2).cell? ⟨b3, off3 + p * 3, none⟩ = some (.bool sx) ∧ (((W.setCell ⟨g, 0, none⟩ u0).setCell ⟨g, 1, none⟩ u1).setCell ⟨g, 2, none⟩ u2).cell? ⟨b3, off3 + p * 3 + 1, none⟩ = some (.slice an qn cn) ∧ (((W.setCell ⟨g, 0, none⟩ u0).setCell ⟨g, 1, none⟩ u1).setCell ⟨g, 2, none⟩ u2).cell? ⟨b3, off3 + p * 3 + 2, none⟩ = some (.slice ad dn cd)) := Lib.hid fun W g ha hg u0 u1 u2 => by
                obtain ⟨q1, q2, q3, q4, q5⟩ := HS.out W ha
                exact ⟨(put3_cell u0 u1 u2 (show b1 ≠ g by omega)).trans q1, (put3_cell u0 u1 u2 (show b2 ≠ g by omega)).trans q2, (put3_cell u0 u1 u2 (show b3 ≠ g by omega)).trans q3, (put3_cell u0 u1 u2 (show b3 ≠ g by omega)).trans q4, (put3_cell u0 u1 u2 (show b3 ≠ g by omega)).trans q5⟩
              have CI : Hid (∀ w', Calls Tryz.prog 38 #[.int .i64 (IntKind.i64.wrap z)] w' (RetQ w' (z : Rat))) := Lib.hid fun w' => by rw [ew]; exact intQ w' (by omega) (makeF_int hzb)
              have hx3' : FracT w3 (.agg #[.bool sx, .slice an qn cn, .slice ad dn cd]) (can (mQ n1 L q t p)) := by rw [← matT_can]; exact hx3
              have hfz : Fit (z : Rat) := fit_byte hzb
              have hfm := (hsA t p).fit
              have hfp : Fit ((z : Rat) * mQ n1 L q t p) := fit_zmul hzb (hsA t p)
              have CML : Hid (∀ (W : World) (v : Value), Add wr W → FracT W v (can (z : Rat)) → Calls Tryz.prog 35 #[v, .agg #[.bool sx, .slice an qn cn, .slice ad dn cd]] W (MkP W (can ((z : Rat) * mQ n1 L q t p)))) := Lib.hid fun W v ha hv => (refMulN2 _ (Sm.arg hv hfz.sm) (Sm.arg (hx3'.mono (Add.trans T3 ha)) hfm.sm) (Lib.hid (mul_can hfz hfm hfp))).mono fun _ _ g => resMk g
              have HAD : Hid (addF (can (cq t p)) (can ((z : Rat) * mQ n1 L q t p)) = (can (cq (t + 1) p), 0)) := Lib.hid (by
                have e9 := HCS.out t p
                rw [← hz] at e9
                rw [e9]
                exact add_can (HCF.out t p (by omega)) hfp (by rw [← e9]; exact HCF.out (t + 1) p (by omega)))
              have HBX := Lib.hid (And.intro hB (And.intro hx (And.intro hO T)))
              have HFF := Lib.hid (And.intro hfp (And.intro (HCF.out t p (by omega)) (HGX.out.2)))
              have HZP := Lib.hid hsA
              obtain ⟨z1, z2, z3, z4, z5⟩ := HS.out wr (Below.refl _ _)
              clear hcells c0 r0 k0 k1' k2 hx3 T3 Tw hz hzb hcz ew l1 l2' l3 hx3' hfz hfm hfp hB hx hO T h1 p0 p1 p2
              go_upto_region 25 with fail
              refine wp_region_held_drew (S := fun w' => w'.cell? ⟨b1, off1 + t, none⟩ = some (.int .i8 z) ∧ w'.cell? ⟨b2, off2 + t, none⟩ = some (.slice (some ⟨b3, off3, none⟩) q l2) ∧ w'.cell? ⟨b3, off3 + p * 3, none⟩ = some (.bool sx) ∧ w'.cell? ⟨b3, off3 + p * 3 + 1, none⟩ = some (.slice an qn cn) ∧ w'.cell? ⟨b3, off3 + p * 3 + 2, none⟩ = some (.slice ad dn cd)) (by kernel_rfl) (HS.out _ (b_drewL (Below.refl _ _))) (fun hHeld => ?_)
              refine wpAnyH_take (i := 0) (v := ?_) (by simp only [List.getElem?_toArray, List.getElem?_cons_zero]; rfl) (by kernel_rfl) (by kernel_rfl) (by kernel_rfl) (by intro _ _ _ h; exact h) (Or.inl ⟨by rfl, ?_⟩) (by assumption) ?_
              rotate_left
              · intro w0 hSw
                try dsimp only at hSw
                go_simp
                try with_reducible rfl
              try simp only [Act.put, List.setIfInBounds_toArray, List.set_cons_zero, List.set_cons_succ]
              refine wpAnyH_take (i := 1) (v := ?_) (by simp only [List.getElem?_toArray, List.getElem?_cons_zero, List.getElem?_cons_succ]; rfl) (by kernel_rfl) (by kernel_rfl) (by kernel_rfl) (by intro _ _ _ h; exact h) (Or.inl ⟨by rfl, ?_⟩) (by assumption) ?_
              rotate_left
              · intro w0 hSw
                try dsimp only at hSw
                go_simp
                try with_reducible rfl
              try simp only [Act.put, List.setIfInBounds_toArray, List.set_cons_zero, List.set_cons_succ]
              refine wpAnyH_take (i := 2) (v := ?_) (by simp only [List.getElem?_toArray, List.getElem?_cons_zero, List.getElem?_cons_succ]; rfl) (by kernel_rfl) (by kernel_rfl) (by kernel_rfl) (by intro _ _ _ h; exact h) (Or.inl ⟨by rfl, ?_⟩) (by assumption) ?_
              rotate_left
              · intro w0 hSw
                try dsimp only at hSw
                go_simp
                try with_reducible rfl
              try simp only [Act.put, List.setIfInBounds_toArray, List.set_cons_zero, List.set_cons_succ]
              refine wpAnyH_take (i := 3) (v := ?_) (by simp only [List.getElem?_toArray, List.getElem?_cons_zero, List.getElem?_cons_succ]; rfl) (by kernel_rfl) (by kernel_rfl) (by kernel_rfl) (by intro _ _ _ h; exact h) (Or.inl ⟨by rfl, ?_⟩) (by assumption) ?_
              rotate_left
              · intro w0 hSw
                try dsimp only at hSw
                go_simp
                try with_reducible rfl
              try simp only [Act.put, List.setIfInBounds_toArray, List.set_cons_zero, List.set_cons_succ]
              refine wpAnyH_take (i := 4) (v := ?_) (by simp only [List.getElem?_toArray, List.getElem?_cons_zero, List.getElem?_cons_succ]; rfl) (by kernel_rfl) (by kernel_rfl) (by kernel_rfl) (by intro _ _ _ h; exact h) (Or.inl ⟨by rfl, ?_⟩) (by assumption) ?_
              rotate_left
              · intro w0 hSw
                try dsimp only at hSw
                go_simp
                try with_reducible rfl
              try simp only [Act.put, List.setIfInBounds_toArray, List.set_cons_zero, List.set_cons_succ]
              refine wpAnyH_take (i := 6) (v := ?_) (by simp only [List.getElem?_toArray, List.getElem?_cons_zero, List.getElem?_cons_succ]; rfl) (by kernel_rfl) (by kernel_rfl) (by kernel_rfl) (by intro _ _ _ h; exact h) (Or.inl ⟨by rfl, ?_⟩) (by assumption) ?_
              rotate_left
              · intro w0 hSw
                try dsimp only at hSw
                go_simp
                try with_reducible rfl
              try simp only [Act.put, List.setIfInBounds_toArray, List.set_cons_zero, List.set_cons_succ]
              refine wpAnyH_take (i := 7) (v := ?_) (by simp only [List.getElem?_toArray, List.getElem?_cons_zero, List.getElem?_cons_succ]; rfl) (by kernel_rfl) (by kernel_rfl) (by kernel_rfl) (by intro _ _ _ h; exact h) (Or.inl ⟨by rfl, ?_⟩) (by assumption) ?_
              rotate_left
              · intro w0 hSw
                try dsimp only at hSw
                go_simp
                try with_reducible rfl
              try simp only [Act.put, List.setIfInBounds_toArray, List.set_cons_zero, List.set_cons_succ]
              refine wpAnyH_take (i := 8) (v := ?_) (by simp only [List.getElem?_toArray, List.getElem?_cons_zero, List.getElem?_cons_succ]; rfl) (by kernel_rfl) (by kernel_rfl) (by kernel_rfl) (by intro _ _ _ h; exact h) (Or.inl ⟨by rfl, ?_⟩) (by assumption) ?_
              rotate_left
              · intro w0 hSw
                try dsimp only at hSw
                go_simp
                try with_reducible rfl
              try simp only [Act.put, List.setIfInBounds_toArray, List.set_cons_zero, List.set_cons_succ]
              refine wpAnyH_take (i := 9) (v := ?_) (by simp only [List.getElem?_toArray, List.getElem?_cons_zero, List.getElem?_cons_succ]; rfl) (by kernel_rfl) (by kernel_rfl) (by kernel_rfl) (by intro _ _ _ h; exact h) (Or.inl ⟨by rfl, ?_⟩) (by assumption) ?_
              rotate_left
              · intro w0 hSw
                try dsimp only at hSw
                go_simp
                try with_reducible rfl
              try simp only [Act.put, List.setIfInBounds_toArray, List.set_cons_zero, List.set_cons_succ]
              refine wpAnyH_take (i := 10) (v := ?_) (by simp only [List.getElem?_toArray, List.getElem?_cons_zero, List.getElem?_cons_succ]; rfl) (by kernel_rfl) (by kernel_rfl) (by kernel_rfl) (by intro _ _ _ h; exact h) (Or.inl ⟨by rfl, ?_⟩) (by assumption) ?_
              rotate_left
              · intro w0 hSw
                try dsimp only at hSw
                go_simp
                try with_reducible rfl
              try simp only [Act.put, List.setIfInBounds_toArray, List.set_cons_zero, List.set_cons_succ]
              refine wpAnyH_take (i := 11) (v := ?_) (by simp only [List.getElem?_toArray, List.getElem?_cons_zero, List.getElem?_cons_succ]; rfl) (by kernel_rfl) (by kernel_rfl) (by kernel_rfl) (by intro _ _ _ h; exact h) (Or.inl ⟨by rfl, ?_⟩) (by assumption) ?_
              rotate_left
              · intro w0 hSw
                try dsimp only at hSw
                go_simp
                try with_reducible rfl
              try simp only [Act.put, List.setIfInBounds_toArray, List.set_cons_zero, List.set_cons_succ]
              refine wpAnyH_take (i := 12) (v := ?_) (by simp only [List.getElem?_toArray, List.getElem?_cons_zero, List.getElem?_cons_succ]; rfl) (by kernel_rfl) (by kernel_rfl) (by kernel_rfl) (by intro _ _ _ h; exact h) (Or.inl ⟨by rfl, ?_⟩) (by assumption) ?_
              rotate_left
              · intro w0 hSw
                try dsimp only at hSw
                go_simp
                try with_reducible rfl
              try simp only [Act.put, List.setIfInBounds_toArray, List.set_cons_zero, List.set_cons_succ]
              refine wpAnyH_ready (rs := [5, 17]) (by kernel_rfl) (by simp) ?_
              refine AllReadyH.cons (o := _) (by simp only [List.getElem?_toArray, List.getElem?_cons_zero, List.getElem?_cons_succ]; rfl) (fun K hK => ?_) ?_
              · skip
                go_simp
                refine (CI.out _).mono ?_
                rintro e z7 ⟨y7, a7, n7, c7, e7, d7, f7, rfl, x7, h7⟩
                have ty := Add.trans (Below.drew (Below.refl _ _) : Add wr (World.drew wr)) h7
                refine hK.out _ _ (HS.out _ ty) (fun hHeld => ?_)
                clear hK K
                try simp only [Act.put, List.setIfInBounds_toArray, List.set_cons_zero, List.set_cons_succ]
                refine wpAnyH_ready (rs := [13, 17]) (by kernel_rfl) (by simp) ?_
                refine AllReadyH.cons (o := _) (by simp only [List.getElem?_toArray, List.getElem?_cons_zero, List.getElem?_cons_succ]; rfl) (fun K hK => ?_) ?_
                · skip
                  go_simp
                  refine (CML.out _ _ (ty) x7).mono ?_
                  rintro e z8 ⟨y8, a8, n8, c8, e8, d8, f8, k8, rfl, hx8, h8⟩
                  have tz := Add.trans (ty) h8
                  refine hK.out _ _ (HS.out _ tz) (fun hHeld => ?_)
                  clear hK K
                  try simp only [Act.put, List.setIfInBounds_toArray, List.set_cons_zero, List.set_cons_succ]
                  refine wpAnyH_take (i := 14) (v := ?_) (by simp only [List.getElem?_toArray, List.getElem?_cons_zero, List.getElem?_cons_succ]; rfl) (by kernel_rfl) (by kernel_rfl) (by kernel_rfl) (by intro _ _ _ h; exact h) (Or.inl ⟨by rfl, ?_⟩) (by assumption) ?_
                  rotate_left
                  · intro w0 hSw
                    try dsimp only at hSw
                    go_simp
                    try with_reducible rfl
                  try simp only [Act.put, List.setIfInBounds_toArray, List.set_cons_zero, List.set_cons_succ]
                  refine wpAnyH_take (i := 15) (v := ?_) (by simp only [List.getElem?_toArray, List.getElem?_cons_zero, List.getElem?_cons_succ]; rfl) (by kernel_rfl) (by kernel_rfl) (by kernel_rfl) (by intro _ _ _ h; exact h) (Or.inl ⟨by rfl, ?_⟩) (by assumption) ?_
                  rotate_left
                  · intro w0 hSw
                    try dsimp only at hSw
                    go_simp
                    try with_reducible rfl
                  try simp only [Act.put, List.setIfInBounds_toArray, List.set_cons_zero, List.set_cons_succ]
                  refine wpAnyH_take (i := 16) (v := ?_) (by simp only [List.getElem?_toArray, List.getElem?_cons_zero, List.getElem?_cons_succ]; rfl) (by kernel_rfl) (by kernel_rfl) (by kernel_rfl) (by intro _ _ _ h; exact h) (Or.inl ⟨by rfl, ?_⟩) (by assumption) ?_
                  rotate_left
                  · intro w0 hSw
                    try dsimp only at hSw
                    go_simp
                    try with_reducible rfl
                  try simp only [Act.put, List.setIfInBounds_toArray, List.set_cons_zero, List.set_cons_succ]
                  refine wpAnyH_ready (rs := [17]) (by kernel_rfl) (by simp) ?_
                  refine AllReadyH.cons (o := _) (by simp only [List.getElem?_toArray, List.getElem?_cons_zero, List.getElem?_cons_succ]; rfl) (fun K hK => ?_) ?_
                  · skip
                    go_simp
                    have ta := Add.trans tz (add_new z8 (.cells #[.bool false, .slice none 0 0, .slice none 0 0] 37))
                    obtain ⟨g24, hg24⟩ : ∃ g, g = z8.heap.size := ⟨_, rfl⟩
                    have ba : Box (z8.alloc (.cells #[.bool false, .slice none 0 0, .slice none 0 0] 37)) g24 false none 0 0 none 0 0 := by rw [hg24]; exact box_new z8 false none 0 0 none 0 0
                    have hg9 : wr.heap.size ≤ g24 := by rw [hg24]; exact (tz).size
                    rw [← hg24]
                    have HG24 := Lib.hid hg24
                    clear hg24
                    have hx9 := hx8
                    have hx8 := FracT.mono hx8 (add_new z8 (.cells #[.bool false, .slice none 0 0, .slice none 0 0] 37))
                    refine hK.out _ _ (HS.out _ ta) (fun hHeld => ?_)
                    clear hK K
                    try simp only [Act.put, List.setIfInBounds_toArray, List.set_cons_zero, List.set_cons_succ]
                    refine wpAnyH_ready (rs := [18]) (by kernel_rfl) (by simp) ?_
                    refine AllReadyH.cons (o := _) (by simp only [List.getElem?_toArray, List.getElem?_cons_zero, List.getElem?_cons_succ]; rfl) (fun K hK => ?_) ?_
                    · skip
                      rw [HG24.out]
                      go_simp
                      have bP := box_new z8 y8 a8 n8 c8 e8 d8 f8
                      have xP := FracT.mono hx9 (add_new z8 (.cells #[.bool y8, .slice a8 n8 c8, .slice e8 d8 f8] 37))
                      have tP := Add.trans tz (add_new z8 (.cells #[.bool y8, .slice a8 n8 c8, .slice e8 d8 f8] 37))
                      rw [← HG24.out] at bP
                      refine hK.out _ _ (HS.out _ tP) (fun hHeld => ?_)
                      clear hK K
                      try simp only [Act.put, List.setIfInBounds_toArray, List.set_cons_zero, List.set_cons_succ]
                      refine wpAnyH_take (i := 19) (v := ?_) (by simp only [List.getElem?_toArray, List.getElem?_cons_zero, List.getElem?_cons_succ]; rfl) (by kernel_rfl) (by kernel_rfl) (by kernel_rfl) (by intro _ _ _ h; exact h) (Or.inl ⟨by rfl, ?_⟩) (by assumption) ?_
                      rotate_left
                      · intro w0 hSw
                        try dsimp only at hSw
                        go_simp
                        try with_reducible rfl
                      try simp only [Act.put, List.setIfInBounds_toArray, List.set_cons_zero, List.set_cons_succ]
                      refine wpAnyH_done (by kernel_rfl) ?_ _
                      obtain ⟨W9, hW9⟩ : ∃ W, W = (z8.alloc (.cells #[.bool y8, .slice a8 n8 c8, .slice e8 d8 f8] 37)) := ⟨_, rfl⟩
                      rw [← hW9] at bP xP tP ⊢
                      try rw [← HG24.out]
                      have hb9 := HBX.out.1.mono tP
                      have hx9' := HBX.out.2.1.mono tP
                      have CAD := Lib.hid ((refAddN2 _ (Sm.arg hx9' HFF.out.2.1.sm) (Sm.arg xP HFF.out.1.sm) HAD).mono fun _ _ g => resMk g)
                      have HB9 := Lib.hid hb9
                      have HO9 := Lib.hid (And.intro (HBX.out.2.2.1.add tP) (Add.trans HBX.out.2.2.2 tP))
                      have q0 := bP.c0
                      have q1 := bP.c1
                      have q2 := bP.c2
                      have r0 := hb9.c0
                      have r1 := hb9.c1
                      have r2 := hb9.c2
                      clear hW9 hb9 hx9' bP xP tP HBX HAD hHeld
                      go_wp2_with fail
                      refine CAD.out.mono ?_
                      rintro e z10 ⟨y10, a10, n10, c10, e10, d10, f10, k10, rfl, hx10, h10⟩
                      have hbz := HB9.out.mono h10
                      have b0 := hbz.c0
                      have b1 := hbz.c1
                      have b2 := hbz.c2
                      have b3 := hbz.fr 0
                      have b4 := hbz.fr 1
                      have b5 := hbz.fr 2
                      have b6 := hbz.lt
                      have bE := hbz.put y10 a10 n10 c10 e10 d10 f10
                      have xE := hx10.put hbz (.bool y10) (.slice a10 n10 c10) (.slice e10 d10 f10)
                      have oE : OwnF (put3 z10 gx (.bool y10) (.slice a10 n10 c10) (.slice e10 d10 f10)) w5.heap.size (.slice ua p uc) p (fun j => can (cq r j)) := (HO9.out.1.add h10).chg (chg_put3 hbz _ _ _) fun g hg e => HGX.out.2.2 g hg e
                      have tE := put3_below (.bool y10) (.slice a10 n10 c10) (.slice e10 d10 f10) (Add.trans HO9.out.2 h10) HGX.out.2.1
                      have HN := Lib.hid (And.intro bE (And.intro xE (And.intro oE tE)))
                      unfold put3 at HN
                      clear hbz bE xE oE tE hx10 h10 HB9 HO9 CAD q0 q1 q2 r0 r1 r2
                      go_wp2_with fail
                      go_roundw
                      case rel => exact ⟨t + 1, _, _, _, _, _, _, _, by omega, by go_num, HN.out.1, HN.out.2.1, HN.out.2.2.1, HN.out.2.2.2⟩
                      case measure => simp [intOf]; omega
                    exact AllReadyH.nil
                  exact AllReadyH.nil
                refine AllReadyH.cons (o := _) (by simp only [List.getElem?_toArray, List.getElem?_cons_zero, List.getElem?_cons_succ]; rfl) (fun K hK => ?_) ?_
                · skip
                  go_simp
                  have ta := Add.trans ty (add_new z7 (.cells #[.bool false, .slice none 0 0, .slice none 0 0] 37))
                  obtain ⟨g24, hg24⟩ : ∃ g, g = z7.heap.size := ⟨_, rfl⟩
                  have ba : Box (z7.alloc (.cells #[.bool false, .slice none 0 0, .slice none 0 0] 37)) g24 false none 0 0 none 0 0 := by rw [hg24]; exact box_new z7 false none 0 0 none 0 0
                  have hg9 : wr.heap.size ≤ g24 := by rw [hg24]; exact (ty).size
                  rw [← hg24]
                  have HG24 := Lib.hid hg24
                  clear hg24
                  refine hK.out _ _ (HS.out _ ta) (fun hHeld => ?_)
                  clear hK K
                  try simp only [Act.put, List.setIfInBounds_toArray, List.set_cons_zero, List.set_cons_succ]
                  refine wpAnyH_ready (rs := [13]) (by kernel_rfl) (by simp) ?_
                  refine AllReadyH.cons (o := _) (by simp only [List.getElem?_toArray, List.getElem?_cons_zero, List.getElem?_cons_succ]; rfl) (fun K hK => ?_) ?_
                  · skip
                    go_simp
                    have x7 := FracT.mono x7 (add_new z7 (.cells #[.bool false, .slice none 0 0, .slice none 0 0] 37))
                    refine (CML.out _ _ (ta) x7).mono ?_
                    rintro e z8 ⟨y8, a8, n8, c8, e8, d8, f8, k8, rfl, hx8, h8⟩
                    have tz := Add.trans (ta) h8
                    have ba := ba.mono h8
                    refine hK.out _ _ (HS.out _ tz) (fun hHeld => ?_)
                    clear hK K
                    try simp only [Act.put, List.setIfInBounds_toArray, List.set_cons_zero, List.set_cons_succ]
                    refine wpAnyH_take (i := 14) (v := ?_) (by simp only [List.getElem?_toArray, List.getElem?_cons_zero, List.getElem?_cons_succ]; rfl) (by kernel_rfl) (by kernel_rfl) (by kernel_rfl) (by intro _ _ _ h; exact h) (Or.inl ⟨by rfl, ?_⟩) (by assumption) ?_
                    rotate_left
                    · intro w0 hSw
                      try dsimp only at hSw
                      go_simp
                      try with_reducible rfl
                    try simp only [Act.put, List.setIfInBounds_toArray, List.set_cons_zero, List.set_cons_succ]
                    refine wpAnyH_take (i := 15) (v := ?_) (by simp only [List.getElem?_toArray, List.getElem?_cons_zero, List.getElem?_cons_succ]; rfl) (by kernel_rfl) (by kernel_rfl) (by kernel_rfl) (by intro _ _ _ h; exact h) (Or.inl ⟨by rfl, ?_⟩) (by assumption) ?_
                    rotate_left
                    · intro w0 hSw
                      try dsimp only at hSw
                      go_simp
                      try with_reducible rfl
                    try simp only [Act.put, List.setIfInBounds_toArray, List.set_cons_zero, List.set_cons_succ]
                    refine wpAnyH_take (i := 16) (v := ?_) (by simp only [List.getElem?_toArray, List.getElem?_cons_zero, List.getElem?_cons_succ]; rfl) (by kernel_rfl) (by kernel_rfl) (by kernel_rfl) (by intro _ _ _ h; exact h) (Or.inl ⟨by rfl, ?_⟩) (by assumption) ?_
                    rotate_left
                    · intro w0 hSw
                      try dsimp only at hSw
                      go_simp
                      try with_reducible rfl
                    try simp only [Act.put, List.setIfInBounds_toArray, List.set_cons_zero, List.set_cons_succ]
                    refine wpAnyH_ready (rs := [18]) (by kernel_rfl) (by simp) ?_
                    refine AllReadyH.cons (o := _) (by simp only [List.getElem?_toArray, List.getElem?_cons_zero, List.getElem?_cons_succ]; rfl) (fun K hK => ?_) ?_
                    · skip
                      have t9 := tz
                      have s0 := ba.c0
                      have s1 := ba.c1
                      have s2 := ba.c2
                      have s3 := ba.fr 0
                      have s4 := ba.fr 1
                      have s5 := ba.fr 2
                      have s6 := ba.lt
                      go_simp
                      have bP := ba.put y8 a8 n8 c8 e8 d8 f8
                      have xP := hx8.put ba (.bool y8) (.slice a8 n8 c8) (.slice e8 d8 f8)
                      have tP := put3_below (.bool y8) (.slice a8 n8 c8) (.slice e8 d8 f8) t9 hg9
                      unfold put3 at bP xP tP
                      refine hK.out _ _ (HS3.out _ _ t9 hg9 _ _ _) (fun hHeld => ?_)
                      clear hK K
                      try simp only [Act.put, List.setIfInBounds_toArray, List.set_cons_zero, List.set_cons_succ]
                      refine wpAnyH_take (i := 19) (v := ?_) (by simp only [List.getElem?_toArray, List.getElem?_cons_zero, List.getElem?_cons_succ]; rfl) (by kernel_rfl) (by kernel_rfl) (by kernel_rfl) (by intro _ _ _ h; exact h) (Or.inl ⟨by rfl, ?_⟩) (by assumption) ?_
                      rotate_left
                      · intro w0 hSw
                        try dsimp only at hSw
                        go_simp
                        try with_reducible rfl
                      try simp only [Act.put, List.setIfInBounds_toArray, List.set_cons_zero, List.set_cons_succ]
                      refine wpAnyH_done (by kernel_rfl) ?_ _
                      obtain ⟨W9, hW9⟩ : ∃ W, W = (((z8.setCell ⟨g24, 0, none⟩ (.bool y8)).setCell ⟨g24, 1, none⟩ (.slice a8 n8 c8)).setCell ⟨g24, 2, none⟩ (.slice e8 d8 f8)) := ⟨_, rfl⟩
                      rw [← hW9] at bP xP tP ⊢
                      try rw [← HG24.out]
                      have hb9 := HBX.out.1.mono tP
                      have hx9' := HBX.out.2.1.mono tP
                      have CAD := Lib.hid ((refAddN2 _ (Sm.arg hx9' HFF.out.2.1.sm) (Sm.arg xP HFF.out.1.sm) HAD).mono fun _ _ g => resMk g)
                      have HB9 := Lib.hid hb9
                      have HO9 := Lib.hid (And.intro (HBX.out.2.2.1.add tP) (Add.trans HBX.out.2.2.2 tP))
                      have q0 := bP.c0
                      have q1 := bP.c1
                      have q2 := bP.c2
                      have r0 := hb9.c0
                      have r1 := hb9.c1
                      have r2 := hb9.c2
                      clear hW9 hb9 hx9' bP xP tP HBX HAD hHeld
                      go_wp2_with fail
                      refine CAD.out.mono ?_
                      rintro e z10 ⟨y10, a10, n10, c10, e10, d10, f10, k10, rfl, hx10, h10⟩
                      have hbz := HB9.out.mono h10
                      have b0 := hbz.c0
                      have b1 := hbz.c1
                      have b2 := hbz.c2
                      have b3 := hbz.fr 0
                      have b4 := hbz.fr 1
                      have b5 := hbz.fr 2
                      have b6 := hbz.lt
                      have bE := hbz.put y10 a10 n10 c10 e10 d10 f10
                      have xE := hx10.put hbz (.bool y10) (.slice a10 n10 c10) (.slice e10 d10 f10)
                      have oE : OwnF (put3 z10 gx (.bool y10) (.slice a10 n10 c10) (.slice e10 d10 f10)) w5.heap.size (.slice ua p uc) p (fun j => can (cq r j)) := (HO9.out.1.add h10).chg (chg_put3 hbz _ _ _) fun g hg e => HGX.out.2.2 g hg e
                      have tE := put3_below (.bool y10) (.slice a10 n10 c10) (.slice e10 d10 f10) (Add.trans HO9.out.2 h10) HGX.out.2.1
                      have HN := Lib.hid (And.intro bE (And.intro xE (And.intro oE tE)))
                      unfold put3 at HN
                      clear hbz bE xE oE tE hx10 h10 HB9 HO9 CAD q0 q1 q2 r0 r1 r2
                      go_wp2_with fail
                      go_roundw
                      case rel => exact ⟨t + 1, _, _, _, _, _, _, _, by omega, by go_num, HN.out.1, HN.out.2.1, HN.out.2.2.1, HN.out.2.2.2⟩
                      case measure => simp [intOf]; omega
                    exact AllReadyH.nil
                  exact AllReadyH.nil
                exact AllReadyH.nil
              refine AllReadyH.cons (o := _) (by simp only [List.getElem?_toArray, List.getElem?_cons_zero, List.getElem?_cons_succ]; rfl) (fun K hK => ?_) ?_
              · skip
                go_simp
                have ta := Add.trans (Below.drew (Below.refl _ _) : Add wr (World.drew wr)) (add_new (World.drew wr) (.cells #[.bool false, .slice none 0 0, .slice none 0 0] 37))
                obtain ⟨g24, hg24⟩ : ∃ g, g = wr.heap.size := ⟨_, rfl⟩
                have ba : Box ((World.drew wr).alloc (.cells #[.bool false, .slice none 0 0, .slice none 0 0] 37)) g24 false none 0 0 none 0 0 := by rw [hg24]; exact box_new (World.drew wr) false none 0 0 none 0 0
                have hg9 : wr.heap.size ≤ g24 := by rw [hg24]; exact ((Below.drew (Below.refl _ _) : Add wr (World.drew wr))).size
                rw [← hg24]
                have HG24 := Lib.hid hg24
                clear hg24
                refine hK.out _ _ (HS.out _ ta) (fun hHeld => ?_)
                clear hK K
                try simp only [Act.put, List.setIfInBounds_toArray, List.set_cons_zero, List.set_cons_succ]
                refine wpAnyH_ready (rs := [5]) (by kernel_rfl) (by simp) ?_
                refine AllReadyH.cons (o := _) (by simp only [List.getElem?_toArray, List.getElem?_cons_zero, List.getElem?_cons_succ]; rfl) (fun K hK => ?_) ?_
                · skip
                  go_simp
                  refine (CI.out _).mono ?_
                  rintro e z7 ⟨y7, a7, n7, c7, e7, d7, f7, rfl, x7, h7⟩
                  have ty := Add.trans ta h7
                  have ba := ba.mono h7
                  refine hK.out _ _ (HS.out _ ty) (fun hHeld => ?_)
                  clear hK K
                  try simp only [Act.put, List.setIfInBounds_toArray, List.set_cons_zero, List.set_cons_succ]
                  refine wpAnyH_ready (rs := [13]) (by kernel_rfl) (by simp) ?_
                  refine AllReadyH.cons (o := _) (by simp only [List.getElem?_toArray, List.getElem?_cons_zero, List.getElem?_cons_succ]; rfl) (fun K hK => ?_) ?_
                  · skip
                    go_simp
                    refine (CML.out _ _ (ty) x7).mono ?_
                    rintro e z8 ⟨y8, a8, n8, c8, e8, d8, f8, k8, rfl, hx8, h8⟩
                    have tz := Add.trans (ty) h8
                    have ba := ba.mono h8
                    refine hK.out _ _ (HS.out _ tz) (fun hHeld => ?_)
                    clear hK K
                    try simp only [Act.put, List.setIfInBounds_toArray, List.set_cons_zero, List.set_cons_succ]
                    refine wpAnyH_take (i := 14) (v := ?_) (by simp only [List.getElem?_toArray, List.getElem?_cons_zero, List.getElem?_cons_succ]; rfl) (by kernel_rfl) (by kernel_rfl) (by kernel_rfl) (by intro _ _ _ h; exact h) (Or.inl ⟨by rfl, ?_⟩) (by assumption) ?_
                    rotate_left
                    · intro w0 hSw
                      try dsimp only at hSw
                      go_simp
                      try with_reducible rfl
                    try simp only [Act.put, List.setIfInBounds_toArray, List.set_cons_zero, List.set_cons_succ]
                    refine wpAnyH_take (i := 15) (v := ?_) (by simp only [List.getElem?_toArray, List.getElem?_cons_zero, List.getElem?_cons_succ]; rfl) (by kernel_rfl) (by kernel_rfl) (by kernel_rfl) (by intro _ _ _ h; exact h) (Or.inl ⟨by rfl, ?_⟩) (by assumption) ?_
                    rotate_left
                    · intro w0 hSw
                      try dsimp only at hSw
                      go_simp
                      try with_reducible rfl
                    try simp only [Act.put, List.setIfInBounds_toArray, List.set_cons_zero, List.set_cons_succ]
                    refine wpAnyH_take (i := 16) (v := ?_) (by simp only [List.getElem?_toArray, List.getElem?_cons_zero, List.getElem?_cons_succ]; rfl) (by kernel_rfl) (by kernel_rfl) (by kernel_rfl) (by intro _ _ _ h; exact h) (Or.inl ⟨by rfl, ?_⟩) (by assumption) ?_
                    rotate_left
                    · intro w0 hSw
                      try dsimp only at hSw
                      go_simp
                      try with_reducible rfl
                    try simp only [Act.put, List.setIfInBounds_toArray, List.set_cons_zero, List.set_cons_succ]
                    refine wpAnyH_ready (rs := [18]) (by kernel_rfl) (by simp) ?_
                    refine AllReadyH.cons (o := _) (by simp only [List.getElem?_toArray, List.getElem?_cons_zero, List.getElem?_cons_succ]; rfl) (fun K hK => ?_) ?_
                    · skip
                      have t9 := tz
                      have s0 := ba.c0
                      have s1 := ba.c1
                      have s2 := ba.c2
                      have s3 := ba.fr 0
                      have s4 := ba.fr 1
                      have s5 := ba.fr 2
                      have s6 := ba.lt
                      go_simp
                      have bP := ba.put y8 a8 n8 c8 e8 d8 f8
                      have xP := hx8.put ba (.bool y8) (.slice a8 n8 c8) (.slice e8 d8 f8)
                      have tP := put3_below (.bool y8) (.slice a8 n8 c8) (.slice e8 d8 f8) t9 hg9
                      unfold put3 at bP xP tP
                      refine hK.out _ _ (HS3.out _ _ t9 hg9 _ _ _) (fun hHeld => ?_)
                      clear hK K
                      try simp only [Act.put, List.setIfInBounds_toArray, List.set_cons_zero, List.set_cons_succ]
                      refine wpAnyH_take (i := 19) (v := ?_) (by simp only [List.getElem?_toArray, List.getElem?_cons_zero, List.getElem?_cons_succ]; rfl) (by kernel_rfl) (by kernel_rfl) (by kernel_rfl) (by intro _ _ _ h; exact h) (Or.inl ⟨by rfl, ?_⟩) (by assumption) ?_
                      rotate_left
                      · intro w0 hSw
                        try dsimp only at hSw
                        go_simp
                        try with_reducible rfl
                      try simp only [Act.put, List.setIfInBounds_toArray, List.set_cons_zero, List.set_cons_succ]
                      refine wpAnyH_done (by kernel_rfl) ?_ _
                      obtain ⟨W9, hW9⟩ : ∃ W, W = (((z8.setCell ⟨g24, 0, none⟩ (.bool y8)).setCell ⟨g24, 1, none⟩ (.slice a8 n8 c8)).setCell ⟨g24, 2, none⟩ (.slice e8 d8 f8)) := ⟨_, rfl⟩
                      rw [← hW9] at bP xP tP ⊢
                      try rw [← HG24.out]
                      have hb9 := HBX.out.1.mono tP
                      have hx9' := HBX.out.2.1.mono tP
                      have CAD := Lib.hid ((refAddN2 _ (Sm.arg hx9' HFF.out.2.1.sm) (Sm.arg xP HFF.out.1.sm) HAD).mono fun _ _ g => resMk g)
                      have HB9 := Lib.hid hb9
                      have HO9 := Lib.hid (And.intro (HBX.out.2.2.1.add tP) (Add.trans HBX.out.2.2.2 tP))
                      have q0 := bP.c0
                      have q1 := bP.c1
                      have q2 := bP.c2
                      have r0 := hb9.c0
                      have r1 := hb9.c1
                      have r2 := hb9.c2
                      clear hW9 hb9 hx9' bP xP tP HBX HAD hHeld
                      go_wp2_with fail
                      refine CAD.out.mono ?_
                      rintro e z10 ⟨y10, a10, n10, c10, e10, d10, f10, k10, rfl, hx10, h10⟩
                      have hbz := HB9.out.mono h10
                      have b0 := hbz.c0
                      have b1 := hbz.c1
                      have b2 := hbz.c2
                      have b3 := hbz.fr 0
                      have b4 := hbz.fr 1
                      have b5 := hbz.fr 2
                      have b6 := hbz.lt
                      have bE := hbz.put y10 a10 n10 c10 e10 d10 f10
                      have xE := hx10.put hbz (.bool y10) (.slice a10 n10 c10) (.slice e10 d10 f10)
                      have oE : OwnF (put3 z10 gx (.bool y10) (.slice a10 n10 c10) (.slice e10 d10 f10)) w5.heap.size (.slice ua p uc) p (fun j => can (cq r j)) := (HO9.out.1.add h10).chg (chg_put3 hbz _ _ _) fun g hg e => HGX.out.2.2 g hg e
                      have tE := put3_below (.bool y10) (.slice a10 n10 c10) (.slice e10 d10 f10) (Add.trans HO9.out.2 h10) HGX.out.2.1
                      have HN := Lib.hid (And.intro bE (And.intro xE (And.intro oE tE)))
                      unfold put3 at HN
                      clear hbz bE xE oE tE hx10 h10 HB9 HO9 CAD q0 q1 q2 r0 r1 r2
                      go_wp2_with fail
                      go_roundw
                      case rel => exact ⟨t + 1, _, _, _, _, _, _, _, by omega, by go_num, HN.out.1, HN.out.2.1, HN.out.2.2.1, HN.out.2.2.2⟩
                      case measure => simp [intOf]; omega
                    exact AllReadyH.nil
                  exact AllReadyH.nil
                exact AllReadyH.nil
              exact AllReadyH.nil
    · have hlt : q < m := by omega
      rename World => wm
      have HE := Lib.hid (And.intro hE T)
      clear hE T h0
      go_wp2_with fail
      go_loopw [14, 15] (fun u i wq => ∃ p : Nat, p ≤ n ∧ i = .int .i64 (p : Nat) ∧ OwnF wq wm.heap.size u p (fun i => matT n1 L m i q) ∧ Add wm wq) (fun _ i _ => n - (intOf i).toNat)
      case atStart => exact ⟨0, Nat.zero_le _, rfl, OwnF.nil _ _ _, Below.refl _ _⟩
      case round =>
        obtain ⟨p, hp, rfl, hO, T⟩ := hrel
        obtain ⟨ua, uc, rfl, -, -⟩ := hO.slice
        by_cases h1 : p = n
        · rename World => wq
          rw [h1] at hO
          have hbk : (wq.alloc (.cells #[.slice ua n uc] 23)).heap[wq.heap.size]? = some (.cells #[.slice ua n uc] 23 (0, 0)) := heap_alloc_new wq _
          have T9 := Add.trans T (add_new wq (.cells #[.slice ua n uc] 23))
          obtain ⟨a', c', w9, hrun, hG, hc9⟩ := HE.out.1.push T9 (hO.add (add_new wq (.cells #[.slice ua n uc] 23))) HE.out.2.size HE.out.2.size hbk (by omega) (c := 1)
          have T10 : Add w3 w9 := hc9.below (Add.trans HE.out.2 T9) (Add.trans HE.out.2 T9).size fun g hg => (own_in HE.out.1.own g hg).1
          have HRUN := Lib.hid hrun
          have HN := Lib.hid (And.intro hG T10)
          clear hO T hbk T9 hrun hG hc9 T10
          subst h1
          go_wp2_with (at_builtin; refine Lib.wpList_append_run _ rfl _ _ _ _ rfl _ _ rfl rfl _ _ HRUN.out ?_)
          go_roundw
          case rel => exact ⟨q + 1, _, by omega, by go_num, HN.out.1, HN.out.2⟩
          case measure => simp [intOf]; omega
        · have hlt2 : p < n := by omega
          obtain ⟨b, off, a, l, rfl, -, c0, r0⟩ := HM.out.row hlt2
          rename World => wq
          have T3 := Add.trans HE.out.2 T
          have d0 := cell_addL c0 T3
          obtain ⟨b2, off2, s, an, z, cn, ad, d, cd, rfl, -, k0, k1, k2, hx⟩ := (r0.add T3).get hlt
          obtain ⟨a', c', w9, hrun, hO9, T9⟩ := app_box hO hx T (by omega)
          have HRUN := Lib.hid hrun
          have HN := Lib.hid (And.intro (hO9.congr (t' := fun i => matT n1 L m i q) fun i hi => by
            by_cases e : i = p
            · rw [if_pos e, e]
            · rw [if_neg e]) T9)
          clear hO T c0 r0 T3 hx hrun hO9 T9 h1
          go_wp2_with (at_builtin; refine Lib.wpList_append_run _ rfl _ _ _ _ rfl _ _ rfl rfl _ _ HRUN.out ?_)
          go_roundw
          case rel => exact ⟨p + 1, by omega, by go_num, HN.out.1, HN.out.2⟩
          case measure => simp [intOf]; omega
end Go.Proofs.YtbeoeackahmpbaaGreatDoor
