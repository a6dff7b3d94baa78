import Derived.Test.YtbeoeackahmpbaaGreatDoorJV9
import Derived.Test.YtbeoeackahmpbaaGreatDoorVS
import Derived.Test.YtbeoeackahmpbaaGreatDoorJV6
import Derived.Lib.AppendZeros
import Derived.Test.YtbeoeackahmpbaaGreatDoorJTC
import Derived.Test.YtbeoeackahmpbaaGreatDoorT7
namespace Go.Proofs.YtbeoeackahmpbaaGreatDoor
open Go.RowKit NatM Go.Proofs.YtbeoeackahmpbaaGreatDoor.Api LinM
def IdG (w : World) (n : Nat) (e : Ending) (w' : World) : Prop := ∃ a c hv, e = .returned (.tuple #[.slice a n c, .int .i64 0]) ∧ GM w' w.heap.size (.slice a n c) n hv n idX ∧ Add w w'
theorem GM.chg {S : Nat → Prop} {w w' : World} {base k m : Nat} {rv : Value} {hv : Nat → Value} {X : Nat → Nat → Tri} (h : GM w base rv k hv m X) (hb : Chg S w w') (hS : ∀ b, S b → b < base) : GM w' base rv k hv m X :=
 ⟨own_chg h.own hb fun g hg e => by have := (own_in h.own g hg).1; have := hS g e; omega, soft_chg h.soft hb fun g hg => ⟨(own_in h.own g hg).2.1, fun e => by have := (own_in h.own g hg).1; have := hS g e; omega⟩,
  fun i hi => (h.rows i hi).chg hb fun g hg e => by have := ((h.rows i hi).lt g hg).1; have := hS g e; omega⟩
theorem GM.head {w : World} {base k m : Nat} {a : Option Addr} {c : Nat} {hv : Nat → Value} {X : Nat → Nat → Tri} (h : GM w base (.slice a k c) k hv m X) {i : Nat} (hi : i < k) :
 ∃ g ar lr, a = some ⟨g, 0, none⟩ ∧ base ≤ g ∧ w.cell? ⟨g, i, none⟩ = some (.slice ar m lr) ∧ RowP true w (.slice ar m lr) m (X i) := by
 rcases h.own.2 with ⟨e, h0⟩ | ⟨g, cap, cur, e, hb, -, -, -, -⟩
 · omega
 · simp only [Value.slice.injEq] at e
   obtain ⟨rfl, -, rfl⟩ := e
   obtain ⟨ar, lr, e2, -, -⟩ := (h.rows i hi).slice
   have := h.own.cells (g := g) rfl i (hv i) (by simp [hi])
   rw [Addr.add_lit, Nat.zero_add, e2] at this
   exact ⟨g, ar, lr, rfl, hb, this, by have := (h.rows i hi).row; rwa [e2] at this⟩
set_option maxRecDepth 100000 in
set_option maxHeartbeats 4000000 in
theorem refIdentity_gm {w : World} {n : Nat} (h1 : 1 ≤ n) (hn : n ≤ 24) :
 Calls Tryz.prog 31 #[.int .i64 (n : Nat)] w (IdG w n) := by
 have I0 : Hid (∀ w', Calls Tryz.prog 38 #[.int .i64 0] w' (RetQ w' 0)) := Lib.hid fun w' => intQ w' (by decide) (by decide +kernel)
 have I1 : Hid (∀ w', Calls Tryz.prog 38 #[.int .i64 1] w' (RetQ w' 1)) := Lib.hid fun w' => intQ w' (by decide) (by decide +kernel)
 have f1 : ¬ ((n : Int) < 1) := by omega
 have d1 : decide ((n : Int) < 1) = false := by simp; omega
 have f2 : ¬ ((24 : Int) < (n : Int)) := by omega
 have d2 : decide ((24 : Int) < (n : Int)) = false := by simp; omega
 go_enter Tryz.func31, Tryz.ntmps31
 go_wp2_with fail
 go_loopw [4, 5] (fun rv i wr => ∃ (k : Nat) (hv : Nat → Value), k ≤ n ∧ i = .int .i64 (k : Nat) ∧ GM wr w.heap.size rv k hv n idX ∧ Add w wr) (fun _ i _ => n - (intOf i).toNat)
 case atStart => exact ⟨0, fun _ => .slice none 0 0, Nat.zero_le _, rfl, GM.nil _ _ _ _ _, Below.refl _ _⟩
 case round =>
  clear f1 d1 f2 d2
  obtain ⟨k, hv, hk, rfl, hE, T⟩ := hrel
  obtain ⟨ra, rc, rfl⟩ := own_isSlice hE.own
  by_cases h0 : k = n
  · rename World => wr
    have hF : IdG w n (.returned (.tuple #[.slice ra n rc, .int .i64 0])) wr := ⟨ra, rc, hv, rfl, by rw [h0] at hE; exact hE, T⟩
    have HF := Lib.hid hF
    clear hE T hF I0 I1
    subst h0
    go_wp2_with fail
    go_ret2
    exact HF.out
  · have hlt : k < n := by omega
    rename World => wm
    have HE := Lib.hid (And.intro hE T)
    clear hE T h0
    go_wp2_with fail
    go_loopw [6, 7] (fun u j wq => ∃ q : Nat, q ≤ n ∧ j = .int .i64 (q : Nat) ∧ OwnF wq wm.heap.size u q (idX k) ∧ Add wm wq) (fun _ j _ => n - (intOf j).toNat)
    case atStart => exact ⟨0, Nat.zero_le _, rfl, OwnF.nil _ _ _, Below.refl _ _⟩
    case round =>
     obtain ⟨q, hq, rfl, hO, T⟩ := hrel
     obtain ⟨ua, uc, rfl, -, -⟩ := hO.slice
     by_cases h1 : q = n
     · rename World => wq
       rw [h1] at hO
       have hbk : (wq.alloc (.cells #[.slice ua n uc] 23)).heap[wq.heap.size]? = some (.cells #[.slice ua n uc] 23 (0, 0)) := heap_alloc_new wq _
       have T9 := Add.trans T (add_new wq (.cells #[.slice ua n uc] 23))
       obtain ⟨a', c', w9, hrun, hG, hc9⟩ := HE.out.1.push T9 (hO.add (add_new wq (.cells #[.slice ua n uc] 23))) HE.out.2.size HE.out.2.size hbk (by omega) (c := 1)
       have T10 : Add w w9 := hc9.below (Add.trans HE.out.2 T9) (Add.trans HE.out.2 T9).size fun g hg => (own_in HE.out.1.own g hg).1
       have HRUN := Lib.hid hrun
       have HN := Lib.hid (And.intro hG T10)
       clear hO T hbk T9 hrun hG hc9 T10
       subst h1
       go_wp2_with (at_builtin; refine Lib.wpList_append_run _ rfl _ _ _ _ rfl _ _ rfl rfl _ _ HRUN.out ?_)
       go_roundw
       case rel => exact ⟨k + 1, _, by omega, by go_num, HN.out.1, HN.out.2⟩
       case measure => simp [intOf]; omega
     · have hlt2 : q < n := by omega
       rename World => wq
       have HQ := Lib.hid (And.intro hO T)
       clear hO T h1
       by_cases hkq : k = q
       · have dkq : ((k : Int) == (q : Int)) = true := by simp [hkq]
         have CI := Lib.hid (I1.out wq)
         have HX : Hid (can (1 : Rat) = idX k q) := Lib.hid (by unfold idX; rw [if_pos hkq])
         have fkq : (k : Int) = (q : Int) := by omega
         go_wp2_with fail
         refine CI.out.mono ?_
         rintro e w6 ⟨y6, a6, n6, c6, e6, d6, f6, rfl, x6, h6⟩
         have T6 := Add.trans HQ.out.2 h6
         obtain ⟨a', c', w9, hrun, hO9, T9⟩ := app_box (HQ.out.1.add h6) x6 T6 (by omega)
         have HRUN := Lib.hid hrun
         have HN := Lib.hid (And.intro (hO9.congr (t' := idX k) fun i hi => by
          by_cases e : i = q
          · rw [if_pos e, e]; exact HX.out
          · rw [if_neg e]) T9)
         clear x6 h6 T6 hrun hO9 T9 HQ CI HX dkq fkq hkq
         go_wp2_with (at_builtin; refine Lib.wpList_append_run _ rfl _ _ _ _ rfl _ _ rfl rfl _ _ HRUN.out ?_)
         go_roundw
         case rel => exact ⟨q + 1, by omega, by go_num, HN.out.1, HN.out.2⟩
         case measure => simp [intOf]; omega
       · have dkq : ((k : Int) == (q : Int)) = false := by simp; omega
         have CI := Lib.hid (I0.out wq)
         have HX : Hid (can (0 : Rat) = idX k q) := Lib.hid (by unfold idX; rw [if_neg hkq])
         have fkq : ¬ ((k : Int) = (q : Int)) := by omega
         go_wp2_with fail
         refine CI.out.mono ?_
         rintro e w6 ⟨y6, a6, n6, c6, e6, d6, f6, rfl, x6, h6⟩
         have T6 := Add.trans HQ.out.2 h6
         obtain ⟨a', c', w9, hrun, hO9, T9⟩ := app_box (HQ.out.1.add h6) x6 T6 (by omega)
         have HRUN := Lib.hid hrun
         have HN := Lib.hid (And.intro (hO9.congr (t' := idX k) fun i hi => by
          by_cases e : i = q
          · rw [if_pos e, e]; exact HX.out
          · rw [if_neg e]) T9)
         clear x6 h6 T6 hrun hO9 T9 HQ CI HX dkq fkq hkq
         go_wp2_with (at_builtin; refine Lib.wpList_append_run _ rfl _ _ _ _ rfl _ _ rfl rfl _ _ HRUN.out ?_)
         go_roundw
         case rel => exact ⟨q + 1, by omega, by go_num, HN.out.1, HN.out.2⟩
         case measure => simp [intOf]; omega
end Go.Proofs.YtbeoeackahmpbaaGreatDoor
namespace Go.Proofs.YtbeoeackahmpbaaGreatDoor
open Go.RowKit NatM Go.Proofs.YtbeoeackahmpbaaGreatDoor.Api LinM
def RinP (w : World) (n : Nat) (A : Mat) (e : Ending) (w' : World) : Prop :=
 (LinM.det n A = 0 ∧ RefP w 9 e w') ∨ (LinM.det n A ≠ 0 ∧ MRes w n (fun _ => n) (fun i l => can (solB n A idQ i l)) 0 e w')
def besI (n j : Nat) (A : Mat) : Nat → Nat → Tri := fun a l => if a < j ∧ n ≤ l then idX a (l - n) else can (A a l)
set_option maxRecDepth 100000 in
set_option maxHeartbeats 8000000 in
theorem refInvert_ok {w : World} {v : Value} {n q : Nat} {m : Nat → Nat} {X : Nat → Nat → Tri} (h : MatP false w v n m X) (hb : shapeOk X m n = true) (hq : m 0 = q) (hnq : n = q) (hw : wtM (fun i j => can (qm X i j)) (fun _ => q) n ≤ 1900) :
 Calls Tryz.prog 19 #[v] w (RinP w n (qm X)) := by
 obtain ⟨hn, hq1, hm, hok⟩ := shape_n1 hb hq
 have CS := Lib.hid (fun w' (ha : Add w w') => refShapeN (n, q, true) (h.add ha) (Lib.hid (by unfold shN; rw [if_pos hb, hq])))
 have CW := Lib.hid (fun w' (ha : Add w w') => refWeightsN (h.add ha) (fun i j hi hj => hok i j hi (by rw [← hm i hi]; exact hj)) (by omega) (fun i hi => by rw [hm i hi]; omega))
 rw [wtM_shape hm] at CW
 have CC := Lib.hid (fun w' (ha : Add w w') => refCopiedN (h.add ha) hok hm hn (by omega))
 have HWT : Hid (wtM (fun i j => can (besideQ n (qm X) idQ i j)) (fun _ => n + n) n ≤ 1924) := Lib.hid (by rw [wtM_beside]; have := wtM_id n; subst hnq; omega)
 obtain ⟨N1, hN1⟩ : ∃ z, wtM (fun i j => can (qm X i j)) (fun _ => q) n = z := ⟨_, rfl⟩
 rw [hN1] at CW hw
 have dnw : decide ((1900 : Int) < (N1 : Int)) = false := by simp; omega
 have fnw : ¬ ((1900 : Int) < (N1 : Int)) := by omega
 obtain ⟨ao, ca, rfl, -⟩ := h.isSlice
 clear h hb hok hm hN1 hq
 subst hnq
 go_enter Tryz.func19, Tryz.ntmps19
 go_wp2_with fail
 refine (CS.out w (Below.refl _ _)).mono ?_
 rintro e w1 ⟨rfl, h1⟩
 go_wp2_with fail
 refine (CW.out w1 h1).mono ?_
 rintro e w3 ⟨rfl, h3⟩
 have HT3 := Lib.hid (Add.trans h1 h3)
 clear h1 h3 CS CW
 go_wp2_with fail
 refine (CC.out w3 HT3.out).mono ?_
 rintro e w4 ⟨G, cap, hv0, rfl, hc1, hc2, hAM0, h4⟩
 have HAM0 := Lib.hid (And.intro hAM0 h4)
 have CI := Lib.hid (refIdentity_gm (w := w4) hn.1 hn.2)
 have HLOW : Hid (G < w4.heap.size ∧ ∀ a, a < n → ∀ g, (hv0 a).ownBlock = some g → g < w4.heap.size) := Lib.hid ⟨hAM0.head.lt, fun a ha g hg => ((hAM0.rows a ha).lt g hg).2⟩
 clear hAM0 h4 CC hc1 hc2
 go_wp2_with fail
 refine CI.out.mono ?_
 rintro e w5 ⟨ao1, co1, hi0, rfl, hI, h5⟩
 have HI := Lib.hid hI
 have HAM : Hid (AM w5 w3.heap.size G n hv0 (fun a => if a < 0 then n + n else n) (besI n 0 (qm X))) := Lib.hid ((HAM0.out.1.add h5).congr (fun i _ => by rw [if_neg (by omega)]) fun i j _ _ => by unfold besI; rw [if_neg (by omega)])
 have H5 := Lib.hid (Add.trans HAM0.out.2 h5)
 clear hI h5 CI HAM0
 go_wp2_with fail
 go_loopw [10] (fun jj wr => ∃ (j : Nat) (hv : Nat → Value), j ≤ n ∧ jj = .int .i64 (j : Nat) ∧ AM wr w3.heap.size G n hv (fun a => if a < j then n + n else n) (besI n j (qm X)) ∧ Hid (∀ a, j ≤ a → a < n → hv a = hv0 a) ∧ GM wr w4.heap.size (.slice ao1 n co1) n hi0 n idX ∧ Add w3 wr) (fun jj _ => n - (intOf jj).toNat)
 case atStart => exact ⟨0, hv0, Nat.zero_le _, rfl, HAM.out, Lib.hid fun _ _ _ => rfl, HI.out, H5.out⟩
 case round =>
  clear HAM H5 HI
  obtain ⟨j, hv, hj, rfl, hE, HV0, hI, T⟩ := hrel
  rename World => wr
  by_cases hjn : j = n
  · have hE2 : AM wr w3.heap.size G n hv (fun _ => n + n) (fun i l => can (besideQ n (qm X) idQ i l)) := hE.congr (fun i hi => by rw [if_pos (by omega)]) fun a l ha hl => by
     unfold besI besideQ
     by_cases e : n ≤ l
     · rw [if_pos ⟨by omega, e⟩, if_neg (by omega)]; rfl
     · rw [if_neg fun q => e q.2, if_pos (by omega)]
    have hTM := AM.tm hE2 (C := n + n) (fun i _ => rfl) (by omega)
    have CE := Lib.hid (refElimN (cap := cap) (q := n) (x := 1924) hTM hn (by omega) (by omega) HWT.out (by omega))
    have HAM := Lib.hid (And.intro hTM T)
    clear hE hE2 hTM T hI
    subst hjn
    go_wp2_with fail
    refine CE.out.mono ?_
    rintro e w6 ⟨k, p, s, Y, c, W, f, u, d, gs, cs, y5, a5, n5, c5, e5, d5, f5, rfl, -, hRE, hT6, hch⟩
    have h46 := elm_add HAM.out.1 HAM.out.2 hch
    have hA := add_new w6 (.cells #[.bool y5, .slice a5 n5 c5, .slice e5 d5 f5] 37)
    obtain ⟨W7, hW7⟩ : ∃ W, W = w6.alloc (.cells #[.bool y5, .slice a5 n5 c5, .slice e5 d5 f5] 37) := ⟨_, rfl⟩
    obtain ⟨g12, hg12⟩ : ∃ g, g = w6.heap.size := ⟨_, rfl⟩
    rw [← hW7] at hA
    have HT7 := Lib.hid (Add.trans HT3.out (Add.trans h46 hA))
    have HTM7 := Lib.hid (hT6.add hA)
    have HW7 := Lib.hid (And.intro hW7 hg12)
    have HRE := Lib.hid hRE
    have hkn := hRE.el.kn
    clear hRE hT6 hch h46 hA hW7 hg12 HAM CE HT3
    go_upto_region 13 with fail
    rw [← HW7.out.1, ← HW7.out.2]
    clear HW7
    by_cases hk : k < j
    · have HF : Hid (RinP w j (qm X) (.returned (.tuple #[.slice none 0 0, .int .i64 9])) W7) := Lib.hid (.inl ⟨by rw [← det_beside j (qm X) idQ]; exact HRE.out.el.less hk, rfl, HT7.out⟩)
      have dk : decide ((k : Int) < (j : Int)) = true := by simp; omega
      clear HRE HTM7 HT7
      go_wp2_with fail
      go_ret2
      exact HF.out
    · have hke : k = j := by omega
      subst hke
      obtain ⟨f1, f2, -⟩ := sol_facts (r := k) HRE.out.el
      have HSOL : Hid (∀ i l, i < k → can (refT p Y f i (k + l)) = can (solB k (qm X) idQ i l)) := Lib.hid fun i l hi => by
       rw [LinM.RefE.sol HRE.out hi (k + l), f2 i l hi]
      have HD1 := Lib.hid f1
      clear f1 f2 HRE
      go_wp2_with fail
      go_loopw [13, 14] (fun rv i wz => ∃ (z : Nat) (hv : Nat → Value), z ≤ k ∧ i = .int .i64 (z : Nat) ∧ GM wz W7.heap.size rv z hv k (fun i l => can (solB k (qm X) idQ i l)) ∧ Add W7 wz) (fun _ i _ => k - (intOf i).toNat)
      case atStart => exact ⟨0, fun _ => .slice none 0 0, Nat.zero_le _, rfl, GM.nil _ _ _ _ _, Below.refl _ _⟩
      case round =>
       obtain ⟨z, hv, hz, rfl, hE, T⟩ := hrel
       obtain ⟨ra, rc, rfl⟩ := own_isSlice hE.own
       rename World => wz
       by_cases hzk : z = k
       · have HF : Hid (RinP w k (qm X) (.returned (.tuple #[.slice ra k rc, .int .i64 0])) wz) := Lib.hid (.inr ⟨HD1.out, ra, rc, rfl, by rw [← hzk]; have := hE.mat; rw [hzk] at this ⊢; exact this, Add.trans HT7.out T⟩)
         clear hE T HSOL HTM7 HD1
         subst hzk
         go_wp2_with fail
         go_ret2
         exact HF.out
       · have hzl : z < k := by omega
         have hM := HTM7.out.add T
         have h0 := hM.head.cell hzl
         try dsimp only at h0
         obtain ⟨gz, hgz⟩ : ∃ g, g = gs z := ⟨_, rfl⟩
         obtain ⟨cz, hcz⟩ : ∃ g, g = cs z := ⟨_, rfl⟩
         have hcap := hM.caps z hzl
         have hrow := ((hM.rows z hzl).rowP hcap.1 hcap.2).drop k k rfl (by omega)
         rw [← hgz, ← hcz] at h0 hrow
         rw [← hcz] at hcap
         rw [Nat.zero_add] at hrow
         have hrow2 : RowP true wz (.slice (some ⟨gz, k * 3, none⟩) k (cz - k)) k (fun l => can (solB k (qm X) idQ z l)) := hrow.congr fun l _ => HSOL.out z l hzl
         obtain ⟨a8, c8, w8, hrun, hO8, hc8, hat⟩ := (OwnF.nil wz wz.heap.size (fun _ => can 0)).concat hrow2 (by omega) (by omega) (Nat.le_refl _)
         rw [Nat.zero_add] at hrun hO8
         have hO8' : OwnF w8 wz.heap.size (.slice a8 k c8) k (fun l => can (solB k (qm X) idQ z l)) := hO8.congr fun l _ => by rw [if_neg (by omega), Nat.sub_zero]
         have h8 : Add wz w8 := hc8.below (Below.refl _ _) (Nat.le_refl _) fun g hg => by cases hg
         have hbk : (w8.alloc (.cells #[.slice a8 k c8] 23)).heap[w8.heap.size]? = some (.cells #[.slice a8 k c8] 23 (0, 0)) := heap_alloc_new w8 _
         have hA9 := add_new w8 (.cells #[.slice a8 k c8] 23)
         have T9 := Add.trans h8 hA9
         obtain ⟨a', c', w9, hrun9, hG9, hc9⟩ := hE.push T9 (hO8'.add hA9) T.size T.size hbk (by omega) (c := 1)
         have T10 : Add W7 w9 := hc9.below (Add.trans T T9) (Add.trans T T9).size fun g hg => (own_in hE.own g hg).1
         have HRUN := Lib.hid hrun
         have HRUN9 := Lib.hid hrun9
         have HN := Lib.hid (And.intro hG9 T10)
         have i1 : (0 : Int) ≤ (k : Int) := by omega
         have i2 : (k : Int) ≤ (k : Int) + (k : Int) := by omega
         have i3 : ¬ (k + k = k) := by omega
         have i4 : k ≤ k + k := by omega
         clear hE T hM hrow hrow2 hrun hO8 hO8' hc8 hat h8 hbk hA9 T9 hrun9 hG9 hc9 T10 hgz hcz hzk
         go_wp2_with (first | (at_builtin; refine Lib.wpList_append_run _ rfl _ _ _ _ rfl _ _ rfl rfl _ _ HRUN.out ?_) | (at_builtin; refine Lib.wpList_append_run _ rfl _ _ _ _ rfl _ _ rfl rfl _ _ HRUN9.out ?_))
         go_roundw
         case rel => exact ⟨z + 1, _, by omega, by go_num, HN.out.1, HN.out.2⟩
         case measure => simp [intOf]; omega
  · have hjl : j < n := by omega
    obtain ⟨b1, ar, lr, rfl, hb1, hcr, hR⟩ := hI.head hjl
    obtain ⟨ra, rc, hvj, hcj⟩ := hE.cell hjl
    rw [if_neg (by omega)] at hvj hcj
    obtain ⟨l, hl⟩ : ∃ l, l = n := ⟨_, rfl⟩
    rw [← hl] at hvj hcj
    have HL := Lib.hid hl
    have hAd : Add wr (World.drew wr) := b_drewL (Below.refl _ _)
    have hrw := hE.rows j hjl
    rw [if_neg (by omega), ← hl] at hrw
    obtain ⟨a', c', w8, hrun, hO6, hc6, hat⟩ := (hrw.add hAd).concat (hR.add hAd) (by omega) (by omega) (Nat.le_trans T.size hAd.size)
    have hE7 := hE.push hjl hAd hO6 hc6 hat
    have T7 := hE.below hjl T hAd hc6 (.slice a' (l + n) c')
    have hhd := hE.head.add hAd
    have hh6 := hhd.chg hc6 (hrw.ne hE.head)
    have C6 : w8.cell? ⟨G, j, none⟩ = some (.slice ra l rc) := by rw [hh6.cell hjl, hvj]
    have f6 := hh6.free j
    have l6 := hh6.lt
    have lowj : ∀ g, (hv j).ownBlock = some g → g < w4.heap.size := fun g hg => HLOW.out.2 j hjl g (by rw [← HV0.out j (Nat.le_refl j) hjl]; exact hg)
    have hI8 := (hI.add hAd).chg hc6 lowj
    have hI9 := hI8.chg (hh6.chgS (S := fun b => b = G) rfl hjl (.slice a' (l + n) c')) fun b hb => by rw [hb]; exact HLOW.out.1
    have hb1n : (hv j).ownBlock ≠ some b1 := fun e => by have := lowj b1 e; omega
    have hb1G : b1 ≠ G := by have := HLOW.out.1; omega
    have c8 : w8.cell? ⟨b1, j, none⟩ = some (.slice ar n lr) := by
     have hl1 : b1 < (World.drew wr).heap.size := World.block_lt_of_cell? (World.drew wr) _ (cell_addL hcr hAd)
     exact (World.cell?_of_block (a := ⟨b1, j, none⟩) (hc6.block b1 hl1 hb1n)).trans (cell_addL hcr hAd)
    have HS6 : Hid (w8.cell? ⟨b1, j, none⟩ = some (.slice ar n lr)) := Lib.hid c8
    have HS7 : Hid ((w8.setCell ⟨G, j, none⟩ (.slice a' (l + n) c')).cell? ⟨b1, j, none⟩ = some (.slice ar n lr)) := Lib.hid (by rw [cell_set_other rfl (fun e => hb1G (congrArg Addr.block e))]; exact c8)
    rw [hvj] at hrun
    have HRUN := Lib.hid hrun
    have HN : Hid (AM (w8.setCell ⟨G, j, none⟩ (.slice a' (l + n) c')) w3.heap.size G n (fun c => if c = j then .slice a' (l + n) c' else hv c) (fun a => if a < j + 1 then n + n else n) (besI n (j + 1) (qm X)) ∧ Add w3 (w8.setCell ⟨G, j, none⟩ (.slice a' (l + n) c'))) := Lib.hid ⟨hE7.congr (fun i hi => by
     by_cases e : i = j
     · rw [if_pos e, if_pos (by omega), HL.out]
     · rw [if_neg e]
       by_cases e2 : i < j
       · rw [if_pos e2, if_pos (by omega)]
       · rw [if_neg e2, if_neg (by omega)]) (fun i r hi hr => by
     unfold besI
     by_cases e : i = j
     · rw [if_pos e] at hr ⊢
       by_cases e2 : r < l
       · rw [if_pos e2, if_neg (by omega), if_neg (by have := HL.out; omega), e]
       · rw [if_neg e2, if_pos (by have := HL.out; omega), e, HL.out]
     · rw [if_neg e]
       by_cases e2 : i < j ∧ n ≤ r
       · rw [if_pos e2, if_pos ⟨by omega, e2.2⟩]
       · rw [if_neg e2, if_neg fun h => e2 ⟨by omega, h.2⟩]), T7⟩
    have HV1 : Hid (∀ a, j + 1 ≤ a → a < n → (fun c => if c = j then Value.slice a' (l + n) c' else hv c) a = hv0 a) := Lib.hid fun a h1 h2 => by
     dsimp only
     rw [if_neg (by omega)]; exact HV0.out a (by omega) h2
    have HI9 := Lib.hid hI9
    have HSD := Lib.hid (cell_addL hcr hAd)
    have HCD := Lib.hid (cell_addL hcj hAd)
    have hGl := hE.head.lt
    have hb1l := World.block_lt_of_cell? wr _ hcr
    clear hE hI T hR hcr hcj hvj hl hAd hrw hrun hO6 hc6 hat hE7 T7 hhd hh6 lowj hI8 hI9 hb1n hb1G c8 HV0 hjn
    go_upto_region 11 with fail
    refine wp_region_T (fun w' => w'.cell? ⟨b1, j, none⟩ = some (.slice ar n lr)) (fun w' => w'.cell? ⟨G, j, none⟩ = some (.slice ra l rc)) 12 (by kernel_rfl) ?_
    show wpAnyT _ _ _ _ _ _ _ 13 #[false, false, false, false, false, false, false, false, false, false, false, false, false] _ _
    refine tk (v := ?_) 0 HSD.out HCD.out (Or.inl ⟨?_, ?_⟩) ?_
    rotate_left; rfl
    · (intro w' hSw; try dsimp only at hSw); go_simp; try with_reducible rfl
    try simp only [Act.put, List.setIfInBounds_toArray, List.set_cons_zero, List.set_cons_succ]
    refine tk (v := ?_) 1 HSD.out HCD.out (Or.inl ⟨?_, ?_⟩) ?_
    rotate_left; rfl
    · (intro w' hSw; try dsimp only at hSw); go_simp; try with_reducible rfl
    try simp only [Act.put, List.setIfInBounds_toArray, List.set_cons_zero, List.set_cons_succ]
    refine tk (v := ?_) 2 HSD.out HCD.out (Or.inl ⟨?_, ?_⟩) ?_
    rotate_left; rfl
    · (intro w' hSw; try dsimp only at hSw); go_simp; try with_reducible rfl
    try simp only [Act.put, List.setIfInBounds_toArray, List.set_cons_zero, List.set_cons_succ]
    refine tk (v := ?_) 3 HSD.out HCD.out (Or.inl ⟨?_, ?_⟩) ?_
    rotate_left; rfl
    · (intro w' hSw; try dsimp only at hSw); go_simp; try with_reducible rfl
    try simp only [Act.put, List.setIfInBounds_toArray, List.set_cons_zero, List.set_cons_succ]
    refine tk (v := ?_) 4 HSD.out HCD.out (Or.inl ⟨?_, ?_⟩) ?_
    rotate_left; rfl
    · (intro w' hSw; try dsimp only at hSw); go_simp; try with_reducible rfl
    try simp only [Act.put, List.setIfInBounds_toArray, List.set_cons_zero, List.set_cons_succ]
    refine tk (v := ?_) 5 HSD.out HCD.out (Or.inl ⟨?_, ?_⟩) ?_
    rotate_left; rfl
    · (intro w' hSw; try dsimp only at hSw); go_simp; try with_reducible rfl
    try simp only [Act.put, List.setIfInBounds_toArray, List.set_cons_zero, List.set_cons_succ]
    refine tk (v := ?_) 6 HSD.out HCD.out (Or.inl ⟨?_, ?_⟩) ?_
    rotate_left; rfl
    · (intro w' hSw; try dsimp only at hSw); go_simp; try with_reducible rfl
    try simp only [Act.put, List.setIfInBounds_toArray, List.set_cons_zero, List.set_cons_succ]
    refine tk (v := ?_) 7 HSD.out HCD.out (Or.inl ⟨?_, ?_⟩) ?_
    rotate_left; rfl
    · (intro w' hSw; try dsimp only at hSw); go_simp; try with_reducible rfl
    try simp only [Act.put, List.setIfInBounds_toArray, List.set_cons_zero, List.set_cons_succ]
    refine tk (v := ?_) 8 HSD.out HCD.out (Or.inl ⟨?_, ?_⟩) ?_
    rotate_left; rfl
    · (intro w' hSw; try dsimp only at hSw); go_simp; try with_reducible rfl
    try simp only [Act.put, List.setIfInBounds_toArray, List.set_cons_zero, List.set_cons_succ]
    refine tk (v := ?_) 9 HSD.out HCD.out (Or.inl ⟨?_, ?_⟩) ?_
    rotate_left; rfl
    · (intro w' hSw; try dsimp only at hSw); go_simp; try with_reducible rfl
    try simp only [Act.put, List.setIfInBounds_toArray, List.set_cons_zero, List.set_cons_succ]
    refine wpAnyT_one (i := 10) (by kernel_rfl) (wpOp_do (by simp only [List.getElem?_toArray, List.getElem?_cons_zero, List.getElem?_cons_succ]; rfl) fun K hK => ?_)
    refine step_append_run rfl _ _ 23 rfl rfl rfl HRUN.out ?_
    refine hK _ _ ⟨⟨HS6.out, fun _ => C6⟩, ?_⟩
    clear hK K
    try simp only [Act.put, List.setIfInBounds_toArray, List.set_cons_zero, List.set_cons_succ]
    refine wpAnyT_one (i := 11) (by kernel_rfl) (wpOp_do (by simp only [List.getElem?_toArray, List.getElem?_cons_zero, List.getElem?_cons_succ]; rfl) fun K hK => ?_)
    go_simp
    refine hK _ _ ⟨⟨HS6.out, fun _ => C6⟩, ?_⟩
    clear hK K
    try simp only [List.setIfInBounds_toArray, List.set_cons_zero, List.set_cons_succ]
    refine wpAnyT_one (i := 12) (by kernel_rfl) (wpOp_do (by simp only [List.getElem?_toArray, List.getElem?_cons_zero, List.getElem?_cons_succ]; rfl) fun K hK => ?_)
    go_simp
    refine hK _ _ ⟨⟨HS7.out, fun h => absurd (show true = false from h) (by decide)⟩, ?_⟩
    clear hK K
    try simp only [List.setIfInBounds_toArray, List.set_cons_zero, List.set_cons_succ]
    refine wpAnyT_done (by kernel_rfl) ?_ _
    go_wp2_with fail
    go_roundw
    case rel => exact ⟨j + 1, _, by omega, by go_num, HN.out.1, HV1, HI9.out, HN.out.2⟩
    case measure => simp [intOf]; omega
set_option maxRecDepth 100000 in
set_option maxHeartbeats 1000000 in
theorem refInvert_size {w : World} {v : Value} {n q : Nat} {m : Nat → Nat} {X : Nat → Nat → Tri} (h : MatP false w v n m X) (hb : shapeOk X m n = true) (hq : m 0 = q) (hnq : n = q) (hw : ¬ wtM (fun i j => can (qm X i j)) (fun _ => q) n ≤ 1900) :
 Calls Tryz.prog 19 #[v] w (RefP w 2) := by
 obtain ⟨hn, hq1, hm, hok⟩ := shape_n1 hb hq
 have CS := Lib.hid (fun w' (ha : Add w w') => refShapeN (n, q, true) (h.add ha) (Lib.hid (by unfold shN; rw [if_pos hb, hq])))
 have CW := Lib.hid (fun w' (ha : Add w w') => refWeightsN (h.add ha) (fun i j hi hj => hok i j hi (by rw [← hm i hi]; exact hj)) (by omega) (fun i hi => by rw [hm i hi]; omega))
 rw [wtM_shape hm] at CW
 have u1 : wtM (fun i j => can (qm X i j)) (fun _ => q) n ≤ 8192000000 := wtM_le (n := n) (fun i j hi hj => (fit_red (hok i j hi hj)).sm) (fun i _ => by omega) (by omega) (Nat.le_refl n)
 obtain ⟨N1, hN1⟩ : ∃ z, wtM (fun i j => can (qm X i j)) (fun _ => q) n = z := ⟨_, rfl⟩
 rw [hN1] at CW hw u1
 have dnw : decide ((1900 : Int) < (N1 : Int)) = true := by simp; omega
 have fnw : ((1900 : Int) < (N1 : Int)) := by omega
 obtain ⟨ao, ca, rfl, -⟩ := h.isSlice
 clear h hb hok hm hN1 hq hw
 subst hnq
 go_enter Tryz.func19, Tryz.ntmps19
 go_wp2_with fail
 refine (CS.out w (Below.refl _ _)).mono ?_
 rintro e w1 ⟨rfl, h1⟩
 go_wp2_with fail
 refine (CW.out w1 h1).mono ?_
 rintro e w3 ⟨rfl, h3⟩
 have HT3 := Lib.hid (Add.trans h1 h3)
 clear h1 h3 CS CW
 go_wp2_with fail
 go_ret2
 exact refP2 HT3.out
set_option maxRecDepth 100000 in
theorem refInvert_arg {w : World} {v : Value} {n : Nat} {m : Nat → Nat} {X : Nat → Nat → Tri} (h : MatP false w v n m X) (hb : sqOkL X m n = false) :
 Calls Tryz.prog 19 #[v] w (RefP w 1) := by
 obtain ⟨p, q, b, hp⟩ : ∃ p q b, shN X m n = (p, q, b) := ⟨_, _, _, rfl⟩
 have CS := Lib.hid (refShapeN (p, q, b) h (Lib.hid hp))
 have key : b = false ∨ p ≠ q := by
  unfold shN at hp
  unfold sqOkL at hb
  by_cases hs : shapeOk X m n = true
  · rw [if_pos hs] at hp
    obtain ⟨rfl, rfl, rfl⟩ : n = p ∧ m 0 = q ∧ true = b := by simpa using hp
    rw [hs] at hb
    exact .inr (by simpa using hb)
  · rw [if_neg hs] at hp
    obtain ⟨-, -, rfl⟩ : 0 = p ∧ 0 = q ∧ false = b := by simpa using hp
    exact .inl rfl
 obtain ⟨ao, ca, rfl, -⟩ := h.isSlice
 clear h hb hp
 cases b with
 | false =>
  clear key
  go_enter Tryz.func19, Tryz.ntmps19
  go_wp2_with fail
  refine CS.out.mono ?_
  rintro e w1 ⟨rfl, h1⟩
  have H1 := Lib.hid h1
  clear h1 CS
  go_wp2_with fail
  go_ret2
  exact refP1 H1.out
 | true =>
  have hne : p ≠ q := by simpa using key
  have d : ((p : Int) != (q : Int)) = true := by simp; omega
  clear key hne
  go_enter Tryz.func19, Tryz.ntmps19
  go_wp2_with fail
  refine CS.out.mono ?_
  rintro e w1 ⟨rfl, h1⟩
  have H1 := Lib.hid h1
  clear h1 CS
  go_wp2_with fail
  go_ret2
  exact refP1 H1.out
theorem invert_both {w : World} {v : Value} {n : Nat} {m : Nat → Nat} {X : Nat → Nat → Tri} (h : MatP false w v n m X) (hT : Tab w) :
 ∃ (N p : Nat) (t : Nat → Nat → Tri) (k : Nat), p ≤ 24 ∧ ∀ w', Add w w' → Calls Tryz.prog 18 #[v] w' (MRes w' N (fun _ => p) t k) ∧ Calls Tryz.prog 19 #[v] w' (MRes w' N (fun _ => p) t k) := by
 by_cases hs : sqOkL X m n = true
 · have hs2 := hs
   unfold sqOkL at hs2
   rw [Bool.and_eq_true, decide_eq_true_eq] at hs2
   obtain ⟨hn, -, -⟩ := shapeOk_iff.1 hs2.1
   by_cases hw : wtM (fun i j => can (qm X i j)) (fun _ => n) n ≤ 1900
   · by_cases hd : LinM.det n (qm X) = 0
     · refine ⟨0, 0, fun _ _ => can 0, 9, by omega, fun w' ha => ⟨(invertN_ok (h.add ha) (hT.mono ha) hs hw).mono ?_, (refInvert_ok (q := n) (h.add ha) hs2.1 hs2.2.symm rfl hw).mono ?_⟩⟩
       · rintro e w2 (⟨-, rfl, h2⟩ | ⟨hz, -⟩)
         · exact RefP.mat _ _ ⟨rfl, h2⟩
         · exact absurd hd hz
       · rintro e w2 (⟨-, h2⟩ | ⟨hz, -⟩)
         · exact h2.mat _ _
         · exact absurd hd hz
     · refine ⟨n, n, fun i l => can (solB n (qm X) idQ i l), 0, by omega, fun w' ha => ⟨(invertN_ok (h.add ha) (hT.mono ha) hs hw).mono ?_, (refInvert_ok (q := n) (h.add ha) hs2.1 hs2.2.symm rfl hw).mono ?_⟩⟩
       · rintro e w2 (⟨hz, -⟩ | ⟨-, -, G, hv, rfl, hA, h2⟩)
         · exact absurd hz hd
         · exact ⟨_, _, rfl, hA.mat (by unfold maxLen; omega), h2⟩
       · rintro e w2 (⟨hz, -⟩ | ⟨-, h2⟩)
         · exact absurd hz hd
         · exact h2
   · exact ⟨0, 0, fun _ _ => can 0, 2, by omega, fun w' ha => ⟨(invertN_size (h.add ha) (hT.mono ha) hs hw).mono fun _ _ g => RefP.mat _ _ ⟨g.1, g.2⟩, (refInvert_size (q := n) (h.add ha) hs2.1 hs2.2.symm rfl hw).mono fun _ _ g => g.mat _ _⟩⟩
 · exact ⟨0, 0, fun _ _ => can 0, 1, by omega, fun w' ha => ⟨(invertN_arg (h.add ha) (by simpa using hs)).mono fun _ _ g => RefP.mat _ _ ⟨g.1, g.2⟩, (refInvert_arg (h.add ha) (by simpa using hs)).mono fun _ _ g => g.mat _ _⟩⟩
end Go.Proofs.YtbeoeackahmpbaaGreatDoor
namespace Go.Proofs.YtbeoeackahmpbaaGreatDoor
open Go.RowKit NatM Go.Proofs.YtbeoeackahmpbaaGreatDoor.Api LinM
theorem mats2 {w : World} {va vv : Value} {na q : Nat} {ma : Nat → Nat} {XA : Nat → Nat → FrI} {y : Nat → FrI} (h : MatI w va na ma XA) (h3 : RowI w vv q y) (u v : World) (hu : u = w.alloc (.cells #[vv] 23)) (hv : v = u.alloc (.cells #[va, .slice (some ⟨w.heap.size, 0, none⟩) 1 1] 22)) :
 Add w v ∧ MatsI v (.slice (some ⟨u.heap.size, 0, none⟩) 2 2) 2 (fun i => if i = 0 then na else 1) (fun i => if i = 0 then ma else fun _ => q) (fun i => if i = 0 then XA else fun _ => y) := by
 have A1 : Add w u := by rw [hu]; exact add_new w _
 have A2 : Add u v := by rw [hv]; exact add_new u _
 have A := Add.trans A1 A2
 refine ⟨A, _, 2, rfl, Nat.le_refl _, by unfold maxLen; omega, fun _ => ⟨u.heap.size, 0, rfl, fun i hi => ?_⟩⟩
 have hb : v.heap[u.heap.size]? = some (.cells #[va, .slice (some ⟨w.heap.size, 0, none⟩) 1 1] 22 (0, 0)) := by rw [hv]; exact heap_alloc_new u _
 have hb1 : u.heap[w.heap.size]? = some (.cells #[vv] 23 (0, 0)) := by rw [hu]; exact heap_alloc_new w _
 rcases (show i = 0 ∨ i = 1 by omega) with rfl | rfl
 · exact ⟨va, by rw [cell_of_row v _ _ _ _ (0, 0) hb]; rfl, h.add A⟩
 · refine ⟨_, by rw [cell_of_row v _ _ _ _ (0, 0) hb]; rfl, ?_⟩
   refine ⟨_, 1, rfl, Nat.le_refl _, by unfold maxLen; omega, fun _ => ⟨w.heap.size, 0, rfl, fun j hj => ⟨vv, ?_, h3.add A⟩⟩⟩
   have hc : u.cell? ⟨w.heap.size, 0 + j, none⟩ = some vv := by
    obtain rfl : j = 0 := by
     have : j < 1 := hj
     omega
    rw [cell_of_row u _ _ _ _ (0, 0) hb1]; rfl
   exact cell_addL hc A2
set_option maxRecDepth 100000 in
set_option maxHeartbeats 4000000 in
theorem exact_any {w : World} {va vv : Value} {na q : Nat} {ma : Nat → Nat} {XA : Nat → Nat → FrI} {y : Nat → FrI} (h : MatI w va na ma XA) (h3 : RowI w vv q y) (hT : Tab w) :
 Calls Tryz.prog 3 #[va, vv] w (BoolIs w true) := by
 obtain ⟨u, hu⟩ : ∃ u, u = w.alloc (.cells #[vv] 23) := ⟨_, rfl⟩
 obtain ⟨v, hv⟩ : ∃ v, v = u.alloc (.cells #[va, .slice (some ⟨w.heap.size, 0, none⟩) 1 1] 22) := ⟨_, rfl⟩
 obtain ⟨A, hM⟩ := mats2 h h3 u v hu hv
 have es : u.heap.size = w.heap.size + 1 := by rw [hu]; simp
 rw [es] at hM
 have CL := Lib.hid (longN hM (by omega))
 have HW := Lib.hid (And.intro hu hv)
 have HA := Lib.hid (And.intro h h3)
 have HT := Lib.hid hT
 have HV := Lib.hid A
 obtain ⟨ao, ca, rfl, hn63⟩ := h.isSlice
 obtain ⟨co, cc, rfl, -, -, -⟩ := id h3
 clear h h3 hT hM hu hv A es
 go_enter Tryz.func3, Tryz.ntmps3
 go_wp2_with fail
 rw [← HW.out.1, ← HW.out.2]
 refine CL.out.mono ?_
 rintro e w1 ⟨t, rfl, hg, h1⟩
 have T1 := Add.trans HV.out h1
 cases t with
 | true =>
  have CA := Lib.hid (awakeN w1 (HT.out.mono T1))
  have HT1 := Lib.hid T1
  clear hg h1 T1 CL HW HA
  go_wp2_with fail
  refine CA.out.mono ?_
  rintro e w2 ⟨rfl, h2⟩
  go_wp2_with fail
  go_ret
  exact ⟨rfl, Add.trans HT1.out h2⟩
 | false =>
  have g0 : goodM na ma XA := hg rfl 0 (by omega)
  have g2 : goodR q y := (show goodM 1 (fun _ => q) (fun _ => y) from hg rfl 1 (by omega)).2 0 (by omega)
  have hMA := HA.out.1.arg g0
  have hRV := HA.out.2.arg g2
  obtain ⟨N0, M0, b0, hp0⟩ : ∃ N M b, shN (fun i j => triI (XA i j)) ma na = (N, M, b) := ⟨_, _, _, rfl⟩
  have CS1 := Lib.hid (fun w' (ha : Add w w') => shapeN (N0, M0, b0) (hMA.add ha) (Lib.hid hp0))
  have CS2 := Lib.hid (fun w' (ha : Add w w') => refShapeN (N0, M0, b0) (hMA.add ha) (Lib.hid hp0))
  obtain ⟨N1, t1, k1, hN1, C1⟩ := solve_both hMA hRV HT.out hn63
  obtain ⟨N2, p2, t2, k2, hp2, C2⟩ := invert_both hMA HT.out
  obtain ⟨K, Z, C3⟩ := rank_both hMA HT.out
  obtain ⟨td, zd, hpd⟩ : ∃ t z, detF (fun i j => triI (XA i j)) ma na = (t, z) := ⟨_, _, rfl⟩
  have CD1 := Lib.hid (fun w' (ha : Add w w') => detN (hMA.add ha) (HT.out.mono ha) _ (Lib.hid hpd))
  have CD2 : Hid (∀ w', Add w w' → Calls Tryz.prog 21 #[.slice ao na ca] w' (ResF w' (td, zd))) := Lib.hid fun w' ha => by
   have := refDetN (hMA.add ha); rwa [hpd] at this
  have HC1 := Lib.hid C1
  have HC2 := Lib.hid C2
  have HC3 := Lib.hid C3
  have HT1 := Lib.hid T1
  clear hg h1 T1 CL HW HA g0 g2 C1 C2 C3 hMA hRV hp0 hpd hn63
  go_wp2_with fail
  refine (CS1.out _ HT1.out).mono ?_
  rintro e w2 ⟨rfl, h2⟩
  have HT2 := Lib.hid (Add.trans HT1.out h2)
  clear h2 HT1 CS1
  go_wp2_with fail
  refine (CS2.out _ HT2.out).mono ?_
  rintro e w3 ⟨rfl, h3⟩
  have HT3 := Lib.hid (Add.trans HT2.out h3)
  clear h3 HT2 CS2
  go_wp2_with fail
  refine (HC1.out _ HT3.out).1.mono ?_
  rintro e w4 ⟨a4, c4, rfl, hM4, h4⟩
  have HT4 := Lib.hid (Add.trans HT3.out h4)
  have HM4 := Lib.hid hM4
  clear h4 hM4 HT3
  go_wp2_with fail
  refine (HC1.out _ HT4.out).2.mono ?_
  rintro e w5 ⟨a5, c5, rfl, hM5, h5⟩
  have HT5 := Lib.hid (Add.trans HT4.out h5)
  have CF := Lib.hid (fracs_yes2 (HM4.out.imp id fun q => q.add h5) hM5 (by omega))
  clear h5 hM5 HM4 HT4 HC1
  go_wp2_with fail
  refine CF.out.mono ?_
  rintro e w6 ⟨rfl, h6⟩
  have HT6 := Lib.hid (Add.trans HT5.out h6)
  clear h6 HT5 CF
  go_wp2_with fail
  refine (HC2.out _ HT6.out).1.mono ?_
  rintro e w7 ⟨a7, c7, rfl, hM7, h7⟩
  have HT7 := Lib.hid (Add.trans HT6.out h7)
  have HM7 := Lib.hid hM7
  clear h7 hM7 HT6
  go_wp2_with fail
  refine (HC2.out _ HT7.out).2.mono ?_
  rintro e w8 ⟨a8, c8, rfl, hM8, h8⟩
  have HT8 := Lib.hid (Add.trans HT7.out h8)
  have HM8 := Lib.hid (And.intro (HM7.out.add h8) hM8)
  clear h8 hM8 HM7 HT7 HC2
  go_wp2_with fail
  refine (CD1.out _ HT8.out).mono ?_
  rintro e w9 ⟨v9, rfl, hv9, h9⟩
  obtain ⟨a9, n9, c9, e9, d9, f9, rfl, -, -⟩ := id hv9
  obtain ⟨y9, hy9⟩ : ∃ y, y = td.1 := ⟨_, rfl⟩
  dsimp only at hv9 ⊢
  rw [← hy9] at hv9 ⊢
  have hB := box_new w9 y9 a9 n9 c9 e9 d9 f9
  have hA := add_new w9 (.cells #[.bool y9, .slice a9 n9 c9, .slice e9 d9 f9] 37)
  obtain ⟨W9, hW⟩ : ∃ W, W = w9.alloc (.cells #[.bool y9, .slice a9 n9 c9, .slice e9 d9 f9] 37) := ⟨_, rfl⟩
  obtain ⟨g9, hgg⟩ : ∃ g, g = w9.heap.size := ⟨_, rfl⟩
  rw [← hW, ← hgg] at hB
  rw [← hW] at hA
  have HT9 := Lib.hid (Add.trans HT8.out (Add.trans h9 hA))
  have HM9 := Lib.hid (And.intro (HM8.out.1.add (Add.trans h9 hA)) (HM8.out.2.add (Add.trans h9 hA)))
  have HB9 := Lib.hid (And.intro hB (hv9.mono hA))
  have HW9 := Lib.hid (And.intro hW hgg)
  clear hv9 hB hA h9 hW hgg hy9 HT8 HM8 CD1
  go_upto_region 12 with fail
  rw [← HW9.out.1, ← HW9.out.2]
  clear HW9
  go_wp2_with fail
  refine (CD2.out _ HT9.out).mono ?_
  rintro e w10 ⟨v10, rfl, hv10, h10⟩
  obtain ⟨a10, n10, c10, e10, d10, f10, rfl, -, -⟩ := id hv10
  obtain ⟨y10, hy10⟩ : ∃ y, y = td.1 := ⟨_, rfl⟩
  dsimp only at hv10 ⊢
  rw [← hy10] at hv10 ⊢
  have hB := box_new w10 y10 a10 n10 c10 e10 d10 f10
  have hA := add_new w10 (.cells #[.bool y10, .slice a10 n10 c10, .slice e10 d10 f10] 37)
  obtain ⟨W10, hW⟩ : ∃ W, W = w10.alloc (.cells #[.bool y10, .slice a10 n10 c10, .slice e10 d10 f10] 37) := ⟨_, rfl⟩
  obtain ⟨g10, hgg⟩ : ∃ g, g = w10.heap.size := ⟨_, rfl⟩
  rw [← hW, ← hgg] at hB
  rw [← hW] at hA
  have HT10 := Lib.hid (Add.trans HT9.out (Add.trans h10 hA))
  have HM10 := Lib.hid (And.intro (HM9.out.1.add (Add.trans h10 hA)) (HM9.out.2.add (Add.trans h10 hA)))
  have HB9b := Lib.hid (And.intro (HB9.out.1.mono (Add.trans h10 hA)) (HB9.out.2.mono (Add.trans h10 hA)))
  have HB10 := Lib.hid (And.intro hB (hv10.mono hA))
  have HW10 := Lib.hid (And.intro hW hgg)
  clear hv10 hB hA h10 hW hgg hy10 HT9 HM9 CD2
  go_upto_region 13 with fail
  rw [← HW10.out.1, ← HW10.out.2]
  clear HW10
  go_wp2_with fail
  refine (HC3.out _ HT10.out).1.mono ?_
  rintro e w11 ⟨rfl, h11⟩
  have HT11 := Lib.hid (Add.trans HT10.out h11)
  have H11 := Lib.hid h11
  clear h11 HT10
  go_wp2_with fail
  refine (HC3.out _ HT11.out).2.mono ?_
  rintro e w12 ⟨rfl, h12⟩
  have HT12 := Lib.hid (Add.trans HT11.out h12)
  have A12 := Add.trans H11.out h12
  have CQ := Lib.hid (matrix_yes (HM10.out.1.add A12) (HM10.out.2.add A12) (fun i _ => by omega))
  have HBB := Lib.hid (And.intro (HB9b.out.1.mono A12) (And.intro (HB9b.out.2.mono A12) (And.intro (HB10.out.1.mono A12) (HB10.out.2.mono A12))))
  clear h12 A12 H11 HM10 HT11 HC3 HB9 HB9b HB10
  go_wp2_with fail
  refine CQ.out.mono ?_
  rintro e w13 ⟨rfl, h13⟩
  have b9 := HBB.out.1.mono h13
  have b10 := HBB.out.2.2.1.mono h13
  have p0 := b9.c0
  have p1 := b9.c1
  have p2 := b9.c2
  have q0 := b10.c0
  have q1 := b10.c1
  have q2 := b10.c2
  have CFr := Lib.hid (sameF_yes (HBB.out.2.1.mono h13) (HBB.out.2.2.2.mono h13))
  have HT13 := Lib.hid (Add.trans HT12.out h13)
  clear h13 b9 b10 HBB HT12 CQ
  go_wp2_with fail
  refine CFr.out.mono ?_
  rintro e w14 ⟨rfl, h14⟩
  have HT14 := Lib.hid (Add.trans HT13.out h14)
  have CA := Lib.hid (awakeN w14 (HT.out.mono HT14.out))
  clear h14 HT13 CFr p0 p1 p2 q0 q1 q2
  go_wp2_with fail
  refine CA.out.mono ?_
  rintro e w15 ⟨rfl, h15⟩
  go_wp2_with fail
  go_ret
  exact ⟨rfl, Add.trans HT14.out h15⟩
end Go.Proofs.YtbeoeackahmpbaaGreatDoor
