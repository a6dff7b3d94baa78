/- Package maxflow: push. -/
import Derived.Test.YtaoibakbnimnkaaP7
import Derived.Deep.LoopGhost
import Derived.Deep.CutRange
import Derived.StillTailTactics
namespace Go.Proofs.Ytaoibakbnimnkaa
open Go.RowKit NetM

theorem xor_one_at : ∀ a : Nat, a < 79 → ∀ b : Nat, b < 64 → bits BinOp.xor .i64 ((64 * a + b : Nat) : Int) 1 = ((twin (64 * a + b) : Nat) : Int) := by decide +kernel
theorem xor_one (k : Nat) (h : k < 5000) : bits BinOp.xor .i64 (k : Int) 1 = ((twin k : Nat) : Int) := by
  have := xor_one_at (k / 64) (by omega) (k % 64) (by omega)
  rwa [show 64 * (k / 64) + k % 64 = k by omega] at this
/-- What push leaves. -/
def PushP (w0 : World) (A : List Arc) (N s t gr gs gf gd gu H : Nat) (sv uv : Value) (D : List Int) (x : Nat) (a : Int) (F : List Int) (U : List (List Nat)) (e : Ending) (w' : World) : Prop :=
  ∃ p F' U', e = .returned (.int .i64 p) ∧ Pushed A N t D x a F U p F' U' ∧ ResB w0 w' A N s t gr gs gf gd H sv uv (roomS A F') D ∧ Unt w0 w' N gu gf gd H uv U'
/-- What holds while push works at node x: q is sent. -/
def MidP (w0 wr : World) (A : List Arc) (N s t gr gs gf gd gu H : Nat) (sv uv : Value) (D : List Int) (x : Nat) (F : List Int) (U : List (List Nat)) (q : Int) (F1 : List Int) (U1 : List (List Nat)) : Prop :=
  Sent A N t D x F U q F1 U1 ∧ ResB w0 wr A N s t gr gs gf gd H sv uv (roomS A F1) D ∧ Unt w0 wr N gu gf gd H uv U1

set_option maxRecDepth 100000 in
set_option maxHeartbeats 4000000 in
theorem push_any {w0 : World} {A : List Arc} {N s t gr gs gf gd gu H : Nat} {sv uv : Value} {D : List Int} (hv : VNet N s t A) (hD : ∀ y, y < N → -1 ≤ dl D y ∧ dl D y ≤ 700) (n : Nat) :
    ∀ (x : Nat) (a : Int) (F : List Int) (U : List (List Nat)) (w : World), (700 - dl D x).toNat < n → dl D x ≤ 700 → x < N → 0 ≤ a → a ≤ 5368709117500 → within A F → Tried A N t D F U →
      ResB w0 w A N s t gr gs gf gd H sv uv (roomS A F) D → Unt w0 w N gu gf gd H uv U →
      Calls Try.prog 45 #[.pointer (some ⟨gr, 0, none⟩), .int .i64 x, .int .i64 a] w (PushP w0 A N s t gr gs gf gd gu H sv uv D x a F U) := by
  induction n with
  | zero => intro x a F U w h; omega
  | succ n ih =>
    intro x a F U w hn hx7 hxN ha0 ha1 hw hT hR hU
    have IH := Lib.hid ih
    have c1 := hR.1.c1
    by_cases hxt : x = t
    · have hF : PushP w0 A N s t gr gs gf gd gu H sv uv D x a F U (.returned (.int .i64 a)) w := ⟨a, F, U, rfl, by rw [hxt]; exact Pushed.sink ha0 hw hT, hR, hU⟩
      have HF := Lib.hid hF
      have d1 : ((x : Int) == (t : Int)) = true := by simp; omega
      clear ih hF hR hU hT hw hn hx7 hxN hxt hv hD
      go_enter Try.func45, Try.ntmps45
      go_wp2_with fail
      go_ret
      exact HF.out
    · have d1 : ((x : Int) == (t : Int)) = false := by simp; omega
      have HM0 : Hid (MidP w0 w A N s t gr gs gf gd gu H sv uv D x F U 0 F U) := Lib.hid ⟨Sent.start hw hT, hR, hU⟩
      have HK0 : Hid ((ul U x).length + (if (0 : Int) < a then 1 else 0) ≤ (ul U x).length + 1) := Lib.hid (by split <;> omega)
      have HXT := Lib.hid hxt
      have HV := Lib.hid hv
      have HD := Lib.hid hD
      have HN := Lib.hid hn
      have hDx := hD x hxN
      obtain ⟨K0, hK0⟩ : ∃ K0, K0 = (ul U x).length + 1 := ⟨_, rfl⟩
      rw [← hK0] at HK0
      clear ih hR hU hT hw hxt hv hD hn hK0
      go_enter Try.func45, Try.ntmps45
      go_wp2_with fail
      clear d1 c1
      go_loopg [7] K0 (fun k qv wr => ∃ (q : Int) (F1 : List Int) (U1 : List (List Nat)), qv = .int .i64 q ∧ q ≤ a ∧ Hid (MidP w0 wr A N s t gr gs gf gd gu H sv uv D x F U q F1 U1) ∧ Hid ((ul U1 x).length + (if q < a then 1 else 0) ≤ k))
      case atStart => exact ⟨0, F, U, rfl, ha0, HM0, HK0⟩
      case round =>
        obtain ⟨q, F1, U1, rfl, hqa, HM, HK⟩ := hrel
        clear HM0 HK0
        have hq0 : 0 ≤ q := HM.out.1.1
        by_cases hlt : q < a
        · obtain ⟨cu, hcu⟩ := HM.out.2.2
          obtain ⟨huv, hcu1, hcu2, hHd, hUl, hgu, hgu2⟩ := hcu
          obtain ⟨ra, rc, r1, r2, r3, r4⟩ := hHd.get hxN
          have d0 : decide (q < a) = true := decide_eq_true hlt
          have c4 := HM.out.2.1.1.c4
          rw [huv] at c4
          cases hul : ul U1 x with
          | nil =>
            have hF : PushP w0 A N s t gr gs gf gd gu H sv uv D x a F U (.returned (.int .i64 q)) wr := ⟨q, F1, U1, rfl, HM.out.1.done hqa HXT.out (fun _ => hul), HM.out.2.1, HM.out.2.2⟩
            have HF := Lib.hid hF
            rw [hul] at r1
            clear hF huv hHd hUl r2 r3 r4 hul HM HK
            simp only [List.length_nil] at r1
            go_wp2_with fail
            go_ret
            exact HF.out
          | cons i rest =>
            have HKN : Hid (rest.length + 2 ≤ gk) := Lib.hid (by have := HK.out; rw [hul, if_pos hlt, List.length_cons] at this; omega)
            obtain ⟨hi, hti⟩ := HM.out.1.2.2.2.1.mem hxN hul
            obtain ⟨x', y, ht1, hy, hx', hyN⟩ := step_nodes HV.out.1 hi
            obtain ⟨sc, hsv, hsc1, hsc2, s0, s1, sfr, sgl⟩ := HM.out.2.1.2.1.get hi
            rw [hy] at s0
            rw [hul] at r1 r2 r3
            rw [List.length_cons] at r1 r2 r3
            obtain ⟨-, b, off, hra, q0⟩ := r2.cell (i := 0) (by omega)
            rw [List.getD_cons_zero, Nat.add_zero] at q0
            subst hra
            have c2 := HM.out.2.1.1.c2
            rw [hsv] at c2
            have c5 := HM.out.2.1.1.c5
            have e0 := HM.out.2.1.2.2.2.1
            have hDl := HM.out.2.1.2.2.2.2.1
            have dx : wr.cell? ⟨gd, x, none⟩ = some (.int .i64 (dl D x)) := IBlk.get e0 x (by omega)
            have dy : wr.cell? ⟨gd, y, none⟩ = some (.int .i64 (dl D y)) := IBlk.get e0 y (by omega)
            have hrb := room_bound HV.out.1 HM.out.1.2.1 hi
            have hDy := HD.out y hyN
            obtain ⟨lx, hlx⟩ : ∃ l, dl D x = l := ⟨_, rfl⟩
            obtain ⟨ly, hly⟩ : ∃ l, dl D y = l := ⟨_, rfl⟩
            obtain ⟨rm, hrm⟩ : ∃ r, roomS A F1 i = r := ⟨_, rfl⟩
            rw [hlx] at dx hDx
            rw [hly] at dy hDy
            rw [hrm] at s1 hrb
            have HLX := Lib.hid hlx
            have HLY := Lib.hid hly
            have HRM := Lib.hid hrm
            have HUL := Lib.hid hul
            have HHY := Lib.hid hy
            have HTI := Lib.hid hti
            have HSV := Lib.hid hsv
            have HUV := Lib.hid huv
            have HR2 := Lib.hid r2
            have W1 : IntKind.i64.wrap (lx + 1) = lx + 1 := IntWalk.i64_in _ (by omega)
            obtain ⟨m2, hm2⟩ : ∃ m2, 2 * A.length = m2 := ⟨_, rfl⟩
            rw [hm2] at hi hsc1 c2
            have hm5 : m2 ≤ 5000 := by have := HV.out.2.2.2.2.2.2; omega
            have HM2 := Lib.hid hm2
            unfold maxLen at hcu2 hsc2 r4
            have l1 := Blk.lt e0
            have l2 := HM.out.2.1.1.lt
            have l3 := hHd.lt
            clear hlx hly hrm hul hy hti hsv huv r2 hUl hHd e0 ht1 hx' hm2 HK
            by_cases hd : ly = lx + 1
            · have d2 : (ly == lx + 1) = true := by simpa using hd
              obtain ⟨bm, hbm⟩ : ∃ bm, (if rm < a - q then rm else a - q) = bm := ⟨_, rfl⟩
              have hbm1 : 0 ≤ bm ∧ bm ≤ rm ∧ bm ≤ a - q ∧ (bm = rm ∨ bm = a - q) := by rw [← hbm]; split <;> omega
              obtain ⟨hb0, hb1, hb2, hb3⟩ := hbm1
              have HB3 := Lib.hid hb3
              clear hb3
              go_wp2_with fail
              go_quiet (fail)
              clear d2
              go_wp2_with fail
              have HAQ : Hid (Add wr ((wr.alloc (.cells #[.int .i64 (y : Nat), .int .i64 rm] 82)).drewN nq)) := Lib.hid (Add.trans (add_new _ _) (add_drewN _ _))
              refine (IH.out y bm F1 U1 _ (by rw [HLY.out]; have := HN.out; rw [HLX.out] at this; omega) (by rw [HLY.out]; exact hDy.2) hyN hb0 (by omega) HM.out.1.2.1 HM.out.1.2.2.2.1 (HM.out.2.1.add HAQ.out) (HM.out.2.2.add HAQ.out)).mono ?_
              rintro e w2 ⟨p, F2, U2, rfl, hp, hR2, hU2⟩
              have hst := HM.out.1.step HV.out.1 hxN HUL.out HHY.out (by rw [HLY.out, HLX.out]; exact hd) (by rw [HRM.out]; exact hb1) hp
              have hp0 : 0 ≤ p ∧ p ≤ bm := ⟨hp.1.1, hp.2.1⟩
              obtain ⟨hst1, hst2, hst3, hst4, hst5⟩ := hst
              have hi2 : i < 2 * A.length := by rw [HM2.out]; exact hi
              have ht2 : twin i < 2 * A.length := twin_lt hi2
              obtain ⟨sc', hsv', -, -, -, t1, tfr, tgl⟩ := hR2.2.1.get hi2
              rw [hst3, HRM.out] at t1
              have k2 := hR2.1.c2
              rw [HSV.out] at k2
              rw [HM2.out] at k2
              have hfl2 : i / 2 < F2.length := by rw [NetM.within_length hp.1.2.1]; omega
              have hW3 := hR2.room hi2 (rm - p)
              have hU3 := Unt.room hR2 hU2 hi2 (rm - p)
              obtain ⟨-, -, -, -, -, u1, ufr, ugl⟩ := hW3.2.1.get ht2
              rw [if_neg (twin_ne i)] at u1
              rw [hst4] at u1
              obtain ⟨rt, hrt⟩ : ∃ r, roomS A F1 (twin i) = r := ⟨_, rfl⟩
              have hrtb := room_bound HV.out.1 HM.out.1.2.1 ht2
              have hsum := room_sum (A := A) (F := F1) (j := i)
              have hcap := (okArcs_at HV.out.1 (i := i / 2) (by omega)).2.2.2.2.2
              rw [hrt] at u1 hrtb hsum
              rw [HRM.out] at hsum
              have hsum2 : rt + p ≤ 2147483647 := by omega
              have q2 := hW3.1.c2
              rw [HSV.out, HM2.out] at q2
              have hW4 := hW3.room ht2 (rt + p)
              have hU4 := Unt.room hW3 hU3 ht2 (rt + p)
              have hW4' : ResB w0 ((w2.setCell ⟨gs, i * 2 + 1, none⟩ (.int .i64 (rm - p))).setCell ⟨gs, twin i * 2 + 1, none⟩ (.int .i64 (rt + p))) A N s t gr gs gf gd H sv uv (roomS A (along F2 i p)) D := by
                obtain ⟨z1, z2, z3⟩ := hW4
                refine ⟨z1, z2.congr fun j hj => ?_, z3⟩
                by_cases cj : j = twin i
                · subst cj
                  rw [if_pos rfl, room_twin p hfl2, hst4, hrt]
                · rw [if_neg cj]
                  by_cases ci : j = i
                  · subst ci
                    rw [if_pos rfl, room_self p hfl2, hst3, HRM.out]
                  · rw [if_neg ci, room_other p hfl2 ci cj]
              have HMID : Hid (MidP w0 ((w2.setCell ⟨gs, i * 2 + 1, none⟩ (.int .i64 (rm - p))).setCell ⟨gs, twin i * 2 + 1, none⟩ (.int .i64 (rt + p))) A N s t gr gs gf gd gu H sv uv D x F U (q + p) (along F2 i p) U2) := Lib.hid ⟨hst1, hW4', hU4⟩
              have X1 := xor_one i (by omega)
              have HST5 := Lib.hid hst5
              have HRS : Hid (roomS A (along F2 i p) i = rm - p) := Lib.hid (by rw [room_self p hfl2, hst3, HRM.out])
              have HU2 := Lib.hid hst2
              obtain ⟨tw, htw⟩ : ∃ tw, twin i = tw := ⟨_, rfl⟩
              have HTW := Lib.hid htw
              rw [HM2.out, htw] at ht2
              rw [htw] at u1 ufr X1 HMID
              obtain ⟨hp1, hp2⟩ := hp0
              obtain ⟨hrt1, hrt2⟩ := hrtb
              have hqp : q + p ≤ a := by omega
              clear hst1 hst2 hst3 hst4 hst5 hp hR2 hU2 hW3 hU3 hW4 hW4' hU4 hsum hrt htw hi2 hsv' hfl2 c2 c4 c5 dx dy s0 s1 sfr r1 q0 W1 hbm
              go_upto_region 10 with fail
              go_upto_region 11 with fail
              obtain ⟨W4, hW4⟩ : ∃ W4, W4 = (w2.setCell ⟨gs, i * 2 + 1, none⟩ (.int .i64 (rm - p))).setCell ⟨gs, tw * 2 + 1, none⟩ (.int .i64 (rt + p)) := ⟨_, rfl⟩
              rw [← hW4] at HMID ⊢
              have HDEAD : Hid (q + p < a → ∀ z : Nat, headS A i = (z : Int) → dl D z ≠ dl D x + 1 ∨ roomS A (along F2 i p) i ≤ 0 ∨ (z ≠ t ∧ ul U2 z = [])) := Lib.hid fun hlt2 z hz => by
                have hzy : z = y := by rw [HHY.out] at hz; omega
                subst hzy
                rcases Int.lt_or_le p bm with hpb | hpb
                · rcases HB3.out with hbr | hbr
                  · exact .inr (.inr (HST5.out (by rw [HRM.out]; omega) hpb))
                  · rcases Int.lt_or_le p rm with hpr | hpr
                    · exact .inr (.inr (HST5.out (by rw [HRM.out]; exact hpr) hpb))
                    · omega
                · rcases HB3.out with hbr | hbr
                  · exact .inr (.inl (by rw [HRS.out]; omega))
                  · omega
              clear hW4 u1 ufr X1 k2 q2 t1 tfr
              by_cases hlt2 : q + p < a
              · have d3 : decide (q + p < a) = true := decide_eq_true hlt2
                obtain ⟨cu', huv', hcu1', hcu2', hHd', hUl', hgu', hgu2'⟩ := HMID.out.2.2
                obtain ⟨ra', rc', r1', r2', r3', r4'⟩ := hHd'.get hxN
                have c4 := HMID.out.2.1.1.c4
                rw [huv'] at c4
                rw [HU2.out] at r1' r2' r3'
                rw [List.length_cons] at r1' r2' r3'
                obtain ⟨-, b', off', hra', -⟩ := r2'.cell (i := 0) (by omega)
                subst hra'
                obtain ⟨so, hso⟩ : ∃ so, (if rc' = 1 then some (⟨b', off', none⟩ : Addr) else some ⟨b', off' + 1, none⟩) = so := ⟨_, rfl⟩
                have fr' := hHd'.free x
                have HR2' := Lib.hid r2'
                have HUV' := Lib.hid huv'
                have l4 := HMID.out.2.1.1.lt
                have l5 := hHd'.lt
                unfold maxLen at r4' hcu2'
                clear huv' hHd' hUl' r2'
                go_wp2_with fail
                have hdead : ∀ z : Nat, headS A i = (z : Int) → dl D z ≠ dl D x + 1 ∨ roomS A (along F2 i p) i ≤ 0 ∨ (z ≠ t ∧ ul U2 z = []) := HDEAD.out hlt2
                have HDR := Lib.hid (HMID.out.1.drop hxN HU2.out hdead)
                clear hdead d3
                go_region
                go_wp2_with fail
                have HNEW : Hid (MidP w0 ((W4.setCell ⟨gu, x, none⟩ (.slice so rest.length (rc' - 1))).drew) A N s t gr gs gf gd gu H sv uv D x F U (q + p) (along F2 i p) (U2.set x rest)) := Lib.hid (by
                  have hv' : RowR W4 (ban gd H) (.slice so rest.length (rc' - 1)) rest := by simpa using HR2'.out.pop rfl hso.symm
                  exact ⟨HDR.out, (HMID.out.2.1.cut HMID.out.2.2 x _).add (b_drew (Below.refl _ _)), (HMID.out.2.2.cut hxN hv').add (b_drew (Below.refl _ _))⟩)
                have HKK : Hid ((ul (U2.set x rest) x).length + (if q + p < a then 1 else 0) ≤ gk - 1) := Lib.hid (by
                  rw [ul_set (by rw [HMID.out.1.2.2.2.1.1]; exact hxN), if_pos rfl, if_pos hlt2]; have := HKN.out; omega)
                clear hso HDR
                go_roundg (gk - 1)
                case measure => have := HKN.out; omega
                case rel => exact ⟨q + p, along F2 i p, U2.set x rest, rfl, hqp, HNEW, HKK⟩
              · have d3 : decide (q + p < a) = false := decide_eq_false hlt2
                have HKK : Hid ((ul U2 x).length + (if q + p < a then 1 else 0) ≤ gk - 1) := Lib.hid (by
                  rw [HU2.out, if_neg hlt2, List.length_cons]; have := HKN.out; omega)
                go_wp2_with fail
                go_roundg (gk - 1)
                case measure => have := HKN.out; omega
                case rel => exact ⟨q + p, along F2 i p, U2, rfl, hqp, HMID, HKK⟩
            · have d2 : (ly == lx + 1) = false := by simpa using hd
              go_wp2_with fail
              go_quiet (fail)
              clear d2
              have HAQ : Hid (Add wr ((wr.alloc (.cells #[.int .i64 (y : Nat), .int .i64 rm] 82)).drewN nq)) := Lib.hid (Add.trans (add_new _ _) (add_drewN _ _))
              have HDR : Hid (Sent A N t D x F U q F1 (U1.set x rest)) := Lib.hid (HM.out.1.drop hxN HUL.out (fun z hz => by
                have hzy : z = y := by rw [HHY.out] at hz; omega
                subst hzy
                exact .inl (by rw [HLY.out, HLX.out]; exact hd)))
              obtain ⟨W4, hW4⟩ : ∃ W4, W4 = (wr.alloc (.cells #[.int .i64 (y : Nat), .int .i64 rm] 82)).drewN nq := ⟨_, rfl⟩
              rw [← hW4] at HAQ ⊢
              have HMID : Hid (MidP w0 W4 A N s t gr gs gf gd gu H sv uv D x F U q F1 U1) := Lib.hid ⟨HM.out.1, HM.out.2.1.add HAQ.out, HM.out.2.2.add HAQ.out⟩
              clear hW4 c2 c4 c5 dx dy s0 s1 sfr r1 q0 W1 hd
              obtain ⟨cu', huv', hcu1', hcu2', hHd', hUl', hgu', hgu2'⟩ := HMID.out.2.2
              obtain ⟨ra', rc', r1', r2', r3', r4'⟩ := hHd'.get hxN
              have c4 := HMID.out.2.1.1.c4
              rw [huv'] at c4
              rw [HUL.out] at r1' r2' r3'
              rw [List.length_cons] at r1' r2' r3'
              obtain ⟨-, b', off', hra', -⟩ := r2'.cell (i := 0) (by omega)
              subst hra'
              obtain ⟨so, hso⟩ : ∃ so, (if rc' = 1 then some (⟨b', off', none⟩ : Addr) else some ⟨b', off' + 1, none⟩) = so := ⟨_, rfl⟩
              have fr' := hHd'.free x
              have HR2' := Lib.hid r2'
              have l4 := HMID.out.2.1.1.lt
              have l5 := hHd'.lt
              unfold maxLen at r4' hcu2'
              clear huv' hHd' hUl' r2'
              go_wp2_with fail
              clear d0
              go_region
              go_wp2_with fail
              have HNEW : Hid (MidP w0 ((W4.setCell ⟨gu, x, none⟩ (.slice so rest.length (rc' - 1))).drew) A N s t gr gs gf gd gu H sv uv D x F U q F1 (U1.set x rest)) := Lib.hid (by
                have hv' : RowR W4 (ban gd H) (.slice so rest.length (rc' - 1)) rest := by simpa using HR2'.out.pop rfl hso.symm
                exact ⟨HDR.out, (HMID.out.2.1.cut HMID.out.2.2 x _).add (b_drew (Below.refl _ _)), (HMID.out.2.2.cut hxN hv').add (b_drew (Below.refl _ _))⟩)
              have HKK : Hid ((ul (U1.set x rest) x).length + (if q < a then 1 else 0) ≤ gk - 1) := Lib.hid (by
                rw [ul_set (by rw [HMID.out.1.2.2.2.1.1]; exact hxN), if_pos rfl, if_pos hlt]; have := HKN.out; omega)
              clear hso HDR
              go_roundg (gk - 1)
              case measure => have := HKN.out; omega
              case rel => exact ⟨q, F1, U1.set x rest, rfl, hqa, HNEW, HKK⟩
        · have d0 : decide (q < a) = false := decide_eq_false hlt
          have HF : Hid (PushP w0 A N s t gr gs gf gd gu H sv uv D x a F U (.returned (.int .i64 q)) wr) := Lib.hid ⟨q, F1, U1, rfl, HM.out.1.done hqa HXT.out (fun h => absurd h hlt), HM.out.2.1, HM.out.2.2⟩
          clear HM HK
          go_wp2_with fail
          go_ret
          exact HF.out
end Go.Proofs.Ytaoibakbnimnkaa
