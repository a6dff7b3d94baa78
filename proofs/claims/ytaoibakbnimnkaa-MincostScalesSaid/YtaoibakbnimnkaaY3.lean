/- Package mincost: send. -/
import Derived.Test.YtaoibakbnimnkaaY2
namespace Go.Proofs.Ytaoibakbnimnkaa
open Go.RowKit NetM

theorem bal_bound {A : List Arc} {N : Nat} {F X : List Int} (hc : Cir A N) (hw : within A F) (hX : Bal A F N X) : ∀ x, x < N → -10800000000000 ≤ X.getD x 0 ∧ X.getD x 0 ≤ 10800000000000 := by
  intro x hx
  have h := net_le (x := (x : Int)) (B := 4294967296) (by decide) (l := A) (f := F) fun i hi => by
    have h1 := (NetM.within_iff.1 hw).2 i hi
    have h2 := hc.cap i hi
    omega
  rw [hX.2 x hx]
  have := hc.len
  omega
theorem room_cir {A : List Arc} {N : Nat} {F : List Int} (hc : Cir A N) (hw : within A F) {j : Nat} (hj : j < 2 * A.length) : 0 ≤ roomS A F j ∧ roomS A F j ≤ 4294967296 := by
  have h1 := (NetM.within_iff.1 hw).2 (j / 2) (by omega)
  have h2 := hc.cap (j / 2) (by omega)
  unfold roomS
  split <;> omega
/-- What send leaves. -/
def SendP (w0 w : World) (A0 A : List Arc) (N gr ga gs gf gp gx gt : Nat) (va sv : Value) (P : List Int) (x : Nat) (a : Int) (F X : List Int) (T : List Bool) (e : Ending) (w' : World) : Prop :=
  ∃ p F' X' T', e = .returned (.int .i64 p) ∧ SentC A N P x a F X T p F' X' T' ∧ CB w0 w' A0 A N gr ga gs gf gp gx gt va sv (roomS A F') P X' T' ∧ KeepR gp gx w w'
/-- While it works at node x. -/
def SendM (w0 w wr : World) (A0 A : List Arc) (N gr ga gs gf gp gx gt : Nat) (va sv : Value) (P : List Int) (x : Nat) (a : Int) (F X : List Int) (T : List Bool) (k : Nat) (q : Int) (rv : Value) : Prop :=
  ∃ F1 X1 T1, SendL A N P x a F X T k q F1 X1 T1 ∧ CB w0 wr A0 A N gr ga gs gf gp gx gt va sv (roomS A F1) P X1 T1 ∧ KeepR gp gx w wr ∧ RowR wr (banC gp gx) rv (fromR A x)

set_option maxRecDepth 100000 in
set_option maxHeartbeats 4000000 in
theorem send_any {w0 : World} {A0 A : List Arc} {N gr ga gs gf gp gx gt : Nat} {va sv : Value} {P : List Int} (hc : Cir A N) (hP : ∀ x, x < N → -200000000 ≤ P.getD x 0 ∧ P.getD x 0 ≤ 200000000) (n : Nat) :
    ∀ (x : Nat) (a : Int) (F X : List Int) (T : List Bool) (w : World), N - cnt (T.set x true) < n → x < N → 0 < a → a ≤ 20000000000000 → within A F → Fine A F P → Bal A F N X → CB w0 w A0 A N gr ga gs gf gp gx gt va sv (roomS A F) P X T →
      Calls Try.prog 55 #[.pointer (some ⟨gr, 0, none⟩), .int .i64 x, .int .i64 a] w (SendP w0 w A0 A N gr ga gs gf gp gx gt va sv P x a F X T) := by
  induction n with
  | zero => intro x a F X T w h; omega
  | succ n ih =>
    intro x a F X T w hn hxN ha0 ha1 hw hfi hX hR
    have IH := Lib.hid ih
    have HR := Lib.hid hR
    have HC := Lib.hid hc
    have HP := Lib.hid hP
    have hXl := hR.2.2.2.2.2.2.2.2.1
    have hTl := hR.2.2.2.2.2.2.2.2.2.1
    have c4 := hR.1.c4
    have c5 := hR.1.c5
    have x1 : w.cell? ⟨gx, x, none⟩ = some (.int .i64 (X.getD x 0)) := IBlk.get hR.2.2.2.2.2.1 _ (by omega)
    have hxb := bal_bound hc hw hX x hxN
    have l1 := hR.1.lt
    have l2 := Blk.lt hR.2.2.2.2.2.1
    by_cases hd : X.getD x 0 < 0
    · have HF : Hid (∀ v, v = min a (-X.getD x 0) → SendP w0 w A0 A N gr ga gs gf gp gx gt va sv P x a F X T (.returned (.int .i64 v)) w) := Lib.hid (fun v hv => ⟨_, F, X, T, rfl, by rw [hv]; exact SentC.deficit ha0 hw hfi hX hTl hd, hR, KeepR.refl _ _ _⟩)
      obtain ⟨xv, hxv⟩ : ∃ xv, xv = X.getD x 0 := ⟨_, rfl⟩
      rw [← hxv] at x1 hxb hd HF
      have d1 : decide (xv < 0) = true := decide_eq_true hd
      clear ih hR hn hw hfi hX hxv hc hP hXl hTl
      go_enter Try.func55, Try.ntmps55
      go_wp2_with fail
      all_goals go_ret
      all_goals exact HF.out _ (by omega)
    · have hx0 : 0 ≤ X.getD x 0 := by omega
      have HX0 := Lib.hid hx0
      obtain ⟨ra, rc, r1, r2, r3, r4⟩ := hR.2.2.2.1.get hxN
      have h1 := hR.tri x true
      have c2 := h1.1.c2
      obtain ⟨ra', rc', q1, q2, q3, q4⟩ := h1.2.2.2.1.get hxN
      have f5 := Blk.free hR.2.2.2.2.2.2.1 x
      have l3 := Blk.lt hR.2.2.2.2.2.2.1
      have g5 : w.cell? ⟨gt, x, none⟩ = some (.bool (T.getD x false)) := BBlk.get hR.2.2.2.2.2.2.1 _ (by omega)
      obtain ⟨tb, htb⟩ : ∃ tb, tb = T.getD x false := ⟨_, rfl⟩
      rw [← htb] at g5
      have HM0 : Hid (SendM w0 w (w.setCell ⟨gt, x, none⟩ (.bool true)) A0 A N gr ga gs gf gp gx gt va sv P x a F X T 0 0 (.slice ra' (fromR A x).length rc')) :=
        Lib.hid ⟨F, X, T.set x true, SendL.start ha0 hxN hw hfi hX hTl, h1, hR.keepTri _ _, q2⟩
      have HN := Lib.hid hn
      have HXI := Lib.hid hX
      have HTL := Lib.hid hTl
      obtain ⟨xv, hxv⟩ : ∃ xv, xv = X.getD x 0 := ⟨_, rfl⟩
      rw [← hxv] at x1 hxb hd
      obtain ⟨L, hL⟩ : ∃ L, L = (fromR A x).length := ⟨_, rfl⟩
      rw [← hL] at q1 q2 q3 HM0
      have HL := Lib.hid hL
      obtain ⟨w1, hw1⟩ : ∃ w1, w1 = w.setCell ⟨gt, x, none⟩ (.bool true) := ⟨_, rfl⟩
      have HW1 : Hid (w.setCell ⟨gt, x, none⟩ (.bool true) = w1) := Lib.hid hw1.symm
      rw [← hw1] at HM0 c2 q1
      have d1 : decide (xv < 0) = false := decide_eq_false hd
      unfold maxLen at q4
      clear ih hR hn hw hfi hX hxv hc hP hXl hTl h1 q2 r1 r2 r3 r4 hx0 hL hw1 htb
      go_enter Try.func55, Try.ntmps55
      go_upto_region 4 with fail
      rw [HW1.out]
      clear HW1 x1 d1 hd
      go_wp2_with fail
      go_loopw [7, 44] (fun qv iv wr => ∃ (k : Nat) (q : Int), k ≤ L ∧ iv = .int .i64 k ∧ qv = .int .i64 q ∧ Hid (SendM w0 w wr A0 A N gr ga gs gf gp gx gt va sv P x a F X T k q (.slice ra' L rc'))) (fun _ iv _ => L - (intOf iv).toNat)
      case atStart => exact ⟨0, 0, Nat.zero_le _, rfl, rfl, HM0⟩
      case round =>
        obtain ⟨k, q, hk, rfl, rfl, HM⟩ := hrel
        clear HM0
        obtain ⟨F1, X1, T1, hLp, hCB, hKr, hrow⟩ := HM.out
        have c1 := hCB.1.c1
        have c4 := hCB.1.c4
        have c5 := hCB.1.c5
        have l1 := hCB.1.lt
        by_cases hlt : k < L
        · obtain ⟨-, b, off, rfl, rk⟩ := hrow.cell hlt
          obtain ⟨i, hi⟩ : ∃ i, i = (fromR A x).getD k 0 := ⟨_, rfl⟩
          rw [← hi] at rk
          have hkl : k < (fromR A x).length := by rw [← HL.out]; exact hlt
          have him : i ∈ fromR A x := by
            rw [hi, show (fromR A x).getD k 0 = (fromR A x)[k] by simp [List.getD, hkl]]
            exact List.getElem_mem hkl
          obtain ⟨hi1, hi2⟩ := mem_fromR.1 him
          have hti : tn A i = x := by unfold tn; rw [hi2]; simp
          obtain ⟨e3, e4⟩ := hn_is HC.out.ok hi1
          obtain ⟨h, hh⟩ : ∃ h, h = hn A i := ⟨_, rfl⟩
          rw [← hh] at e3 e4
          obtain ⟨sc, hsv, hsc1, hsc2, s0, s1, s2, -, sgl⟩ := hCB.2.2.1.get hi1
          rw [e3] at s0
          rw [hsv] at c1
          have hrb := room_cir HC.out hLp.wi hi1
          have hTl := hCB.2.2.2.2.2.2.2.2.2.1
          have hXl := hCB.2.2.2.2.2.2.2.2.1
          have th : wr.cell? ⟨gt, h, none⟩ = some (.bool (getB T1 h)) := BBlk.get hCB.2.2.2.2.2.2.1 h (by omega)
          have l4 := Blk.lt hCB.2.2.2.2.2.2.1
          have CR : Hid (∀ n, Calls Try.prog 52 #[.pointer (some ⟨gr, 0, none⟩), .int .i64 i] (((wr.alloc (.cells #[.int .i64 (h : Nat), .int .i64 (roomS A F1 i), .int .i64 (costS A i)] 76))).drewN n)
              (fun e w'' => e = .returned (.int .i64 (redS A P i)) ∧ ∃ m, w'' = ((wr.alloc (.cells #[.int .i64 (h : Nat), .int .i64 (roomS A F1 i), .int .i64 (costS A i)] 76)).drewN n).drewN m)) := Lib.hid fun n =>
            reduced_any (hCB.add (Add.trans (add_new _ _) (add_drewN _ _))) HC.out HP.out hi1
          have HSK : Hid ((ActS A F1 P i → getB T1 h = true ∨ ¬ q < a) → ∀ n, SendM w0 w ((wr.alloc (.cells #[.int .i64 (h : Nat), .int .i64 (roomS A F1 i), .int .i64 (costS A i)] 76)).drewN n) A0 A N gr ga gs gf gp gx gt va sv P x a F X T (k + 1) q (.slice (some ⟨b, off, none⟩) L rc')) := Lib.hid fun hcond n => by
            have hA : Add wr ((wr.alloc (.cells #[.int .i64 (h : Nat), .int .i64 (roomS A F1 i), .int .i64 (costS A i)] 76)).drewN n) := Add.trans (add_new _ _) (add_drewN _ _)
            exact ⟨F1, X1, T1, hLp.skip ha0 hkl (by rw [← hi, ← hh]; exact hcond), hCB.add hA, hKr.trans (.add hA), (KeepR.add (gp := gp) (gx := gx) hA) _ _ hrow⟩
          have HACT : Hid (ActS A F1 P i ↔ (0 < roomS A F1 i ∧ redS A P i = 0)) := Lib.hid Iff.rfl
          obtain ⟨rm, hrm⟩ : ∃ rm, rm = roomS A F1 i := ⟨_, rfl⟩
          obtain ⟨rd, hrd⟩ : ∃ rd, rd = redS A P i := ⟨_, rfl⟩
          obtain ⟨co, hco⟩ : ∃ co, co = costS A i := ⟨_, rfl⟩
          obtain ⟨tb, htb⟩ : ∃ tb, tb = getB T1 h := ⟨_, rfl⟩
          rw [← hrm] at s1 hrb CR HSK HACT
          rw [← hrd] at CR HACT
          rw [← hco] at s2 CR HSK
          rw [← htb] at th HSK
          obtain ⟨m2, hm2⟩ : ∃ m2, m2 = 2 * A.length := ⟨_, rfl⟩
          rw [← hm2] at c1 hsc1
          have hi3 : i < m2 := by omega
          have HRM := Lib.hid hrm
          have HRD := Lib.hid hrd
          have HTB := Lib.hid htb
          have HSV := Lib.hid hsv
          have HHI := Lib.hid hi
          have HHH := Lib.hid hh
          have HKL := Lib.hid hkl
          have HI1 := Lib.hid hi1
          have HTI := Lib.hid hti
          have HM2 := Lib.hid hm2
          have HE3 := Lib.hid e3
          unfold maxLen at hsc2
          have hqb : 0 ≤ q ∧ q ≤ a := ⟨hLp.q0, hLp.qa⟩
          have HLP := Lib.hid hLp
          have HCB := Lib.hid hCB
          have HKR := Lib.hid hKr
          have HROW := Lib.hid hrow
          clear hLp hCB hKr hrow hi him hi1 hi2 hti e3 hh hsv hrm hrd hco htb hm2 hkl HM hXl
          by_cases k1 : 0 < rm
          · have d1 : decide (0 < rm) = true := decide_eq_true k1
            by_cases k2 : rd = 0
            · have d2 : (rd == 0) = true := by simpa using k2
              cases tb with
              | true =>
                go_wp2_with fail
                go_quiet ((go_at_call 52; with_reducible exact Calls.quiet_of (CR.out _)))
                go_wp2_with fail
                go_roundw
                case rel => exact ⟨k + 1, q, by omega, by go_num, rfl, Lib.hid (HSK.out (fun _ => .inl (by first | rfl | trivial)) _)⟩
                case measure => simp [intOf]; omega
              | false =>
                by_cases k3 : q < a
                · have d3 : decide (q < a) = true := decide_eq_true k3
                  obtain ⟨bm, hbm⟩ : ∃ bm, (if rm < a - q then rm else a - q) = bm := ⟨_, rfl⟩
                  have hbm1 : 0 < bm ∧ bm ≤ rm ∧ bm ≤ a - q := by rw [← hbm]; split <;> omega
                  obtain ⟨hb0, hb1, hb2⟩ := hbm1
                  have W1 : IntKind.i64.wrap (a - q) = a - q := IntWalk.i64_in _ (by omega)
                  have HA : Hid (∀ n, Add wr ((wr.alloc (.cells #[.int .i64 (h : Nat), .int .i64 rm, .int .i64 co] 76)).drewN n)) := Lib.hid fun n => Add.trans (add_new _ _) (add_drewN _ _)
                  go_wp2_with fail
                  go_quiet ((go_at_call 52; with_reducible exact Calls.quiet_of (CR.out _)))
                  clear d1 d2 CR HSK
                  go_wp2_with fail
                  obtain ⟨W2, hW2⟩ : ∃ W2, W2 = (wr.alloc (.cells #[.int .i64 (h : Nat), .int .i64 rm, .int .i64 co] 76)).drewN nq := ⟨_, rfl⟩
                  have hA2 : Add wr W2 := by rw [hW2]; exact HA.out nq
                  have hTlen := HLP.out.tl
                  refine (IH.out h bm F1 X1 T1 _ (by
                    have := untried_lt HTL.out hTlen hxN e4 HLP.out.tx HLP.out.mono HTB.out.symm
                    have := HN.out; omega) e4 hb0 (by omega) HLP.out.wi HLP.out.fine HLP.out.bal (by rw [← hW2]; exact HCB.out.add hA2)).mono ?_
                  rintro e w2 ⟨p, F2, X2, T2, rfl, hS, hCB2, hK2⟩
                  rw [← hW2] at hK2
                  have hact : ActS A F1 P i := HACT.out.2 ⟨k1, k2⟩
                  have hstep := HLP.out.send HC.out.ok hxN HKL.out HHI.out HHH.out hact HTB.out.symm (by rw [← HRM.out]; exact hb1) hb0 hb2 hS
                  obtain ⟨hst, hrm1, hrm2⟩ := hstep
                  have hp0 := hS.p0
                  have hpa := hS.pa
                  have hp : 0 ≤ p ∧ p ≤ bm := ⟨hp0, hpa⟩
                  have hfl2 : i / 2 < F2.length := by have := NetM.within_length hS.wi; have := HI1.out; omega
                  have hr1 := room_cir HC.out hS.wi HI1.out
                  have hr2 := room_cir HC.out hS.wi (twin_lt HI1.out)
                  have hxb2 := bal_bound HC.out hS.wi hS.bal
                  have HPUSH := Lib.hid (cpush_any hCB2 HC.out HI1.out (p := p) (by omega) (by omega) (by omega) (fun y hy => by have := hxb2 y hy; omega))
                  have HNEXT : Hid (∀ w3, CB w0 w3 A0 A N gr ga gs gf gp gx gt va sv (roomR (roomS A F2) i p) P (pushX A X2 i p) T2 → KeepR gp gx w2 w3 → SendM w0 w w3 A0 A N gr ga gs gf gp gx gt va sv P x a F X T (k + 1) (q + p) (.slice (some ⟨b, off, none⟩) L rc')) := Lib.hid fun w3 h3 hk3 => by
                    have hkk : KeepR gp gx wr w3 := (KeepR.add hA2).trans (hK2.trans hk3)
                    exact ⟨along F2 i p, pushX A X2 i p, T2, hst, h3.congr fun j _ => room_along p hfl2 j, HKR.out.trans hkk, hkk _ _ HROW.out⟩
                  have W5 : IntKind.i64.wrap (q + p) = q + p := IntWalk.i64_in _ (by omega)
                  clear hst hrm1 hrm2 hp0 hpa hfl2 hr1 hr2 hxb2 hS hCB2 hK2 hact hW2 hA2 hTlen HLP HCB HKR HROW HA hbm c1 c4 c5 s0 s1 s2 rk th HACT HRM HRD HTB HSV HHI HHH HKL HI1 HTI HM2 HE3 W1 hrb k1 k2 k3 d3
                  go_wp2_with fail
                  refine HPUSH.out.mono ?_
                  rintro e w3 ⟨rfl, h3, hk3⟩
                  have HN3 := Lib.hid (HNEXT.out w3 h3 hk3)
                  clear h3 hk3 HNEXT HPUSH
                  go_wp2_with fail
                  go_roundw
                  case rel => exact ⟨k + 1, q + p, by omega, by go_num, rfl, HN3⟩
                  case measure => simp [intOf]; omega
                · have d3 : decide (q < a) = false := decide_eq_false k3
                  go_wp2_with fail
                  go_quiet ((go_at_call 52; with_reducible exact Calls.quiet_of (CR.out _)))
                  go_wp2_with fail
                  go_roundw
                  case rel => exact ⟨k + 1, q, by omega, by go_num, rfl, Lib.hid (HSK.out (fun _ => .inr k3) _)⟩
                  case measure => simp [intOf]; omega
            · have d2 : (rd == 0) = false := by simpa using k2
              go_wp2_with fail
              go_quiet ((go_at_call 52; with_reducible exact Calls.quiet_of (CR.out _)))
              go_wp2_with fail
              go_roundw
              case rel => exact ⟨k + 1, q, by omega, by go_num, rfl, Lib.hid (HSK.out (fun hh => absurd (HACT.out.1 hh).2 k2) _)⟩
              case measure => simp [intOf]; omega
          · have d1 : decide (0 < rm) = false := decide_eq_false k1
            go_wp2_with fail
            go_quiet ((go_at_call 52; with_reducible exact Calls.quiet_of (CR.out _)))
            go_wp2_with fail
            go_roundw
            case rel => exact ⟨k + 1, q, by omega, by go_num, rfl, Lib.hid (HSK.out (fun hh => absurd (HACT.out.1 hh).1 (by omega)) _)⟩
            case measure => simp [intOf]; omega
        · obtain rfl : k = L := by omega
          have hTl := hCB.2.2.2.2.2.2.2.2.2.1
          have f5 := Blk.free hCB.2.2.2.2.2.2.1 x
          have g5 : wr.cell? ⟨gt, x, none⟩ = some (.bool (T1.getD x false)) := BBlk.get hCB.2.2.2.2.2.2.1 _ (by omega)
          have l4 := Blk.lt hCB.2.2.2.2.2.2.1
          have h2 := hCB.tri x (decide (q < a))
          have HF : Hid (∀ w', Add (wr.setCell ⟨gt, x, none⟩ (.bool (decide (q < a)))) w' → SendP w0 w A0 A N gr ga gs gf gp gx gt va sv P x a F X T (.returned (.int .i64 q)) w') := Lib.hid fun w' hA =>
            ⟨q, F1, X1, _, rfl, hLp.done ha0 hxN HC.out.ok HL.out HX0.out, h2.add hA, hKr.trans ((hCB.keepTri _ _).trans (.add hA))⟩
          obtain ⟨tb, htb⟩ : ∃ tb, tb = T1.getD x false := ⟨_, rfl⟩
          rw [← htb] at g5
          clear h2 hCB hLp hKr hrow HM htb c4 c1 hTl
          go_wp2_with fail
          go_ret
          exact HF.out _ (add_refl _)
end Go.Proofs.Ytaoibakbnimnkaa
