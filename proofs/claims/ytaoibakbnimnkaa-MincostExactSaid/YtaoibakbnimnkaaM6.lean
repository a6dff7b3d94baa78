/- The reference of layer 13: potentials. -/
import Derived.Test.YtaoibakbnimnkaaM5
namespace Go.Proofs.Ytaoibakbnimnkaa
open Go.RowKit NetM

/-- Potentials in block g; n in its variable. -/
def PSt (w0 w : World) (N s t : Nat) (a : Option Addr) (m c g : Nat) (D : List Int) : Prop := IBlk w g D ∧ NBox w w0.heap.size N s t a m c ∧ Add w0 w ∧ w0.heap.size < g
theorem PSt.add {w0 w w' : World} {N s t : Nat} {a : Option Addr} {m c g : Nat} {D : List Int} (h : PSt w0 w N s t a m c g D) (hb : Add w w') : PSt w0 w' N s t a m c g D := by
  obtain ⟨h1, h2, h3, h4⟩ := h
  exact ⟨Blk.add h1 hb, h2.add hb, Add.trans h3 hb, h4⟩
theorem PSt.one {w0 w : World} {N s t : Nat} {a : Option Addr} {m c g : Nat} {D : List Int} (h : PSt w0 w N s t a m c g D) (i : Nat) (v : Int) : PSt w0 (w.setCell ⟨g, i, none⟩ (.int .i64 v)) N s t a m c g (D.set i v) := by
  obtain ⟨h1, h2, h3, h4⟩ := h
  exact ⟨IBlk.put h1 i v, (heap_setCell_other _ ⟨g, i, none⟩ _ _ (by dsimp only; omega)).trans h2, add_setLow h3 (Nat.le_of_lt h4) _ _, h4⟩
def KP : Int := 1400000
theorem sumD_low : ∀ (D : List Int), (∀ x, x < D.length → -KP ≤ D.getD x 0) → 0 ≤ sumD D + (D.length : Int) * KP
  | [], _ => by simp [sumD]
  | d :: D, h => by
    have h0 : -KP ≤ d := h 0 (by simp)
    have := sumD_low D fun x hx => by simpa using h (x + 1) (by simpa using hx)
    dsimp only [sumD]
    rw [List.length_cons, Int.natCast_add, Int.add_mul]; omega
theorem PS.low {A : List Arc} {F : List Int} {N s t : Nat} {P : Nat → Int} {D : List Int} (h : PS N P KP D) (hB : PotB A F N s t P) : 0 ≤ sumD D + (N : Int) * KP := by
  have := sumD_low D fun x hx => by
    have h1 := h.2 x (by have := h.1; omega)
    have h2 := hB.2.2.1 x (by have := h.1; omega)
    omega
  rwa [h.1] at this
theorem PS.start {A : List Arc} {F : List Int} {N s t : Nat} {P : Nat → Int} (hB : PotB A F N s t P) : PS N P KP (List.replicate N 0) := by
  refine ⟨by simp, fun x hx => ?_⟩
  have e : (List.replicate N (0 : Int)).getD x 0 = 0 := by simp [List.getD, hx]
  have := hB.le hx
  rw [e]; unfold KP; omega
/-- How a pass stands. -/
def PassS (D0 : List Int) (b : Bool) (D : List Int) : Prop := (b = false ∧ D = D0) ∨ (b = true ∧ sumD D < sumD D0)
theorem PassS.step {D0 D D' : List Int} {b : Bool} (h : PassS D0 b D) (hl : sumD D' < sumD D) : PassS D0 true D' := by
  rcases h with ⟨-, rfl⟩ | ⟨-, e⟩
  · exact .inr ⟨rfl, hl⟩
  · exact .inr ⟨rfl, by omega⟩
theorem prelax_f {A : List Arc} {F : List Int} {N s t : Nat} {P : Nat → Int} {D : List Int} (h : PS N P KP D) (hB : PotB A F N s t P) {k x y : Nat} {z u : Int} (hk : k < A.length) (hx : at' A k = ((x : Int), (y : Int), z, u)) (hxN : x < N) (hyN : y < N)
    (h1 : F.getD k 0 < z) (h3 : D.getD x 0 + u < D.getD y 0) : PS N P KP (D.set y (D.getD x 0 + u)) ∧ sumD (D.set y (D.getD x 0 + u)) < sumD D := by
  have ec : cR A k = u := by unfold cR; rw [if_pos hk, hx]
  have := h.relax hB.1 (i := k) hxN hyN (.inl ⟨hk, by rw [hx], by rw [hx], by rw [hx]; exact h1⟩) (by rw [ec]; exact h3)
  rwa [ec] at this
theorem prelax_b {A : List Arc} {F : List Int} {N s t : Nat} {P : Nat → Int} {D : List Int} (h : PS N P KP D) (hB : PotB A F N s t P) {k x y : Nat} {z u : Int} (hk : k < A.length) (hx : at' A k = ((x : Int), (y : Int), z, u)) (hxN : x < N) (hyN : y < N)
    (h1 : 0 < F.getD k 0) (h3 : D.getD y 0 - u < D.getD x 0) : PS N P KP (D.set x (D.getD y 0 - u)) ∧ sumD (D.set x (D.getD y 0 - u)) < sumD D := by
  have ec : D.getD y 0 + cR A (A.length + k) = D.getD y 0 - u := by unfold cR; rw [if_neg (by omega), Nat.add_sub_cancel_left, hx]; dsimp only; omega
  have := h.relax hB.1 (i := A.length + k) hyN hxN (.inr ⟨k, rfl, hk, by rw [hx], by rw [hx], h1⟩) (by rw [ec]; exact h3)
  rwa [ec] at this
/-- Half of a round. -/
def HalfP (w0 W : World) (N s t : Nat) (a : Option Addr) (m c g : Nat) (P : Nat → Int) (D0 : List Int) (b : Bool) (ga x y : Nat) (z u : Int) (D : List Int) : Prop :=
  PSt w0 W N s t a m c g D ∧ PS N P KP D ∧ ABox W ga x y z u ∧ PassS D0 b D
/-- A list is returned; new blocks are laid at most. -/
def RetL (w : World) (N : Nat) (e : Ending) (w' : World) : Prop := ∃ g, e = .returned (.slice (some ⟨g, 0, none⟩) N N) ∧ Add w w'

set_option maxRecDepth 100000 in
set_option maxHeartbeats 4000000 in
theorem refPots_any {w : World} {v vf : Value} {N s t : Nat} {A : List Arc} {F : List Int} {P : Nat → Int} (h : NetA w v N s t A) (hv : CNet N s t A) (hf : RdI w vf F) (hw : Hid (within A F)) (hP : Hid (PotB A F N s t P)) :
    Calls Try.prog 38 #[v, vf] w (RetL w N) := by
  obtain ⟨i0, hi, hz0, hz1, hz2⟩ := info_parts infoInt
  obtain ⟨va, rfl, ha⟩ := h
  obtain ⟨a, m, c, rfl, hl, hc, hm, -⟩ := id ha
  obtain ⟨fa, fc, rfl, hfc, hfm, -⟩ := hf.open
  have HV := Lib.hid hv
  have HA := Lib.hid ha
  have HL := Lib.hid hl
  obtain ⟨⟨-, hs, ht, hst, hN, hN2, hm2⟩, -⟩ := hv
  have hfl := NetM.within_length hw.out
  rw [hl] at hm2 hfl
  rw [hfl] at hf hfc ⊢
  have HF := Lib.hid hf
  have HFL := Lib.hid hfl
  unfold maxLen at hm hfm
  clear hl ha hf hfl
  have B1 := Lib.hid (nbox_new w N s t a m c)
  have T1 := add_new w (.cells #[.int .i64 N, .int .i64 s, .int .i64 t, .slice a m c] 24)
  go_enter Try.func38, Try.ntmps38
  go_wp2_with (at_make; refine wpList_make_full _ rfl _ _ 25 rfl (w.heap.size + 1) 3 i0 (.int .i64 0) 1 Try.underlying25 hi hz0 hz1 _ _ _ _ N rfl rfl rfl rfl (by rw [hz2]; omega) (by unfold maxLen; omega) (by simp) ?_)
  intro w2 hown hgr
  have hI := IBlk.made hown
  have hgr2 := grown_add hgr
  obtain ⟨g, hg⟩ : ∃ g, g = w.heap.size + 1 := ⟨_, rfl⟩
  rw [← hg] at hI ⊢
  have HS0 : Hid (PSt w w2 N s t a m c g (List.replicate N 0)) := Lib.hid ⟨hI, B1.out.add hgr2, Add.trans T1 hgr2, by omega⟩
  have HPS : Hid (PS N P KP (List.replicate N 0)) := Lib.hid (PS.start hP.out)
  obtain ⟨D0, hD0⟩ : ∃ D0, D0 = List.replicate N (0 : Int) := ⟨_, rfl⟩
  rw [← hD0] at HS0 HPS
  clear hown hgr hgr2 hI hg hi hz0 hz1 hz2 B1 T1 hD0
  go_wp2_with fail
  go_loopg [6] ((sumD D0 + (N : Int) * KP).toNat + 1) (fun gk av wr => ∃ (b : Bool) (D : List Int), av = .bool b ∧ Hid (PSt w wr N s t a m c g D) ∧ Hid (PS N P KP D) ∧ Hid (sumD D + (N : Int) * KP + (if b = true then 1 else 0) = (gk : Int)))
  case atStart => exact ⟨true, D0, rfl, HS0, HPS, Lib.hid (by have := PS.low HPS.out hP.out; simp; omega)⟩
  case round =>
    obtain ⟨b, D, rfl, hS, hPS, hsum⟩ := hrel
    clear HS0 HPS
    cases b with
    | false =>
      have HF1 : Hid (RetL w N (.returned (.slice (some ⟨g, 0, none⟩) N N)) wr) := Lib.hid ⟨g, rfl, hS.out.2.2.1⟩
      clear hS hPS hsum
      go_wp2_with fail
      go_ret
      exact HF1.out
    | true =>
      go_wp2_with fail
      obtain ⟨wm, rfl⟩ : ∃ wm : World, wm = wr := ⟨_, rfl⟩
      obtain ⟨GK, rfl⟩ : ∃ GK : Nat, GK = gk := ⟨_, rfl⟩
      go_loopg [6, 7] m (fun gk av iv wr => ∃ (b : Bool) (D1 : List Int) (j : Nat), j + gk = m ∧ av = .bool b ∧ iv = .int .i64 j ∧ Hid (PSt w wr N s t a m c g D1) ∧ Hid (PS N P KP D1) ∧ Hid (PassS D b D1))
      case atStart => exact ⟨false, D, 0, by omega, rfl, rfl, hS, hPS, Lib.hid (.inl ⟨rfl, rfl⟩)⟩
      case round =>
        clear hS hPS
        obtain ⟨b, D1, j, hj, rfl, rfl, hS, hPS, hpass⟩ := hrel
        have hadd := hS.out.2.2.1
        have b3 := hS.out.2.1.c3
        have hsz := hS.out.2.1.lt
        have l1 := Blk.lt hS.out.1
        have l3 := hS.out.2.2.2
        by_cases hlt : j < m
        · obtain ⟨ab, off1, rfl, r0, r1, r2, r3⟩ := (HA.out.add hadd).cell hlt
          obtain ⟨fb, foff, rfl, q4'⟩ := RdI.cell HF.out hlt
          have hbw : fb < w.heap.size := World.block_lt_of_cell? _ _ q4'
          have q4 := (hadd.cell (p := ⟨fb, foff + j, none⟩) hbw).trans q4'
          obtain ⟨x, y, z, u, hx, hxN, hyN, hz0, hz1⟩ := HV.out.1.at (k := j) (by rw [HL.out]; exact hlt)
          have hok := HV.out.2 _ (at_mem (A := A) (k := j) (by rw [HL.out]; exact hlt))
          unfold okCost at hok
          rw [hx] at r0 r1 r2 r3 hok
          dsimp only at r0 r1 r2 r3 hok
          obtain ⟨-, u0, u1⟩ := hok
          obtain ⟨f, hf⟩ : ∃ f, F.getD j 0 = f := ⟨_, rfl⟩
          rw [hf] at q4 q4'
          have Q4 := Lib.hid q4'
          have hbl : fb < wr.heap.size := World.block_lt_of_cell? _ _ q4
          have HX := Lib.hid hx
          have HFF := Lib.hid hf
          have hDl := hPS.out.1
          obtain ⟨dx, hdx⟩ : ∃ d, D1.getD x 0 = d := ⟨_, rfl⟩
          obtain ⟨dy, hdy⟩ : ∃ d, D1.getD y 0 = d := ⟨_, rfl⟩
          have c1 : wr.cell? ⟨g, x, none⟩ = some (.int .i64 dx) := by rw [← hdx]; exact IBlk.get hS.out.1 x (by omega)
          have c2 : wr.cell? ⟨g, y, none⟩ = some (.int .i64 dy) := by rw [← hdy]; exact IBlk.get hS.out.1 y (by omega)
          have f2 := Blk.free hS.out.1 y
          have hbx := hPS.out.2 x hxN
          have hpx := hP.out.2.2.1 x hxN
          rw [hdx] at hbx
          unfold KP at hbx
          have W1 : IntKind.i64.wrap (dx + u) = dx + u := IntWalk.i64_in _ (by omega)
          have HDX := Lib.hid hdx
          have HDY := Lib.hid hdy
          clear q4' hadd hx hf hdx hdy hbx hpx hDl
          obtain ⟨B, hB⟩ : ∃ B : Bool, B = decide (f < z ∧ dx + u < dy) := ⟨_, rfl⟩
          go_upto_region 9 with fail
          go_cut [47] from 13 to 92 (fun cv wx => cv = .bool B ∧ ∃ q, wx = (wr.alloc (.cells #[.int .i64 (x : Nat), .int .i64 (y : Nat), .int .i64 z, .int .i64 u] 35)).drewN q)
          case first =>
            have hcase : (f < z ∧ dx + u < dy) ∨ ¬ f < z ∨ (f < z ∧ ¬ dx + u < dy) := by omega
            rcases hcase with ⟨h1, h3⟩ | h1 | ⟨h1, h3⟩
            · have hB2 : B = true := by rw [hB]; exact decide_eq_true (by omega)
              have d1 : decide (f < z) = true := decide_eq_true h1
              have d3 : decide (dx + u < dy) = true := decide_eq_true h3
              clear h1 h3 hB
              go_quiet (fail)
              go_wp2_with fail
              go_meet
              exact ⟨by rw [hB2], _, rfl⟩
            · have hB2 : B = false := by rw [hB]; exact decide_eq_false (by omega)
              have d1 : decide (f < z) = false := decide_eq_false h1
              clear h1 hB
              go_quiet (fail)
              go_wp2_with fail
              go_meet
              exact ⟨by rw [hB2], _, rfl⟩
            · have hB2 : B = false := by rw [hB]; exact decide_eq_false (by omega)
              have d1 : decide (f < z) = true := decide_eq_true h1
              have d3 : decide (dx + u < dy) = false := decide_eq_false h3
              clear h1 h3 hB
              go_quiet (fail)
              go_wp2_with fail
              go_meet
              exact ⟨by rw [hB2], _, rfl⟩
          case rest =>
            obtain ⟨rfl, q, hwc⟩ := hcut
            have hAw : Add wr wc := by rw [hwc]; exact Add.trans (add_new _ _) (add_drewN _ _)
            have hAB : ABox wc wr.heap.size x y z u := by rw [hwc]; exact (abox_new wr _ _ _ _).add (add_drewN _ q)
            have a0 := hAB.c0
            have a1 := hAB.c1
            have a3 := hAB.c3
            replace c1 := (hAw.cell (p := ⟨g, x, none⟩) l1).trans c1
            replace c2 := (hAw.cell (p := ⟨g, y, none⟩) l1).trans c2
            replace f2 := Blk.free (Blk.add hS.out.1 hAw) y
            have hBB : (B = true ∧ (f < z ∧ dx + u < dy)) ∨ (B = false ∧ ¬ (f < z ∧ dx + u < dy)) := by
              rw [hB]
              by_cases c : f < z ∧ dx + u < dy
              · exact .inl ⟨decide_eq_true c, c⟩
              · exact .inr ⟨decide_eq_false c, c⟩
            have HBB := Lib.hid hBB
            have HAW := Lib.hid hAw
            have HAB := Lib.hid hAB
            clear hB hBB hwc hAw hAB
            go_upto_if 47 with fail
            go_cut [6] from 13 to 92 (fun av wx => ∃ (b1 : Bool) (D2 : List Int), av = .bool b1 ∧ Hid (HalfP w wx N s t (some ⟨ab, off1, none⟩) m c g P D b1 wr.heap.size x y z u D2))
            case first =>
              rcases HBB.out with ⟨rfl, hc⟩ | ⟨rfl, hc⟩
              · have hr := prelax_f hPS.out hP.out (k := j) (by rw [HL.out]; exact hlt) HX.out hxN hyN (by rw [HFF.out]; exact hc.1) (by rw [HDX.out, HDY.out]; exact hc.2)
                rw [HDX.out] at hr
                have HH : Hid (∀ W5, W5 = wc.drew.setCell ⟨g, y, none⟩ (.int .i64 (dx + u)) → HalfP w W5 N s t (some ⟨ab, off1, none⟩) m c g P D true wr.heap.size x y z u (D1.set y (dx + u))) := Lib.hid fun W5 hW => by
                  rw [hW]
                  refine ⟨(hS.out.add (b_drew HAW.out)).one y _, hr.1, ?_, hpass.out.step hr.2⟩
                  unfold ABox
                  rw [heap_setCell_other _ ⟨g, y, none⟩ _ _ (by dsimp only; omega)]
                  exact HAB.out.add (b_drew (Below.refl _ _))
                clear HBB hc HDX HDY hr HAW HAB
                go_wp2_with fail
                go_region
                go_wp2_with fail
                go_meet
                exact ⟨true, _, rfl, Lib.hid (HH.out _ rfl)⟩
              · have HH : Hid (HalfP w wc N s t (some ⟨ab, off1, none⟩) m c g P D b wr.heap.size x y z u D1) := Lib.hid ⟨hS.out.add HAW.out, hPS.out, HAB.out, hpass.out⟩
                clear HBB hc HDX HDY HAW HAB a0 a1 a3 c1 c2 f2
                go_wp2_with fail
                go_meet
                exact ⟨b, _, rfl, HH⟩
            case rest =>
              obtain ⟨b1, D2, rfl, HH⟩ := hcut
              clear HBB HDX HDY HAW HAB a0 a1 a3 c1 c2 f2 q4 r0 r1 r2 r3 b3 W1 hS hPS hpass
              obtain ⟨wd, rfl⟩ : ∃ wd : World, wd = wc := ⟨_, rfl⟩
              obtain ⟨hS5, hP5, hA5, hpass5⟩ := id HH.out
              have a0 := hA5.c0
              have a1 := hA5.c1
              have a3 := hA5.c3
              have m1 := Blk.lt hS5.1
              have m3 := hA5.lt
              have b3 := hS5.2.1.c3
              have m4 := hS5.2.1.lt
              have hbl5 : fb < wd.heap.size := by have := hS5.2.2.1.size; omega
              have q5 := (hS5.2.2.1.cell (p := ⟨fb, foff + j, none⟩) hbw).trans Q4.out
              have hDl := hP5.1
              obtain ⟨ex, hex⟩ : ∃ d, D2.getD x 0 = d := ⟨_, rfl⟩
              obtain ⟨ey, hey⟩ : ∃ d, D2.getD y 0 = d := ⟨_, rfl⟩
              have c1 : wd.cell? ⟨g, x, none⟩ = some (.int .i64 ex) := by rw [← hex]; exact IBlk.get hS5.1 x (by omega)
              have c2 : wd.cell? ⟨g, y, none⟩ = some (.int .i64 ey) := by rw [← hey]; exact IBlk.get hS5.1 y (by omega)
              have f2 := Blk.free hS5.1 x
              have hby := hP5.2 y hyN
              have hpy := hP.out.2.2.1 y hyN
              rw [hey] at hby
              unfold KP at hby
              have W2 : IntKind.i64.wrap (ey - u) = ey - u := IntWalk.i64_in _ (by omega)
              have HS5 := Lib.hid hS5
              have HP5 := Lib.hid hP5
              have HPASS := Lib.hid hpass5
              have HTWO := Lib.hid fun h1 h3 => prelax_b hP5 hP.out (k := j) (by rw [HL.out]; exact hlt) HX.out hxN hyN h1 h3
              rw [HFF.out, hex, hey] at HTWO
              obtain ⟨B2, hB⟩ : ∃ B : Bool, B = decide (0 < f ∧ ey - u < ex) := ⟨_, rfl⟩
              clear hS5 hP5 hA5 hDl hex hey hby hpy HH hpass5
              go_upto_region 11 with fail
              go_cut [80] from 13 to 92 (fun cv wx => cv = .bool B2 ∧ ∃ q, wx = wd.drewN q)
              case first =>
                have hcase : (0 < f ∧ ey - u < ex) ∨ ¬ 0 < f ∨ (0 < f ∧ ¬ ey - u < ex) := by omega
                clear HTWO
                rcases hcase with ⟨h1, h3⟩ | h1 | ⟨h1, h3⟩
                · have hB2 : B2 = true := by rw [hB]; exact decide_eq_true (by omega)
                  have d1 : decide (0 < f) = true := decide_eq_true h1
                  have d3 : decide (ey - u < ex) = true := decide_eq_true h3
                  clear h1 h3 hB
                  go_quiet (fail)
                  go_wp2_with fail
                  go_meet
                  exact ⟨by rw [hB2], _, rfl⟩
                · have hB2 : B2 = false := by rw [hB]; exact decide_eq_false (by omega)
                  have d1 : decide (0 < f) = false := decide_eq_false h1
                  clear h1 hB
                  go_quiet (fail)
                  go_wp2_with fail
                  go_meet
                  exact ⟨by rw [hB2], _, rfl⟩
                · have hB2 : B2 = false := by rw [hB]; exact decide_eq_false (by omega)
                  have d1 : decide (0 < f) = true := decide_eq_true h1
                  have d3 : decide (ey - u < ex) = false := decide_eq_false h3
                  clear h1 h3 hB
                  go_quiet (fail)
                  go_wp2_with fail
                  go_meet
                  exact ⟨by rw [hB2], _, rfl⟩
              case rest =>
                obtain ⟨rfl, q2, hwc⟩ := hcut
                have hAw : Add wd wc := by rw [hwc]; exact add_drewN _ _
                replace a0 := (hAw.cell (p := ⟨wr.heap.size, 0, none⟩) m3).trans a0
                replace a1 := (hAw.cell (p := ⟨wr.heap.size, 1, none⟩) m3).trans a1
                replace a3 := (hAw.cell (p := ⟨wr.heap.size, 3, none⟩) m3).trans a3
                replace b3 := (hAw.cell (p := ⟨w.heap.size, 3, none⟩) m4).trans b3
                replace c1 := (hAw.cell (p := ⟨g, x, none⟩) m1).trans c1
                replace c2 := (hAw.cell (p := ⟨g, y, none⟩) m1).trans c2
                replace f2 := Blk.free (Blk.add HS5.out.1 hAw) x
                have HAW := Lib.hid hAw
                have hBB : (B2 = true ∧ 0 < f ∧ ey - u < ex) ∨ (B2 = false ∧ ¬ (0 < f ∧ ey - u < ex)) := by
                  rw [hB]
                  by_cases c : 0 < f ∧ ey - u < ex
                  · exact .inl ⟨decide_eq_true c, c⟩
                  · exact .inr ⟨decide_eq_false c, c⟩
                clear hB hwc hAw
                rcases hBB with ⟨rfl, h1, h3⟩ | ⟨rfl, hn⟩
                · have HT := Lib.hid (HTWO.out h1 h3)
                  clear HTWO h1 h3
                  go_wp2_with fail
                  go_region
                  go_wp2_with fail
                  go_roundg (gk - 1)
                  case measure => omega
                  case rel => exact ⟨_, _, j + 1, by omega, rfl, by go_num, Lib.hid ((HS5.out.add (b_drew HAW.out)).one x _), Lib.hid HT.out.1, Lib.hid (HPASS.out.step HT.out.2)⟩
                · clear HTWO hn
                  go_wp2_with fail
                  go_roundg (gk - 1)
                  case measure => omega
                  case rel => exact ⟨_, _, j + 1, by omega, rfl, by go_num, Lib.hid (HS5.out.add HAW.out), HP5, HPASS⟩
        · obtain rfl : j = m := by omega
          have hsD := hsum.out
          have hs1 := PS.low hPS.out hP.out
          have HR : Hid (∃ g2, g2 < GK ∧ sumD D1 + (N : Int) * KP + (if b = true then 1 else 0) = (g2 : Int)) := Lib.hid (by
            have hsE : sumD D + (N : Int) * KP + 1 = (GK : Int) := by simpa using hsD
            rcases hpass.out with ⟨rfl, rfl⟩ | ⟨rfl, h3⟩
            · exact ⟨GK - 1, by omega, by simp; omega⟩
            · exact ⟨(sumD D1 + (N : Int) * KP).toNat + 1, by omega, by simp; omega⟩)
          clear hsum hpass hsD hs1 hadd
          obtain ⟨g2, k1, k3⟩ := HR.out
          have K3 := Lib.hid k3
          clear HR k3
          go_wp2_with fail
          go_roundg g2
          case measure => exact k1
          case rel => exact ⟨_, _, rfl, hS, hPS, K3⟩
end Go.Proofs.Ytaoibakbnimnkaa
