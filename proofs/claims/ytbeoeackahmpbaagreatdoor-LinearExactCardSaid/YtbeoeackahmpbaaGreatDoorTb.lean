import Derived.Test.YtbeoeackahmpbaaGreatDoorJTT
import Derived.Test.YtbeoeackahmpbaaGreatDoorU5
import Derived.Test.YtbeoeackahmpbaaGreatDoorVS
import Derived.Deep.CutRange
namespace Go.Proofs.YtbeoeackahmpbaaGreatDoor
open Go.RowKit NatM Go.Proofs.YtbeoeackahmpbaaGreatDoor.Api LinM
structure LM (w wr : World) (base G n C gd g5 : Nat) (gs0 : Nat → Nat) (d : Rat) (gs cs : Nat → Nat) (T : Nat → Nat → Tri) (y : Bool) (v : V3) : Prop where
 tm : TM wr base G n C gs cs T
 bd : Box wr gd y v.a v.n v.c v.e v.d v.f
 fd : FracT wr (.agg #[.bool y, .slice v.a v.n v.c, .slice v.e v.d v.f]) (can d)
 b5 : Box wr g5 false none 0 0 none 0 0
 ch : Chg (inT w G n gs0) w wr
 gm : ∀ i, i < n → ∃ i', i' < n ∧ gs i = gs0 i'
structure LK (w : World) (G n gd g5 : Nat) (gs0 : Nat → Nat) : Prop where
 hG : G < w.heap.size
 hg : ∀ i, i < n → gs0 i < w.heap.size
 hd : w.heap.size ≤ gd
 h5 : w.heap.size ≤ g5
 ne : gd ≠ g5
section
variable {w wr wr' : World} {base G n C gd g5 : Nat} {gs0 : Nat → Nat} {d : Rat} {gs cs : Nat → Nat} {T : Nat → Nat → Tri} {y : Bool} {v : V3}
theorem LM.add (h : LM w wr base G n C gd g5 gs0 d gs cs T y v) (hb : Add wr wr') : LM w wr' base G n C gd g5 gs0 d gs cs T y v :=
 ⟨h.tm.add hb, h.bd.mono hb, h.fd.mono hb, h.b5.mono hb, h.ch.trans (Chg.of_add _ hb), h.gm⟩
theorem LM.congr {T' : Nat → Nat → Tri} (h : LM w wr base G n C gd g5 gs0 d gs cs T y v) (he : ∀ i j, i < n → j < C → T i j = T' i j) : LM w wr base G n C gd g5 gs0 d gs cs T' y v :=
 ⟨h.tm.congr he, h.bd, h.fd, h.b5, h.ch, h.gm⟩
theorem LM.old (h : LM w wr base G n C gd g5 gs0 d gs cs T y v) (K : LK w G n gd g5 gs0) {i : Nat} (hi : i < n) : gs i < w.heap.size := by
 obtain ⟨i', h1, h2⟩ := h.gm i hi
 rw [h2]; exact K.hg i' h1
theorem LM.putD (h : LM w wr base G n C gd g5 gs0 d gs cs T y v) (K : LK w G n gd g5 gs0) {b : Bool} {a : Option Addr} {m c : Nat} {e : Option Addr} {d1 f1 : Nat} {d' : Rat} (hx : FracT wr (.agg #[.bool b, .slice a m c, .slice e d1 f1]) (can d')) :
 LM w (put3 wr gd (.bool b) (.slice a m c) (.slice e d1 f1)) base G n C gd g5 gs0 d' gs cs T b ⟨a, m, c, e, d1, f1⟩ := by
 have hc := chg_put3 h.bd (.bool b) (.slice a m c) (.slice e d1 f1)
 have k1 := K.hG
 have k2 := K.hd
 refine ⟨h.tm.chg hc (fun e => by omega) (fun i hi e => by have := h.old K hi; omega), h.bd.put b a m c e d1 f1, hx.put h.bd _ _ _, (put3_other _ _ _ (Ne.symm K.ne)).trans h.b5, h.ch.trans (hc.mono fun b hb => .inr (.inr (by rw [hb]; exact K.hd))), h.gm⟩
theorem LM.putT (h : LM w wr base G n C gd g5 gs0 d gs cs T y v) (K : LK w G n gd g5 gs0) {i j : Nat} (hi : i < n) (hj : j < C) {b : Bool} {an : Option Addr} {l cn : Nat} {ad : Option Addr} {dd cd : Nat} {x : Tri} (hx : FracT wr (.agg #[.bool b, .slice an l cn, .slice ad dd cd]) x) :
 LM w (putF wr (gs i) j (.bool b) (.slice an l cn) (.slice ad dd cd)) base G n C gd g5 gs0 d gs cs (fun a c => if a = i ∧ c = j then x else T a c) y v ∧ Chg (fun b => b = gs i) wr (putF wr (gs i) j (.bool b) (.slice an l cn) (.slice ad dd cd)) := by
 have hc := (h.tm.rows i hi).chgF (S := fun b => b = gs i) rfl j b an l cn ad dd cd
 have k1 := h.old K hi
 have k2 := K.hd
 have k3 := K.h5
 refine ⟨⟨h.tm.put hi hj hx, h.bd.chg hc (fun e => by omega), h.fd.chg hc, h.b5.chg hc (fun e => by omega), h.ch.trans (hc.mono fun b hb => ?_), h.gm⟩, hc⟩
 obtain ⟨i', h1, h2⟩ := h.gm i hi
 exact .inr (.inl ⟨i', h1, hb.trans h2⟩)
theorem LM.swapT (h : LM w wr base G n C gd g5 gs0 d gs cs T y v) (K : LK w G n gd g5 gs0) {i k : Nat} (hi : i < n) (hk : k < n) (hne : i ≠ k) :
 LM w ((wr.setCell ⟨G, i, none⟩ (.slice (some ⟨gs k, 0, none⟩) C (cs k))).setCell ⟨G, k, none⟩ (.slice (some ⟨gs i, 0, none⟩) C (cs i))) base G n C gd g5 gs0 d (fun a => gs (sw i k a)) (fun a => cs (sw i k a)) (fun a => T (sw i k a)) y v := by
 obtain ⟨h1, hc⟩ := h.tm.swap hi hk hne
 have k1 := K.hG
 have k2 := K.hd
 have k3 := K.h5
 exact ⟨h1, h.bd.chg hc (fun e => by omega), h.fd.chg hc, h.b5.chg hc (fun e => by omega), h.ch.trans (hc.mono fun b hb => .inl hb), fun a ha => h.gm _ (sw_lt hi hk ha)⟩
end
def ElmP (w : World) (base G n C q x : Nat) (A : Mat) (gs0 : Nat → Nat) (e : Ending) (w' : World) : Prop :=
 ∃ (k : Nat) (p s : Rat) (X : Mat) (c : Nat → Nat) (W : Mat) (f : Nat → Rat) (u d : Rat) (gs cs : Nat → Nat) (y : Bool) (a : Option Addr) (m cc : Nat) (e' : Option Addr) (d' f' : Nat), e = .returned (.tuple #[.int .i64 (k : Nat), .agg #[.bool y, .slice a m cc, .slice e' d' f']]) ∧ FracT w' (.agg #[.bool y, .slice a m cc, .slice e' d' f']) (can d) ∧
  RefE A n C ((2 ^ x : Nat) : Rat) q k p s X c W f u d ∧ TM w' base G n C gs cs (fun i l => can (refT p X f i l)) ∧ Chg (inT w G n gs0) w w'
theorem elm_end {w wr : World} {base G n C gd g5 q x j k : Nat} {gs0 gs cs : Nat → Nat} {A : Mat} {p s : Rat} {X : Mat} {c : Nat → Nat} {W : Mat} {f : Nat → Rat} {u d : Rat} {y : Bool} {v : V3} (hR : RefE A n C ((2 ^ x : Nat) : Rat) j k p s X c W f u d) (hL : LM w wr base G n C gd g5 gs0 d gs cs (fun i l => can (refT p X f i l)) y v) (K : LK w G n gd g5 gs0) (hj : j ≤ q) (hex : j = q ∨ k = n) :
 ElmP w base G n C q x A gs0 (.returned (.tuple #[.int .i64 (k : Nat), .agg #[.bool y, .slice v.a v.n v.c, .slice v.e v.d v.f]])) (put3 wr g5 (.bool y) (.slice v.a v.n v.c) (.slice v.e v.d v.f)) := by
 have hRq : RefE A n C ((2 ^ x : Nat) : Rat) q k p s X c W f u d := by
  rcases hex with rfl | rfl
  · exact hR
  · have := LinM.RefE.rest hR (q - j)
    rwa [show j + (q - j) = q by omega] at this
 have hc := chg_put3 hL.b5 (.bool y) (.slice v.a v.n v.c) (.slice v.e v.d v.f)
 have k1 := K.hG
 have k3 := K.h5
 exact ⟨k, p, s, X, c, W, f, u, d, gs, cs, y, v.a, v.n, v.c, v.e, v.d, v.f, rfl, hL.fd.put hL.b5 _ _ _, hRq, hL.tm.chg hc (fun e => by omega) (fun i hi e => by have := hL.old K hi; omega), hL.ch.trans (hc.mono fun b hb => .inr (.inr (by rw [hb]; exact K.h5)))⟩
theorem elm_drew {w w' : World} {base G n C q x : Nat} {A : Mat} {gs0 : Nat → Nat} {e : Ending} (h : ElmP w base G n C q x A gs0 e w') : ElmP w base G n C q x A gs0 e w'.drew := by
 obtain ⟨k, p, s, X, c, W, f, u, d, gs, cs, y, a, m, cc, e', d', f', h1, h2, h3, h4, h5⟩ := h
 have t : Add w' w'.drew := Below.drew (Below.refl _ _)
 exact ⟨k, p, s, X, c, W, f, u, d, gs, cs, y, a, m, cc, e', d', f', h1, h2.mono t, h3, h4.add t, h5.trans (Chg.of_add _ t)⟩
theorem alg31 (a b : Rat) : a + -(0 * b) = a := by grind
theorem resMk2 {w w' : World} {p : Tri × Nat} {e : Ending} (g : ResF w p e w') : MkP w p.1 e w' := by
 obtain ⟨v, rfl, hv, h⟩ := g
 obtain ⟨a, n, c, e', d, f, rfl, g1, g2⟩ := id hv
 exact ⟨_, a, n, c, e', d, f, p.2, rfl, hv, h⟩
set_option maxRecDepth 100000 in
set_option maxHeartbeats 16000000 in
theorem refElimN {w : World} {base G cap n C q x : Nat} {gs0 cs0 : Nat → Nat} {A : Mat} (hM : TM w base G n C gs0 cs0 (fun i l => can (A i l))) (hn : 1 ≤ n ∧ n ≤ 24) (hq : q ≤ C) (hC : C ≤ 1000) (hw : wtM (fun i j => can (A i j)) (fun _ => C) n ≤ x) (hx : x ≤ 1930) :
 Calls Tryz.prog 54 #[.slice (some ⟨G, 0, none⟩) n cap, .int .i64 (q : Nat)] w (ElmP w base G n C q x A gs0) := by
 have hK0 : G < w.heap.size ∧ ∀ i, i < n → gs0 i < w.heap.size := ⟨hM.head.lt, fun i hi => (hM.rows i hi).lt⟩
 have I1 : Hid (∀ w', Calls Tryz.prog 38 #[.int .i64 1] w' (RetQ w' 1)) := Lib.hid fun w' => intQ w' (by decide) (by decide +kernel)
 obtain ⟨X0, f0, s0, hR0, hT0⟩ : ∃ (X0 : Mat) (f0 : Nat → Rat) (s0 : Rat), RefE A n C ((2 ^ x : Nat) : Rat) 0 0 1 s0 X0 (fun l => l) X0 f0 1 1 ∧ ∀ i l, refT 1 X0 f0 i l = A i l := ⟨_, _, _, ref_start A n C x hw, refT_start A C⟩
 obtain ⟨T5, h5⟩ := laid_var w false none 0 0 none 0 0
 obtain ⟨W5, hW5⟩ : ∃ W, W = w.alloc (.cells #[.bool false, .slice none 0 0, .slice none 0 0] 37) := ⟨_, rfl⟩
 obtain ⟨g5, hg5⟩ : ∃ g, g = w.heap.size := ⟨_, rfl⟩
 rw [← hW5] at T5 h5
 rw [← hg5] at h5
 have HW5 := Lib.hid (And.intro hW5 hg5)
 have HM := Lib.hid (And.intro hM hT0)
 have HR0 := Lib.hid hR0
 clear hM hW5 hg5 hR0 hT0 hw
 go_enter Tryz.func54, Tryz.ntmps54
 go_upto_region 1 with fail
 rw [← HW5.out.1, ← HW5.out.2]
 go_wp2_with fail
 refine (I1.out _).mono ?_
 rintro e w6 ⟨y6, a6, n6, c6, e6, d6, f6, rfl, x6, h6⟩
 have hB := box_new w6 y6 a6 n6 c6 e6 d6 f6
 have hA := add_new w6 (.cells #[.bool y6, .slice a6 n6 c6, .slice e6 d6 f6] 37)
 obtain ⟨W6, hW6⟩ : ∃ W, W = w6.alloc (.cells #[.bool y6, .slice a6 n6 c6, .slice e6 d6 f6] 37) := ⟨_, rfl⟩
 obtain ⟨gd, hgd⟩ : ∃ g, g = w6.heap.size := ⟨_, rfl⟩
 rw [← hW6] at hB hA
 rw [← hgd] at hB
 have T6 := Add.trans T5 (Add.trans h6 hA)
 have HK : Hid (LK w G n gd g5 gs0) := Lib.hid ⟨hK0.1, hK0.2, by have := T5.size; have := h6.size; omega, by rw [HW5.out.2]; exact Nat.le_refl _, fun e => by have := h5.lt; have := h6.size; omega⟩
 have hL0 : LM w W6 base G n C gd g5 gs0 1 gs0 cs0 (fun i l => can (refT 1 X0 f0 i l)) y6 ⟨a6, n6, c6, e6, d6, f6⟩ := ⟨(HM.out.1.add T6).congr fun i l _ _ => by rw [HM.out.2], hB, x6.mono hA, (h5.mono h6).mono hA, Chg.of_add _ T6, fun i hi => ⟨i, hi, rfl⟩⟩
 have HW6 := Lib.hid (And.intro hW6 hgd)
 clear x6 h6 hA hB T5 h5 hW6 hgd T6 hK0 HM I1 HW5
 go_upto_region 2 with fail
 rw [← HW6.out.1, ← HW6.out.2]
 clear HW6
 go_wp2_with fail
 go_loopw [6, 8] (fun rk jj wr => ∃ (j k : Nat) (p s : Rat) (X : Mat) (c : Nat → Nat) (W : Mat) (f : Nat → Rat) (u d : Rat) (gs cs : Nat → Nat) (y : Bool) (v : V3), j ≤ q ∧ rk = .int .i64 (k : Nat) ∧ jj = .int .i64 (j : Nat) ∧ RefE A n C ((2 ^ x : Nat) : Rat) j k p s X c W f u d ∧ LM w wr base G n C gd g5 gs0 d gs cs (fun i l => can (refT p X f i l)) y v) (fun _ jj _ => q - (intOf jj).toNat)
 case atStart => exact ⟨0, 0, _, _, _, _, _, _, _, _, _, _, _, _, Nat.zero_le _, rfl, rfl, HR0.out, hL0⟩
 case round =>
  clear hL0 HR0
  obtain ⟨j, k, p, s, X, c, W, f, u, d, gs, cs, y, v, hj, rfl, rfl, hR, hL⟩ := hrel
  rename World => wr
  have hkn0 := hR.el.kn
  by_cases hex : j = q ∨ k = n
  · have HF := Lib.hid (elm_end hR hL HK.out hj hex)
    have p0 := hL.bd.c0
    have p1 := hL.bd.c1
    have p2 := hL.bd.c2
    have q0 := hL.b5.c0
    have q1 := hL.b5.c1
    have q2 := hL.b5.c2
    have q3 := hL.b5.fr 0
    have q4 := hL.b5.fr 1
    have q5 := hL.b5.fr 2
    have q6 := hL.b5.lt
    unfold put3 at HF
    clear hR hL HK
    by_cases hjq : j = q
    · subst hjq
      clear hex
      go_upto_region 28 with fail
      go_region
      all_goals
       go_wp2_with fail
       exact bodyPost_ret (v := .tuple #[.int .i64 (k : Nat), .agg #[.bool y, .slice v.a v.n v.c, .slice v.e v.d v.f]]) (by simp [results, Tryz.results54, go_sem, q0, q1, q2]) rfl (elm_drew HF.out)
    · have hkn : k = n := by omega
      subst hkn
      have hlt : j < q := by omega
      have d1 : decide ((j : Int) < (q : Int)) = true := by simp; omega
      clear hex
      go_upto_region 28 with fail
      go_region
      all_goals
       go_wp2_with fail
       exact bodyPost_ret (v := .tuple #[.int .i64 (k : Nat), .agg #[.bool y, .slice v.a v.n v.c, .slice v.e v.d v.f]]) (by simp [results, Tryz.results54, go_sem, q0, q1, q2]) rfl (elm_drew HF.out)
  · have hjq : j < q := by omega
    have hkn : k < n := by omega
    have hjC : j < C := by omega
    have d1 : decide ((j : Int) < (q : Int)) = true := by simp; omega
    have d2 : decide ((k : Int) < (n : Int)) = true := by simp; omega
    have HR := Lib.hid hR
    have HL := Lib.hid hL
    clear hR hL hex hkn0
    go_wp2_with fail
    clear d1 d2
    go_loopw [9] (fun pp wq => ∃ p' : Nat, k ≤ p' ∧ p' ≤ n ∧ pp = .int .i64 (p' : Nat) ∧ Hid (∀ i, k ≤ i → i < p' → X i j = 0) ∧ Add wr wq) (fun pp _ => n - (intOf pp).toNat)
    case atStart => exact ⟨k, Nat.le_refl _, by omega, rfl, Lib.hid fun i h1 h2 => by omega, Below.refl _ _⟩
    case round =>
     obtain ⟨p', hkp, hpn, rfl, HZ, T⟩ := hrel
     rename World => wq
     have hL := HL.out.add T
     by_cases hp : p' = n
     · have HN := Lib.hid (And.intro (LinM.RefE.skip HR.out fun i h1 h2 => HZ.out i h1 (by omega)) hL)
       clear hL HL HR HZ T
       subst hp
       go_wp2_with fail
       go_roundw
       case rel => exact ⟨j + 1, k, _, _, _, _, _, _, _, _, _, _, _, _, by omega, rfl, by go_num, HN.out.1, HN.out.2⟩
       case measure => simp [intOf]; omega
     · have hpl : p' < n := by omega
       have h0 := hL.tm.head.cell hpl
       try dsimp only at h0
       obtain ⟨sx, ax, nx, cx, ex, dx, fx, k0, k1, k2, hx'⟩ := (hL.tm.rows p' hpl).get hjC
       obtain ⟨gp, hgp⟩ : ∃ g, g = gs p' := ⟨_, rfl⟩
       obtain ⟨cp, hcp⟩ : ∃ g, g = cs p' := ⟨_, rfl⟩
       rw [← hgp] at h0 k0 k1 k2
       rw [← hcp] at h0
       have hft := Go.Proofs.YtbeoeackahmpbaaGreatDoor.RefE.fit HR.out hn.2 (by omega) hx hpl hjC
       obtain ⟨sg, hsg⟩ : ∃ s, signQ (refT p X f p' j) = s := ⟨_, rfl⟩
       have hsz : sg = 0 ↔ X p' j = 0 := by rw [← hsg, sign_zero]; exact Go.Proofs.YtbeoeackahmpbaaGreatDoor.RefE.zero HR.out hpl
       have CSg := Lib.hid (refSignN sg (Sm.arg hx' hft.sm) (Lib.hid hft.ok) (Lib.hid (by rw [qv_can]; exact hsg)))
       have d1 : decide ((p' : Int) < (n : Int)) = true := by simp; omega
       have HT := Lib.hid T
       have HGP := Lib.hid (And.intro hgp hcp)
       by_cases hz : X p' j = 0
       · have hs0 := hsz.2 hz
         subst hs0
         have HN : Hid (∀ i, k ≤ i → i < p' + 1 → X i j = 0) := Lib.hid fun i h1 h2 => by
          by_cases e : i = p'
          · rw [e]; exact hz
          · exact HZ.out i h1 (by omega)
         clear hx' hft hsg hsz T hL hz hgp hcp
         go_wp2_with fail
         refine CSg.out.mono ?_
         rintro e w2 ⟨rfl, h2⟩
         have HT2 := Lib.hid (Add.trans HT.out h2)
         clear h2 CSg
         go_wp2_with fail
         go_roundw
         case rel => exact ⟨p' + 1, by omega, by omega, by go_num, HN, HT2.out⟩
         case measure => simp [intOf]; omega
       · have hs0 : ¬ sg = 0 := fun e => hz (hsz.1 e)
         have d3 : (sg == 0) = false := by simp [hs0]
         have HXP := Lib.hid hz
         clear hx' hft hsg hsz T hL hz hgp hcp
         go_wp2_with fail
         refine CSg.out.mono ?_
         rintro e w2 ⟨rfl, h2⟩
         have HL2 := Lib.hid (HL.out.add (Add.trans HT.out h2))
         have h0 := cell_addL h0 h2
         clear h2 CSg HT k0 k1 k2 HL HZ
         go_upto_if 51 with (fail)
         go_cut [] from 16 to 160 (fun wx => ∃ (s : Rat) (X : Mat) (W : Mat) (f : Nat → Rat) (u d : Rat) (gs cs : Nat → Nat) (y : Bool) (v : V3), RefE A n C ((2 ^ x : Nat) : Rat) j k p s X c W f u d ∧ LM w wx base G n C gd g5 gs0 d gs cs (fun i l => can (refT p X f i l)) y v ∧ X k j ≠ 0)
         case first =>
          by_cases hpk : p' = k
          · have HXK : Hid (X k j ≠ 0) := Lib.hid (by rw [← hpk]; exact HXP.out)
            clear HXP HGP h0
            have hpk' := hpk.symm
            subst hpk'
            go_wp2_with fail
            go_meet
            exact ⟨_, _, _, _, _, _, _, _, _, _, HR.out, HL2.out, HXK.out⟩
          · have hkp2 : k < p' := by omega
            have hk0 := HL2.out.tm.head.cell hkn
            try dsimp only at hk0
            obtain ⟨gk, hgk⟩ : ∃ g, g = gs k := ⟨_, rfl⟩
            obtain ⟨ck, hck⟩ : ∃ g, g = cs k := ⟨_, rfl⟩
            rw [← hgk, ← hck] at hk0
            have hsw := HL2.out.swapT HK.out hpl hkn hpk
            rw [← HGP.out.1, ← HGP.out.2, ← hgk, ← hck] at hsw
            have hfree := HL2.out.tm.head.free p'
            have hfree2 := HL2.out.tm.head.free k
            have hGl := HL2.out.tm.head.lt
            have hRs := LinM.RefE.swap HR.out hkp2 hpl
            have d4 : ((p' : Int) != (k : Int)) = true := by simp; omega
            have d5 : ¬ ((p' : Int) = (k : Int)) := by omega
            have HCD : Hid ((World.drew w2).cell? ⟨G, k, none⟩ = some (.slice (some ⟨gk, 0, none⟩) C ck) ∧ (World.drew w2).cell? ⟨G, p', none⟩ = some (.slice (some ⟨gp, 0, none⟩) C cp)) := Lib.hid ⟨cell_addL hk0 (Below.drew (Below.refl _ _)), cell_addL h0 (Below.drew (Below.refl _ _))⟩
            have eD : LM w ((w2.setCell ⟨G, p', none⟩ (.slice (some ⟨gk, 0, none⟩) C ck)).setCell ⟨G, k, none⟩ (.slice (some ⟨gp, 0, none⟩) C cp)).drew base G n C gd g5 gs0 d (fun a => gs (sw p' k a)) (fun a => cs (sw p' k a)) (fun a l => can (refT p X f (sw p' k a) l)) y v := hsw.add (Below.drew (Below.refl _ _))
            have HSW := Lib.hid eD
            have HRS := Lib.hid hRs
            have HXK0 : Hid (swapR p' k X k j ≠ 0) := Lib.hid (by
             show X (sw p' k k) j ≠ 0
             have : sw p' k k = p' := by unfold sw; rw [if_neg (fun e => hpk e.symm), if_pos rfl]
             rw [this]; exact HXP.out)
            have ne1 : (⟨G, k, none⟩ : Addr) ≠ ⟨G, p', none⟩ := fun e => hpk (congrArg Addr.off e).symm
            clear hsw eD hRs HR HL2 HXP HGP hgk hck
            go_upto_region 10 with fail
            refine wp_region_T (fun w' => True) (fun w' => w'.cell? ⟨G, k, none⟩ = some (.slice (some ⟨gk, 0, none⟩) C ck) ∧ w'.cell? ⟨G, p', none⟩ = some (.slice (some ⟨gp, 0, none⟩) C cp)) 13 (by kernel_rfl) ?_
            show wpAnyT _ _ _ _ _ _ _ 16 #[false, false, false, false, false, false, false, false, false, false, false, false, false, false, false, false] _ _
            refine tk (v := ?_) 0 trivial HCD.out (Or.inl ⟨?_, ?_⟩) ?_
            rotate_left; rfl
            · (intro w' hSw; try dsimp only at hSw); go_simp; try with_reducible rfl
            try simp only [Act.put, List.setIfInBounds_toArray, List.set_cons_zero, List.set_cons_succ]
            refine tk (v := ?_) 1 trivial HCD.out (Or.inl ⟨?_, ?_⟩) ?_
            rotate_left; rfl
            · (intro w' hSw; try dsimp only at hSw); go_simp; try with_reducible rfl
            try simp only [Act.put, List.setIfInBounds_toArray, List.set_cons_zero, List.set_cons_succ]
            refine tk2 (v := ?_) 2 trivial (fun _ => HCD.out) (Or.inl ⟨?_, ?_⟩) ?_
            rotate_left; rfl
            · (intro w' hSw; try dsimp only at hSw); go_simp; try with_reducible rfl
            try simp only [Act.put, List.setIfInBounds_toArray, List.set_cons_zero, List.set_cons_succ]
            refine tk2 (v := ?_) 3 trivial (fun _ => HCD.out) (Or.inl ⟨?_, ?_⟩) ?_
            rotate_left; rfl
            · (intro w' hSw; try dsimp only at hSw); go_simp; try with_reducible rfl
            try simp only [Act.put, List.setIfInBounds_toArray, List.set_cons_zero, List.set_cons_succ]
            refine tk (v := ?_) 4 trivial HCD.out (Or.inl ⟨?_, ?_⟩) ?_
            rotate_left; rfl
            · (intro w' hSw; try dsimp only at hSw); go_simp; try with_reducible rfl
            try simp only [Act.put, List.setIfInBounds_toArray, List.set_cons_zero, List.set_cons_succ]
            refine tk (v := ?_) 5 trivial HCD.out (Or.inl ⟨?_, ?_⟩) ?_
            rotate_left; rfl
            · (intro w' hSw; try dsimp only at hSw); go_simp; try with_reducible rfl
            try simp only [Act.put, List.setIfInBounds_toArray, List.set_cons_zero, List.set_cons_succ]
            refine tk (v := ?_) 6 trivial HCD.out (Or.inl ⟨?_, ?_⟩) ?_
            rotate_left; rfl
            · (intro w' hSw; try dsimp only at hSw); go_simp; try with_reducible rfl
            try simp only [Act.put, List.setIfInBounds_toArray, List.set_cons_zero, List.set_cons_succ]
            refine tk (v := ?_) 7 trivial HCD.out (Or.inl ⟨?_, ?_⟩) ?_
            rotate_left; rfl
            · (intro w' hSw; try dsimp only at hSw); go_simp; try with_reducible rfl
            try simp only [Act.put, List.setIfInBounds_toArray, List.set_cons_zero, List.set_cons_succ]
            refine tk2 (v := ?_) 8 trivial (fun _ => HCD.out) (Or.inl ⟨?_, ?_⟩) ?_
            rotate_left; rfl
            · (intro w' hSw; try dsimp only at hSw); go_simp; try with_reducible rfl
            try simp only [Act.put, List.setIfInBounds_toArray, List.set_cons_zero, List.set_cons_succ]
            refine tk2 (v := ?_) 9 trivial (fun _ => HCD.out) (Or.inl ⟨?_, ?_⟩) ?_
            rotate_left; rfl
            · (intro w' hSw; try dsimp only at hSw); go_simp; try with_reducible rfl
            try simp only [Act.put, List.setIfInBounds_toArray, List.set_cons_zero, List.set_cons_succ]
            refine tk2 (v := ?_) 10 trivial (fun _ => HCD.out) (Or.inl ⟨?_, ?_⟩) ?_
            rotate_left; rfl
            · (intro w' hSw; try dsimp only at hSw); go_simp; try with_reducible rfl
            try simp only [Act.put, List.setIfInBounds_toArray, List.set_cons_zero, List.set_cons_succ]
            refine tk (v := ?_) 11 trivial HCD.out (Or.inl ⟨?_, ?_⟩) ?_
            rotate_left; rfl
            · (intro w' hSw; try dsimp only at hSw); go_simp; try with_reducible rfl
            try simp only [Act.put, List.setIfInBounds_toArray, List.set_cons_zero, List.set_cons_succ]
            refine tk (v := ?_) 12 trivial HCD.out (Or.inl ⟨?_, ?_⟩) ?_
            rotate_left; rfl
            · (intro w' hSw; try dsimp only at hSw); go_simp; try with_reducible rfl
            try simp only [Act.put, List.setIfInBounds_toArray, List.set_cons_zero, List.set_cons_succ]
            refine wpAnyT_one (i := 13) (by kernel_rfl) (wpOp_do (by simp only [List.getElem?_toArray, List.getElem?_cons_zero, List.getElem?_cons_succ]; rfl) fun K hK => ?_)
            go_simp
            refine hK _ _ ⟨⟨trivial, fun h => absurd (show true = false from h) (by decide)⟩, ?_⟩
            clear hK K
            try simp only [List.setIfInBounds_toArray, List.set_cons_zero, List.set_cons_succ]
            refine wpAnyT_one (i := 14) (by kernel_rfl) (wpOp_do (by simp only [List.getElem?_toArray, List.getElem?_cons_zero, List.getElem?_cons_succ]; rfl) fun K hK => ?_)
            go_simp
            refine hK _ _ ⟨⟨trivial, fun h => absurd (show true = false from h) (by decide)⟩, ?_⟩
            clear hK K
            try simp only [List.setIfInBounds_toArray, List.set_cons_zero, List.set_cons_succ]
            refine wpAnyT_one (i := 15) (by kernel_rfl) (wpOp_do (by simp only [List.getElem?_toArray, List.getElem?_cons_zero, List.getElem?_cons_succ]; rfl) fun K hK => ?_)
            go_simp
            refine hK _ _ ⟨⟨trivial, fun h => absurd (show true = false from h) (by decide)⟩, ?_⟩
            clear hK K
            try simp only [List.setIfInBounds_toArray, List.set_cons_zero, List.set_cons_succ]
            refine wpAnyT_done (by kernel_rfl) ?_ _
            obtain ⟨W3, hW3⟩ : ∃ W, W = ((w2.setCell ⟨G, p', none⟩ (.slice (some ⟨gk, 0, none⟩) C ck)).setCell ⟨G, k, none⟩ (.slice (some ⟨gp, 0, none⟩) C cp)).drew := ⟨_, rfl⟩
            have hLs := HSW.out
            rw [← hW3] at hLs ⊢
            have hfd : Fit d := by
             have := Fit.neg (Go.Proofs.YtbeoeackahmpbaaGreatDoor.RefE.fitD HRS.out hn.2 (by omega) hx)
             rwa [Rat.neg_neg] at this
            have CO := Lib.hid (oppT hLs.fd (Sm.arg hLs.fd hfd.sm))
            rw [opp_can] at CO
            have HLS := Lib.hid hLs
            have b0 := hLs.bd.c0
            have b1 := hLs.bd.c1
            have b2 := hLs.bd.c2
            clear hW3 hLs hfd HSW HCD hfree hfree2 hGl hk0 h0 d1 d3 d4 d5 hs0 ne1
            go_wp2_with fail
            refine CO.out.mono ?_
            rintro e w4 ⟨v5, rfl, hv4, h4⟩
            obtain ⟨a4, n4, c4, e4, d4, f4, rfl, -, -⟩ := id hv4
            obtain ⟨y4, hy4⟩ : ∃ y, y = (can (-d)).1 := ⟨_, rfl⟩
            dsimp only at hv4 ⊢
            rw [← hy4] at hv4 ⊢
            have hL4 := (HLS.out.add h4).putD HK.out hv4
            have bB := HLS.out.bd.mono h4
            obtain ⟨W4, hW4⟩ : ∃ W, W = put3 w4 gd (.bool y4) (.slice a4 n4 c4) (.slice e4 d4 f4) := ⟨_, rfl⟩
            rw [← hW4] at hL4
            obtain ⟨v4, hv4'⟩ : ∃ v : V3, v = ⟨a4, n4, c4, e4, d4, f4⟩ := ⟨_, rfl⟩
            rw [← hv4'] at hL4
            unfold put3 at hW4
            have HW4 := Lib.hid hW4
            have hLr : LM w W4 base G n C gd g5 gs0 (-d) (fun a => gs (sw p' k a)) (fun a => cs (sw p' k a)) (fun i l => can (refT p (swapR p' k X) (fun a => f (sw p' k a)) i l)) y4 v4 := hL4
            have hAll := And.intro HRS.out (And.intro hLr HXK0.out)
            have HRA := Lib.hid hAll
            have r0 := bB.c0
            have r1 := bB.c1
            have r2 := bB.c2
            have r3 := bB.fr 0
            have r4 := bB.fr 1
            have r5 := bB.fr 2
            have r6 := bB.lt
            clear hL4 bB hW4 hv4' hv4 h4 hLr hAll HRS HXK0 HLS CO b0 b1 b2 hy4
            go_wp2_with fail
            rw [← HW4.out]
            go_meet
            exact ⟨_, _, _, _, _, _, _, _, _, _, HRA.out.1, HRA.out.2.1, HRA.out.2.2⟩
         case rest =>
          clear HR HL2 HXP HGP h0 d1 d3 hs0
          obtain ⟨s2, X2, W2, f2, u2, d2, gs2, cs2, y4, v4, hRc, hLc, hXc⟩ := hcut
          have HRA := Lib.hid hRc
          have HLA := Lib.hid hLc
          have HXK := Lib.hid hXc
          clear hRc hLc hXc
          go_upto_region 12 with fail
          obtain ⟨gk, hgk⟩ : ∃ g, g = gs2 k := ⟨_, rfl⟩
          obtain ⟨ck, hck⟩ : ∃ g, g = cs2 k := ⟨_, rfl⟩
          have hk0 := HLA.out.tm.head.cell hkn
          try dsimp only at hk0
          rw [← hgk, ← hck] at hk0
          obtain ⟨sx, ax, nx, cx, ex, dx, fx, k0, k1, k2, hxk⟩ := (HLA.out.tm.rows k hkn).get hjC
          rw [← hgk] at k0 k1 k2
          have hpB := box_new wc sx ax nx cx ex dx fx
          have hpA := add_new wc (.cells #[.bool sx, .slice ax nx cx, .slice ex dx fx] 37)
          obtain ⟨W7, hW7⟩ : ∃ W, W = wc.alloc (.cells #[.bool sx, .slice ax nx cx, .slice ex dx fx] 37) := ⟨_, rfl⟩
          obtain ⟨gv, hgv⟩ : ∃ g, g = wc.heap.size := ⟨_, rfl⟩
          rw [← hW7] at hpB hpA
          rw [← hgv] at hpB
          have hL7 := HLA.out.add hpA
          have hx7 := FracT.mono hxk hpA
          have hgvw : w.heap.size ≤ gv := by rw [hgv]; exact HLA.out.ch.size
          have hgvd : gv ≠ gd := by have := HLA.out.bd.lt; omega
          have hgvk : gv ≠ gk := by have := HLA.out.old HK.out hkn; omega
          have hRN := LinM.RefE.step HRA.out hkn HXK.out
          have hfo : ∀ i r, i < n → r < C → Fit (refT p X2 f2 i r) := fun i r hi hr => Go.Proofs.YtbeoeackahmpbaaGreatDoor.RefE.fit HRA.out hn.2 (by omega) hx hi hr
          have hfn : ∀ i r, i < n → r < C → Fit (refT (X2 k j) (stepX k j p X2) (setF f2 k) i r) := fun i r hi hr => Go.Proofs.YtbeoeackahmpbaaGreatDoor.RefE.fit hRN hn.2 (by omega) hx hi hr
          have hfm : ∀ i r, i < n → r < C → Fit (refT p X2 f2 i j * refT (X2 k j) (stepX k j p X2) (setF f2 k) k r) := fun i r hi hr => Go.Proofs.YtbeoeackahmpbaaGreatDoor.RefE.fitM HRA.out hn.2 hjC hx hkn HXK.out hi hr
          have hrow : ∀ r, refT p X2 f2 k r / refT p X2 f2 k j = refT (X2 k j) (stepX k j p X2) (setF f2 k) k r := fun r => LinM.RefE.row HRA.out hkn HXK.out r
          have hoth : ∀ i, i < n → i ≠ k → ∀ r, refT p X2 f2 i r + -(refT p X2 f2 i j * refT (X2 k j) (stepX k j p X2) (setF f2 k) k r) = refT (X2 k j) (stepX k j p X2) (setF f2 k) i r := fun i hi hne r => LinM.RefE.others HRA.out HXK.out hi hne r
          have hpv : refT p X2 f2 k j ≠ 0 := fun e => HXK.out ((Go.Proofs.YtbeoeackahmpbaaGreatDoor.RefE.zero HRA.out hkn).1 e)
          have hzr : ∀ i, i < n → (refT p X2 f2 i j = 0 ↔ X2 i j = 0) := fun i hi => Go.Proofs.YtbeoeackahmpbaaGreatDoor.RefE.zero HRA.out hi
          have hfd := Go.Proofs.YtbeoeackahmpbaaGreatDoor.RefE.fitD HRA.out hn.2 (by omega) hx
          have hfdn := Go.Proofs.YtbeoeackahmpbaaGreatDoor.RefE.fitD hRN hn.2 (by omega) hx
          have CMD := Lib.hid (refMulL (can (d2 * refT p X2 f2 k j), 0) (Sm.arg hL7.fd hfd.sm) (Sm.arg hx7 (hfo k j hkn hjC).sm) (Lib.hid (mul_can hfd (hfo k j hkn hjC) hfdn)))
          obtain ⟨tO, htO⟩ : ∃ t, t = refT p X2 f2 := ⟨_, rfl⟩
          obtain ⟨Xn, hXn⟩ : ∃ t, t = stepX k j p X2 := ⟨_, rfl⟩
          obtain ⟨fn, hfn'⟩ : ∃ t, t = setF f2 k := ⟨_, rfl⟩
          obtain ⟨pn, hpn'⟩ : ∃ t, t = X2 k j := ⟨_, rfl⟩
          obtain ⟨dn, hdn⟩ : ∃ t, t = d2 * refT p X2 f2 k j := ⟨_, rfl⟩
          rw [← hdn] at hRN CMD
          rw [← htO] at hfo hfm hrow hoth hpv hzr hxk hx7
          rw [← hXn, ← hfn', ← hpn'] at hRN hfn hfm hrow hoth
          obtain ⟨tN, htN⟩ : ∃ t, t = refT pn Xn fn := ⟨_, rfl⟩
          rw [← htN] at hfn hfm hrow hoth
          have hL7' : LM w W7 base G n C gd g5 gs0 d2 gs2 cs2 (fun i l => can (tO i l)) y4 v4 := by rw [htO]; exact hL7
          have HRN := Lib.hid hRN
          have HTN := Lib.hid htN
          have HFO := Lib.hid hfo
          have HFN := Lib.hid hfn
          have HFM := Lib.hid hfm
          have HROW := Lib.hid hrow
          have HOTH := Lib.hid hoth
          have HPV := Lib.hid hpv
          have HZR := Lib.hid hzr
          have HL7 := Lib.hid hL7'
          have HPB := Lib.hid (And.intro hpB hx7)
          have HGV := Lib.hid (And.intro hgvw (And.intro hgvd hgvk))
          have HGK := Lib.hid (And.intro hgk hck)
          have HW7 := Lib.hid (And.intro hW7 hgv)
          have b0 := hL7.bd.c0
          have b1 := hL7.bd.c1
          have b2 := hL7.bd.c2
          have v0 := hpB.c0
          have v1 := hpB.c1
          have v2 := hpB.c2
          clear hRN hfo hfn hfm hrow hoth hpv hzr hfd hfdn htO hXn hfn' hpn' hdn htN hL7 hL7' hpB hx7 hgvw hgvd hgvk hgk hck hW7 hgv hpA hxk HLA HRA HXK
          go_upto_region 13 with fail
          rw [← HW7.out.1, ← HW7.out.2]
          clear HW7 hk0 k0 k1 k2
          go_wp2_with fail
          refine CMD.out.mono ?_
          rintro e w8 ⟨v8, rfl, hv8, h8⟩
          obtain ⟨a8, n8, c8, e8, d8, f8, rfl, -, -⟩ := id hv8
          obtain ⟨y8, hy8⟩ : ∃ y, y = (can dn).1 := ⟨_, rfl⟩
          dsimp only at hv8 ⊢
          rw [← hy8] at hv8 ⊢
          have hL8 := (HL7.out.add h8).putD HK.out hv8
          have bB := HL7.out.bd.mono h8
          have pB8 : Box (put3 w8 gd (.bool y8) (.slice a8 n8 c8) (.slice e8 d8 f8)) gv sx ax nx cx ex dx fx := (put3_other _ _ _ HGV.out.2.1).trans (HPB.out.1.mono h8)
          have px8 : FracT (put3 w8 gd (.bool y8) (.slice a8 n8 c8) (.slice e8 d8 f8)) (.agg #[.bool sx, .slice ax nx cx, .slice ex dx fx]) (can (tO k j)) := (HPB.out.2.mono h8).put bB _ _ _
          obtain ⟨W8, hW8⟩ : ∃ W, W = put3 w8 gd (.bool y8) (.slice a8 n8 c8) (.slice e8 d8 f8) := ⟨_, rfl⟩
          rw [← hW8] at hL8 pB8 px8
          obtain ⟨vn, hvn⟩ : ∃ v : V3, v = ⟨a8, n8, c8, e8, d8, f8⟩ := ⟨_, rfl⟩
          rw [← hvn] at hL8
          unfold put3 at hW8
          have HW8 := Lib.hid hW8
          have r0 := bB.c0
          have r1 := bB.c1
          have r2 := bB.c2
          have r3 := bB.fr 0
          have r4 := bB.fr 1
          have r5 := bB.fr 2
          have r6 := bB.lt
          clear b0 b1 b2 v0 v1 v2 hv8 h8 bB hW8 hvn CMD HL7 HPB hy8
          go_upto_region 14 with fail
          rw [← HW8.out]
          clear HW8 r0 r1 r2 r3 r4 r5 r6
          go_wp2_with fail
          go_loopw [11] (fun ll wq => ∃ l : Nat, l ≤ C ∧ ll = .int .i64 (l : Nat) ∧ LM w wq base G n C gd g5 gs0 dn gs2 cs2 (fun i r => if i = k ∧ r < l then can (tN i r) else can (tO i r)) y8 vn ∧ Box wq gv sx ax nx cx ex dx fx ∧ FracT wq (.agg #[.bool sx, .slice ax nx cx, .slice ex dx fx]) (can (tO k j))) (fun ll _ => C - (intOf ll).toNat)
          case atStart => exact ⟨0, Nat.zero_le _, rfl, hL8.congr fun i r _ _ => by rw [if_neg (by omega)], pB8, px8⟩
          case round =>
           clear hL8 pB8 px8
           obtain ⟨l, hl, rfl, hL, pB, px⟩ := hrel
           rename World => wq
           have h0 := hL.tm.head.cell hkn
           try dsimp only at h0
           rw [← HGK.out.1, ← HGK.out.2] at h0
           by_cases hlC : l = C
           · have hL9 : LM w wq base G n C gd g5 gs0 dn gs2 cs2 (fun a r => if a = k ∨ a < 0 then can (tN a r) else can (tO a r)) y8 vn := hL.congr fun i r _ hr => by
              by_cases e : i = k
              · rw [if_pos ⟨e, by omega⟩, if_pos (.inl e)]
              · rw [if_neg fun q => e q.1, if_neg fun q => by rcases q with q | q; exact e q; omega]
             clear hL pB px HPV
             subst hlC
             go_wp2_with fail
             go_loopw [12] (fun ii wp => ∃ i : Nat, i ≤ n ∧ ii = .int .i64 (i : Nat) ∧ LM w wp base G n l gd g5 gs0 dn gs2 cs2 (fun a r => if a = k ∨ a < i then can (tN a r) else can (tO a r)) y8 vn) (fun ii _ => n - (intOf ii).toNat)
             case atStart => exact ⟨0, Nat.zero_le _, rfl, hL9⟩
             case round =>
              clear hL9 h0
              obtain ⟨i, hi, rfl, hL⟩ := hrel
              rename World => wp
              by_cases hin : i = n
              · have hL9 : LM w wp base G n l gd g5 gs0 dn gs2 cs2 (fun i r => can (refT pn Xn fn i r)) y8 vn := hL.congr fun a r ha _ => by rw [if_pos (by omega), HTN.out]
                have HN := Lib.hid (And.intro HRN.out hL9)
                clear hL hL9 HRN HFO HFN HFM HROW HOTH HZR HTN
                subst hin
                go_wp2_with fail
                go_roundw
                case rel => exact ⟨j + 1, k + 1, _, _, _, _, _, _, _, _, _, _, _, _, by omega, by go_num, by go_num, HN.out.1, HN.out.2⟩
                case measure => simp [intOf]; omega
              · have hil : i < n := by omega
                obtain ⟨gi, hgi⟩ : ∃ g, g = gs2 i := ⟨_, rfl⟩
                obtain ⟨ci, hci⟩ : ∃ g, g = cs2 i := ⟨_, rfl⟩
                have h0 := hL.tm.head.cell hil
                try dsimp only at h0
                rw [← hgi, ← hci] at h0
                obtain ⟨sy, ay, ny, cy, ey, dy, fy, k0, k1, k2, hxi⟩ := (hL.tm.rows i hil).get hjC
                rw [← hgi] at k0 k1 k2
                have fB := box_new wp sy ay ny cy ey dy fy
                have fA := add_new wp (.cells #[.bool sy, .slice ay ny cy, .slice ey dy fy] 37)
                obtain ⟨W1, hW1⟩ : ∃ W, W = wp.alloc (.cells #[.bool sy, .slice ay ny cy, .slice ey dy fy] 37) := ⟨_, rfl⟩
                obtain ⟨gf, hgf⟩ : ∃ g, g = wp.heap.size := ⟨_, rfl⟩
                rw [← hW1] at fB fA
                rw [← hgf] at fB
                have hL1 := hL.add fA
                have hgfw : w.heap.size ≤ gf := by rw [hgf]; exact hL.ch.size
                have HGI := Lib.hid (And.intro hgi hci)
                have HW1 := Lib.hid (And.intro hW1 hgf)
                by_cases hik : i = k
                · have HL1 : Hid (LM w W1 base G n l gd g5 gs0 dn gs2 cs2 (fun a r => if a = k ∨ a < i + 1 then can (tN a r) else can (tO a r)) y8 vn) := Lib.hid (hL1.congr fun a r _ _ => by
                   by_cases e : a = k
                   · rw [if_pos (.inl e), if_pos (.inl e)]
                   · by_cases e2 : a < i
                     · rw [if_pos (.inr e2), if_pos (.inr (by omega))]
                     · rw [if_neg (by omega), if_neg (by omega)])
                  clear hxi hL1 hL fA hgi hci hW1 hgf
                  subst hik
                  go_upto_region 22 with fail
                  rw [← HW1.out.1, ← HW1.out.2]
                  clear HW1 k0 k1 k2 h0
                  go_wp2_with fail
                  go_roundw
                  case rel => exact ⟨i + 1, by omega, by go_num, HL1.out⟩
                  case measure => simp [intOf]; omega
                · have dik : ((i : Int) == (k : Int)) = false := by simp; omega
                  have fik : ¬ ((i : Int) = (k : Int)) := by omega
                  have hxo : FracT W1 (.agg #[.bool sy, .slice ay ny cy, .slice ey dy fy]) (can (tO i j)) := by
                   have := FracT.mono hxi fA
                   rwa [if_neg (by omega)] at this
                  obtain ⟨sg, hsg⟩ : ∃ s, signQ (tO i j) = s := ⟨_, rfl⟩
                  have hsz : sg = 0 ↔ tO i j = 0 := by rw [← hsg]; exact sign_zero
                  have CSg := Lib.hid (refSignN sg (Sm.arg hxo (HFO.out i j hil hjC).sm) (Lib.hid (HFO.out i j hil hjC).ok) (Lib.hid (by rw [qv_can]; exact hsg)))
                  have q0 := fB.c0
                  have q1 := fB.c1
                  have q2 := fB.c2
                  have HL1 := Lib.hid hL1
                  by_cases hz : tO i j = 0
                  · have hs0 := hsz.2 hz
                    subst hs0
                    have HLN : Hid (∀ W', Add W1 W' → LM w W' base G n l gd g5 gs0 dn gs2 cs2 (fun a r => if a = k ∨ a < i + 1 then can (tN a r) else can (tO a r)) y8 vn) := Lib.hid fun W' ha => (hL1.add ha).congr fun a r ha hr => by
                     by_cases e : a = k
                     · rw [if_pos (.inl e), if_pos (.inl e)]
                     · by_cases e2 : a < i
                       · rw [if_pos (.inr e2), if_pos (.inr (by omega))]
                       · by_cases e3 : a = i
                         · rw [if_neg (by omega), if_pos (.inr (by omega)), ← HOTH.out a ha e r, e3, hz, alg31]
                         · rw [if_neg (by omega), if_neg (by omega)]
                    clear hxi hxo hsg hsz hz hL1 hL fA hgi hci hW1 hgf
                    go_upto_region 22 with fail
                    rw [← HW1.out.1, ← HW1.out.2]
                    clear HW1 k0 k1 k2 h0
                    go_wp2_with fail
                    refine CSg.out.mono ?_
                    rintro e w2 ⟨rfl, h2⟩
                    have HN := Lib.hid (HLN.out _ h2)
                    clear h2 CSg HLN HL1 q0 q1 q2
                    go_wp2_with fail
                    go_roundw
                    case rel => exact ⟨i + 1, by omega, by go_num, HN.out⟩
                    case measure => simp [intOf]; omega
                  · have hs0 : ¬ sg = 0 := fun e => hz (hsz.1 e)
                    have d3 : (sg == 0) = false := by simp [hs0]
                    have HXO := Lib.hid (And.intro fB hxo)
                    have HGF := Lib.hid hgfw
                    clear hxi hxo hsg hsz hz hL1 hL fA hgi hci hW1 hgf fB hgfw
                    go_upto_region 22 with fail
                    rw [← HW1.out.1, ← HW1.out.2]
                    clear HW1 k0 k1 k2 h0
                    go_wp2_with fail
                    refine CSg.out.mono ?_
                    rintro e w2 ⟨rfl, h2⟩
                    have hL2 := HL1.out.add h2
                    have fB2 := HXO.out.1.mono h2
                    have fx2 := FracT.mono HXO.out.2 h2
                    clear h2 CSg HL1 HXO q0 q1 q2
                    go_wp2_with fail
                    clear d3 hs0
                    go_loopw [14] (fun ll wz => ∃ z : Nat, z ≤ l ∧ ll = .int .i64 (z : Nat) ∧ LM w wz base G n l gd g5 gs0 dn gs2 cs2 (fun a r => if a = k ∨ a < i ∨ (a = i ∧ r < z) then can (tN a r) else can (tO a r)) y8 vn ∧ Box wz gf sy ay ny cy ey dy fy ∧ FracT wz (.agg #[.bool sy, .slice ay ny cy, .slice ey dy fy]) (can (tO i j))) (fun ll _ => l - (intOf ll).toNat)
                    case atStart => exact ⟨0, Nat.zero_le _, rfl, hL2.congr fun a r _ _ => by
                     by_cases e : a = k ∨ a < i
                     · rw [if_pos e, if_pos (by omega)]
                     · rw [if_neg e, if_neg (by omega)], fB2, fx2⟩
                    case round =>
                     clear hL2 fB2 fx2
                     obtain ⟨z, hz, rfl, hL, fB, fxx⟩ := hrel
                     rename World => wz
                     have h0 := hL.tm.head.cell hil
                     try dsimp only at h0
                     rw [← HGI.out.1, ← HGI.out.2] at h0
                     by_cases hzl : z = l
                     · have HLN : Hid (LM w wz base G n l gd g5 gs0 dn gs2 cs2 (fun a r => if a = k ∨ a < i + 1 then can (tN a r) else can (tO a r)) y8 vn) := Lib.hid (hL.congr fun a r _ hr => by
                        by_cases e : a = k ∨ a < i + 1
                        · rw [if_pos e, if_pos (by omega)]
                        · rw [if_neg e, if_neg (by omega)])
                       clear hL fB fxx
                       subst hzl
                       go_wp2_with fail
                       go_roundw
                       case rel => exact ⟨i + 1, by omega, by go_num, HLN.out⟩
                       case measure => simp [intOf]; omega
                     · have hzl2 : z < l := by omega
                       have hk0 := hL.tm.head.cell hkn
                       try dsimp only at hk0
                       rw [← HGK.out.1, ← HGK.out.2] at hk0
                       obtain ⟨se, ae, ne, ce, ee, de, fe, k0, k1, k2, hxe⟩ := (hL.tm.rows i hil).get hzl2
                       rw [← HGI.out.1] at k0 k1 k2
                       rw [if_neg (by omega)] at hxe
                       obtain ⟨sk, ak, nk, ckk, ek, dk, fk, m0, m1, m2, hxk⟩ := (hL.tm.rows k hkn).get hzl2
                       rw [← HGK.out.1] at m0 m1 m2
                       rw [if_pos (.inl rfl)] at hxk
                       have hGi : G ≠ gi := by rw [HGI.out.1]; exact hL.tm.ne hil
                       have hgki : gk ≠ gi := by rw [HGI.out.1, HGK.out.1]; exact fun e => hik (hL.tm.inj _ _ hkn hil e).symm
                       have hgfi : gf ≠ gi := by have := hL.old HK.out hil; rw [← HGI.out.1] at this; have := HGF.out; omega
                       have CM : Hid (∀ W', Add wz W' → Calls Tryz.prog 61 #[.agg #[.bool sy, .slice ay ny cy, .slice ey dy fy], .agg #[.bool sk, .slice ak nk ckk, .slice ek dk fk]] W' (RetF W' (can (tO i j * tN k z)))) := Lib.hid fun W' ha => refMulL (can (tO i j * tN k z), 0) (Sm.arg (fxx.mono ha) (HFO.out i j hil hjC).sm) (Sm.arg (FracT.mono hxk ha) (HFN.out k z hkn hzl2).sm) (Lib.hid (mul_can (HFO.out i j hil hjC) (HFN.out k z hkn hzl2) (HFM.out i z hil hzl2)))
                       have CO : Hid (∀ W' v, Add wz W' → FracT W' v (can (tO i j * tN k z)) → Calls Tryz.prog 36 #[v] W' (RetF W' (can (-(tO i j * tN k z))))) := Lib.hid fun W' v ha hv => by
                        have := oppT hv (Sm.arg hv (HFM.out i z hil hzl2).sm)
                        rwa [opp_can] at this
                       have CA : Hid (∀ W' v, Add wz W' → FracT W' v (can (-(tO i j * tN k z))) → Calls Tryz.prog 60 #[.agg #[.bool se, .slice ae ne ce, .slice ee de fe], v] W' (RetF W' (can (tN i z)))) := Lib.hid fun W' v ha hv => by
                        have hs := HOTH.out i hil hik z
                        have hnf : Fit (-(tO i j * tN k z)) := Fit.neg (HFM.out i z hil hzl2)
                        have := refAddL (can (tO i z + -(tO i j * tN k z)), 0) (Sm.arg (FracT.mono hxe ha) (HFO.out i z hil hzl2).sm) (Sm.arg hv hnf.sm) (Lib.hid (add_can (HFO.out i z hil hzl2) hnf (by rw [hs]; exact HFN.out i z hil hzl2)))
                        rw [hs] at this; exact this
                       have HS : Hid (∀ W' : World, Add wz W' → W'.cell? ⟨G, i, none⟩ = some (.slice (some ⟨gi, 0, none⟩) l ci) ∧ W'.cell? ⟨G, k, none⟩ = some (.slice (some ⟨gk, 0, none⟩) l ck) ∧ W'.cell? ⟨gf, 0, none⟩ = some (.bool sy) ∧ W'.cell? ⟨gf, 1, none⟩ = some (.slice ay ny cy) ∧ W'.cell? ⟨gf, 2, none⟩ = some (.slice ey dy fy) ∧ W'.cell? ⟨gk, z * 3, none⟩ = some (.bool sk) ∧ W'.cell? ⟨gk, z * 3 + 1, none⟩ = some (.slice ak nk ckk) ∧ W'.cell? ⟨gk, z * 3 + 2, none⟩ = some (.slice ek dk fk)) := Lib.hid fun W' g => ⟨cell_addL h0 g, cell_addL hk0 g, (fB.mono g).c0, (fB.mono g).c1, (fB.mono g).c2, cell_addL m0 g, cell_addL m1 g, cell_addL m2 g⟩
                       have HC : Hid (∀ W' : World, Add wz W' → W'.cell? ⟨gi, z * 3, none⟩ = some (.bool se) ∧ W'.cell? ⟨gi, z * 3 + 1, none⟩ = some (.slice ae ne ce) ∧ W'.cell? ⟨gi, z * 3 + 2, none⟩ = some (.slice ee de fe)) := Lib.hid fun W' g => ⟨cell_addL k0 g, cell_addL k1 g, cell_addL k2 g⟩
                       have HS2 : Hid (∀ (W : World) (u0 u1 u2 : Value), Add wz W → (((W.setCell ⟨gi, z * 3, none⟩ u0).setCell ⟨gi, z * 3 + 1, none⟩ u1).setCell ⟨gi, z * 3 + 2, none⟩ u2).cell? ⟨G, i, none⟩ = some (.slice (some ⟨gi, 0, none⟩) l ci) ∧ (((W.setCell ⟨gi, z * 3, none⟩ u0).setCell ⟨gi, z * 3 + 1, none⟩ u1).setCell ⟨gi, z * 3 + 2, none⟩ u2).cell? ⟨G, k, none⟩ = some (.slice (some ⟨gk, 0, none⟩) l ck) ∧ (((W.setCell ⟨gi, z * 3, none⟩ u0).setCell ⟨gi, z * 3 + 1, none⟩ u1).setCell ⟨gi, z * 3 + 2, none⟩ u2).cell? ⟨gf, 0, none⟩ = some (.bool sy) ∧ (((W.setCell ⟨gi, z * 3, none⟩ u0).setCell ⟨gi, z * 3 + 1, none⟩ u1).setCell ⟨gi, z * 3 + 2, none⟩ u2).cell? ⟨gf, 1, none⟩ = some (.slice ay ny cy) ∧ (((W.setCell ⟨gi, z * 3, none⟩ u0).setCell ⟨gi, z * 3 + 1, none⟩ u1).setCell ⟨gi, z * 3 + 2, none⟩ u2).cell? ⟨gf, 2, none⟩ = some (.slice ey dy fy) ∧ (((W.setCell ⟨gi, z * 3, none⟩ u0).setCell ⟨gi, z * 3 + 1, none⟩ u1).setCell ⟨gi, z * 3 + 2, none⟩ u2).cell? ⟨gk, z * 3, none⟩ = some (.bool sk) ∧ (((W.setCell ⟨gi, z * 3, none⟩ u0).setCell ⟨gi, z * 3 + 1, none⟩ u1).setCell ⟨gi, z * 3 + 2, none⟩ u2).cell? ⟨gk, z * 3 + 1, none⟩ = some (.slice ak nk ckk) ∧ (((W.setCell ⟨gi, z * 3, none⟩ u0).setCell ⟨gi, z * 3 + 1, none⟩ u1).setCell ⟨gi, z * 3 + 2, none⟩ u2).cell? ⟨gk, z * 3 + 2, none⟩ = some (.slice ek dk fk)) := Lib.hid fun W u0 u1 u2 ha => by
                        obtain ⟨q1, q2, q3, q4, q5, q6, q7, q8⟩ := HS.out W ha
                        exact ⟨(cell_putF u0 u1 u2 hGi).trans q1, (cell_putF u0 u1 u2 hGi).trans q2, (cell_putF u0 u1 u2 hgfi).trans q3, (cell_putF u0 u1 u2 hgfi).trans q4, (cell_putF u0 u1 u2 hgfi).trans q5, (cell_putF u0 u1 u2 hgki).trans q6, (cell_putF u0 u1 u2 hgki).trans q7, (cell_putF u0 u1 u2 hgki).trans q8⟩
                       have HFR : Hid (∀ W', Add wz W' → (∀ o, W'.frozen? ⟨gi, o, none⟩ = false) ∧ gi < W'.heap.size) := Lib.hid fun W' ha => by
                        have := (hL.add ha).tm.rows i hil
                        rw [← HGI.out.1] at this
                        exact ⟨this.free, this.lt⟩
                       have HSD := Lib.hid (HS.out _ (Below.drew (Below.refl _ _) : Add wz (World.drew wz)))
                       have HCD := Lib.hid (HC.out _ (Below.drew (Below.refl _ _) : Add wz (World.drew wz)))
                       have HLQ := Lib.hid (And.intro hL (And.intro fB fxx))
                       have HNE := Lib.hid hgfi
                       clear hL fB fxx hxe hxk hGi hgki hgfi k0 k1 k2 m0 m1 m2 hk0
                       go_upto_region 26 with fail
                       clear h0
                       refine wp_region_T (fun w' => w'.cell? ⟨G, i, none⟩ = some (.slice (some ⟨gi, 0, none⟩) l ci) ∧ w'.cell? ⟨G, k, none⟩ = some (.slice (some ⟨gk, 0, none⟩) l ck) ∧ w'.cell? ⟨gf, 0, none⟩ = some (.bool sy) ∧ w'.cell? ⟨gf, 1, none⟩ = some (.slice ay ny cy) ∧ w'.cell? ⟨gf, 2, none⟩ = some (.slice ey dy fy) ∧ w'.cell? ⟨gk, z * 3, none⟩ = some (.bool sk) ∧ w'.cell? ⟨gk, z * 3 + 1, none⟩ = some (.slice ak nk ckk) ∧ w'.cell? ⟨gk, z * 3 + 2, none⟩ = some (.slice ek dk fk)) (fun w' => w'.cell? ⟨gi, z * 3, none⟩ = some (.bool se) ∧ w'.cell? ⟨gi, z * 3 + 1, none⟩ = some (.slice ae ne ce) ∧ w'.cell? ⟨gi, z * 3 + 2, none⟩ = some (.slice ee de fe)) 24 (by kernel_rfl) ?_
                       show wpAnyT _ _ _ _ _ _ _ 25 #[false, false, false, false, false, false, false, false, false, false, false, false, false, false, false, false, false, false, false, false, false, false, false, false, false] _ _
                       refine tk (v := ?_) 0 HSD.out HCD.out (Or.inl ⟨?_, ?_⟩) ?_
                       rotate_left; rfl
                       · (intro w' hSw; try dsimp only at hSw); go_simp; try with_reducible rfl
                       try simp only [Act.put, List.setIfInBounds_toArray, List.set_cons_zero, List.set_cons_succ]
                       refine tk (v := ?_) 1 HSD.out HCD.out (Or.inl ⟨?_, ?_⟩) ?_
                       rotate_left; rfl
                       · (intro w' hSw; try dsimp only at hSw); go_simp; try with_reducible rfl
                       try simp only [Act.put, List.setIfInBounds_toArray, List.set_cons_zero, List.set_cons_succ]
                       refine tk (v := ?_) 2 HSD.out HCD.out (Or.inl ⟨?_, ?_⟩) ?_
                       rotate_left; rfl
                       · (intro w' hSw; try dsimp only at hSw); go_simp; try with_reducible rfl
                       try simp only [Act.put, List.setIfInBounds_toArray, List.set_cons_zero, List.set_cons_succ]
                       refine tk (v := ?_) 3 HSD.out HCD.out (Or.inl ⟨?_, ?_⟩) ?_
                       rotate_left; rfl
                       · (intro w' hSw; try dsimp only at hSw); go_simp; try with_reducible rfl
                       try simp only [Act.put, List.setIfInBounds_toArray, List.set_cons_zero, List.set_cons_succ]
                       refine tk (v := ?_) 4 HSD.out HCD.out (Or.inl ⟨?_, ?_⟩) ?_
                       rotate_left; rfl
                       · (intro w' hSw; try dsimp only at hSw); go_simp; try with_reducible rfl
                       try simp only [Act.put, List.setIfInBounds_toArray, List.set_cons_zero, List.set_cons_succ]
                       refine tk (v := ?_) 5 HSD.out HCD.out (Or.inl ⟨?_, ?_⟩) ?_
                       rotate_left; rfl
                       · (intro w' hSw; try dsimp only at hSw); go_simp; try with_reducible rfl
                       try simp only [Act.put, List.setIfInBounds_toArray, List.set_cons_zero, List.set_cons_succ]
                       refine tk (v := ?_) 6 HSD.out HCD.out (Or.inl ⟨?_, ?_⟩) ?_
                       rotate_left; rfl
                       · (intro w' hSw; try dsimp only at hSw); go_simp; try with_reducible rfl
                       try simp only [Act.put, List.setIfInBounds_toArray, List.set_cons_zero, List.set_cons_succ]
                       refine tk (v := ?_) 7 HSD.out HCD.out (Or.inl ⟨?_, ?_⟩) ?_
                       rotate_left; rfl
                       · (intro w' hSw; try dsimp only at hSw); go_simp; try with_reducible rfl
                       try simp only [Act.put, List.setIfInBounds_toArray, List.set_cons_zero, List.set_cons_succ]
                       refine tk (v := ?_) 8 HSD.out HCD.out (Or.inl ⟨?_, ?_⟩) ?_
                       rotate_left; rfl
                       · (intro w' hSw; try dsimp only at hSw); go_simp; try with_reducible rfl
                       try simp only [Act.put, List.setIfInBounds_toArray, List.set_cons_zero, List.set_cons_succ]
                       refine tk (v := ?_) 9 HSD.out HCD.out (Or.inl ⟨?_, ?_⟩) ?_
                       rotate_left; rfl
                       · (intro w' hSw; try dsimp only at hSw); go_simp; try with_reducible rfl
                       try simp only [Act.put, List.setIfInBounds_toArray, List.set_cons_zero, List.set_cons_succ]
                       refine tk (v := ?_) 10 HSD.out HCD.out (Or.inl ⟨?_, ?_⟩) ?_
                       rotate_left; rfl
                       · (intro w' hSw; try dsimp only at hSw); go_simp; try with_reducible rfl
                       try simp only [Act.put, List.setIfInBounds_toArray, List.set_cons_zero, List.set_cons_succ]
                       refine tk (v := ?_) 11 HSD.out HCD.out (Or.inl ⟨?_, ?_⟩) ?_
                       rotate_left; rfl
                       · (intro w' hSw; try dsimp only at hSw); go_simp; try with_reducible rfl
                       try simp only [Act.put, List.setIfInBounds_toArray, List.set_cons_zero, List.set_cons_succ]
                       refine tk (v := ?_) 12 HSD.out HCD.out (Or.inl ⟨?_, ?_⟩) ?_
                       rotate_left; rfl
                       · (intro w' hSw; try dsimp only at hSw); go_simp; try with_reducible rfl
                       try simp only [Act.put, List.setIfInBounds_toArray, List.set_cons_zero, List.set_cons_succ]
                       refine tk (v := ?_) 13 HSD.out HCD.out (Or.inl ⟨?_, ?_⟩) ?_
                       rotate_left; rfl
                       · (intro w' hSw; try dsimp only at hSw); go_simp; try with_reducible rfl
                       try simp only [Act.put, List.setIfInBounds_toArray, List.set_cons_zero, List.set_cons_succ]
                       refine tk (v := ?_) 14 HSD.out HCD.out (Or.inl ⟨?_, ?_⟩) ?_
                       rotate_left; rfl
                       · (intro w' hSw; try dsimp only at hSw); go_simp; try with_reducible rfl
                       try simp only [Act.put, List.setIfInBounds_toArray, List.set_cons_zero, List.set_cons_succ]
                       refine tk (v := ?_) 15 HSD.out HCD.out (Or.inl ⟨?_, ?_⟩) ?_
                       rotate_left; rfl
                       · (intro w' hSw; try dsimp only at hSw); go_simp; try with_reducible rfl
                       try simp only [Act.put, List.setIfInBounds_toArray, List.set_cons_zero, List.set_cons_succ]
                       refine tk (v := ?_) 16 HSD.out HCD.out (Or.inl ⟨?_, ?_⟩) ?_
                       rotate_left; rfl
                       · (intro w' hSw; try dsimp only at hSw); go_simp; try with_reducible rfl
                       try simp only [Act.put, List.setIfInBounds_toArray, List.set_cons_zero, List.set_cons_succ]
                       refine tk (v := ?_) 17 HSD.out HCD.out (Or.inl ⟨?_, ?_⟩) ?_
                       rotate_left; rfl
                       · (intro w' hSw; try dsimp only at hSw); go_simp; try with_reducible rfl
                       try simp only [Act.put, List.setIfInBounds_toArray, List.set_cons_zero, List.set_cons_succ]
                       refine tk (v := ?_) 18 HSD.out HCD.out (Or.inl ⟨?_, ?_⟩) ?_
                       rotate_left; rfl
                       · (intro w' hSw; try dsimp only at hSw); go_simp; try with_reducible rfl
                       try simp only [Act.put, List.setIfInBounds_toArray, List.set_cons_zero, List.set_cons_succ]
                       refine tk (v := ?_) 19 HSD.out HCD.out (Or.inl ⟨?_, ?_⟩) ?_
                       rotate_left; rfl
                       · (intro w' hSw; try dsimp only at hSw); go_simp; try with_reducible rfl
                       try simp only [Act.put, List.setIfInBounds_toArray, List.set_cons_zero, List.set_cons_succ]
                       refine wpAnyT_one (i := 20) (by kernel_rfl) (wpOp_do (by simp only [List.getElem?_toArray, List.getElem?_cons_zero, List.getElem?_cons_succ]; rfl) fun K hK => ?_)
                       go_simp
                       refine (CM.out _ (Below.drew (Below.refl _ _))).mono ?_
                       rintro e z1 ⟨v1, rfl, hv1, h1⟩
                       obtain ⟨a1, n1, c1, e1, d1, f1, rfl, -, -⟩ := id hv1
                       have A1 := Add.trans (Below.drew (Below.refl _ _) : Add wz (World.drew wz)) h1
                       refine hK _ _ ⟨⟨HS.out _ A1, fun _ => HC.out _ A1⟩, ?_⟩
                       clear hK K
                       try simp only [List.setIfInBounds_toArray, List.set_cons_zero, List.set_cons_succ]
                       refine wpAnyT_one (i := 21) (by kernel_rfl) (wpOp_do (by simp only [List.getElem?_toArray, List.getElem?_cons_zero, List.getElem?_cons_succ]; rfl) fun K hK => ?_)
                       go_simp
                       refine (CO.out _ _ A1 hv1).mono ?_
                       rintro e z2 ⟨v2, rfl, hv2, h2⟩
                       obtain ⟨a2, n2, c2, e2, d2, f2, rfl, -, -⟩ := id hv2
                       have A2 := Add.trans A1 h2
                       refine hK _ _ ⟨⟨HS.out _ A2, fun _ => HC.out _ A2⟩, ?_⟩
                       clear hK K
                       try simp only [List.setIfInBounds_toArray, List.set_cons_zero, List.set_cons_succ]
                       refine wpAnyT_one (i := 22) (by kernel_rfl) (wpOp_do (by simp only [List.getElem?_toArray, List.getElem?_cons_zero, List.getElem?_cons_succ]; rfl) fun K hK => ?_)
                       go_simp
                       refine (CA.out _ _ A2 hv2).mono ?_
                       rintro e z3 ⟨v3, rfl, hv3, h3⟩
                       obtain ⟨a3, n3, c3, e3, d3, f3, rfl, -, -⟩ := id hv3
                       have A3 := Add.trans A2 h3
                       obtain ⟨bx0, bx1, bx2⟩ := HC.out _ A3
                       have bf0 := (HFR.out _ A3).1 (z * 3)
                       have bf1 := (HFR.out _ A3).1 (z * 3 + 1)
                       have bf2 := (HFR.out _ A3).1 (z * 3 + 2)
                       have bl := (HFR.out _ A3).2
                       refine hK _ _ ⟨⟨HS.out _ A3, fun _ => HC.out _ A3⟩, ?_⟩
                       clear hK K
                       try simp only [List.setIfInBounds_toArray, List.set_cons_zero, List.set_cons_succ]
                       refine tk (v := ?_) 23 (HS.out _ A3) (HC.out _ A3) (Or.inl ⟨?_, ?_⟩) ?_
                       rotate_left; rfl
                       · (intro w' hSw; try dsimp only at hSw); go_simp; try with_reducible rfl
                       try simp only [Act.put, List.setIfInBounds_toArray, List.set_cons_zero, List.set_cons_succ]
                       refine wpAnyT_one (i := 24) (by kernel_rfl) (wpOp_do (by simp only [List.getElem?_toArray, List.getElem?_cons_zero, List.getElem?_cons_succ]; rfl) fun K hK => ?_)
                       go_simp
                       refine hK _ _ ⟨⟨HS2.out _ _ _ _ A3, fun h => absurd (show true = false from h) (by decide)⟩, ?_⟩
                       clear hK K
                       try simp only [List.setIfInBounds_toArray, List.set_cons_zero, List.set_cons_succ]
                       refine wpAnyT_done (by kernel_rfl) ?_ _
                       obtain ⟨hLp, hcp⟩ := (HLQ.out.1.add A3).putT HK.out hil hzl2 hv3
                       rw [← HGI.out.1] at hLp hcp
                       have hLn := hLp.congr (T' := fun a r => if a = k ∨ a < i ∨ (a = i ∧ r < z + 1) then can (tN a r) else can (tO a r)) fun a r _ _ => by
                        by_cases e : a = i
                        · by_cases e2 : r = z
                          · rw [if_pos ⟨e, e2⟩, if_pos (by omega), e, e2]
                          · rw [if_neg fun q => e2 q.2]
                            by_cases e3 : r < z
                            · rw [if_pos (by omega), if_pos (by omega)]
                            · rw [if_neg (by omega), if_neg (by omega)]
                        · rw [if_neg fun q => e q.1]
                          by_cases e3 : a = k ∨ a < i
                          · rw [if_pos (by omega), if_pos (by omega)]
                          · rw [if_neg (by omega), if_neg (by omega)]
                       have HN := Lib.hid (And.intro hLn (And.intro ((HLQ.out.2.1.mono A3).chg hcp HNE.out) ((HLQ.out.2.2.mono A3).chg hcp)))
                       unfold putF at HN
                       clear hLp hcp hLn hv1 hv2 hv3 h1 h2 h3 A1 A2 A3 HLQ HS HS2 HC HSD HCD HFR CM CO CA bx0 bx1 bx2 bf0 bf1 bf2 bl HNE
                       go_wp2_with fail
                       go_roundw
                       case rel => exact ⟨z + 1, by omega, by go_num, HN.out.1, HN.out.2.1, HN.out.2.2⟩
                       case measure => simp [intOf]; omega
           · have hlC2 : l < C := by omega
             obtain ⟨se, ae, ne, ce, ee, de, fe, k0, k1, k2, hxe⟩ := (hL.tm.rows k hkn).get hlC2
             rw [← HGK.out.1] at k0 k1 k2
             rw [if_neg (by omega)] at hxe
             have hgkw : gk < w.heap.size := by rw [HGK.out.1]; exact hL.old HK.out hkn
             have hGk : G ≠ gk := by rw [HGK.out.1]; exact hL.tm.ne hkn
             have CQ : Hid (∀ W', Add wq W' → Calls Tryz.prog 79 #[.agg #[.bool se, .slice ae ne ce, .slice ee de fe], .agg #[.bool sx, .slice ax nx cx, .slice ex dx fx]] W' (MkP W' (can (tN k l)))) := Lib.hid fun W' ha => (refQuoN2 (can (tN k l), 0) (Sm.arg (FracT.mono hxe ha) (HFO.out k l hkn hlC2).sm) (Sm.arg (px.mono ha) (HFO.out k j hkn hjC).sm) (Lib.hid (by
              rw [quo_can (HFO.out k l hkn hlC2) (HFO.out k j hkn hjC) HPV.out (by rw [HROW.out l]; exact HFN.out k l hkn hlC2), HROW.out l]))).mono fun _ _ g => resMk2 g
             have HS : Hid (∀ W' : World, Add wq W' → W'.cell? ⟨G, k, none⟩ = some (.slice (some ⟨gk, 0, none⟩) C ck) ∧ W'.cell? ⟨gv, 0, none⟩ = some (.bool sx) ∧ W'.cell? ⟨gv, 1, none⟩ = some (.slice ax nx cx) ∧ W'.cell? ⟨gv, 2, none⟩ = some (.slice ex dx fx)) := Lib.hid fun W' g => ⟨cell_addL h0 g, (pB.mono g).c0, (pB.mono g).c1, (pB.mono g).c2⟩
             have HC : Hid (∀ W' : World, Add wq W' → W'.cell? ⟨gk, l * 3, none⟩ = some (.bool se) ∧ W'.cell? ⟨gk, l * 3 + 1, none⟩ = some (.slice ae ne ce) ∧ W'.cell? ⟨gk, l * 3 + 2, none⟩ = some (.slice ee de fe)) := Lib.hid fun W' g => ⟨cell_addL k0 g, cell_addL k1 g, cell_addL k2 g⟩
             have HS2 : Hid (∀ (W : World) (u0 u1 u2 : Value), Add wq W → (((W.setCell ⟨gk, l * 3, none⟩ u0).setCell ⟨gk, l * 3 + 1, none⟩ u1).setCell ⟨gk, l * 3 + 2, none⟩ u2).cell? ⟨G, k, none⟩ = some (.slice (some ⟨gk, 0, none⟩) C ck) ∧ (((W.setCell ⟨gk, l * 3, none⟩ u0).setCell ⟨gk, l * 3 + 1, none⟩ u1).setCell ⟨gk, l * 3 + 2, none⟩ u2).cell? ⟨gv, 0, none⟩ = some (.bool sx) ∧ (((W.setCell ⟨gk, l * 3, none⟩ u0).setCell ⟨gk, l * 3 + 1, none⟩ u1).setCell ⟨gk, l * 3 + 2, none⟩ u2).cell? ⟨gv, 1, none⟩ = some (.slice ax nx cx) ∧ (((W.setCell ⟨gk, l * 3, none⟩ u0).setCell ⟨gk, l * 3 + 1, none⟩ u1).setCell ⟨gk, l * 3 + 2, none⟩ u2).cell? ⟨gv, 2, none⟩ = some (.slice ex dx fx)) := Lib.hid fun W u0 u1 u2 ha => by
              obtain ⟨q1, q2, q3, q4⟩ := HS.out W ha
              exact ⟨(cell_putF u0 u1 u2 hGk).trans q1, (cell_putF u0 u1 u2 HGV.out.2.2).trans q2, (cell_putF u0 u1 u2 HGV.out.2.2).trans q3, (cell_putF u0 u1 u2 HGV.out.2.2).trans q4⟩
             have HFR : Hid (∀ W', Add wq W' → (∀ o, W'.frozen? ⟨gk, o, none⟩ = false) ∧ gk < W'.heap.size) := Lib.hid fun W' ha => by
              have := (hL.add ha).tm.rows k hkn
              rw [← HGK.out.1] at this
              exact ⟨this.free, this.lt⟩
             have HSD := Lib.hid (HS.out _ (Below.drew (Below.refl _ _) : Add wq (World.drew wq)))
             have HCD := Lib.hid (HC.out _ (Below.drew (Below.refl _ _) : Add wq (World.drew wq)))
             have HLQ := Lib.hid (And.intro hL (And.intro pB px))
             clear hL pB px hxe hgkw hGk k0 k1 k2
             go_upto_region 17 with fail
             clear h0
             refine wp_region_T (fun w' => w'.cell? ⟨G, k, none⟩ = some (.slice (some ⟨gk, 0, none⟩) C ck) ∧ w'.cell? ⟨gv, 0, none⟩ = some (.bool sx) ∧ w'.cell? ⟨gv, 1, none⟩ = some (.slice ax nx cx) ∧ w'.cell? ⟨gv, 2, none⟩ = some (.slice ex dx fx)) (fun w' => w'.cell? ⟨gk, l * 3, none⟩ = some (.bool se) ∧ w'.cell? ⟨gk, l * 3 + 1, none⟩ = some (.slice ae ne ce) ∧ w'.cell? ⟨gk, l * 3 + 2, none⟩ = some (.slice ee de fe)) 18 (by kernel_rfl) ?_
             show wpAnyT _ _ _ _ _ _ _ 19 #[false, false, false, false, false, false, false, false, false, false, false, false, false, false, false, false, false, false, false] _ _
             refine tk (v := ?_) 0 HSD.out HCD.out (Or.inl ⟨?_, ?_⟩) ?_
             rotate_left; rfl
             · (intro w' hSw; try dsimp only at hSw); go_simp; try with_reducible rfl
             try simp only [Act.put, List.setIfInBounds_toArray, List.set_cons_zero, List.set_cons_succ]
             refine tk (v := ?_) 1 HSD.out HCD.out (Or.inl ⟨?_, ?_⟩) ?_
             rotate_left; rfl
             · (intro w' hSw; try dsimp only at hSw); go_simp; try with_reducible rfl
             try simp only [Act.put, List.setIfInBounds_toArray, List.set_cons_zero, List.set_cons_succ]
             refine tk (v := ?_) 2 HSD.out HCD.out (Or.inl ⟨?_, ?_⟩) ?_
             rotate_left; rfl
             · (intro w' hSw; try dsimp only at hSw); go_simp; try with_reducible rfl
             try simp only [Act.put, List.setIfInBounds_toArray, List.set_cons_zero, List.set_cons_succ]
             refine tk (v := ?_) 3 HSD.out HCD.out (Or.inl ⟨?_, ?_⟩) ?_
             rotate_left; rfl
             · (intro w' hSw; try dsimp only at hSw); go_simp; try with_reducible rfl
             try simp only [Act.put, List.setIfInBounds_toArray, List.set_cons_zero, List.set_cons_succ]
             refine tk (v := ?_) 4 HSD.out HCD.out (Or.inl ⟨?_, ?_⟩) ?_
             rotate_left; rfl
             · (intro w' hSw; try dsimp only at hSw); go_simp; try with_reducible rfl
             try simp only [Act.put, List.setIfInBounds_toArray, List.set_cons_zero, List.set_cons_succ]
             refine tk (v := ?_) 5 HSD.out HCD.out (Or.inl ⟨?_, ?_⟩) ?_
             rotate_left; rfl
             · (intro w' hSw; try dsimp only at hSw); go_simp; try with_reducible rfl
             try simp only [Act.put, List.setIfInBounds_toArray, List.set_cons_zero, List.set_cons_succ]
             refine tk (v := ?_) 6 HSD.out HCD.out (Or.inl ⟨?_, ?_⟩) ?_
             rotate_left; rfl
             · (intro w' hSw; try dsimp only at hSw); go_simp; try with_reducible rfl
             try simp only [Act.put, List.setIfInBounds_toArray, List.set_cons_zero, List.set_cons_succ]
             refine tk (v := ?_) 7 HSD.out HCD.out (Or.inl ⟨?_, ?_⟩) ?_
             rotate_left; rfl
             · (intro w' hSw; try dsimp only at hSw); go_simp; try with_reducible rfl
             try simp only [Act.put, List.setIfInBounds_toArray, List.set_cons_zero, List.set_cons_succ]
             refine tk (v := ?_) 8 HSD.out HCD.out (Or.inl ⟨?_, ?_⟩) ?_
             rotate_left; rfl
             · (intro w' hSw; try dsimp only at hSw); go_simp; try with_reducible rfl
             try simp only [Act.put, List.setIfInBounds_toArray, List.set_cons_zero, List.set_cons_succ]
             refine tk (v := ?_) 9 HSD.out HCD.out (Or.inl ⟨?_, ?_⟩) ?_
             rotate_left; rfl
             · (intro w' hSw; try dsimp only at hSw); go_simp; try with_reducible rfl
             try simp only [Act.put, List.setIfInBounds_toArray, List.set_cons_zero, List.set_cons_succ]
             refine tk (v := ?_) 10 HSD.out HCD.out (Or.inl ⟨?_, ?_⟩) ?_
             rotate_left; rfl
             · (intro w' hSw; try dsimp only at hSw); go_simp; try with_reducible rfl
             try simp only [Act.put, List.setIfInBounds_toArray, List.set_cons_zero, List.set_cons_succ]
             refine tk (v := ?_) 11 HSD.out HCD.out (Or.inl ⟨?_, ?_⟩) ?_
             rotate_left; rfl
             · (intro w' hSw; try dsimp only at hSw); go_simp; try with_reducible rfl
             try simp only [Act.put, List.setIfInBounds_toArray, List.set_cons_zero, List.set_cons_succ]
             refine tk (v := ?_) 12 HSD.out HCD.out (Or.inl ⟨?_, ?_⟩) ?_
             rotate_left; rfl
             · (intro w' hSw; try dsimp only at hSw); go_simp; try with_reducible rfl
             try simp only [Act.put, List.setIfInBounds_toArray, List.set_cons_zero, List.set_cons_succ]
             refine wpAnyT_one (i := 13) (by kernel_rfl) (wpOp_do (by simp only [List.getElem?_toArray, List.getElem?_cons_zero, List.getElem?_cons_succ]; rfl) fun K hK => ?_)
             go_simp
             refine (CQ.out _ (Below.drew (Below.refl _ _))).mono ?_
             rintro e z1 ⟨y1, a1, n1, c1, e1, d1, f1, k1, rfl, hv1, h1⟩
             have A1 := Add.trans (Below.drew (Below.refl _ _) : Add wq (World.drew wq)) h1
             obtain ⟨bx0, bx1, bx2⟩ := HC.out _ A1
             have bf0 := (HFR.out _ A1).1 (l * 3)
             have bf1 := (HFR.out _ A1).1 (l * 3 + 1)
             have bf2 := (HFR.out _ A1).1 (l * 3 + 2)
             have bl := (HFR.out _ A1).2
             refine hK _ _ ⟨⟨HS.out _ A1, fun _ => HC.out _ A1⟩, ?_⟩
             clear hK K
             try simp only [List.setIfInBounds_toArray, List.set_cons_zero, List.set_cons_succ]
             refine tk (v := ?_) 14 (HS.out _ A1) (HC.out _ A1) (Or.inl ⟨?_, ?_⟩) ?_
             rotate_left; rfl
             · (intro w' hSw; try dsimp only at hSw); go_simp; try with_reducible rfl
             try simp only [Act.put, List.setIfInBounds_toArray, List.set_cons_zero, List.set_cons_succ]
             refine tk (v := ?_) 15 (HS.out _ A1) (HC.out _ A1) (Or.inl ⟨?_, ?_⟩) ?_
             rotate_left; rfl
             · (intro w' hSw; try dsimp only at hSw); go_simp; try with_reducible rfl
             try simp only [Act.put, List.setIfInBounds_toArray, List.set_cons_zero, List.set_cons_succ]
             refine tk2 (v := ?_) 16 (HS.out _ A1) (fun _ => HC.out _ A1) (Or.inl ⟨?_, ?_⟩) ?_
             rotate_left; rfl
             · (intro w' hSw; try dsimp only at hSw); go_simp; try with_reducible rfl
             try simp only [Act.put, List.setIfInBounds_toArray, List.set_cons_zero, List.set_cons_succ]
             refine tk (v := ?_) 17 (HS.out _ A1) (HC.out _ A1) (Or.inl ⟨?_, ?_⟩) ?_
             rotate_left; rfl
             · (intro w' hSw; try dsimp only at hSw); go_simp; try with_reducible rfl
             try simp only [Act.put, List.setIfInBounds_toArray, List.set_cons_zero, List.set_cons_succ]
             refine wpAnyT_one (i := 18) (by kernel_rfl) (wpOp_do (by simp only [List.getElem?_toArray, List.getElem?_cons_zero, List.getElem?_cons_succ]; rfl) fun K hK => ?_)
             go_simp
             refine hK _ _ ⟨⟨HS2.out _ _ _ _ A1, fun h => absurd (show true = false from h) (by decide)⟩, ?_⟩
             clear hK K
             try simp only [List.setIfInBounds_toArray, List.set_cons_zero, List.set_cons_succ]
             refine wpAnyT_done (by kernel_rfl) ?_ _
             obtain ⟨hLp, hcp⟩ := (HLQ.out.1.add A1).putT HK.out hkn hlC2 hv1
             rw [← HGK.out.1] at hLp hcp
             have hLn := hLp.congr (T' := fun i r => if i = k ∧ r < l + 1 then can (tN i r) else can (tO i r)) fun a r _ _ => by
              by_cases e : a = k
              · by_cases e2 : r = l
                · rw [if_pos ⟨e, e2⟩, if_pos ⟨e, by omega⟩, e, e2]
                · rw [if_neg fun q => e2 q.2]
                  by_cases e3 : r < l
                  · rw [if_pos ⟨e, e3⟩, if_pos ⟨e, by omega⟩]
                  · rw [if_neg (by omega), if_neg (by omega)]
              · rw [if_neg fun q => e q.1, if_neg fun q => e q.1, if_neg fun q => e q.1]
             have HN := Lib.hid (And.intro hLn (And.intro ((HLQ.out.2.1.mono A1).chg hcp HGV.out.2.2) ((HLQ.out.2.2.mono A1).chg hcp)))
             unfold putF at HN
             clear hLp hcp hLn hv1 h1 A1 HLQ HS HS2 HC HSD HCD HFR CQ bx0 bx1 bx2 bf0 bf1 bf2 bl
             go_wp2_with fail
             go_roundw
             case rel => exact ⟨l + 1, by omega, by go_num, HN.out.1, HN.out.2.1, HN.out.2.2⟩
             case measure => simp [intOf]; omega
end Go.Proofs.YtbeoeackahmpbaaGreatDoor
