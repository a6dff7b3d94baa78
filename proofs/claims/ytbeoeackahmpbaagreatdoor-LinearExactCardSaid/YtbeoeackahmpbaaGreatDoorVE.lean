import Derived.Test.YtbeoeackahmpbaaGreatDoorVD
import Derived.Deep.RegionHeld3
namespace Go.Proofs.YtbeoeackahmpbaaGreatDoor
open Go.RowKit NatM Go.Proofs.YtbeoeackahmpbaaGreatDoor.Api
structure V3 where
 a : Option Addr
 n : Nat
 c : Nat
 e : Option Addr
 d : Nat
 f : Nat
abbrev V3.agg (x : V3) (b : Bool) : Value := .agg #[.bool b, .slice x.a x.n x.c, .slice x.e x.d x.f]
def EBox (w : World) (ge : Nat) (rv : Value) (k : Nat) (pb : Bool) (pv : V3) (sb : Bool) (sv : V3) : Prop :=
 w.heap[ge]? = some (.cells #[rv, .int .i64 (k : Nat), .bool pb, .slice pv.a pv.n pv.c, .slice pv.e pv.d pv.f, .bool sb, .slice sv.a sv.n sv.c, .slice sv.e sv.d sv.f] 76 (0, 0))
section
variable {w w' : World} {ge k : Nat} {rv : Value} {pb sb : Bool} {pv sv : V3}
theorem EBox.lt (h : EBox w ge rv k pb pv sb sv) : ge < w.heap.size := (Array.getElem?_eq_some_iff.1 h).1
theorem EBox.at (h : EBox w ge rv k pb pv sb sv) (i : Nat) : w.cell? ⟨ge, i, none⟩ = (#[rv, .int .i64 (k : Nat), .bool pb, .slice pv.a pv.n pv.c, .slice pv.e pv.d pv.f, .bool sb, .slice sv.a sv.n sv.c, .slice sv.e sv.d sv.f])[i]? := cell_of_row w ge i _ _ (0, 0) h
theorem EBox.c0 (h : EBox w ge rv k pb pv sb sv) : w.cell? ⟨ge, 0, none⟩ = some rv := (h.at 0).trans rfl
theorem EBox.c1 (h : EBox w ge rv k pb pv sb sv) : w.cell? ⟨ge, 1, none⟩ = some (.int .i64 (k : Nat)) := (h.at 1).trans rfl
theorem EBox.c2 (h : EBox w ge rv k pb pv sb sv) : w.cell? ⟨ge, 2, none⟩ = some (.bool pb) := (h.at 2).trans rfl
theorem EBox.c3 (h : EBox w ge rv k pb pv sb sv) : w.cell? ⟨ge, 3, none⟩ = some (.slice pv.a pv.n pv.c) := (h.at 3).trans rfl
theorem EBox.c4 (h : EBox w ge rv k pb pv sb sv) : w.cell? ⟨ge, 4, none⟩ = some (.slice pv.e pv.d pv.f) := (h.at 4).trans rfl
theorem EBox.c5 (h : EBox w ge rv k pb pv sb sv) : w.cell? ⟨ge, 5, none⟩ = some (.bool sb) := (h.at 5).trans rfl
theorem EBox.c6 (h : EBox w ge rv k pb pv sb sv) : w.cell? ⟨ge, 6, none⟩ = some (.slice sv.a sv.n sv.c) := (h.at 6).trans rfl
theorem EBox.c7 (h : EBox w ge rv k pb pv sb sv) : w.cell? ⟨ge, 7, none⟩ = some (.slice sv.e sv.d sv.f) := (h.at 7).trans rfl
theorem EBox.fr (h : EBox w ge rv k pb pv sb sv) (i : Nat) : w.frozen? ⟨ge, i, none⟩ = false := frozen_of_row w ge i _ _ h
theorem EBox.soft (h : EBox w ge rv k pb pv sb sv) (hr : ∃ a n c, rv = .slice a n c) (j : Nat) (q : IntKind) (z : Int) (hq : q ≠ .i64) : w.cell? ⟨ge, j, none⟩ ≠ some (.int q z) := by
 obtain ⟨a, n, c, rfl⟩ := hr
 rw [h.at j]
 rcases j with _ | _ | _ | _ | _ | _ | _ | _ | j <;> simp
 intro e; exact absurd e.symm hq
theorem EBox.chg {S : Nat → Prop} (h : EBox w ge rv k pb pv sb sv) (hb : Chg S w w') (hn : ¬ S ge) : EBox w' ge rv k pb pv sb sv := (hb.block ge h.lt hn).trans h
theorem EBox.add (h : EBox w ge rv k pb pv sb sv) (hb : Add w w') : EBox w' ge rv k pb pv sb sv := (hb.block ge h.lt).trans h
theorem EBox.setc {S : Nat → Prop} (h : EBox w ge rv k pb pv sb sv) (hr : ∃ a n c, rv = .slice a n c) (hS : S ge) (i : Nat) (u old : Value) (hi : w.cell? ⟨ge, i, none⟩ = some old) : Chg S w (w.setCell ⟨ge, i, none⟩ u) :=
 Chg.set u hS hi fun q z hq e => h.soft hr i q z hq (by rw [hi, e])
theorem EBox.sign (h : EBox w ge rv k pb pv sb sv) (b : Bool) : EBox (w.setCell ⟨ge, 5, none⟩ (.bool b)) ge rv k pb pv b sv := by
 unfold EBox
 rw [heap_setCell_same w ge 5 _ _ _ h]; rfl
theorem EBox.rank (h : EBox w ge rv k pb pv sb sv) (q : Nat) : EBox (w.setCell ⟨ge, 1, none⟩ (.int .i64 (q : Nat))) ge rv q pb pv sb sv := by
 unfold EBox
 rw [heap_setCell_same w ge 1 _ _ _ h]; rfl
theorem EBox.rowsS (h : EBox w ge rv k pb pv sb sv) (u : Value) : EBox (w.setCell ⟨ge, 0, none⟩ u) ge u k pb pv sb sv := by
 unfold EBox
 rw [heap_setCell_same w ge 0 _ _ _ h]; rfl
def putE (w : World) (g i : Nat) (u0 u1 u2 : Value) : World := ((w.setCell ⟨g, i, none⟩ u0).setCell ⟨g, i + 1, none⟩ u1).setCell ⟨g, i + 2, none⟩ u2
theorem EBox.pivot (h : EBox w ge rv k pb pv sb sv) (b : Bool) (x : V3) : EBox (putE w ge 2 (.bool b) (.slice x.a x.n x.c) (.slice x.e x.d x.f)) ge rv k b x sb sv := by
 unfold EBox putE
 have h1 := heap_setCell_same w ge 2 _ _ (.bool b) h
 have h2 := heap_setCell_same _ ge 3 _ _ (.slice x.a x.n x.c) h1
 rw [heap_setCell_same _ ge 4 _ _ (.slice x.e x.d x.f) h2]; rfl
theorem EBox.scale (h : EBox w ge rv k pb pv sb sv) (b : Bool) (x : V3) : EBox (putE w ge 5 (.bool b) (.slice x.a x.n x.c) (.slice x.e x.d x.f)) ge rv k pb pv b x := by
 unfold EBox putE
 have h1 := heap_setCell_same w ge 5 _ _ (.bool b) h
 have h2 := heap_setCell_same _ ge 6 _ _ (.slice x.a x.n x.c) h1
 rw [heap_setCell_same _ ge 7 _ _ (.slice x.e x.d x.f) h2]; rfl
theorem EBox.chgE {S : Nat → Prop} (h : EBox w ge rv k pb pv sb sv) (hr : ∃ a n c, rv = .slice a n c) (hS : S ge) (i : Nat) (b : Bool) (x : V3) : Chg S w (putE w ge i (.bool b) (.slice x.a x.n x.c) (.slice x.e x.d x.f)) :=
 ⟨rfl, rfl, rfl, by simp [putE], fun q _ hn => by
  have e : q ≠ ge := fun e => hn (by rw [e]; exact hS)
  unfold putE
  rw [Below.heap_setCell _ _ _ q e, Below.heap_setCell _ _ _ q e, Below.heap_setCell _ _ _ q e], fun p q z hq hp => by
  have e : ∀ j, p ≠ ⟨ge, j, none⟩ := fun j e => h.soft hr j q z hq (by rw [← e]; exact hp)
  unfold putE
  rw [cell_set_other rfl (e _), cell_set_other rfl (e _), cell_set_other rfl (e _)]; exact hp⟩
end
structure ES (w : World) (base ge G n cap m : Nat) (gs : Nat → Nat) (k : Nat) (p s : Tri) (pv sv : V3) (T : Nat → Nat → Tri) : Prop where
 box : EBox w ge (.slice (some ⟨G, 0, none⟩) n cap) k p.1 pv s.1 sv
 fp : FracT w (pv.agg p.1) p
 fs : FracT w (sv.agg s.1) s
 head : HB w G n (fun i => .slice (some ⟨gs i, 0, none⟩) m m)
 rows : ∀ i, i < n → FBlk w (gs i) m (T i)
 inj : ∀ i j, i < n → j < n → gs i = gs j → i = j
 low : base ≤ ge ∧ base ≤ G ∧ ∀ i, i < n → base ≤ gs i
def inES (ge G n : Nat) (gs : Nat → Nat) (b : Nat) : Prop := b = ge ∨ b = G ∨ ∃ i, i < n ∧ b = gs i
section
variable {w w' : World} {base ge G n cap m : Nat} {gs : Nat → Nat} {k : Nat} {p s : Tri} {pv sv : V3} {T : Nat → Nat → Tri}
theorem ES.add (h : ES w base ge G n cap m gs k p s pv sv T) (hb : Add w w') : ES w' base ge G n cap m gs k p s pv sv T :=
 ⟨h.box.add hb, h.fp.mono hb, h.fs.mono hb, h.head.add hb, fun i hi => (h.rows i hi).add hb, h.inj, h.low⟩
theorem ES.congr {T' : Nat → Nat → Tri} (h : ES w base ge G n cap m gs k p s pv sv T) (he : ∀ i j, i < n → j < m → T i j = T' i j) : ES w base ge G n cap m gs k p s pv sv T' :=
 ⟨h.box, h.fp, h.fs, h.head, fun i hi => (h.rows i hi).congr fun j hj => he i j hi hj, h.inj, h.low⟩
theorem ES.below {w0 : World} (h : ES w base ge G n cap m gs k p s pv sv T) (hb : Below base w0 w) (hc : Chg (inES ge G n gs) w w') : Below base w0 w' :=
 hc.below hb (Nat.le_trans h.low.1 (Nat.le_of_lt h.box.lt)) fun q hq => by
  rcases hq with rfl | rfl | ⟨i, hi, rfl⟩
  · exact h.low.1
  · exact h.low.2.1
  · exact h.low.2.2 i hi
theorem blk_ne {w : World} {g g' : Nat} {cur cur' : Array Value} {T T' : TypeId} {f f' : Nat × Nat} (h : w.heap[g]? = some (.cells cur T f)) (h' : w.heap[g']? = some (.cells cur' T' f')) (hT : T ≠ T') : g ≠ g' := by
 rintro rfl
 rw [h] at h'
 simp only [Option.some.injEq, Obj.cells.injEq] at h'
 exact hT h'.2.1
theorem ES.ne1 (h : ES w base ge G n cap m gs k p s pv sv T) : ge ≠ G := by
 obtain ⟨cur, h1, -⟩ := h.head
 exact blk_ne h.box h1 (by decide)
theorem ES.ne2 (h : ES w base ge G n cap m gs k p s pv sv T) {i : Nat} (hi : i < n) : ge ≠ gs i ∧ G ≠ gs i := by
 obtain ⟨cur, h1, -⟩ := h.head
 obtain ⟨cur', h2, -⟩ := h.rows i hi
 exact ⟨blk_ne h.box h2 (by decide), blk_ne h1 h2 (by decide)⟩
end
def zeroAt (T : Nat → Nat → Tri) (j i : Nat) : Prop := (T i j).2.1 = 0
def swI (i k a : Nat) : Nat := if a = i then k else if a = k then i else a
def flipS (i k : Nat) (s : Tri) : Tri := if i = k then s else (!s.1, s.2)
def FpP (w : World) (base ge G n cap m : Nat) (gs : Nat → Nat) (k j : Nat) (p s : Tri) (pv sv : V3) (T : Nat → Nat → Tri) (e : Ending) (w' : World) : Prop :=
 (e = .returned (.bool false) ∧ (∀ i, k ≤ i → i < n → zeroAt T j i) ∧ Add w w') ∨
 (∃ i, e = .returned (.bool true) ∧ k ≤ i ∧ i < n ∧ ¬ zeroAt T j i ∧ ES w' base ge G n cap m (fun a => gs (swI i k a)) k p (flipS i k s) pv sv (fun a => T (swI i k a)) ∧ Chg (inES ge G n gs) w w')
theorem ES.swap {w : World} {base ge G n cap m : Nat} {gs : Nat → Nat} {k : Nat} {p s : Tri} {pv sv : V3} {T : Nat → Nat → Tri} (h : ES w base ge G n cap m gs k p s pv sv T) {i : Nat} (hi : i < n) (hk : k < n) (hne : i ≠ k) :
 ES (((w.setCell ⟨G, i, none⟩ (.slice (some ⟨gs k, 0, none⟩) m m)).setCell ⟨G, k, none⟩ (.slice (some ⟨gs i, 0, none⟩) m m)).setCell ⟨ge, 5, none⟩ (.bool (!s.1))) base ge G n cap m (fun a => gs (swI i k a)) k p (flipS i k s) pv sv (fun a => T (swI i k a)) ∧
 Chg (inES ge G n gs) w (((w.setCell ⟨G, i, none⟩ (.slice (some ⟨gs k, 0, none⟩) m m)).setCell ⟨G, k, none⟩ (.slice (some ⟨gs i, 0, none⟩) m m)).setCell ⟨ge, 5, none⟩ (.bool (!s.1))) := by
 have c1 := h.head.chgS (S := fun b => b = G) rfl hi (.slice (some ⟨gs k, 0, none⟩) m m)
 have h1 := h.head.put hi (some ⟨gs k, 0, none⟩) m m
 have c2 := h1.chgS (S := fun b => b = G) rfl hk (.slice (some ⟨gs i, 0, none⟩) m m)
 have h2 := h1.put hk (some ⟨gs i, 0, none⟩) m m
 have c12 := c1.trans c2
 have b2 := h.box.chg c12 h.ne1
 have c3 := b2.setc (S := fun b => b = ge) ⟨_, _, _, rfl⟩ rfl 5 (.bool (!s.1)) _ b2.c5
 have s12 := c12.mono (S' := inES ge G n gs) fun q hq => .inr (.inl hq)
 have s3 := c3.mono (S' := inES ge G n gs) fun q hq => .inl hq
 have e : flipS i k s = (!s.1, s.2) := by unfold flipS; rw [if_neg hne]
 refine ⟨⟨?_, (h.fp.chg c12).chg c3, ?_, ?_, fun a ha => ?_, fun a b ha hb q => ?_, h.low.1, h.low.2.1, fun a ha => ?_⟩, s12.trans s3⟩
 · rw [e]; exact b2.sign _
 · rw [e]
   obtain ⟨-, g1, g2⟩ := ((h.fs.chg c12).chg c3).parts
   exact ⟨_, _, _, _, _, _, rfl, g1, g2⟩
 · refine (h2.chg c3 (fun q => h.ne1 q.symm)).congr fun a _ => ?_
   unfold swI
   by_cases e1 : a = k
   · rw [if_pos e1]
     by_cases e2 : a = i
     · omega
     · rw [if_neg e2, if_pos e1]
   · rw [if_neg e1]
     by_cases e2 : a = i
     · rw [if_pos e2, if_pos e2]
     · rw [if_neg e2, if_neg e2, if_neg e1]
 · have ha' : swI i k a < n := by unfold swI; split; exact hk; split; exact hi; exact ha
   have hr := h.rows _ ha'
   exact (hr.chg c12 (fun q => (h.ne2 ha').2 q.symm)).chg c3 (fun q => (h.ne2 ha').1 q.symm)
 · have ha' : swI i k a < n := by unfold swI; split; exact hk; split; exact hi; exact ha
   have hb' : swI i k b < n := by unfold swI; split; exact hk; split; exact hi; exact hb
   have := h.inj _ _ ha' hb' q
   unfold swI at this
   split at this <;> split at this <;> (try split at this) <;> (try split at this) <;> omega
 · have ha' : swI i k a < n := by unfold swI; split; exact hk; split; exact hi; exact ha
   exact h.low.2.2 _ ha'
theorem swI_self (k a : Nat) : swI k k a = a := by unfold swI; split <;> simp_all
set_option maxRecDepth 100000 in
set_option maxHeartbeats 4000000 in
theorem findPivotN {w : World} {base ge G n cap m : Nat} {gs : Nat → Nat} {k j : Nat} {p s : Tri} {pv sv : V3} {T : Nat → Nat → Tri} (h : ES w base ge G n cap m gs k p s pv sv T) (hj : j < m) (hk : k ≤ n) (hn : n ≤ 1000) :
 Calls Tryz.prog 82 #[.pointer (some ⟨ge, 0, none⟩), .int .i64 (j : Nat)] w (FpP w base ge G n cap m gs k j p s pv sv T) := by
 have HE := Lib.hid h
 have c0 := h.box.c0
 have c1 := h.box.c1
 clear h
 go_enter Tryz.func82, Tryz.ntmps82
 go_wp2_with fail
 clear c0 c1
 go_loopw [5] (fun i wr => ∃ a : Nat, k ≤ a ∧ a ≤ n ∧ i = .int .i64 (a : Nat) ∧ (∀ b, k ≤ b → b < a → zeroAt T j b) ∧ Add w wr) (fun i _ => n - (intOf i).toNat)
 case atStart => exact ⟨k, Nat.le_refl _, hk, rfl, fun b h1 h2 => by omega, Below.refl _ _⟩
 case round =>
  obtain ⟨a, hka, han, rfl, hz, Tw⟩ := hrel
  have hE := HE.out.add Tw
  have c0 := hE.box.c0
  have HZ := Lib.hid hz
  clear hz
  by_cases h0 : a = n
  · have HF : Hid (FpP w base ge G n cap m gs k j p s pv sv T (.returned (.bool false)) wr) := Lib.hid (.inl ⟨rfl, fun b h1 h2 => HZ.out b h1 (by omega), Tw⟩)
    clear hE Tw
    subst h0
    go_wp2_with fail
    go_ret
    exact HF.out
  · have hlt : a < n := by omega
    have hca : wr.cell? ⟨G, a, none⟩ = some (.slice (some ⟨gs a, 0, none⟩) m m) := hE.head.cell hlt
    obtain ⟨sx, ax, q, cx, ex, dx, fx, x0, x1, x2, hx⟩ := (hE.rows a hlt).get hj
    obtain ⟨ga, hga⟩ : ∃ g, g = gs a := ⟨_, rfl⟩
    rw [← hga] at hca x0 x1 x2
    have HGA := Lib.hid hga
    by_cases hz0 : (T a j).2.1 = 0
    · have HC := Lib.hid (lisZeroN true hx (Lib.hid (decide_eq_true hz0)))
      have HZ2 : Hid (∀ b, k ≤ b → b < a + 1 → zeroAt T j b) := Lib.hid fun b h1 h2 => by
       by_cases e : b = a
       · rw [e]; exact hz0
       · exact HZ.out b h1 (by omega)
      have TT := Lib.hid Tw
      clear hE hx Tw hz0 h0 hga
      go_wp2_with fail
      refine HC.out.mono ?_
      rintro e w4 ⟨rfl, h4⟩
      have TG := Lib.hid (Add.trans TT.out h4)
      clear h4 HC TT c0 hca x0 x1 x2
      go_wp2_with fail
      go_roundw
      case rel => exact ⟨a + 1, by omega, by omega, by go_num, HZ2.out, TG.out⟩
      case measure => simp [intOf]; omega
    · have HC := Lib.hid (lisZeroN false hx (Lib.hid (decide_eq_false hz0)))
      have HZ0 : Hid (¬ zeroAt T j a) := Lib.hid hz0
      have TT := Lib.hid Tw
      clear hE hx Tw hz0 h0 hga
      go_wp2_with fail
      refine HC.out.mono ?_
      rintro e w4 ⟨rfl, h4⟩
      have TG := Add.trans TT.out h4
      have hE := HE.out.add TG
      have e0 := hE.box.c0
      have e1 := hE.box.c1
      by_cases hak : a = k
      · have HF : Hid (FpP w base ge G n cap m gs k j p s pv sv T (.returned (.bool true)) w4) := Lib.hid (.inr ⟨a, rfl, hka, hlt, HZ0.out, by
         have e : flipS a k s = s := by unfold flipS; rw [if_pos hak]
         have e2 : ∀ b, swI a k b = b := fun b => by rw [hak]; exact swI_self k b
         rw [e]; simp only [e2]; exact hE, Chg.of_add _ TG⟩)
        clear h4 HC TT c0 hca x0 x1 x2 hE TG
        subst hak
        go_wp2_with fail
        go_ret
        exact HF.out
      · have hkn : k < n := by omega
        have hck : w4.cell? ⟨G, k, none⟩ = some (.slice (some ⟨gs k, 0, none⟩) m m) := hE.head.cell hkn
        have hca4 : w4.cell? ⟨G, a, none⟩ = some (.slice (some ⟨gs a, 0, none⟩) m m) := hE.head.cell hlt
        rw [← HGA.out] at hca4
        obtain ⟨gk, hgk⟩ : ∃ g, g = gs k := ⟨_, rfl⟩
        rw [← hgk] at hck
        have hf1 := hE.head.free a
        have hf2 := hE.head.free k
        have hl := hE.head.lt
        have hle := hE.box.lt
        have hdne : ((a : Int) != (k : Int)) = true := by simp; omega
        obtain ⟨q1, q2⟩ := hE.swap hlt hkn hak
        have hb2 : EBox ((w4.setCell ⟨G, a, none⟩ (.slice (some ⟨gs k, 0, none⟩) m m)).setCell ⟨G, k, none⟩ (.slice (some ⟨gs a, 0, none⟩) m m)) ge (.slice (some ⟨G, 0, none⟩) n cap) k p.1 pv s.1 sv := by
         have c1 := hE.head.chgS (S := fun b => b = G) rfl hlt (.slice (some ⟨gs k, 0, none⟩) m m)
         have c2 := (hE.head.put hlt (some ⟨gs k, 0, none⟩) m m).chgS (S := fun b => b = G) rfl hkn (.slice (some ⟨gs a, 0, none⟩) m m)
         exact hE.box.chg (c1.trans c2) hE.ne1
        rw [← hgk, ← HGA.out] at q1 q2 hb2
        have e5 : (World.drew ((w4.setCell ⟨G, a, none⟩ (.slice (some ⟨gk, 0, none⟩) m m)).setCell ⟨G, k, none⟩ (.slice (some ⟨ga, 0, none⟩) m m))).cell? ⟨ge, 5, none⟩ = some (.bool s.1) := hb2.c5
        have f5 : (World.drew ((w4.setCell ⟨G, a, none⟩ (.slice (some ⟨gk, 0, none⟩) m m)).setCell ⟨G, k, none⟩ (.slice (some ⟨ga, 0, none⟩) m m))).frozen? ⟨ge, 5, none⟩ = false := hb2.fr 5
        have HF : Hid (∀ W, W = ((w4.setCell ⟨G, a, none⟩ (.slice (some ⟨gk, 0, none⟩) m m)).setCell ⟨G, k, none⟩ (.slice (some ⟨ga, 0, none⟩) m m)).setCell ⟨ge, 5, none⟩ (.bool (!s.1)) → FpP w base ge G n cap m gs k j p s pv sv T (.returned (.bool true)) (World.drew W)) := Lib.hid fun W hW => by
         subst hW
         exact .inr ⟨a, rfl, hka, hlt, HZ0.out, q1.add (b_drewL (Below.refl _ _)), ((Chg.of_add _ TG).trans q2).trans (Chg.of_add _ (b_drewL (Below.refl _ _)))⟩
        have hneGe : G ≠ ge := fun e => hE.ne1 e.symm
        clear h4 HC TT c0 hca x0 x1 x2 hE TG hgk q1 q2 hb2
        go_wp2_with fail
        go_region
        all_goals
         go_wp2_with fail
         go_ret
         exact HF.out _ rfl
end Go.Proofs.YtbeoeackahmpbaaGreatDoor
