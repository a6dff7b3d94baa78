import Derived.Test.YtbeoeackahmpbaaGreatDoorJV9
import Derived.Test.YtbeoeackahmpbaaGreatDoorVo
import Derived.Test.YtbeoeackahmpbaaGreatDoorJDX
import Derived.Test.YtbeoeackahmpbaaGreatDoorJW1
import Derived.Lib.AppendZeros
namespace Go.Proofs.YtbeoeackahmpbaaGreatDoor
open Go.RowKit NatM Go.Proofs.YtbeoeackahmpbaaGreatDoor.Api LinM
theorem chg_putF2 {S : Nat → Prop} {w : World} {g i : Nat} (hS : S g) (hs : ∀ j k z, k ≠ IntKind.i64 → w.cell? ⟨g, j, none⟩ ≠ some (.int k z)) (b : Bool) (an : Option Addr) (m cn : Nat) (ad : Option Addr) (d cd : Nat) :
 Chg S w (putF w g i (.bool b) (.slice an m cn) (.slice ad d cd)) :=
 ⟨rfl, rfl, rfl, by simp [putF], fun k _ hn => by
  have e : k ≠ g := fun e => hn (by rw [e]; exact hS)
  unfold putF
  rw [Below.heap_setCell _ _ _ k e, Below.heap_setCell _ _ _ k e, Below.heap_setCell _ _ _ k e], fun p k z hk hp => by
  have e : ∀ j, p ≠ ⟨g, j, none⟩ := fun j e => hs j k z hk (by rw [← e]; exact hp)
  unfold putF
  rw [cell_set_other rfl (e _), cell_set_other rfl (e _), cell_set_other rfl (e _)]; exact hp⟩
structure FB (w : World) (g n : Nat) (t : Nat → Tri) : Prop where
 cells : ∃ cur : Array Value, w.heap[g]? = some (.cells cur 37 (0, 0)) ∧ n * 3 ≤ cur.size
 row : RowAt true w g 0 n t
 soft : ∀ j k z, k ≠ IntKind.i64 → w.cell? ⟨g, j, none⟩ ≠ some (.int k z)
section
variable {w w' : World} {g n : Nat} {t : Nat → Tri}
theorem FB.lt (h : FB w g n t) : g < w.heap.size := by
 obtain ⟨cur, h1, -⟩ := h.cells; exact (Array.getElem?_eq_some_iff.1 h1).1
theorem FB.free (h : FB w g n t) (i : Nat) : w.frozen? ⟨g, i, none⟩ = false := by
 obtain ⟨cur, h1, -⟩ := h.cells; exact frozen_of_row w g i cur 37 h1
theorem FB.chg {S : Nat → Prop} (h : FB w g n t) (hb : Chg S w w') (hn : ¬ S g) : FB w' g n t := by
 have hl := h.lt
 have hbl := hb.block g hl hn
 obtain ⟨cur, h1, h2⟩ := h.cells
 exact ⟨⟨cur, hbl.trans h1, h2⟩, h.row.chg hb hn, fun j k z hk e => h.soft j k z hk ((World.cell?_of_block (a := ⟨g, j, none⟩) hbl).symm.trans e)⟩
theorem FB.add (h : FB w g n t) (hb : Add w w') : FB w' g n t := h.chg (Chg.of_add (fun _ => False) hb) id
theorem FB.congr {t' : Nat → Tri} (h : FB w g n t) (ht : ∀ i, i < n → t i = t' i) : FB w g n t' := ⟨h.cells, h.row.congr ht, h.soft⟩
theorem FB.get (h : FB w g n t) {i : Nat} (hi : i < n) :
 ∃ s an m cn ad d cd, w.cell? ⟨g, i * 3, none⟩ = some (.bool s) ∧ w.cell? ⟨g, i * 3 + 1, none⟩ = some (.slice an m cn) ∧ w.cell? ⟨g, i * 3 + 2, none⟩ = some (.slice ad d cd) ∧ FracT w (.agg #[.bool s, .slice an m cn, .slice ad d cd]) (t i) := by
 have := h.row i hi
 rwa [Nat.zero_add] at this
theorem FB.chgF {S : Nat → Prop} (h : FB w g n t) (hS : S g) (i : Nat) (b : Bool) (an : Option Addr) (m cn : Nat) (ad : Option Addr) (d cd : Nat) :
 Chg S w (putF w g i (.bool b) (.slice an m cn) (.slice ad d cd)) := chg_putF2 hS h.soft b an m cn ad d cd
theorem FB.put (h : FB w g n t) {i : Nat} (hi : i < n) {b : Bool} {an : Option Addr} {m cn : Nat} {ad : Option Addr} {d cd : Nat} {x : Tri} (hx : FracT w (.agg #[.bool b, .slice an m cn, .slice ad d cd]) x) :
 FB (putF w g i (.bool b) (.slice an m cn) (.slice ad d cd)) g n (fun j => if j = i then x else t j) := by
 have hc := h.chgF (S := fun k => k = g) rfl i b an m cn ad d cd
 obtain ⟨cur, h1, h2⟩ := h.cells
 have k1 := heap_setCell_same w g (i * 3) cur 37 (.bool b) h1
 have k2 := heap_setCell_same _ g (i * 3 + 1) _ 37 (.slice an m cn) k1
 have k3 := heap_setCell_same _ g (i * 3 + 2) _ 37 (.slice ad d cd) k2
 have hcell : ∀ j, (putF w g i (.bool b) (.slice an m cn) (.slice ad d cd)).cell? ⟨g, j, none⟩ = (((cur.setIfInBounds (i * 3) (.bool b)).setIfInBounds (i * 3 + 1) (.slice an m cn)).setIfInBounds (i * 3 + 2) (.slice ad d cd))[j]? := fun j => cell_of_row _ g j _ _ (0, 0) k3
 have far : ∀ o, o ≠ i * 3 → o ≠ i * 3 + 1 → o ≠ i * 3 + 2 → (putF w g i (.bool b) (.slice an m cn) (.slice ad d cd)).cell? ⟨g, o, none⟩ = w.cell? ⟨g, o, none⟩ := fun o e0 e1 e2 => by
  rw [hcell, Array.getElem?_setIfInBounds_ne (fun e => e2 e.symm), Array.getElem?_setIfInBounds_ne (fun e => e1 e.symm), Array.getElem?_setIfInBounds_ne (fun e => e0 e.symm), ← cell_of_row w g o cur 37 (0, 0) h1]
 have n0 : (putF w g i (.bool b) (.slice an m cn) (.slice ad d cd)).cell? ⟨g, i * 3, none⟩ = some (.bool b) := by
  rw [hcell, Array.getElem?_setIfInBounds_ne (by omega), Array.getElem?_setIfInBounds_ne (by omega), Array.getElem?_setIfInBounds_self_of_lt (by omega)]
 have n1 : (putF w g i (.bool b) (.slice an m cn) (.slice ad d cd)).cell? ⟨g, i * 3 + 1, none⟩ = some (.slice an m cn) := by
  rw [hcell, Array.getElem?_setIfInBounds_ne (by omega), Array.getElem?_setIfInBounds_self_of_lt (by simp; omega)]
 have n2 : (putF w g i (.bool b) (.slice an m cn) (.slice ad d cd)).cell? ⟨g, i * 3 + 2, none⟩ = some (.slice ad d cd) := by
  rw [hcell, Array.getElem?_setIfInBounds_self_of_lt (by simp; omega)]
 refine ⟨⟨_, k3, by simpa using h2⟩, fun j hj => ?_, fun j k z hk e => ?_⟩
 · by_cases e : j = i
   · subst e
     refine ⟨b, an, m, cn, ad, d, cd, by rw [Nat.zero_add]; exact n0, by rw [Nat.zero_add]; exact n1, by rw [Nat.zero_add]; exact n2, ?_⟩
     show FracT _ _ (if j = j then x else t j)
     rw [if_pos rfl]; exact hx.chg hc
   · obtain ⟨s, an', m', cn', ad', d', cd', g1, g2, g3, g4⟩ := h.row j hj
     rw [Nat.zero_add] at g1 g2 g3
     refine ⟨s, an', m', cn', ad', d', cd', ?_, ?_, ?_, ?_⟩
     · rw [Nat.zero_add, far _ (by omega) (by omega) (by omega)]; exact g1
     · rw [Nat.zero_add, far _ (by omega) (by omega) (by omega)]; exact g2
     · rw [Nat.zero_add, far _ (by omega) (by omega) (by omega)]; exact g3
     · show FracT _ _ (if j = i then x else t j)
       rw [if_neg e]; exact FracT.chg g4 hc
 · by_cases e0 : j = i * 3
   · rw [e0, n0] at e; simp at e
   · by_cases e1 : j = i * 3 + 1
     · rw [e1, n1] at e; simp at e
     · by_cases e2 : j = i * 3 + 2
       · rw [e2, n2] at e; simp at e
       · rw [far j e0 e1 e2] at e
         exact h.soft j k z hk e
theorem FB.rowP (h : FB w g n t) {c : Nat} (hn : n ≤ c) (hc : c ≤ maxLen) : RowP true w (.slice (some ⟨g, 0, none⟩) n c) n t := ⟨_, c, rfl, hn, hc, fun _ => ⟨g, 0, rfl, h.row⟩⟩
end
structure TM (w : World) (base G n C : Nat) (gs cs : Nat → Nat) (T : Nat → Nat → Tri) : Prop where
 head : HB w G n (fun i => .slice (some ⟨gs i, 0, none⟩) C (cs i))
 rows : ∀ i, i < n → FB w (gs i) C (T i)
 caps : ∀ i, i < n → C ≤ cs i ∧ cs i ≤ maxLen
 inj : ∀ i j, i < n → j < n → gs i = gs j → i = j
 low : base ≤ G ∧ ∀ i, i < n → base ≤ gs i
section
variable {w w' : World} {base G n C : Nat} {gs cs : Nat → Nat} {T : Nat → Nat → Tri}
theorem TM.add (h : TM w base G n C gs cs T) (hb : Add w w') : TM w' base G n C gs cs T := ⟨h.head.add hb, fun i hi => (h.rows i hi).add hb, h.caps, h.inj, h.low⟩
theorem TM.congr {T' : Nat → Nat → Tri} (h : TM w base G n C gs cs T) (he : ∀ i j, i < n → j < C → T i j = T' i j) : TM w base G n C gs cs T' := ⟨h.head, fun i hi => (h.rows i hi).congr fun j hj => he i j hi hj, h.caps, h.inj, h.low⟩
theorem TM.ne (h : TM w base G n C gs cs T) {i : Nat} (hi : i < n) : G ≠ gs i := by
 obtain ⟨cur, h1, -⟩ := h.head
 obtain ⟨cur', h2, -⟩ := (h.rows i hi).cells
 exact blk_ne h1 h2 (by decide)
theorem TM.chg {S : Nat → Prop} (h : TM w base G n C gs cs T) (hb : Chg S w w') (hG : ¬ S G) (hg : ∀ i, i < n → ¬ S (gs i)) : TM w' base G n C gs cs T :=
 ⟨h.head.chg hb hG, fun i hi => (h.rows i hi).chg hb (hg i hi), h.caps, h.inj, h.low⟩
theorem TM.put (h : TM w base G n C gs cs T) {i j : Nat} (hi : i < n) (hj : j < C) {b : Bool} {an : Option Addr} {l cn : Nat} {ad : Option Addr} {d cd : Nat} {x : Tri} (hx : FracT w (.agg #[.bool b, .slice an l cn, .slice ad d cd]) x) :
 TM (putF w (gs i) j (.bool b) (.slice an l cn) (.slice ad d cd)) base G n C gs cs (fun a c => if a = i ∧ c = j then x else T a c) := by
 have hc := (h.rows i hi).chgF (S := fun k => k = gs i) rfl j b an l cn ad d cd
 refine ⟨h.head.chg hc (h.ne hi), fun a ha => ?_, h.caps, h.inj, h.low⟩
 by_cases e : a = i
 · subst e
   exact ((h.rows a ha).put hj hx).congr fun c _ => by
    by_cases e2 : c = j
    · rw [if_pos e2, if_pos ⟨rfl, e2⟩]
    · rw [if_neg e2, if_neg fun q => e2 q.2]
 · exact ((h.rows a ha).chg hc fun q => e (h.inj a i ha hi q)).congr fun c _ => by rw [if_neg fun q => e q.1]
theorem TM.mat (h : TM w base G n C gs cs T) {cap : Nat} (h1 : n ≤ cap) (h2 : cap ≤ maxLen) : MatP true w (.slice (some ⟨G, 0, none⟩) n cap) n (fun _ => C) T :=
 ⟨_, cap, rfl, h1, h2, fun _ => ⟨G, 0, rfl, fun i hi => ⟨_, by rw [Nat.zero_add]; exact h.head.cell hi, (h.rows i hi).rowP (h.caps i hi).1 (h.caps i hi).2⟩⟩⟩
theorem TM.swap (h : TM w base G n C gs cs T) {i k : Nat} (hi : i < n) (hk : k < n) (hne : i ≠ k) :
 TM ((w.setCell ⟨G, i, none⟩ (.slice (some ⟨gs k, 0, none⟩) C (cs k))).setCell ⟨G, k, none⟩ (.slice (some ⟨gs i, 0, none⟩) C (cs i))) base G n C (fun a => gs (sw i k a)) (fun a => cs (sw i k a)) (fun a => T (sw i k a)) ∧
  Chg (fun b => b = G) w ((w.setCell ⟨G, i, none⟩ (.slice (some ⟨gs k, 0, none⟩) C (cs k))).setCell ⟨G, k, none⟩ (.slice (some ⟨gs i, 0, none⟩) C (cs i))) := by
 have c1 := h.head.chgS (S := fun b => b = G) rfl hi (.slice (some ⟨gs k, 0, none⟩) C (cs k))
 have p1 := h.head.put hi (some ⟨gs k, 0, none⟩) C (cs k)
 have c2 := p1.chgS (S := fun b => b = G) rfl hk (.slice (some ⟨gs i, 0, none⟩) C (cs i))
 have p2 := p1.put hk (some ⟨gs i, 0, none⟩) C (cs i)
 have hc := c1.trans c2
 refine ⟨⟨p2.congr fun a ha => ?_, fun a ha => (h.rows _ (sw_lt hi hk ha)).chg hc fun e => h.ne (sw_lt hi hk ha) e.symm, fun a ha => h.caps _ (sw_lt hi hk ha), fun a b ha hb e => ?_, h.low.1, fun a ha => h.low.2 _ (sw_lt hi hk ha)⟩, hc⟩
 · unfold sw
   by_cases e : a = k
   · rw [if_pos e, if_neg (by omega), if_pos e]
   · rw [if_neg e]
     by_cases e2 : a = i
     · rw [if_pos e2, if_pos e2]
     · rw [if_neg e2, if_neg e2, if_neg e]
 · have := h.inj _ _ (sw_lt hi hk ha) (sw_lt hi hk hb) e
   have e2 := congrArg (sw i k) this
   rwa [sw_sw, sw_sw] at e2
end
theorem OwnF.fb {w : World} {base n : Nat} {v : Value} {t : Nat → Tri} (h : OwnF w base v n t) (h0 : 0 < n) : ∃ g c, v = .slice (some ⟨g, 0, none⟩) n c ∧ n ≤ c ∧ c ≤ maxLen ∧ base ≤ g ∧ FB w g n t := by
 have hr := h.row
 obtain ⟨xs, h1, h2, h3⟩ := h
 rcases h1.2 with ⟨e, rfl⟩ | ⟨g, cap, cur, rfl, hbg, hg, hn, hm, hs, -⟩
 · omega
 · obtain ⟨ao, c', e, -, -, k3⟩ := hr
   simp only [Value.slice.injEq] at e
   obtain ⟨rfl, -, rfl⟩ := e
   obtain ⟨b, off, e, k4⟩ := k3 h0
   simp only [Option.some.injEq, Addr.mk.injEq, and_true] at e
   obtain ⟨rfl, rfl⟩ := e
   exact ⟨g, cap, rfl, hn, hm, hbg, ⟨cur, hg, by rw [hs]; exact Nat.mul_le_mul_right 3 hn⟩, k4, h3 g rfl⟩
def blkOf : Value → Nat
 | .slice (some a) _ _ => a.block
 | _ => 0
def capOf : Value → Nat
 | .slice _ _ c => c
 | _ => 0
theorem AM.tm {w : World} {base G n C : Nat} {hv : Nat → Value} {len : Nat → Nat} {X : Nat → Nat → Tri} (h : AM w base G n hv len X) (hl : ∀ i, i < n → len i = C) (hC : 0 < C) : TM w base G n C (fun i => blkOf (hv i)) (fun i => capOf (hv i)) X := by
 have key : ∀ i, i < n → hv i = .slice (some ⟨blkOf (hv i), 0, none⟩) C (capOf (hv i)) ∧ C ≤ capOf (hv i) ∧ capOf (hv i) ≤ maxLen ∧ base ≤ blkOf (hv i) ∧ FB w (blkOf (hv i)) C (X i) := fun i hi => by
  have := h.rows i hi
  rw [hl i hi] at this
  obtain ⟨g, c, e, h1, h2, h3, h4⟩ := OwnF.fb this hC
  rw [e]
  exact ⟨rfl, h1, h2, h3, h4⟩
 refine ⟨h.head.congr fun i hi => (key i hi).1, fun i hi => (key i hi).2.2.2.2, fun i hi => ⟨(key i hi).2.1, (key i hi).2.2.1⟩, fun i j hi hj e => ?_, h.low, fun i hi => (key i hi).2.2.2.1⟩
 by_cases c : i = j
 · exact c
 · have h1 : (hv i).ownBlock = some (blkOf (hv i)) := by rw [(key i hi).1]; rfl
   have h2 : (hv j).ownBlock = some (blkOf (hv j)) := by rw [(key j hj).1]; rfl
   have := h.sep i j hi hj c (by rw [h1, h2, e])
   rw [h1] at this
   cases this
theorem GM.am {w : World} {base k m : Nat} {rv : Value} {hv : Nat → Value} {X : Nat → Nat → Tri} (h : GM w base rv k hv m X) (hs : ∀ i j, i < k → j < k → i ≠ j → (hv i).ownBlock = (hv j).ownBlock → (hv i).ownBlock = none) (hk : 0 < k) :
 ∃ G cap, rv = .slice (some ⟨G, 0, none⟩) k cap ∧ k ≤ cap ∧ cap ≤ maxLen ∧ AM w base G k hv (fun _ => m) X := by
 rcases h.own.2 with ⟨e, h0⟩ | ⟨G, cap, cur, rfl, hb, hg, hn, hm, hsz, ht⟩
 · omega
 · refine ⟨G, cap, rfl, hn, hm, ⟨cur, hg, by omega, fun i hi => ⟨?_, ?_⟩⟩, h.rows, hs, hb⟩
   · have e : (cur.toList.take (k * 1))[i]? = ((List.range k).map hv)[i]? := by rw [ht]
     rw [List.getElem?_take, if_pos (by omega)] at e
     rw [← Array.getElem?_toList, e]
     simp [hi]
   · obtain ⟨a, c, e, -, -⟩ := (h.rows i hi).slice
     exact ⟨a, m, c, e⟩
def inT (w0 : World) (G n : Nat) (gs : Nat → Nat) (b : Nat) : Prop := b = G ∨ (∃ i, i < n ∧ b = gs i) ∨ w0.heap.size ≤ b
end Go.Proofs.YtbeoeackahmpbaaGreatDoor
namespace Go.Proofs.YtbeoeackahmpbaaGreatDoor
open Go.RowKit NatM Go.Proofs.YtbeoeackahmpbaaGreatDoor.Api LinM
def CopP (w : World) (n c : Nat) (X : Nat → Nat → Tri) (e : Ending) (w' : World) : Prop :=
 ∃ G cap hv, e = .returned (.slice (some ⟨G, 0, none⟩) n cap) ∧ n ≤ cap ∧ cap ≤ maxLen ∧ AM w' w.heap.size G n hv (fun _ => c) X ∧ Add w w'
set_option maxRecDepth 100000 in
set_option maxHeartbeats 4000000 in
theorem refCopiedN {w : World} {v : Value} {n c : Nat} {m : Nat → Nat} {X : Nat → Nat → Tri} (h : MatP false w v n m X) (hok : ∀ i j, i < n → j < c → okF (X i j) = true) (hm : ∀ i, i < n → m i = c) (hn : 1 ≤ n ∧ n ≤ 24) (hc : c ≤ 1000) :
 Calls Tryz.prog 52 #[v] w (CopP w n c (fun i j => can (qm X i j))) := by
 obtain ⟨ao, ca, rfl, -⟩ := h.isSlice
 have HA := Lib.hid h
 have HOK := Lib.hid hok
 have HM := Lib.hid hm
 clear h hok hm
 go_enter Tryz.func52, Tryz.ntmps52
 go_wp2_with fail
 go_loopw [3, 4] (fun rv i wr => ∃ (k : Nat) (hv : Nat → Value), k ≤ n ∧ i = .int .i64 (k : Nat) ∧ GM wr w.heap.size rv k hv c (fun i j => can (qm X i j)) ∧ Hid (∀ i j, i < k → j < k → i ≠ j → (hv i).ownBlock = (hv j).ownBlock → (hv i).ownBlock = none) ∧ Add w wr) (fun _ i _ => n - (intOf i).toNat)
 case atStart => exact ⟨0, fun _ => .slice none 0 0, Nat.zero_le _, rfl, GM.nil _ _ _ _ _, Lib.hid fun i j hi => by omega, Below.refl _ _⟩
 case round =>
  obtain ⟨k, hv, hk, rfl, hE, HS, T⟩ := hrel
  obtain ⟨ra, rc, rfl⟩ := own_isSlice hE.own
  by_cases h0 : k = n
  · rename World => wr
    rw [h0] at hE HS
    obtain ⟨G, cap, e, h1, h2, h3⟩ := GM.am hE HS.out (by omega)
    simp only [Value.slice.injEq, true_and] at e
    obtain ⟨rfl, rfl⟩ := e
    have HF : Hid (CopP w n c (fun i j => can (qm X i j)) (.returned (.slice (some ⟨G, 0, none⟩) n rc)) wr) := Lib.hid ⟨G, rc, hv, rfl, h1, h2, h3, T⟩
    clear hE T HA HOK HM HS h1 h2 h3
    subst h0
    go_wp2_with fail
    go_ret
    exact HF.out
  · have hlt : k < n := by omega
    rename World => wm
    have HE := Lib.hid (And.intro hE T)
    obtain ⟨b, off, a1, la, rfl, -, c0, r0⟩ := HA.out.row hlt
    rw [HM.out k hlt] at c0 r0
    have HR := Lib.hid r0
    have HC0 := Lib.hid c0
    clear hE T h0 c0 r0
    go_wp2_with fail
    go_loopw [5, 6] (fun u j wq => ∃ q : Nat, q ≤ c ∧ j = .int .i64 (q : Nat) ∧ OwnF wq wm.heap.size u q (fun j => can (qm X k j)) ∧ Add wm wq) (fun _ j _ => c - (intOf j).toNat)
    case atStart => exact ⟨0, Nat.zero_le _, rfl, OwnF.nil _ _ _, Below.refl _ _⟩
    case round =>
     obtain ⟨q, hq, rfl, hO, T⟩ := hrel
     obtain ⟨ua, uc, rfl, -, -⟩ := hO.slice
     have c0 := cell_addL HC0.out (Add.trans HE.out.2 T)
     by_cases h1 : q = c
     · rename World => wq
       rw [h1] at hO
       have hbk : (wq.alloc (.cells #[.slice ua c uc] 23)).heap[wq.heap.size]? = some (.cells #[.slice ua c uc] 23 (0, 0)) := heap_alloc_new wq _
       have T9 := Add.trans T (add_new wq (.cells #[.slice ua c uc] 23))
       have hO9 := hO.add (add_new wq (.cells #[.slice ua c uc] 23))
       obtain ⟨a', c', w9, hrun, hG, hc9⟩ := HE.out.1.push T9 hO9 HE.out.2.size HE.out.2.size hbk (by omega) (c := 1)
       have T10 : Add w w9 := hc9.below (Add.trans HE.out.2 T9) (Add.trans HE.out.2 T9).size fun g hg => (own_in HE.out.1.own g hg).1
       have HRUN := Lib.hid hrun
       have HSN : Hid (∀ i j, i < k + 1 → j < k + 1 → i ≠ j → ((fun i => if i = k then Value.slice ua c uc else hv i) i).ownBlock = ((fun i => if i = k then Value.slice ua c uc else hv i) j).ownBlock → ((fun i => if i = k then Value.slice ua c uc else hv i) i).ownBlock = none) := Lib.hid fun i j hi hj hne e => by
        have low : ∀ a, a < k → ∀ g, (hv a).ownBlock = some g → g < wm.heap.size := fun a ha g hg => ((HE.out.1.rows a ha).lt g hg).2
        have hi' : ∀ g, (Value.slice ua c uc).ownBlock = some g → wm.heap.size ≤ g := fun g hg => (hO.lt g hg).1
        dsimp only at e ⊢
        by_cases e1 : i = k
        · rw [if_pos e1] at e ⊢
          rw [if_neg (by omega)] at e
          cases hb : (Value.slice ua c uc).ownBlock with
          | none => rfl
          | some g =>
           have h1 := hi' g hb
           rw [hb] at e
           have h2 := low j (by omega) g e.symm
           omega
        · rw [if_neg e1] at e ⊢
          by_cases e2 : j = k
          · rw [if_pos e2] at e
            cases hb : (hv i).ownBlock with
            | none => rfl
            | some g =>
             have h1 := low i (by omega) g hb
             rw [hb] at e
             have h2 := hi' g e.symm
             omega
          · rw [if_neg e2] at e
            exact HS.out i j (by omega) (by omega) hne e
       have HN := Lib.hid (And.intro hG T10)
       clear hO hO9 T hbk T9 hrun hG hc9 T10
       subst h1
       go_wp2_with (at_builtin; refine Lib.wpList_append_run _ rfl _ _ _ _ rfl _ _ rfl rfl _ _ HRUN.out ?_)
       go_roundw
       case rel => exact ⟨k + 1, _, by omega, by go_num, HN.out.1, HSN, HN.out.2⟩
       case measure => simp [intOf]; omega
     · have hlt2 : q < c := by omega
       rename World => wq
       have Tq := Add.trans HE.out.2 T
       obtain ⟨b2, off2, sx, an, qn, cn, ad, dn, cd, rfl, -, k0, k1, k2, kx⟩ := HR.out.get hlt2
       have k0 := cell_addL k0 Tq
       have k1 := cell_addL k1 Tq
       have k2 := cell_addL k2 Tq
       have CR := Lib.hid (refReduceN _ (FracA.mono kx Tq) (Lib.hid (red_all (HOK.out k q hlt hlt2))))
       have HO := Lib.hid (And.intro hO T)
       clear kx Tq hO T h1
       go_wp2_with fail
       refine CR.out.mono ?_
       rintro e w6 ⟨v6, rfl, hv6, h6⟩
       dsimp only at hv6
       obtain ⟨a6, n6, c6, e6, d6, f6, rfl, -, -⟩ := id hv6
       obtain ⟨y6, hy6⟩ : ∃ y, y = (can (qv (X k q))).1 := ⟨_, rfl⟩
       rw [← hy6] at hv6 ⊢
       have hA := add_new w6 (.cells #[.bool y6, .slice a6 n6 c6, .slice e6 d6 f6] 37)
       have hB := box_new w6 y6 a6 n6 c6 e6 d6 f6
       obtain ⟨W7, hW7⟩ : ∃ W, W = w6.alloc (.cells #[.bool y6, .slice a6 n6 c6, .slice e6 d6 f6] 37) := ⟨_, rfl⟩
       obtain ⟨g7, hg7⟩ : ∃ g, g = w6.heap.size := ⟨_, rfl⟩
       rw [← hW7, ← hg7] at hB
       rw [← hW7] at hA
       have T7 := Add.trans HO.out.2 (Add.trans h6 hA)
       have p0 := hB.c0
       have p1 := hB.c1
       have p2 := hB.c2
       obtain ⟨a', c', w9, hrun, hO9, T9⟩ := app_box ((HO.out.1.add h6).add hA) (hv6.mono hA) T7 (by omega)
       have HRUN := Lib.hid hrun
       have HW7 := Lib.hid (And.intro hW7 hg7)
       have HN := Lib.hid (And.intro (hO9.congr (t' := fun j => can (qm X k j)) fun i hi => by
        by_cases e : i = q
        · rw [if_pos e, e]; rfl
        · rw [if_neg e]) T9)
       clear hv6 h6 hA hB T7 hrun hO9 T9 HO CR hy6 k0 k1 k2 hW7 hg7
       go_upto_region 10 with fail
       rw [← HW7.out.1, ← HW7.out.2]
       clear HW7
       go_wp2_with (at_builtin; refine Lib.wpList_append_run _ rfl _ _ _ _ rfl _ _ rfl rfl _ _ HRUN.out ?_)
       go_roundw
       case rel => exact ⟨q + 1, by omega, by go_num, HN.out.1, HN.out.2⟩
       case measure => simp [intOf]; omega
end Go.Proofs.YtbeoeackahmpbaaGreatDoor
