import Derived.Test.YtbeoeackahmpbaaGreatDoorJX
import Derived.Laws.OwnMore
import Derived.Test.YtbeoeackahmpbaaGreatDoorJM
namespace Go.Proofs.YtbeoeackahmpbaaGreatDoor
open Go.RowKit NatM Go.Proofs.YtbeoeackahmpbaaGreatDoor.Api
theorem cell_set_other {w : World} {a p : Addr} {u : Value} (ha : a.spot = none) (h : p ≠ a) : (w.setCell a u).cell? p = w.cell? p := by
 obtain ⟨b, o, s⟩ := a
 obtain ⟨b', o', s'⟩ := p
 simp only at ha
 subst ha
 by_cases hb : b' = b
 · subst hb
   simp only [World.cell?, World.setCell, Array.getElem?_modify, if_true]
   cases hg : w.heap[b']? with
   | none => simp
   | some o2 =>
    cases o2 with
    | cells c e f =>
     simp only [Option.map_some, Option.isSome_none, Bool.false_eq_true, if_false]
     cases s' with
     | some x => simp
     | none =>
      have ho : o ≠ o' := fun e => h (by rw [e])
      simp only [Option.isSome_none, Bool.false_eq_true, if_false]
      rw [Array.getElem?_setIfInBounds_ne ho]
    | _ => simp
 · exact World.cell?_of_block (Below.heap_setCell w _ u b' hb)
structure Chg (S : Nat → Prop) (w w' : World) : Prop where
 os : w'.os = w.os
 tape : w'.tape = w.tape
 output : w'.output = w.output
 size : w.heap.size ≤ w'.heap.size
 block : ∀ k, k < w.heap.size → ¬ S k → w'.heap[k]? = w.heap[k]?
 num : ∀ p q z, q ≠ IntKind.i64 → w.cell? p = some (.int q z) → w'.cell? p = some (.int q z)
theorem Chg.of_add {w w' : World} (S : Nat → Prop) (h : Add w w') : Chg S w w' :=
 ⟨h.os, h.tape, h.output, h.size, fun k hk _ => h.block k hk, fun _ _ _ _ hc => (h.cell (World.block_lt_of_cell? w _ hc)).trans hc⟩
theorem Chg.refl (S : Nat → Prop) (w : World) : Chg S w w := Chg.of_add S (Below.refl _ _)
theorem Chg.trans {S : Nat → Prop} {a b c : World} (h : Chg S a b) (k : Chg S b c) : Chg S a c :=
 ⟨k.os.trans h.os, k.tape.trans h.tape, k.output.trans h.output, Nat.le_trans h.size k.size, fun i hi hs => (k.block i (Nat.lt_of_lt_of_le hi h.size) hs).trans (h.block i hi hs), fun p q z hq hc => k.num p q z hq (h.num p q z hq hc)⟩
theorem Chg.mono {S S' : Nat → Prop} {w w' : World} (h : Chg S w w') (hs : ∀ k, S k → S' k) : Chg S' w w' :=
 ⟨h.os, h.tape, h.output, h.size, fun k hk hn => h.block k hk (fun e => hn (hs k e)), h.num⟩
theorem Chg.below {S : Nat → Prop} {base : Nat} {a w w' : World} (h : Chg S w w') (hb : Below base a w) (hl : base ≤ w.heap.size) (hs : ∀ k, S k → base ≤ k) : Below base a w' :=
 hb.trans ⟨h.os, h.tape, h.output, h.size, fun k hk => h.block k (by omega) (fun e => by have := hs k e; omega)⟩
theorem Chg.set {S : Nat → Prop} {w : World} {g i : Nat} {old : Value} (u : Value) (hS : S g) (hc : w.cell? ⟨g, i, none⟩ = some old) (ho : ∀ k z, k ≠ IntKind.i64 → old ≠ .int k z) : Chg S w (w.setCell ⟨g, i, none⟩ u) :=
 ⟨rfl, rfl, rfl, by simp, fun k _ hn => Below.heap_setCell w _ u k (fun e => hn (by rw [e]; exact hS)), fun p k z hk hp => by
  by_cases e : p = ⟨g, i, none⟩
  · subst e
    rw [hc] at hp
    exact absurd (Option.some.inj hp) (ho k z hk)
  · rw [cell_set_other rfl e]; exact hp⟩
theorem Reads.chg {S : Nat → Prop} {w w' : World} {v : Value} {xs : List Nat} (h : Reads w v xs) (hb : Chg S w w') : Reads w' v xs := by
 obtain ⟨ao, n, c, rfl, hl, hc, hm, hx, hr⟩ := h
 refine ⟨ao, n, c, rfl, hl, hc, hm, hx, fun hn => ?_⟩
 obtain ⟨b, off, e, g⟩ := hr hn
 exact ⟨b, off, e, fun i hi => hb.num _ _ _ (by decide) (g i hi)⟩
theorem Num.chg {S : Nat → Prop} {w w' : World} {v : Value} {N : Nat} (h : Num w v N) (hb : Chg S w w') : Num w' v N := by
 obtain ⟨zs, h1, h2⟩ := h; exact ⟨zs, h1.chg hb, h2⟩
theorem Nv.chg {S : Nat → Prop} {w w' : World} {v : Value} {N : Nat} (h : Nv w v N) (hb : Chg S w w') : Nv w' v N := by
 obtain ⟨zs, h1, h2⟩ := h; exact ⟨zs, h1.chg hb, h2⟩
theorem FracT.chg {S : Nat → Prop} {w w' : World} {v : Value} {x : Tri} (h : FracT w v x) (hb : Chg S w w') : FracT w' v x := by
 obtain ⟨an, n, cn, ad, d, cd, h1, h2, h3⟩ := h; exact ⟨an, n, cn, ad, d, cd, h1, h2.chg hb, h3.chg hb⟩
theorem FracA.chg {S : Nat → Prop} {w w' : World} {v : Value} {x : Tri} (h : FracA w v x) (hb : Chg S w w') : FracA w' v x := by
 obtain ⟨an, n, cn, ad, d, cd, h1, h2, h3⟩ := h; exact ⟨an, n, cn, ad, d, cd, h1, Nv.chg h2 hb, Nv.chg h3 hb⟩
theorem Tab.chg {S : Nat → Prop} {w w' : World} (h : Tab w) (hb : Chg S w w') : Tab w' :=
 ⟨Nat.lt_of_lt_of_le h.1 hb.size, fun j hj => hb.num _ _ _ (by decide) (h.2 j hj)⟩
theorem Box.chg {S : Nat → Prop} {w w' : World} {g : Nat} {b an n cn ad d cd} (h : Box w g b an n cn ad d cd) (hb : Chg S w w') (hn : ¬ S g) : Box w' g b an n cn ad d cd := (hb.block g h.lt hn).trans h
theorem FracT.parts {w : World} {s : Bool} {an : Option Addr} {m cn : Nat} {ad : Option Addr} {d cd : Nat} {x : Tri} (h : FracT w (.agg #[.bool s, .slice an m cn, .slice ad d cd]) x) : s = x.1 ∧ Num w (.slice an m cn) x.2.1 ∧ Num w (.slice ad d cd) x.2.2 := by
 obtain ⟨an', n', cn', ad', d', cd', e, h1, h2⟩ := h
 simp only [Value.agg.injEq, Array.mk.injEq, List.cons.injEq, Value.bool.injEq, Value.slice.injEq, and_true] at e
 obtain ⟨rfl, ⟨rfl, rfl, rfl⟩, rfl, rfl, rfl⟩ := e
 exact ⟨rfl, h1, h2⟩
def El : Bool → World → Value → Tri → Prop
 | true => FracT
 | false => FracA
theorem El.chg {R : Bool} {S : Nat → Prop} {w w' : World} {v : Value} {x : Tri} (h : El R w v x) (hb : Chg S w w') : El R w' v x := by
 cases R
 · exact FracA.chg h hb
 · exact FracT.chg h hb
def RowAt (R : Bool) (w : World) (b off n : Nat) (t : Nat → Tri) : Prop :=
 ∀ i, i < n → ∃ s an m cn ad d cd, w.cell? ⟨b, off + i * 3, none⟩ = some (.bool s) ∧ w.cell? ⟨b, off + i * 3 + 1, none⟩ = some (.slice an m cn) ∧ w.cell? ⟨b, off + i * 3 + 2, none⟩ = some (.slice ad d cd) ∧ El R w (.agg #[.bool s, .slice an m cn, .slice ad d cd]) (t i)
theorem RowAt.chg {R : Bool} {S : Nat → Prop} {w w' : World} {b off n : Nat} {t : Nat → Tri} (h : RowAt R w b off n t) (hb : Chg S w w') (hn : ¬ S b) : RowAt R w' b off n t := by
 intro i hi
 obtain ⟨s, an, m, cn, ad, d, cd, h1, h2, h3, h4⟩ := h i hi
 have k := fun (o : Nat) (v : Value) (q : w.cell? ⟨b, o, none⟩ = some v) => (World.cell?_of_block (a := ⟨b, o, none⟩) (hb.block b (World.block_lt_of_cell? w _ q) hn)).trans q
 exact ⟨s, an, m, cn, ad, d, cd, k _ _ h1, k _ _ h2, k _ _ h3, h4.chg hb⟩
theorem RowAt.add {R : Bool} {w w' : World} {b off n : Nat} {t : Nat → Tri} (h : RowAt R w b off n t) (hb : Add w w') : RowAt R w' b off n t := h.chg (Chg.of_add (fun _ => False) hb) id
theorem RowAt.drop {R : Bool} {w : World} {b off n : Nat} {t : Nat → Tri} (h : RowAt R w b off n t) (k m : Nat) (hk : k + m ≤ n) : RowAt R w b (off + k * 3) m (fun i => t (k + i)) := by
 intro i hi
 obtain ⟨s, an, l, cn, ad, d, cd, h1, h2, h3, h4⟩ := h (k + i) (by omega)
 have e : off + (k + i) * 3 = off + k * 3 + i * 3 := by omega
 rw [e] at h1 h2 h3
 exact ⟨s, an, l, cn, ad, d, cd, h1, h2, h3, h4⟩
theorem RowAt.congr {R : Bool} {w : World} {b off n : Nat} {t t' : Nat → Tri} (h : RowAt R w b off n t) (ht : ∀ i, i < n → t i = t' i) : RowAt R w b off n t' := by
 intro i hi
 rw [← ht i hi]; exact h i hi
def RowP (R : Bool) (w : World) (v : Value) (n : Nat) (t : Nat → Tri) : Prop :=
 ∃ ao c, v = .slice ao n c ∧ n ≤ c ∧ c ≤ maxLen ∧ (0 < n → ∃ b off, ao = some ⟨b, off, none⟩ ∧ RowAt R w b off n t)
theorem RowP.add {R : Bool} {w w' : World} {v : Value} {n : Nat} {t : Nat → Tri} (h : RowP R w v n t) (hb : Add w w') : RowP R w' v n t := by
 obtain ⟨ao, c, e, h1, h2, h3⟩ := h
 refine ⟨ao, c, e, h1, h2, fun hn => ?_⟩
 obtain ⟨b, off, e, h4⟩ := h3 hn
 exact ⟨b, off, e, h4.add hb⟩
theorem RowP.congr {R : Bool} {w : World} {v : Value} {n : Nat} {t t' : Nat → Tri} (h : RowP R w v n t) (ht : ∀ i, i < n → t i = t' i) : RowP R w v n t' := by
 obtain ⟨ao, c, e, h1, h2, h3⟩ := h
 refine ⟨ao, c, e, h1, h2, fun hn => ?_⟩
 obtain ⟨b, off, e, h4⟩ := h3 hn
 exact ⟨b, off, e, h4.congr ht⟩
theorem RowP.get {R : Bool} {w : World} {a : Option Addr} {n n' c : Nat} {t : Nat → Tri} (h : RowP R w (.slice a n' c) n t) {i : Nat} (hi : i < n) :
 ∃ b off s an m cn ad d cd, a = some ⟨b, off, none⟩ ∧ n' = n ∧ w.cell? ⟨b, off + i * 3, none⟩ = some (.bool s) ∧ w.cell? ⟨b, off + i * 3 + 1, none⟩ = some (.slice an m cn) ∧ w.cell? ⟨b, off + i * 3 + 2, none⟩ = some (.slice ad d cd) ∧ El R w (.agg #[.bool s, .slice an m cn, .slice ad d cd]) (t i) := by
 obtain ⟨ao, c', e, h1, h2, h3⟩ := h
 simp only [Value.slice.injEq] at e
 obtain ⟨rfl, rfl, rfl⟩ := e
 obtain ⟨b, off, e, h4⟩ := h3 (by omega)
 obtain ⟨s, an, m, cn, ad, d, cd, g1, g2, g3, g4⟩ := h4 i hi
 exact ⟨b, off, s, an, m, cn, ad, d, cd, e, rfl, g1, g2, g3, g4⟩
theorem RowP.weak {R R' : Bool} {w : World} {v : Value} {n : Nat} {t : Nat → Tri} (h : RowP R w v n t) (hR : ∀ i v, i < n → El R w v (t i) → El R' w v (t i)) : RowP R' w v n t := by
 obtain ⟨ao, c, e, h1, h2, h3⟩ := h
 refine ⟨ao, c, e, h1, h2, fun hn => ?_⟩
 obtain ⟨b, off, e, h4⟩ := h3 hn
 refine ⟨b, off, e, fun i hi => ?_⟩
 obtain ⟨s, an, m, cn, ad, d, cd, g1, g2, g3, g4⟩ := h4 i hi
 exact ⟨s, an, m, cn, ad, d, cd, g1, g2, g3, hR i _ hi g4⟩
theorem RowP.list {w : World} {v : Value} {n : Nat} {t : Nat → Tri} (h : RowP false w v n t) (hn : n ≤ 100000) : FracsA w v ((List.range n).map t) := by
 obtain ⟨ao, c, e, h1, h2, h3⟩ := h
 refine ⟨ao, n, c, e, by simp, hn, fun i hi => ?_⟩
 obtain ⟨b, off, e, h4⟩ := h3 (by omega)
 obtain ⟨s, an, m, cn, ad, d, cd, g1, g2, g3, g4⟩ := h4 i hi
 refine ⟨b, off, s, an, m, cn, ad, d, cd, e, g1, g2, g3, ?_⟩
 have e2 : ((List.range n).map t).getD i (false, 0, 0) = t i := by simp [List.getD, hi]
 rw [e2]; exact g4
def MatP (R : Bool) (w : World) (v : Value) (n : Nat) (m : Nat → Nat) (X : Nat → Nat → Tri) : Prop :=
 ∃ ao c, v = .slice ao n c ∧ n ≤ c ∧ c ≤ maxLen ∧ (0 < n → ∃ b off, ao = some ⟨b, off, none⟩ ∧ ∀ i, i < n → ∃ u, w.cell? ⟨b, off + i, none⟩ = some u ∧ RowP R w u (m i) (X i))
theorem MatP.add {R : Bool} {w w' : World} {v : Value} {n : Nat} {m : Nat → Nat} {X : Nat → Nat → Tri} (h : MatP R w v n m X) (hb : Add w w') : MatP R w' v n m X := by
 obtain ⟨ao, c, e, h1, h2, h3⟩ := h
 refine ⟨ao, c, e, h1, h2, fun hn => ?_⟩
 obtain ⟨b, off, e, h4⟩ := h3 hn
 refine ⟨b, off, e, fun i hi => ?_⟩
 obtain ⟨u, g1, g2⟩ := h4 i hi
 exact ⟨u, (hb.cell (p := ⟨b, off + i, none⟩) (World.block_lt_of_cell? w _ g1)).trans g1, g2.add hb⟩
theorem MatP.isSlice {R : Bool} {w : World} {v : Value} {n : Nat} {m : Nat → Nat} {X : Nat → Nat → Tri} (h : MatP R w v n m X) : ∃ ao c, v = .slice ao n c ∧ n ≤ maxLen := by
 obtain ⟨ao, c, e, h1, h2, -⟩ := h
 exact ⟨ao, c, e, by omega⟩
theorem MatP.row {R : Bool} {w : World} {ao : Option Addr} {n n' c : Nat} {m : Nat → Nat} {X : Nat → Nat → Tri} (h : MatP R w (.slice ao n' c) n m X) {i : Nat} (hi : i < n) :
 ∃ b off a l, ao = some ⟨b, off, none⟩ ∧ m i ≤ 9223372036854775807 ∧ w.cell? ⟨b, off + i, none⟩ = some (.slice a (m i) l) ∧ RowP R w (.slice a (m i) l) (m i) (X i) := by
 obtain ⟨ao', c', e, h1, h2, h3⟩ := h
 simp only [Value.slice.injEq] at e
 obtain ⟨rfl, rfl, rfl⟩ := e
 obtain ⟨b, off, e, h4⟩ := h3 (by omega)
 obtain ⟨u, g1, g2⟩ := h4 i hi
 obtain ⟨a, l, rfl, k1, k2, -⟩ := id g2
 unfold maxLen at k2
 exact ⟨b, off, a, l, e, by omega, g1, g2⟩
theorem MatP.weak {R R' : Bool} {w : World} {v : Value} {n : Nat} {m : Nat → Nat} {X : Nat → Nat → Tri} (h : MatP R w v n m X) (hR : ∀ i j v, i < n → j < m i → El R w v (X i j) → El R' w v (X i j)) : MatP R' w v n m X := by
 obtain ⟨ao, c, e, h1, h2, h3⟩ := h
 refine ⟨ao, c, e, h1, h2, fun hn => ?_⟩
 obtain ⟨b, off, e, h4⟩ := h3 hn
 refine ⟨b, off, e, fun i hi => ?_⟩
 obtain ⟨u, g1, g2⟩ := h4 i hi
 exact ⟨u, g1, g2.weak fun j v hj => hR i j v hi hj⟩
def FBlk (w : World) (g n : Nat) (t : Nat → Tri) : Prop := ∃ cur : Array Value, w.heap[g]? = some (.cells cur 37 (0, 0)) ∧ cur.size = n * 3 ∧ RowAt true w g 0 n t
theorem FBlk.lt {w : World} {g n : Nat} {t : Nat → Tri} (h : FBlk w g n t) : g < w.heap.size := by
 obtain ⟨cur, h1, -⟩ := h; exact (Array.getElem?_eq_some_iff.1 h1).1
theorem FBlk.free {w : World} {g n : Nat} {t : Nat → Tri} (h : FBlk w g n t) (i : Nat) : w.frozen? ⟨g, i, none⟩ = false := by
 obtain ⟨cur, h1, -⟩ := h; exact frozen_of_row w g i cur 37 h1
theorem FBlk.chg {S : Nat → Prop} {w w' : World} {g n : Nat} {t : Nat → Tri} (h : FBlk w g n t) (hb : Chg S w w') (hn : ¬ S g) : FBlk w' g n t := by
 have hl := h.lt
 obtain ⟨cur, h1, h2, h3⟩ := h
 exact ⟨cur, (hb.block g hl hn).trans h1, h2, h3.chg hb hn⟩
theorem FBlk.add {w w' : World} {g n : Nat} {t : Nat → Tri} (h : FBlk w g n t) (hb : Add w w') : FBlk w' g n t := h.chg (Chg.of_add (fun _ => False) hb) id
theorem FBlk.congr {w : World} {g n : Nat} {t t' : Nat → Tri} (h : FBlk w g n t) (ht : ∀ i, i < n → t i = t' i) : FBlk w g n t' := by
 obtain ⟨cur, h1, h2, h3⟩ := h
 exact ⟨cur, h1, h2, h3.congr ht⟩
theorem FBlk.get {w : World} {g n : Nat} {t : Nat → Tri} (h : FBlk w g n t) {i : Nat} (hi : i < n) :
 ∃ s an m cn ad d cd, w.cell? ⟨g, i * 3, none⟩ = some (.bool s) ∧ w.cell? ⟨g, i * 3 + 1, none⟩ = some (.slice an m cn) ∧ w.cell? ⟨g, i * 3 + 2, none⟩ = some (.slice ad d cd) ∧ FracT w (.agg #[.bool s, .slice an m cn, .slice ad d cd]) (t i) := by
 obtain ⟨cur, h1, h2, h3⟩ := h
 have := h3 i hi
 rwa [Nat.zero_add] at this
theorem FBlk.row {w : World} {g n : Nat} {t : Nat → Tri} (h : FBlk w g n t) (hm : n ≤ maxLen) : RowP true w (.slice (some ⟨g, 0, none⟩) n n) n t := by
 obtain ⟨cur, h1, h2, h3⟩ := h
 exact ⟨_, n, rfl, Nat.le_refl _, hm, fun _ => ⟨g, 0, rfl, h3⟩⟩
def putF (w : World) (g i : Nat) (u0 u1 u2 : Value) : World := ((w.setCell ⟨g, i * 3, none⟩ u0).setCell ⟨g, i * 3 + 1, none⟩ u1).setCell ⟨g, i * 3 + 2, none⟩ u2
theorem FBlk.soft {w : World} {g n : Nat} {t : Nat → Tri} (h : FBlk w g n t) (j : Nat) (k : IntKind) (z : Int) : w.cell? ⟨g, j, none⟩ ≠ some (.int k z) := by
 obtain ⟨cur, h1, h2, h3⟩ := h
 intro e
 have e' := e
 rw [cell_of_row w g j cur 37 (0, 0) h1] at e
 have hj : j < n * 3 := by rw [← h2]; exact (Array.getElem?_eq_some_iff.1 e).1
 obtain ⟨s, an, m, cn, ad, d, cd, g1, g2, g3, -⟩ := h3 (j / 3) (by omega)
 rw [Nat.zero_add] at g1 g2 g3
 have hr : j % 3 = 0 ∨ j % 3 = 1 ∨ j % 3 = 2 := by omega
 rcases hr with hr | hr | hr
 · rw [show j / 3 * 3 = j by omega, e'] at g1; simp at g1
 · rw [show j / 3 * 3 + 1 = j by omega, e'] at g2; simp at g2
 · rw [show j / 3 * 3 + 2 = j by omega, e'] at g3; simp at g3
theorem chg_putF {S : Nat → Prop} {w : World} {g i : Nat} (hS : S g) (hs : ∀ j k z, w.cell? ⟨g, j, none⟩ ≠ some (.int k z)) (b : Bool) (an : Option Addr) (m cn : Nat) (ad : Option Addr) (d cd : Nat) :
 Chg S w (putF w g i (.bool b) (.slice an m cn) (.slice ad d cd)) :=
 ⟨rfl, rfl, rfl, by simp [putF], fun k _ hn => by
  have e : k ≠ g := fun e => hn (by rw [e]; exact hS)
  unfold putF
  rw [Below.heap_setCell _ _ _ k e, Below.heap_setCell _ _ _ k e, Below.heap_setCell _ _ _ k e], fun p k z hk hp => by
  have e : ∀ j, p ≠ ⟨g, j, none⟩ := fun j e => hs j k z (by rw [← e]; exact hp)
  unfold putF
  rw [cell_set_other rfl (e _), cell_set_other rfl (e _), cell_set_other rfl (e _)]; exact hp⟩
theorem FBlk.chgF {S : Nat → Prop} {w : World} {g n : Nat} {t : Nat → Tri} (h : FBlk w g n t) (hS : S g) (i : Nat) (b : Bool) (an : Option Addr) (m cn : Nat) (ad : Option Addr) (d cd : Nat) :
 Chg S w (putF w g i (.bool b) (.slice an m cn) (.slice ad d cd)) := chg_putF hS h.soft b an m cn ad d cd
theorem FBlk.put {w : World} {g n : Nat} {t : Nat → Tri} (h : FBlk w g n t) {i : Nat} (hi : i < n) {b : Bool} {an : Option Addr} {m cn : Nat} {ad : Option Addr} {d cd : Nat} {x : Tri} (hx : FracT w (.agg #[.bool b, .slice an m cn, .slice ad d cd]) x) :
 FBlk (putF w g i (.bool b) (.slice an m cn) (.slice ad d cd)) g n (fun j => if j = i then x else t j) := by
 have hc := h.chgF (S := fun k => k = g) rfl i b an m cn ad d cd
 obtain ⟨cur, h1, h2, h3⟩ := h
 have k1 := heap_setCell_same w g (i * 3) cur 37 (.bool b) h1
 have k2 := heap_setCell_same _ g (i * 3 + 1) _ 37 (.slice an m cn) k1
 have k3 := heap_setCell_same _ g (i * 3 + 2) _ 37 (.slice ad d cd) k2
 have hcell : ∀ j, (putF w g i (.bool b) (.slice an m cn) (.slice ad d cd)).cell? ⟨g, j, none⟩ = (((cur.setIfInBounds (i * 3) (.bool b)).setIfInBounds (i * 3 + 1) (.slice an m cn)).setIfInBounds (i * 3 + 2) (.slice ad d cd))[j]? := fun j => cell_of_row _ g j _ _ (0, 0) k3
 refine ⟨_, k3, by simpa using h2, fun j hj => ?_⟩
 by_cases e : j = i
 · subst e
   refine ⟨b, an, m, cn, ad, d, cd, ?_, ?_, ?_, ?_⟩
   · rw [hcell, Nat.zero_add, Array.getElem?_setIfInBounds_ne (by omega), Array.getElem?_setIfInBounds_ne (by omega), Array.getElem?_setIfInBounds_self_of_lt (by omega)]
   · rw [hcell, Nat.zero_add, Array.getElem?_setIfInBounds_ne (by omega), Array.getElem?_setIfInBounds_self_of_lt (by simp; omega)]
   · rw [hcell, Nat.zero_add, Array.getElem?_setIfInBounds_self_of_lt (by simp; omega)]
   · show FracT _ _ (if j = j then x else t j)
     rw [if_pos rfl]; exact hx.chg hc
 · obtain ⟨s, an', m', cn', ad', d', cd', g1, g2, g3, g4⟩ := h3 j hj
   rw [Nat.zero_add] at g1 g2 g3
   have far : ∀ o, o ≠ i * 3 → o ≠ i * 3 + 1 → o ≠ i * 3 + 2 → (putF w g i (.bool b) (.slice an m cn) (.slice ad d cd)).cell? ⟨g, o, none⟩ = w.cell? ⟨g, o, none⟩ := fun o e0 e1 e2 => by
    rw [hcell, Array.getElem?_setIfInBounds_ne (fun e => e2 e.symm), Array.getElem?_setIfInBounds_ne (fun e => e1 e.symm), Array.getElem?_setIfInBounds_ne (fun e => e0 e.symm), ← cell_of_row w g o cur 37 (0, 0) h1]
   refine ⟨s, an', m', cn', ad', d', cd', ?_, ?_, ?_, ?_⟩
   · rw [Nat.zero_add, far _ (by omega) (by omega) (by omega)]; exact g1
   · rw [Nat.zero_add, far _ (by omega) (by omega) (by omega)]; exact g2
   · rw [Nat.zero_add, far _ (by omega) (by omega) (by omega)]; exact g3
   · show FracT _ _ (if j = i then x else t j)
     rw [if_neg e]; exact FracT.chg g4 hc
end Go.Proofs.YtbeoeackahmpbaaGreatDoor
namespace Go.Proofs.YtbeoeackahmpbaaGreatDoor
open Go.RowKit NatM Go.Proofs.YtbeoeackahmpbaaGreatDoor.Api
set_option maxRecDepth 100000 in
set_option maxHeartbeats 1000000 in
theorem productN (p : Tri × Nat) {v v' : Value} {x y : Tri} {w : World} (hx : FracA w v x) (hy : FracA w v' y) (hT : Tab w) (hp : Hid (mulF x y = p)) : Calls Tryz.prog 81 #[v, v'] w (RetF w p.1) := by
 have hx0 := hx
 have hy0 := hy
 obtain ⟨an, n, cn, ad, d, cd, rfl, -, -⟩ := hx
 obtain ⟨an', n', cn', ad', d', cd', rfl, -, -⟩ := hy
 obtain ⟨T, hX, hY, hZ⟩ := start3 w x.1 an n cn ad d cd y.1 an' n' cn' ad' d' cd' false none 0 0 none 0 0
 have HC := Lib.hid (mulN' p (hx0.mono T) (hy0.mono T) (hT.mono T) hp)
 obtain ⟨⟨s, N, D⟩, c⟩ := p
 have x0 := hX.c0
 have x1 := hX.c1
 have x2 := hX.c2
 have y0 := hY.c0
 have y1 := hY.c1
 have y2 := hY.c2
 clear hx0 hy0 hX hY hp hT
 go_enter Tryz.func81, Tryz.ntmps81
 go_wp2_with fail
 refine HC.out.mono ?_
 rintro e w1 ⟨vr, rfl, hr, h1⟩
 have hr0 := hr
 obtain ⟨a2, n2, c2, e2, d2, k2, rfl, -, -⟩ := hr
 replace hZ := hZ.mono h1
 replace T := Add.trans T h1
 clear h1 HC x0 x1 x2 y0 y1 y2
 obtain ⟨tt, hO⟩ := laid_var w1 s a2 n2 c2 e2 d2 k2
 replace hZ := hZ.mono tt
 replace T := Add.trans T tt
 have hF := retF_put (w := w) (x := (s, N, D)) hZ (hr0.mono tt) T (by omega)
 have o0 := hO.c0
 have o1 := hO.c1
 have o2 := hO.c2
 have z0 := hZ.c0
 have z1 := hZ.c1
 have z2 := hZ.c2
 have z3 := hZ.fr 0
 have z4 := hZ.fr 1
 have z5 := hZ.fr 2
 clear hr0 hZ T tt hO
 unfold put3 at hF
 have HF := Lib.hid hF
 clear hF
 go_wp2_with fail
 exact bodyPost_ret (v := .agg #[.bool s, .slice a2 n2 c2, .slice e2 d2 k2]) (by simp [results, Tryz.results81, go_sem, z0, z1, z2]) rfl HF.out
set_option maxRecDepth 100000 in
set_option maxHeartbeats 1000000 in
theorem quotientN (p : Tri × Nat) {v v' : Value} {x y : Tri} {w : World} (hx : FracA w v x) (hy : FracA w v' y) (hT : Tab w) (hp : Hid (quoF x y = p)) : Calls Tryz.prog 57 #[v, v'] w (RetF w p.1) := by
 have hx0 := hx
 have hy0 := hy
 obtain ⟨an, n, cn, ad, d, cd, rfl, -, -⟩ := hx
 obtain ⟨an', n', cn', ad', d', cd', rfl, -, -⟩ := hy
 obtain ⟨T, hX, hY, hZ⟩ := start3 w x.1 an n cn ad d cd y.1 an' n' cn' ad' d' cd' false none 0 0 none 0 0
 have HC := Lib.hid (quoN' p (hx0.mono T) (hy0.mono T) (hT.mono T) hp)
 obtain ⟨⟨s, N, D⟩, c⟩ := p
 have x0 := hX.c0
 have x1 := hX.c1
 have x2 := hX.c2
 have y0 := hY.c0
 have y1 := hY.c1
 have y2 := hY.c2
 clear hx0 hy0 hX hY hp hT
 go_enter Tryz.func57, Tryz.ntmps57
 go_wp2_with fail
 refine HC.out.mono ?_
 rintro e w1 ⟨vr, rfl, hr, h1⟩
 have hr0 := hr
 obtain ⟨a2, n2, c2, e2, d2, k2, rfl, -, -⟩ := hr
 replace hZ := hZ.mono h1
 replace T := Add.trans T h1
 clear h1 HC x0 x1 x2 y0 y1 y2
 obtain ⟨tt, hO⟩ := laid_var w1 s a2 n2 c2 e2 d2 k2
 replace hZ := hZ.mono tt
 replace T := Add.trans T tt
 have hF := retF_put (w := w) (x := (s, N, D)) hZ (hr0.mono tt) T (by omega)
 have o0 := hO.c0
 have o1 := hO.c1
 have o2 := hO.c2
 have z0 := hZ.c0
 have z1 := hZ.c1
 have z2 := hZ.c2
 have z3 := hZ.fr 0
 have z4 := hZ.fr 1
 have z5 := hZ.fr 2
 clear hr0 hZ T tt hO
 unfold put3 at hF
 have HF := Lib.hid hF
 clear hF
 go_wp2_with fail
 exact bodyPost_ret (v := .agg #[.bool s, .slice a2 n2 c2, .slice e2 d2 k2]) (by simp [results, Tryz.results57, go_sem, z0, z1, z2]) rfl HF.out
set_option maxRecDepth 100000 in
set_option maxHeartbeats 1000000 in
theorem differenceN (p : Tri × Nat) {v v' : Value} {x y : Tri} {w : World} (hx : FracA w v x) (hy : FracA w v' y) (hT : Tab w) (hp : Hid (subF x y = p)) : Calls Tryz.prog 114 #[v, v'] w (RetF w p.1) := by
 have hx0 := hx
 have hy0 := hy
 obtain ⟨an, n, cn, ad, d, cd, rfl, -, -⟩ := hx
 obtain ⟨an', n', cn', ad', d', cd', rfl, -, -⟩ := hy
 obtain ⟨T, hX, hY, hZ⟩ := start3 w x.1 an n cn ad d cd y.1 an' n' cn' ad' d' cd' false none 0 0 none 0 0
 have HC := Lib.hid (subN' p (hx0.mono T) (hy0.mono T) (hT.mono T) hp)
 obtain ⟨⟨s, N, D⟩, c⟩ := p
 have x0 := hX.c0
 have x1 := hX.c1
 have x2 := hX.c2
 have y0 := hY.c0
 have y1 := hY.c1
 have y2 := hY.c2
 clear hx0 hy0 hX hY hp hT
 go_enter Tryz.func114, Tryz.ntmps114
 go_wp2_with fail
 refine HC.out.mono ?_
 rintro e w1 ⟨vr, rfl, hr, h1⟩
 have hr0 := hr
 obtain ⟨a2, n2, c2, e2, d2, k2, rfl, -, -⟩ := hr
 replace hZ := hZ.mono h1
 replace T := Add.trans T h1
 clear h1 HC x0 x1 x2 y0 y1 y2
 obtain ⟨tt, hO⟩ := laid_var w1 s a2 n2 c2 e2 d2 k2
 replace hZ := hZ.mono tt
 replace T := Add.trans T tt
 have hF := retF_put (w := w) (x := (s, N, D)) hZ (hr0.mono tt) T (by omega)
 have o0 := hO.c0
 have o1 := hO.c1
 have o2 := hO.c2
 have z0 := hZ.c0
 have z1 := hZ.c1
 have z2 := hZ.c2
 have z3 := hZ.fr 0
 have z4 := hZ.fr 1
 have z5 := hZ.fr 2
 clear hr0 hZ T tt hO
 unfold put3 at hF
 have HF := Lib.hid hF
 clear hF
 go_wp2_with fail
 exact bodyPost_ret (v := .agg #[.bool s, .slice a2 n2 c2, .slice e2 d2 k2]) (by simp [results, Tryz.results114, go_sem, z0, z1, z2]) rfl HF.out
set_option maxRecDepth 100000 in
set_option maxHeartbeats 1000000 in
theorem refAddL (p : Tri × Nat) {v v' : Value} {x y : Tri} {w : World} (hx : FracA w v x) (hy : FracA w v' y) (hp : Hid (addF x y = p)) : Calls Tryz.prog 60 #[v, v'] w (RetF w p.1) := by
 have hx0 := hx
 have hy0 := hy
 obtain ⟨an, n, cn, ad, d, cd, rfl, -, -⟩ := hx
 obtain ⟨an', n', cn', ad', d', cd', rfl, -, -⟩ := hy
 obtain ⟨T, hX, hY, hZ⟩ := start3 w x.1 an n cn ad d cd y.1 an' n' cn' ad' d' cd' false none 0 0 none 0 0
 have HC := Lib.hid (refAddN2 p (hx0.mono T) (hy0.mono T) hp)
 obtain ⟨⟨s, N, D⟩, c⟩ := p
 have x0 := hX.c0
 have x1 := hX.c1
 have x2 := hX.c2
 have y0 := hY.c0
 have y1 := hY.c1
 have y2 := hY.c2
 clear hx0 hy0 hX hY hp
 go_enter Tryz.func60, Tryz.ntmps60
 go_wp2_with fail
 refine HC.out.mono ?_
 rintro e w1 ⟨vr, rfl, hr, h1⟩
 have hr0 := hr
 obtain ⟨a2, n2, c2, e2, d2, k2, rfl, -, -⟩ := hr
 replace hZ := hZ.mono h1
 replace T := Add.trans T h1
 clear h1 HC x0 x1 x2 y0 y1 y2
 obtain ⟨tt, hO⟩ := laid_var w1 s a2 n2 c2 e2 d2 k2
 replace hZ := hZ.mono tt
 replace T := Add.trans T tt
 have hF := retF_put (w := w) (x := (s, N, D)) hZ (hr0.mono tt) T (by omega)
 have o0 := hO.c0
 have o1 := hO.c1
 have o2 := hO.c2
 have z0 := hZ.c0
 have z1 := hZ.c1
 have z2 := hZ.c2
 have z3 := hZ.fr 0
 have z4 := hZ.fr 1
 have z5 := hZ.fr 2
 clear hr0 hZ T tt hO
 unfold put3 at hF
 have HF := Lib.hid hF
 clear hF
 go_wp2_with fail
 exact bodyPost_ret (v := .agg #[.bool s, .slice a2 n2 c2, .slice e2 d2 k2]) (by simp [results, Tryz.results60, go_sem, z0, z1, z2]) rfl HF.out
set_option maxRecDepth 100000 in
set_option maxHeartbeats 1000000 in
theorem refMulL (p : Tri × Nat) {v v' : Value} {x y : Tri} {w : World} (hx : FracA w v x) (hy : FracA w v' y) (hp : Hid (mulF x y = p)) : Calls Tryz.prog 61 #[v, v'] w (RetF w p.1) := by
 have hx0 := hx
 have hy0 := hy
 obtain ⟨an, n, cn, ad, d, cd, rfl, -, -⟩ := hx
 obtain ⟨an', n', cn', ad', d', cd', rfl, -, -⟩ := hy
 obtain ⟨T, hX, hY, hZ⟩ := start3 w x.1 an n cn ad d cd y.1 an' n' cn' ad' d' cd' false none 0 0 none 0 0
 have HC := Lib.hid (refMulN2 p (hx0.mono T) (hy0.mono T) hp)
 obtain ⟨⟨s, N, D⟩, c⟩ := p
 have x0 := hX.c0
 have x1 := hX.c1
 have x2 := hX.c2
 have y0 := hY.c0
 have y1 := hY.c1
 have y2 := hY.c2
 clear hx0 hy0 hX hY hp
 go_enter Tryz.func61, Tryz.ntmps61
 go_wp2_with fail
 refine HC.out.mono ?_
 rintro e w1 ⟨vr, rfl, hr, h1⟩
 have hr0 := hr
 obtain ⟨a2, n2, c2, e2, d2, k2, rfl, -, -⟩ := hr
 replace hZ := hZ.mono h1
 replace T := Add.trans T h1
 clear h1 HC x0 x1 x2 y0 y1 y2
 obtain ⟨tt, hO⟩ := laid_var w1 s a2 n2 c2 e2 d2 k2
 replace hZ := hZ.mono tt
 replace T := Add.trans T tt
 have hF := retF_put (w := w) (x := (s, N, D)) hZ (hr0.mono tt) T (by omega)
 have o0 := hO.c0
 have o1 := hO.c1
 have o2 := hO.c2
 have z0 := hZ.c0
 have z1 := hZ.c1
 have z2 := hZ.c2
 have z3 := hZ.fr 0
 have z4 := hZ.fr 1
 have z5 := hZ.fr 2
 clear hr0 hZ T tt hO
 unfold put3 at hF
 have HF := Lib.hid hF
 clear hF
 go_wp2_with fail
 exact bodyPost_ret (v := .agg #[.bool s, .slice a2 n2 c2, .slice e2 d2 k2]) (by simp [results, Tryz.results61, go_sem, z0, z1, z2]) rfl HF.out
set_option maxRecDepth 100000 in
set_option maxHeartbeats 1000000 in
theorem integerN (p : Tri × Nat) {z : Int} {w : World} (hT : Tab w) (h : Hid (-9223372036854775808 ≤ z ∧ z ≤ 9223372036854775807)) (hp : Hid (makeF z 1 = p)) : Calls Tryz.prog 56 #[.int .i64 z] w (RetF w p.1) := by
 obtain ⟨T, hZ⟩ := laid_var w false none 0 0 none 0 0
 have HC := Lib.hid (makeN' p (hT.mono T) (Lib.hid (And.intro h.out (by decide))) hp)
 obtain ⟨⟨s, N, D⟩, c⟩ := p
 clear hp hT h
 go_enter Tryz.func56, Tryz.ntmps56
 go_wp2_with fail
 refine HC.out.mono ?_
 rintro e w1 ⟨vr, rfl, hr, h1⟩
 have hr0 := hr
 obtain ⟨a2, n2, c2, e2, d2, k2, rfl, -, -⟩ := hr
 replace hZ := hZ.mono h1
 replace T := Add.trans T h1
 clear h1 HC
 obtain ⟨tt, hO⟩ := laid_var w1 s a2 n2 c2 e2 d2 k2
 replace hZ := hZ.mono tt
 replace T := Add.trans T tt
 have hF := retF_put (w := w) (x := (s, N, D)) hZ (hr0.mono tt) T (by omega)
 have o0 := hO.c0
 have o1 := hO.c1
 have o2 := hO.c2
 have z0 := hZ.c0
 have z1 := hZ.c1
 have z2 := hZ.c2
 have z3 := hZ.fr 0
 have z4 := hZ.fr 1
 have z5 := hZ.fr 2
 clear hr0 hZ T tt hO
 unfold put3 at hF
 have HF := Lib.hid hF
 clear hF
 go_wp2_with fail
 exact bodyPost_ret (v := .agg #[.bool s, .slice a2 n2 c2, .slice e2 d2 k2]) (by simp [results, Tryz.results56, go_sem, z0, z1, z2]) rfl HF.out
set_option maxRecDepth 100000 in
theorem lisZeroN (t : Bool) {v : Value} {x : Tri} {w : World} (hx : FracT w v x) (h : Hid (decide (x.2.1 = 0) = t)) : Calls Tryz.prog 103 #[v] w (BoolIs w t) := by
 obtain ⟨an, n, cn, ad, d, cd, rfl, h1, -⟩ := hx
 obtain ⟨ao, n', c', e, hz, -⟩ := num_size h1
 simp only [Value.slice.injEq] at e
 obtain ⟨rfl, rfl, rfl⟩ := e
 obtain ⟨T, hX⟩ := start1 w x.1 an n cn ad d cd
 have x1 := hX.c1
 have hd : ((n : Int) == 0) = t := by
  rw [← h.out]
  by_cases e : n = 0
  · rw [decide_eq_true (hz.1 e)]; simp [e]
  · rw [decide_eq_false (fun q => e (hz.2 q))]; simp; omega
 have HD := Lib.hid hd
 have TT := Lib.hid T
 clear h h1 hz hX T hd
 go_enter Tryz.func103, Tryz.ntmps103
 go_wp2_with fail
 go_ret
 rw [HD.out]
 exact ⟨rfl, TT.out⟩
end Go.Proofs.YtbeoeackahmpbaaGreatDoor
namespace Go.Proofs.YtbeoeackahmpbaaGreatDoor
open Go.RowKit NatM Go.Proofs.YtbeoeackahmpbaaGreatDoor.Api
theorem lbitsN {v : Value} {N : Nat} {w : World} (hv : Num w v N) (hN : N < pw 128) : Calls Tryz.prog 76 #[v] w (IntP w (nb N)) := by
 obtain ⟨zs, r, cz, hval⟩ := hv
 have hz : tlen zs = zs.length := cz
 have := tlen_le_of_val (xs := zs) 128 (by rw [hval]; exact hN)
 rw [← hval]
 exact bits_any v zs w r (by omega)
theorem nb_one {N : Nat} : nb N = 1 ↔ N = 1 := by
 constructor
 · intro h
   have h0 : N ≠ 0 := fun e => by rw [e] at h; exact absurd h (by decide)
   have h1 := nb_half h0
   have h2 := nb_eq_zero (n := N / 2)
   omega
 · rintro rfl; rfl
theorem nb_den (d : Nat) : (if d = 1 then 0 else nb d) = if 1 < nb d then nb d else 0 := by
 by_cases c : d = 1
 · rw [if_pos c, if_neg (by rw [nb_one.2 c]; omega)]
 · rw [if_neg c]
   by_cases c0 : nb d = 0
   · rw [if_neg (by omega), c0]
   · have := mt nb_one.1 c
     rw [if_pos (by omega)]
def sumK (f : Nat → Nat) : Nat → Nat
 | 0 => 0
 | k + 1 => sumK f k + f k
theorem sumK_congr {f g : Nat → Nat} {n : Nat} (h : ∀ i, i < n → f i = g i) : sumK f n = sumK g n := by
 induction n with
 | zero => rfl
 | succ n ih => rw [sumK, sumK, ih fun i hi => h i (by omega), h n (by omega)]
theorem sumK_le {f : Nat → Nat} {c n : Nat} (h : ∀ i, i < n → f i ≤ c) : sumK f n ≤ n * c := by
 induction n with
 | zero => simp [sumK]
 | succ n ih =>
  rw [sumK, Nat.succ_mul]
  have := ih fun i hi => h i (by omega)
  have := h n (by omega)
  omega
theorem sumK_part {f : Nat → Nat} {k n : Nat} (h : k ≤ n) : sumK f k ≤ sumK f n := by
 induction n with
 | zero => have : k = 0 := by omega
           subst this; exact Nat.le_refl _
 | succ n ih =>
  by_cases c : k = n + 1
  · subst c; exact Nat.le_refl _
  · rw [sumK]; have := ih (by omega); omega
def wtF (t : Tri) : Nat := nb t.2.1 + (if t.2.2 = 1 then 0 else nb t.2.2)
def wtR (t : Nat → Tri) (m : Nat) : Nat := sumK (fun j => wtF (t j)) m
def wtM (X : Nat → Nat → Tri) (m : Nat → Nat) (n : Nat) : Nat := sumK (fun i => wtR (X i) (m i)) n
theorem wtF_le {t : Tri} (h : t.2.1 < pw 128 ∧ t.2.2 < pw 128) : wtF t ≤ 8192 := by
 have h1 := nb_lt_pw.1 h.1
 have h2 := nb_lt_pw.1 h.2
 unfold wtF
 split <;> omega
theorem wtR_le {t : Nat → Tri} {m k : Nat} (h : ∀ j, j < m → (t j).2.1 < pw 128 ∧ (t j).2.2 < pw 128) (hm : m ≤ 1000) (hk : k ≤ m) : wtR t k ≤ 8192000 := by
 have h1 : wtR t k ≤ k * 8192 := sumK_le fun j hj => wtF_le (h j (by omega))
 have h2 : k * 8192 ≤ 1000 * 8192 := Nat.mul_le_mul_right _ (by omega)
 omega
theorem wtM_le {X : Nat → Nat → Tri} {m : Nat → Nat} {n k : Nat} (h : ∀ i j, i < n → j < m i → (X i j).2.1 < pw 128 ∧ (X i j).2.2 < pw 128) (hm : ∀ i, i < n → m i ≤ 1000) (hn : n ≤ 1000) (hk : k ≤ n) : wtM X m k ≤ 8192000000 := by
 have h1 : wtM X m k ≤ k * 8192000 := sumK_le fun i hi => wtR_le (h i · (by omega)) (hm i (by omega)) (Nat.le_refl _)
 have h2 : k * 8192000 ≤ 1000 * 8192000 := Nat.mul_le_mul_right _ (by omega)
 omega
set_option maxRecDepth 100000 in
set_option maxHeartbeats 2000000 in
theorem weightN {w : World} {v : Value} {n : Nat} {m : Nat → Nat} {X : Nat → Nat → Tri} (h : MatP true w v n m X) (hs : ∀ i j, i < n → j < m i → (X i j).2.1 < pw 128 ∧ (X i j).2.2 < pw 128) (hn : n ≤ 1000) (hm : ∀ i, i < n → m i ≤ 1000) :
 Calls Tryz.prog 46 #[v] w (IntIs w (wtM X m n : Nat)) := by
 obtain ⟨ao, c, rfl, -⟩ := h.isSlice
 have HX := Lib.hid h
 have HS := Lib.hid hs
 have HM := Lib.hid hm
 clear h hs hm
 go_enter Tryz.func46, Tryz.ntmps46
 go_wp2_with fail
 go_loopw [11, 3] (fun i s wr => ∃ k : Nat, k ≤ n ∧ i = .int .i64 (k : Nat) ∧ s = .int .i64 (wtM X m k : Nat) ∧ Add w wr) (fun i _ _ => n - (intOf i).toNat)
 case atStart => exact ⟨0, Nat.zero_le _, rfl, rfl, Below.refl _ _⟩
 case round =>
  obtain ⟨k, hk, rfl, rfl, T⟩ := hrel
  obtain ⟨S, hS⟩ : ∃ S, S = wtM X m k := ⟨_, rfl⟩
  have hS1 : S ≤ 8192000000 := by rw [hS]; exact wtM_le HS.out HM.out hn hk
  rw [← hS]
  have HSS := Lib.hid hS
  clear hS
  by_cases h0 : k = n
  · subst h0
    have TT := Lib.hid T
    clear T
    go_wp2_with fail
    go_ret
    rw [HSS.out]
    exact ⟨rfl, TT.out⟩
  · have hlt : k < n := by omega
    obtain ⟨b, off, a, l, rfl, hm63, hcell, hrow⟩ := (HX.out.add T).row hlt
    obtain ⟨mk, hmk⟩ : ∃ q, q = m k := ⟨_, rfl⟩
    have hm1 : mk ≤ 1000 := by rw [hmk]; exact HM.out k hlt
    rw [← hmk] at hcell hrow
    have HR := Lib.hid hrow
    have HMK := Lib.hid hmk
    have TT := Lib.hid T
    clear hrow hm63 hmk T h0
    rename World => wm
    go_wp2_with fail
    go_loopw [17, 3] (fun i s wq => ∃ j : Nat, j ≤ mk ∧ i = .int .i64 (j : Nat) ∧ s = .int .i64 ((S + wtR (X k) j : Nat) : Int) ∧ Add wm wq) (fun i _ _ => mk - (intOf i).toNat)
    case atStart => exact ⟨0, Nat.zero_le _, rfl, rfl, Below.refl _ _⟩
    case round =>
     obtain ⟨j, hj, rfl, rfl, Tq⟩ := hrel
     obtain ⟨P, hP⟩ : ∃ P, P = S + wtR (X k) j := ⟨_, rfl⟩
     have hP1 : P ≤ 8200192000 := by rw [hP]; have := wtR_le (t := X k) (m := mk) (k := j) (fun j hj => HS.out k j hlt (by rw [← HMK.out]; exact hj)) hm1 hj; omega
     rw [← hP]
     have HPP := Lib.hid hP
     clear hP
     by_cases h1 : j = mk
     · have HF : Hid (P = wtM X m (k + 1)) := Lib.hid (by rw [HPP.out, HSS.out, h1, HMK.out]; rfl)
       have TQ := Lib.hid (Add.trans TT.out Tq)
       clear Tq hP1 HPP
       subst h1
       go_wp2_with fail
       go_roundw
       case rel => exact ⟨k + 1, by omega, by go_num, by rw [HF.out], TQ.out⟩
       case measure => simp [intOf]; omega
     · have hlt2 : j < mk := by omega
       obtain ⟨b2, off2, s, an, q, cn, ad, d, cd, rfl, -, c0, c1, c2, hx⟩ := (HR.out.add Tq).get hlt2
       obtain ⟨-, u1, u2⟩ := FracT.parts hx
       obtain ⟨T3, hO⟩ := laid_var wr s an q cn ad d cd
       have o1 := hO.c1
       have o2 := hO.c2
       obtain ⟨hs1, hs2⟩ := HS.out k j hlt (by rw [← HMK.out]; exact hlt2)
       obtain ⟨t, ht⟩ : ∃ t, X k j = t := ⟨_, rfl⟩
       rw [ht] at u1 u2 hs1 hs2
       obtain ⟨N1, hN1⟩ : ∃ q, nb t.2.1 = q := ⟨_, rfl⟩
       obtain ⟨N2, hN2⟩ : ∃ q, nb t.2.2 = q := ⟨_, rfl⟩
       have b1 : N1 ≤ 4096 := by rw [← hN1]; exact nb_lt_pw.1 hs1
       have b3 : N2 ≤ 4096 := by rw [← hN2]; exact nb_lt_pw.1 hs2
       have C1 := Lib.hid (lbitsN (u1.mono T3) hs1)
       rw [hN1] at C1
       have C2 := Lib.hid (lbitsN (u2.mono T3) hs2)
       rw [hN2] at C2
       have T4 := Add.trans Tq T3
       by_cases c : 1 < N2
       · have HF : Hid (P + N1 + N2 = S + wtR (X k) (j + 1)) := Lib.hid (by
          have e : wtR (X k) (j + 1) = wtR (X k) j + wtF (X k j) := rfl
          rw [HPP.out, e, ht]; unfold wtF; rw [nb_den, hN2, if_pos c, hN1]; omega)
         have TF := Lib.hid T4
         clear hx u1 u2 T3 hO hs1 hs2 T4 hN1 hN2 HPP Tq h1 ht
         go_wp2_with fail
         refine C1.out.mono ?_
         rintro e w3 ⟨rfl, rfl⟩
         go_wp2_with fail
         refine C2.out.mono ?_
         rintro e w4 ⟨rfl, rfl⟩
         clear C1 C2 c0 c1 c2 o1 o2
         go_wp2_with fail
         go_roundw
         case rel => exact ⟨j + 1, by omega, by go_num, by rw [← HF.out]; go_num, TF.out⟩
         case measure => simp [intOf]; omega
       · have HF : Hid (P + N1 = S + wtR (X k) (j + 1)) := Lib.hid (by
          have e : wtR (X k) (j + 1) = wtR (X k) j + wtF (X k j) := rfl
          rw [HPP.out, e, ht]; unfold wtF; rw [nb_den, hN2, if_neg c, hN1]; omega)
         have TF := Lib.hid T4
         clear hx u1 u2 T3 hO hs1 hs2 T4 hN1 hN2 HPP Tq h1 ht
         go_wp2_with fail
         refine C1.out.mono ?_
         rintro e w3 ⟨rfl, rfl⟩
         go_wp2_with fail
         refine C2.out.mono ?_
         rintro e w4 ⟨rfl, rfl⟩
         clear C1 C2 c0 c1 c2 o1 o2
         go_wp2_with fail
         go_roundw
         case rel => exact ⟨j + 1, by omega, by go_num, by rw [← HF.out]; go_num, TF.out⟩
         case measure => simp [intOf]; omega
end Go.Proofs.YtbeoeackahmpbaaGreatDoor
