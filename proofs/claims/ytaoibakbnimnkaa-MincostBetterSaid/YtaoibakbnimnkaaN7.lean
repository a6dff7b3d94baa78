/- The reference of layer 12: what lies in memory while it searches. -/
import Derived.Test.YtaoibakbnimnkaaJO
namespace Go.Proofs.Ytaoibakbnimnkaa
open Go.RowKit NetM

def natv (q : Nat) : Value := .int .i64 (q : Nat)
/-- A variable of type api.Arc lies in block g. -/
def ABox (w : World) (g : Nat) (x y z u : Int) : Prop := w.heap[g]? = some (.cells #[.int .i64 x, .int .i64 y, .int .i64 z, .int .i64 u] 35 (0, 0))
theorem ABox.c0 {w : World} {g : Nat} {x y z u : Int} (h : ABox w g x y z u) : w.cell? ⟨g, 0, none⟩ = some (.int .i64 x) := (cell_of_row w g 0 _ _ _ h).trans rfl
theorem ABox.c1 {w : World} {g : Nat} {x y z u : Int} (h : ABox w g x y z u) : w.cell? ⟨g, 1, none⟩ = some (.int .i64 y) := (cell_of_row w g 1 _ _ _ h).trans rfl
theorem ABox.c2 {w : World} {g : Nat} {x y z u : Int} (h : ABox w g x y z u) : w.cell? ⟨g, 2, none⟩ = some (.int .i64 z) := (cell_of_row w g 2 _ _ _ h).trans rfl
theorem ABox.lt {w : World} {g : Nat} {x y z u : Int} (h : ABox w g x y z u) : g < w.heap.size := (Array.getElem?_eq_some_iff.1 h).1
theorem ABox.add {w w' : World} {g : Nat} {x y z u : Int} (h : ABox w g x y z u) (hb : Add w w') : ABox w' g x y z u := (hb.block g h.lt).trans h
theorem abox_new (w : World) (x y z u : Int) : ABox (w.alloc (.cells #[.int .i64 x, .int .i64 y, .int .i64 z, .int .i64 u] 35)) w.heap.size x y z u := heap_alloc_new w _
/-- The state of the search: seen in block gs, by in block gb, the queue tv; n in its variable. w0: the world of the call. -/
def RS (w0 w : World) (N s t : Nat) (a : Option Addr) (m c gs gb : Nat) (S : List Bool) (Y : List Int) (Q : List Nat) (tv : Value) : Prop :=
  ∃ gq off, Que w (w0.heap.size + 1) gq off 3 tv (Q.map natv) ∧ BBlk w gs S ∧ IBlk w gb Y ∧ NBox w w0.heap.size N s t a m c ∧ Add w0 w ∧ gq ≠ gs ∧ gq ≠ gb
theorem RS.add {w0 w w' : World} {N s t : Nat} {a : Option Addr} {m c gs gb : Nat} {S : List Bool} {Y : List Int} {Q : List Nat} {tv : Value} (h : RS w0 w N s t a m c gs gb S Y Q tv) (hb : Add w w') : RS w0 w' N s t a m c gs gb S Y Q tv := by
  obtain ⟨gq, off, h1, h2, h3, h4, h5, h6⟩ := h
  exact ⟨gq, off, h1.add hb, Blk.add h2 hb, Blk.add h3 hb, h4.add hb, Add.trans h5 hb, h6⟩
theorem add_setLow {w0 w : World} (h : Add w0 w) {g : Nat} (hg : w0.heap.size ≤ g) (i : Nat) (u : Value) : Add w0 (w.setCell ⟨g, i, none⟩ u) := Below.setCell h (by exact hg) u
/-- A node is marked. -/
theorem RS.mark {w0 w : World} {N s t : Nat} {a : Option Addr} {m c gs gb : Nat} {S : List Bool} {Y : List Int} {Q : List Nat} {tv : Value} (h : RS w0 w N s t a m c gs gb S Y Q tv) (hne : gs ≠ gb) (h1 : w0.heap.size < gs) (h2 : w0.heap.size < gb) (z : Nat) (v : Int) :
    RS w0 ((w.setCell ⟨gs, z, none⟩ (.bool true)).setCell ⟨gb, z, none⟩ (.int .i64 v)) N s t a m c gs gb (S.set z true) (Y.set z v) Q tv := by
  obtain ⟨gq, off, k1, k2, k3, k4, k5, k6, k7⟩ := h
  refine ⟨gq, off, (k1.other k6 _ _).other k7 _ _, Blk.other (BBlk.put k2 z true) hne _ _, IBlk.put (Blk.other k3 (Ne.symm hne) _ _) z v, ?_, add_setLow (add_setLow k5 (Nat.le_of_lt h1) _ _) (Nat.le_of_lt h2) _ _, k6, k7⟩
  unfold NBox
  rw [heap_setCell_other _ ⟨gb, z, none⟩ _ _ (by dsimp only; omega), heap_setCell_other _ ⟨gs, z, none⟩ _ _ (by dsimp only; omega)]
  exact k4
/-- A node is put behind the queue. -/
theorem RS.push {w0 w : World} {N s t : Nat} {a : Option Addr} {m c gs gb : Nat} {S : List Bool} {Y : List Int} {Q : List Nat} {tv : Value} (h : RS w0 w N s t a m c gs gb S Y Q tv) (z : Nat) (ad : Addr) (cc : Nat) (hz : w.cell? ad = some (natv z)) (hl : Q.length ≤ 100000) :
    ∃ tv' w', (Builtin.append_ #[25, 25] 25 #[tv, .slice (some ad) 1 cc]).run Try.prog w = .ok tv' w' ∧ RS w0 w' N s t a m c gs gb S Y (Q ++ [z]) tv' ∧
      (∀ ga x y p q, ABox w ga x y p q → (∀ gq off, Que w (w0.heap.size + 1) gq off 3 tv (Q.map natv) → gq ≠ ga) → ABox w' ga x y p q) := by
  obtain ⟨i0, hi, hz0, hz1, hz2⟩ := info_parts infoInt
  obtain ⟨gq, off, k1, k2, k3, k4, k5, k6, k7⟩ := h
  obtain ⟨tv', w', g', off', r1, r2, r3, r4⟩ := run_que (P := Try.prog) 25 25 i0 (.int .i64 0) 8 Try.underlying25 hi hz0 hz1 hz2 rfl k1 ad cc hz rfl (by rw [List.length_map]; unfold maxLen; omega) (by rw [List.length_map]; omega)
  have s1 := Blk.lt k2
  have s2 := Blk.lt k3
  have hq := k1.lt
  refine ⟨tv', w', r1, ⟨g', off', by rw [List.map_append]; exact r2, Blk.kept k2 r3 (fun e => k6 (Option.some.inj e).symm), Blk.kept k3 r3 (fun e => k7 (Option.some.inj e).symm), (r3.block _ k4.lt (fun e => by have := Option.some.inj e; omega)).trans k4, Below.grown k5 r3 k5.size (fun k e => by have := Option.some.inj e; omega), ?_, ?_⟩, ?_⟩
  · rcases r4 with rfl | rfl
    · exact k6
    · omega
  · rcases r4 with rfl | rfl
    · exact k7
    · omega
  · intro ga x y p q hA hne
    exact (r3.block _ hA.lt (fun e => hne gq off k1 (Option.some.inj e).symm)).trans hA
theorem RS.far {w0 w : World} {N s t : Nat} {a : Option Addr} {m c gs gb : Nat} {S : List Bool} {Y : List Int} {Q : List Nat} {tv : Value} (h : RS w0 w N s t a m c gs gb S Y Q tv) {w' : World} {base gq off : Nat} {T : TypeId} {xs : List Value} (k : Que w' base gq off T tv xs) : gq < w.heap.size := by
  obtain ⟨g, o, k1, -⟩ := h
  have h1 := k1.lt.2
  obtain ⟨cap, cur, e, -⟩ := k1
  obtain ⟨cap', cur', e', -⟩ := k
  rw [e] at e'
  simp only [Value.slice.injEq, Option.some.injEq, Addr.mk.injEq] at e'
  omega
/-- The state behind the first test of a round: arc k leads from fx to ty. -/
def Half (w0 W : World) (N s t : Nat) (a : Option Addr) (m c gs gb : Nat) (A : List Arc) (F : List Int) (p x k : Nat) (ga fx ty : Nat) (z u : Int) (S : List Bool) (Y : List Int) (Q : List Nat) (tv : Value) : Prop :=
  RS w0 W N s t a m c gs gb S Y Q tv ∧ Bfs A F N s S Y Q p ∧ Closed A F N S Q x k ∧ getB S x = true ∧ ABox W ga fx ty z u ∧ (fx = x → F.getD k 0 < z → getB S ty = true) ∧ Add w0 W
theorem half_no {w0 wr : World} {N s t : Nat} {a : Option Addr} {m c gs gb : Nat} {A : List Arc} {F : List Int} {p x k fx ty : Nat} {z u : Int} {S : List Bool} {Y : List Int} {Q : List Nat} {tv : Value}
    (h : RS w0 wr N s t a m c gs gb S Y Q tv) (hb : Bfs A F N s S Y Q p) (hc : Closed A F N S Q x k) (hx : getB S x = true) (hn : ¬ (fx = x ∧ getB S ty = false ∧ F.getD k 0 < z)) (q : Nat) :
    Half w0 ((wr.alloc (.cells #[.int .i64 (fx : Nat), .int .i64 (ty : Nat), .int .i64 z, .int .i64 u] 35)).drewN q) N s t a m c gs gb A F p x k wr.heap.size fx ty z u S Y Q tv := by
  have hA := Add.trans (add_new wr (.cells #[.int .i64 (fx : Nat), .int .i64 (ty : Nat), .int .i64 z, .int .i64 u] 35)) (add_drewN _ q)
  refine ⟨h.add hA, hb, hc, hx, (abox_new wr _ _ _ _).add (add_drewN _ q), fun h1 h2 => ?_, ?_⟩
  · cases e : getB S ty with
    | true => rfl
    | false => exact absurd ⟨h1, e, h2⟩ hn
  · obtain ⟨_, _, _, _, _, _, h5, _⟩ := h
    exact Add.trans h5 hA
theorem half_yes {w0 wr : World} {N s t : Nat} {a : Option Addr} {m c gs gb : Nat} {A : List Arc} {F : List Int} {p x k ty fx : Nat} {z u : Int} {S : List Bool} {Y : List Int} {Q : List Nat} {tv : Value}
    (hfx : fx = x) (h : RS w0 wr N s t a m c gs gb S Y Q tv) (hb : Bfs A F N s S Y Q p) (hc : Closed A F N S Q x k) (hx : getB S x = true) (hxN : x < N) (hyN : ty < N) (hN : N ≤ 700) (sy : getB S ty = false) (hr : Room A F k x ty) (hne : gs ≠ gb) (h1 : w0.heap.size < gs) (h2 : w0.heap.size < gb) (q : Nat) {W4 : World}
    (hW : W4 = (((wr.alloc (.cells #[.int .i64 (fx : Nat), .int .i64 (ty : Nat), .int .i64 z, .int .i64 u] 35)).drewN q).setCell ⟨gs, ty, none⟩ (.bool true)).setCell ⟨gb, ty, none⟩ (.int .i64 (k : Nat))) :
    ABox W4 wr.heap.size fx ty z u ∧ ∃ tv' W', (Builtin.append_ #[25, 25] 25 #[tv, .slice (some ⟨W4.heap.size, 0, none⟩) 1 1]).run Try.prog (W4.alloc (.cells #[.int .i64 (ty : Nat)] 3)) = .ok tv' W' ∧
      Half w0 W' N s t a m c gs gb A F p x k wr.heap.size fx ty z u (S.set ty true) (Y.set ty (k : Int)) (Q ++ [ty]) tv' := by
  subst hfx
  have hA := Add.trans (add_new wr (.cells #[.int .i64 (fx : Nat), .int .i64 (ty : Nat), .int .i64 z, .int .i64 u] 35)) (add_drewN _ q)
  have hz : ∀ g, (∃ v, BBlk wr g v) → g < wr.heap.size := fun g ⟨v, hv⟩ => Blk.lt hv
  obtain ⟨gq, off, k1, k2, k3, k4, k5, k6, k7⟩ := id h
  have l1 := Blk.lt k2
  have l2 := Blk.lt k3
  have hS : S.length = N := hb.1
  have hQ : Q.length ≤ 100000 := by
    have := cnt_le S
    have := hb.2.2.2.2.1
    omega
  have hM := (h.add hA).mark hne h1 h2 ty (k : Int)
  rw [← hW] at hM
  have hAB : ABox W4 wr.heap.size fx ty z u := by
    rw [hW]
    unfold ABox
    rw [heap_setCell_other _ ⟨gb, ty, none⟩ _ _ (by dsimp only; omega), heap_setCell_other _ ⟨gs, ty, none⟩ _ _ (by dsimp only; omega)]
    exact (abox_new wr _ _ _ _).add (add_drewN _ q)
  have hN1 := add_new W4 (.cells #[.int .i64 (ty : Nat)] 3)
  have hM2 := hM.add hN1
  obtain ⟨tv', W', hrun, hR, hkeep⟩ := hM2.push ty ⟨W4.heap.size, 0, none⟩ 1 ((cell_of_row _ W4.heap.size 0 _ _ _ (heap_alloc_new W4 _)).trans rfl) hQ
  have hg := hb.grow hxN hx hyN sy hr
  refine ⟨hAB, tv', W', hrun, hR, hg, hc.grow (by omega), getB_mono (by omega) hx, hkeep _ _ _ _ _ (hAB.add hN1) (fun g o hq => Nat.ne_of_lt (h.far hq)), fun _ _ => by rw [getB_set S ty ty (by omega), if_pos rfl], ?_⟩
  obtain ⟨_, _, _, _, _, _, h5, _⟩ := hR
  exact h5
theorem half_two {w0 W5 W6 : World} {N s t : Nat} {a : Option Addr} {m c gs gb : Nat} {A : List Arc} {F : List Int} {p x k fx : Nat} {S : List Bool} {Y : List Int} {Q : List Nat} {tv : Value} {v : Int} {i : Nat}
    (h : RS w0 W5 N s t a m c gs gb S Y Q tv) (hb : Bfs A F N s S Y Q p) (hc : Closed A F N S Q x k) (hx : getB S x = true) (hxN : x < N) (hfN : fx < N) (hN : N ≤ 700) (sy : getB S fx = false) (hr : Room A F i x fx) (hv : v = (i : Int)) (hne : gs ≠ gb) (h1 : w0.heap.size < gs) (h2 : w0.heap.size < gb)
    (hW : W6 = World.drew ((W5.setCell ⟨gs, fx, none⟩ (.bool true)).setCell ⟨gb, fx, none⟩ (.int .i64 v))) :
    ∃ tv' W', (Builtin.append_ #[25, 25] 25 #[tv, .slice (some ⟨W6.heap.size, 0, none⟩) 1 1]).run Try.prog (W6.alloc (.cells #[.int .i64 (fx : Nat)] 3)) = .ok tv' W' ∧
      RS w0 W' N s t a m c gs gb (S.set fx true) (Y.set fx v) (Q ++ [fx]) tv' ∧ Bfs A F N s (S.set fx true) (Y.set fx v) (Q ++ [fx]) p ∧ Closed A F N (S.set fx true) (Q ++ [fx]) x k := by
  subst hv
  have hS : S.length = N := hb.1
  have hQ : Q.length ≤ 100000 := by
    have := cnt_le S
    have := hb.2.2.2.2.1
    omega
  have hM := (h.mark hne h1 h2 fx (i : Int)).add (b_drew (Below.refl _ _))
  rw [← hW] at hM
  obtain ⟨tv', W', hrun, hR, -⟩ := (hM.add (add_new W6 (.cells #[.int .i64 (fx : Nat)] 3))).push fx ⟨W6.heap.size, 0, none⟩ 1 ((cell_of_row _ W6.heap.size 0 _ _ _ (heap_alloc_new W6 _)).trans rfl) hQ
  exact ⟨tv', W', hrun, hR, hb.grow hxN hx hfN sy hr, hc.grow (by omega)⟩
theorem close_step {A : List Arc} {F : List Int} {N : Nat} {S : List Bool} {Q : List Nat} {x k fx ty : Nat} {z u : Int} (h : Closed A F N S Q x k) (hx : at' A k = ((fx : Int), (ty : Int), z, u))
    (h1 : fx = x → F.getD k 0 < z → getB S ty = true) (h2 : ty = x → 0 < F.getD k 0 → getB S fx = true) : Closed A F N S Q x (k + 1) := by
  refine h.step ?_ ?_
  · rw [hx]
    intro e1 e2 zz e3
    dsimp only at e1 e2 e3
    have : zz = ty := by omega
    rw [this]; exact h1 (by omega) e2
  · rw [hx]
    intro e1 e2 zz e3
    dsimp only at e1 e3
    have : zz = fx := by omega
    rw [this]; exact h2 (by omega) e2
/-- What reach returns. -/
def Reached (A : List Arc) (F : List Int) (N s : Nat) (S : List Bool) (Y : List Int) : Prop := S.length = N ∧ Y.length = N ∧ getB S s = true ∧ (∃ rk, Tree A F N s S Y rk) ∧ ∃ x0, Closed A F N S [] x0 A.length
def ReachP (w : World) (N s : Nat) (A : List Arc) (F : List Int) (e : Ending) (w' : World) : Prop :=
  ∃ gs gb S Y, e = .returned (.tuple #[.slice (some ⟨gs, 0, none⟩) N N, .slice (some ⟨gb, 0, none⟩) N N]) ∧ BBlk w' gs S ∧ IBlk w' gb Y ∧ Reached A F N s S Y ∧ Add w w' ∧ w.heap.size ≤ gs ∧ w.heap.size ≤ gb ∧ gs ≠ gb
end Go.Proofs.Ytaoibakbnimnkaa
