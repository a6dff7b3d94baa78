/- Package mincost: the frontier, a heap of package container/heap: its five methods. | Package mincost: the frontier's Push. -/
import Derived.Test.YtaoibakbnimnkaaY3
import Derived.Test.YtaoibakbnimnkaaJF
import Derived.Laws.OwnMore
import Derived.Deep.AppendLies

namespace Go.Proofs.Ytaoibakbnimnkaa
open Go.RowKit NetM

theorem infoReach : (Try.prog.info? 91).map (fun i => (i.zero, i.size, i.bytes)) = some (some (.agg #[.int .i64 0, .int .i64 0]), 2, 16) := by kernel_rfl
/-- The cells of a list of nodes and costs. -/
def flat : List NC → List Value
  | [] => []
  | e :: h => natv e.1 :: iv e.2 :: flat h
theorem flat_len : ∀ h : List NC, (flat h).length = h.length * 2
  | [] => rfl
  | e :: h => by simp only [flat, List.length_cons, flat_len h]; omega
theorem flat_app : ∀ (h k : List NC), flat (h ++ k) = flat h ++ flat k
  | [], _ => rfl
  | e :: h, k => by simp only [List.cons_append, flat, flat_app h k]
theorem flat_get : ∀ (h : List NC) (i : Nat), i < h.length → (flat h)[i * 2]? = some (natv (gH h i).1) ∧ (flat h)[i * 2 + 1]? = some (iv (gH h i).2)
  | [], _, hi => by simp at hi
  | e :: h, 0, _ => ⟨rfl, rfl⟩
  | e :: h, i + 1, hi => by
    have ih := flat_get h i (by simpa using hi)
    rw [show (i + 1) * 2 = i * 2 + 1 + 1 by omega]
    simp only [flat, List.getElem?_cons_succ]
    exact ih
theorem flat_set : ∀ (h : List NC) (i : Nat) (a : Nat) (c : Int), ((flat h).set (i * 2) (natv a)).set (i * 2 + 1) (iv c) = flat (h.set i (a, c))
  | [], i, a, c => rfl
  | e :: h, 0, a, c => rfl
  | e :: h, i + 1, a, c => by
    have ih := flat_set h i a c
    rw [show (i + 1) * 2 = i * 2 + 1 + 1 by omega]
    simp only [flat, List.set_cons_succ, ih]
theorem flat_take : ∀ (h : List NC) (n : Nat), (flat h).take (n * 2) = flat (h.take n)
  | [], n => by simp [flat]
  | e :: h, 0 => by simp [flat]
  | e :: h, n + 1 => by
    have ih := flat_take h n
    rw [show (n + 1) * 2 = n * 2 + 1 + 1 by omega]
    simp only [flat, List.take_succ_cons, ih]
/-- The frontier: its variable in block gn, its elements in block g. -/
def FrB (w : World) (base gn g n cap : Nat) (h : List NC) : Prop :=
  w.heap[gn]? = some (.cells #[.slice (some ⟨g, 0, none⟩) n cap] 88 (0, 0)) ∧ base ≤ gn ∧ n = h.length ∧ base ≤ g ∧ n ≤ cap ∧ cap ≤ maxLen ∧ w.ownsRow base 91 2 (.slice (some ⟨g, 0, none⟩) n cap) n (flat h)
theorem FrB.var {w : World} {base gn g n cap : Nat} {h : List NC} (f : FrB w base gn g n cap h) : w.cell? ⟨gn, 0, none⟩ = some (.slice (some ⟨g, 0, none⟩) n cap) := (cell_of_row w gn 0 _ _ _ f.1).trans rfl
theorem FrB.varFree {w : World} {base gn g n cap : Nat} {h : List NC} (f : FrB w base gn g n cap h) : w.frozen? ⟨gn, 0, none⟩ = false := frozen_of_row w gn 0 _ _ f.1
theorem FrB.lt {w : World} {base gn g n cap : Nat} {h : List NC} (f : FrB w base gn g n cap h) : gn < w.heap.size := (Array.getElem?_eq_some_iff.1 f.1).1
theorem FrB.blk {w : World} {base gn g n cap : Nat} {h : List NC} (f : FrB w base gn g n cap h) : ∃ cur, w.heap[g]? = some (.cells cur 91 (0, 0)) := (own_ty f.2.2.2.2.2.2 g rfl).2
theorem FrB.ne {w : World} {base gn g n cap : Nat} {h : List NC} (f : FrB w base gn g n cap h) : gn ≠ g := by
  obtain ⟨cur, hc⟩ := f.blk
  exact ty_ne f.1 hc (by decide)
theorem FrB.get {w : World} {base gn g n cap : Nat} {h : List NC} (f : FrB w base gn g n cap h) {i : Nat} (hi : i < n) : w.cell? ⟨g, i * 2, none⟩ = some (.int .i64 ((gH h i).1 : Nat)) ∧ w.cell? ⟨g, i * 2 + 1, none⟩ = some (.int .i64 (gH h i).2) ∧ ∀ j, w.frozen? ⟨g, j, none⟩ = false := by
  obtain ⟨-, -, hn, -, -, -, ho⟩ := f
  have k := flat_get h i (by omega)
  exact ⟨(ho.cellAt (i * 2) (by omega)).trans k.1, (ho.cellAt (i * 2 + 1) (by omega)).trans k.2, fun j => ho.frozenAt j⟩
theorem FrB.kept {w w' : World} {base gn g n cap : Nat} {h : List NC} {row : Option Nat} (f : FrB w base gn g n cap h) (hg : w.grownBy w' row) (h1 : row ≠ some gn) (h2 : row ≠ some g) : FrB w' base gn g n cap h := by
  have hl := f.lt
  obtain ⟨k1, k2, k3, k4, k5, k6, k7⟩ := f
  exact ⟨(hg.block gn hl (fun e => h1 e.symm)).trans k1, k2, k3, k4, k5, k6, k7.kept hg (.inr fun e => h2 e.symm)⟩
/-- One element is stored. -/
theorem FrB.put {w : World} {base gn g n cap : Nat} {h : List NC} (f : FrB w base gn g n cap h) (i a : Nat) (c : Int) :
    FrB ((w.setCell ⟨g, i * 2, none⟩ (.int .i64 a)).setCell ⟨g, i * 2 + 1, none⟩ (.int .i64 c)) base gn g n cap (h.set i (a, c)) := by
  have hne := f.ne
  obtain ⟨k1, k2, k3, k4, k5, k6, k7⟩ := f
  have s1 := k7.stored (i * 2) (natv a)
  have s2 := s1.1.stored (i * 2 + 1) (iv c)
  rw [flat_set] at s2
  refine ⟨?_, k2, by simpa using k3, k4, k5, k6, s2.1⟩
  have e1 : (w.setCell ⟨g, i * 2, none⟩ (.int .i64 a)).heap[gn]? = w.heap[gn]? := heap_setCell_other w ⟨g, i * 2, none⟩ gn _ hne
  have e2 : ((w.setCell ⟨g, i * 2, none⟩ (.int .i64 a)).setCell ⟨g, i * 2 + 1, none⟩ (.int .i64 c)).heap[gn]? = (w.setCell ⟨g, i * 2, none⟩ (.int .i64 a)).heap[gn]? := heap_setCell_other _ ⟨g, i * 2 + 1, none⟩ gn _ hne
  rw [e2, e1]; exact k1
/-- All blocks but these two are as they were; the second may be a new one. -/
structure Off (w w' : World) (gn g g' : Nat) : Prop where
  os : w'.os = w.os
  tape : w'.tape = w.tape
  output : w'.output = w.output
  size : w.heap.size ≤ w'.heap.size
  block : ∀ k, k < w.heap.size → k ≠ gn → k ≠ g → w'.heap[k]? = w.heap[k]?
  next : g' = g ∨ w.heap.size ≤ g'
theorem Off.trans {a b c : World} {gn g g' g'' : Nat} (h : Off a b gn g g') (k : Off b c gn g' g'') : Off a c gn g g'' where
  os := k.os.trans h.os
  tape := k.tape.trans h.tape
  output := k.output.trans h.output
  size := Nat.le_trans h.size k.size
  block := fun i hi h1 h2 => by
    have hne : i ≠ g' := by
      rcases h.next with e | e
      · rw [e]; exact h2
      · omega
    rw [k.block i (Nat.lt_of_lt_of_le hi h.size) h1 hne]
    exact h.block i hi h1 h2
  next := by
    rcases k.next with e | e
    · rw [e]; exact h.next
    · exact .inr (Nat.le_trans h.size e)
theorem Off.add {w w' : World} (gn g : Nat) (h : Add w w') : Off w w' gn g g := ⟨h.os, h.tape, h.output, h.size, fun k hk _ _ => h.block k hk, .inl rfl⟩
theorem Off.refl (w : World) (gn g : Nat) : Off w w gn g g := Off.add gn g (add_refl w)
theorem Off.set (w : World) (gn g i : Nat) (u : Value) : Off w (w.setCell ⟨g, i, none⟩ u) gn g g :=
  ⟨rfl, rfl, rfl, by simp, fun k _ _ hk => heap_setCell_other w ⟨g, i, none⟩ k u hk, .inl rfl⟩
theorem Off.below {w0 w w' : World} {gn g g' : Nat} (h : Off w w' gn g g') (h0 : Add w0 w) (h1 : w0.heap.size ≤ gn) (h2 : w0.heap.size ≤ g) : Add w0 w' :=
  ⟨h.os.trans h0.os, h.tape.trans h0.tape, h.output.trans h0.output, Nat.le_trans h0.size h.size, fun k hk => by
    rw [h.block k (Nat.lt_of_lt_of_le hk h0.size) (by omega) (by omega)]; exact h0.block k hk⟩

/-! ### Len, Less, Swap -/
set_option maxRecDepth 100000 in
theorem len_any {w : World} {a : Option Addr} {n c : Nat} : Calls Try.prog 58 #[.slice a n c] w fun e w' => e = .returned (.int .i64 n) ∧ w' = w := by
  go_enter Try.func58, Try.ntmps58
  go_wp2_with fail
  go_ret
  exact ⟨rfl, rfl⟩
set_option maxRecDepth 100000 in
theorem less_any {w : World} {base gn g n cap : Nat} {h : List NC} (f : FrB w base gn g n cap h) {i j : Nat} (hi : i < n) (hj : j < n) :
    Calls Try.prog 83 #[.slice (some ⟨g, 0, none⟩) n cap, .int .i64 i, .int .i64 j] w fun e w' => e = .returned (.bool (decide (key h i < key h j))) ∧ ∃ m, w' = w.drewN m := by
  obtain ⟨-, c1, -⟩ := f.get hi
  obtain ⟨-, c2, -⟩ := f.get hj
  have hc := f.2.2.2.2.1
  have hm := f.2.2.2.2.2.1
  unfold maxLen at hm
  obtain ⟨x, hx⟩ : ∃ x, x = key h i := ⟨_, rfl⟩
  obtain ⟨y, hy⟩ : ∃ y, y = key h j := ⟨_, rfl⟩
  unfold key at hx hy
  rw [← hx] at c1
  rw [← hy] at c2
  have HF : Hid (key h i = x ∧ key h j = y) := Lib.hid ⟨hx.symm, hy.symm⟩
  rw [HF.out.1, HF.out.2]
  clear hx hy f HF
  go_enter Try.func83, Try.ntmps83
  go_wp2_with fail
  go_quiet (fail)
  go_wp2_with fail
  go_ret
  exact ⟨rfl, _, rfl⟩
theorem still {w : World} {g p : Nat} {cur : Array Value} {T : TypeId} {v : Value} (hcur : w.heap[g]? = some (.cells cur T (0, 0))) (o : Nat) (u : Value) (hv : w.cell? ⟨g, p, none⟩ = some v) : ∃ v', (w.setCell ⟨g, o, none⟩ u).cell? ⟨g, p, none⟩ = some v' := by
  rw [cell_of_row _ g p _ _ (0, 0) (heap_setCell_same w g o cur _ u hcur)]
  rw [cell_of_row w g p _ _ (0, 0) hcur] at hv
  have hp : p < cur.size := (Array.getElem?_eq_some_iff.1 hv).1
  exact ⟨_, Array.getElem?_eq_getElem (by simpa using hp)⟩
set_option maxRecDepth 100000 in
theorem swap_any {w : World} {base gn g n cap : Nat} {h : List NC} (f : FrB w base gn g n cap h) {i j : Nat} (hi : i < n) (hj : j < n) :
    Calls Try.prog 86 #[.slice (some ⟨g, 0, none⟩) n cap, .int .i64 i, .int .i64 j] w fun e w' => e = .returned (.tuple #[]) ∧ FrB w' base gn g n cap (swp h i j) ∧ Off w w' gn g g := by
  obtain ⟨c0, c1, fr⟩ := f.get hi
  obtain ⟨d0, d1, -⟩ := f.get hj
  have hc := f.2.2.2.2.1
  have hm := f.2.2.2.2.2.1
  unfold maxLen at hm
  have HF : Hid (∀ w', Add ((((w.setCell ⟨g, i * 2, none⟩ (.int .i64 ((gH h j).1 : Nat))).setCell ⟨g, i * 2 + 1, none⟩ (.int .i64 (gH h j).2)).setCell ⟨g, j * 2, none⟩ (.int .i64 ((gH h i).1 : Nat))).setCell ⟨g, j * 2 + 1, none⟩ (.int .i64 (gH h i).2)) w' →
      FrB w' base gn g n cap (swp h i j) ∧ Off w w' gn g g) := Lib.hid fun w' hA => by
    have k1 := (f.put i (gH h j).1 (gH h j).2).put j (gH h i).1 (gH h i).2
    refine ⟨k1.kept (grownA_of hA) (by simp) (by simp), ?_⟩
    exact (((Off.set w gn g _ _).trans (Off.set _ gn g _ _)).trans ((Off.set _ gn g _ _).trans (Off.set _ gn g _ _))).trans (Off.add gn g hA)
  have l1 := f.2.2.2.2.2.2.lt g rfl
  obtain ⟨a, ha⟩ : ∃ a, a = (gH h i).1 := ⟨_, rfl⟩
  obtain ⟨x, hx⟩ : ∃ x, x = (gH h i).2 := ⟨_, rfl⟩
  obtain ⟨b, hb⟩ : ∃ b, b = (gH h j).1 := ⟨_, rfl⟩
  obtain ⟨y, hy⟩ : ∃ y, y = (gH h j).2 := ⟨_, rfl⟩
  rw [← ha] at c0 HF
  rw [← hx] at c1 HF
  rw [← hb] at d0 HF
  rw [← hy] at d1 HF
  obtain ⟨cur, hcur⟩ := f.blk
  obtain ⟨v0, e0⟩ := still hcur (i * 2) (.int .i64 (b : Nat)) d0
  obtain ⟨v1', e1'⟩ := still hcur (i * 2) (.int .i64 (b : Nat)) d1
  obtain ⟨v1, e1⟩ := still (heap_setCell_same w g (i * 2) cur _ (.int .i64 (b : Nat)) hcur) (i * 2 + 1) (.int .i64 y) e1'
  clear ha hx hb hy f hcur e1'
  go_enter Try.func86, Try.ntmps86
  go_region
  go_wp2_with fail
  go_end0
  exact ⟨rfl, HF.out _ (b_drew (Below.refl _ _))⟩
/-! ### Pop -/
theorem own_take {w : World} {base g n cap : Nat} {T : TypeId} {xs : List Value} (h : w.ownsRow base T 2 (.slice (some ⟨g, 0, none⟩) (n + 1) cap) (n + 1) xs) : w.ownsRow base T 2 (.slice (some ⟨g, 0, none⟩) n cap) n (xs.take (n * 2)) := by
  obtain ⟨h0, h1⟩ := h
  rcases h1 with ⟨h', _⟩ | ⟨g', cap', cur, h', hb, hg, hnc, hcm, hcs, htake⟩
  · simp at h'
  · simp only [Value.slice.injEq, Option.some.injEq, Addr.mk.injEq, and_true, true_and] at h'
    obtain ⟨rfl, rfl⟩ := h'
    refine ⟨by rw [List.length_take]; omega, .inr ⟨g, cap, cur, rfl, hb, hg, by omega, hcm, hcs, ?_⟩⟩
    rw [← htake, List.take_take, Nat.min_eq_left (by omega)]
theorem FrB.cut {w : World} {base gn g n cap : Nat} {h : List NC} (f : FrB w base gn g (n + 1) cap h) : FrB (w.setCell ⟨gn, 0, none⟩ (.slice (some ⟨g, 0, none⟩) n cap)) base gn g n cap (h.take n) := by
  have hne := f.ne
  obtain ⟨k1, k2, k3, k4, k5, k6, k7⟩ := f
  refine ⟨?_, k2, by rw [List.length_take]; omega, k4, by omega, k6, ?_⟩
  · rw [heap_setCell_same w gn 0 _ _ _ k1]; rfl
  · have := own_take k7
    rw [flat_take] at this
    exact this.kept (grown_set w gn 0 _) (.inr fun e => hne (Option.some.inj e).symm)
/-- An element in an interface. -/
def ncv (e : NC) : Value := .iface 91 (.agg #[.int .i64 (e.1 : Nat), .int .i64 e.2])
set_option maxRecDepth 100000 in
theorem fpop_any {w : World} {base gn g n cap : Nat} {h : List NC} (f : FrB w base gn g (n + 1) cap h) :
    Calls Try.prog 84 #[.pointer (some ⟨gn, 0, none⟩)] w fun e w' => e = .returned (ncv (gH h n)) ∧ FrB w' base gn g n cap (h.take n) ∧ Off w w' gn g g := by
  obtain ⟨c0, c1, fr⟩ := f.get (i := n) (by omega)
  have v0 := f.var
  have v1 := f.varFree
  have hc := f.2.2.2.2.1
  have hm := f.2.2.2.2.2.1
  unfold maxLen at hm
  have l1 := f.2.2.2.2.2.2.lt g rfl
  have l2 := f.lt
  have hne := f.ne
  have HF : Hid (∀ w', Add (w.setCell ⟨gn, 0, none⟩ (.slice (some ⟨g, 0, none⟩) n cap)) w' → FrB w' base gn g n cap (h.take n) ∧ Off w w' gn g g) := Lib.hid fun w' hA =>
    ⟨f.cut.kept (grownA_of hA) (by simp) (by simp), Off.trans (b := w.setCell ⟨gn, 0, none⟩ (.slice (some ⟨g, 0, none⟩) n cap)) ⟨rfl, rfl, rfl, by simp, fun k _ hk _ => heap_setCell_other w ⟨gn, 0, none⟩ k _ hk, .inl rfl⟩ (Off.add gn g hA)⟩
  have HR : Hid (ncv (gH h n) = .iface 91 (.agg #[.int .i64 ((gH h n).1 : Nat), .int .i64 (gH h n).2])) := Lib.hid rfl
  rw [HR.out]
  obtain ⟨a, ha⟩ : ∃ a, a = (gH h n).1 := ⟨_, rfl⟩
  obtain ⟨x, hx⟩ : ∃ x, x = (gH h n).2 := ⟨_, rfl⟩
  rw [← ha] at c0 ⊢
  rw [← hx] at c1 ⊢
  clear ha hx f HR
  go_enter Try.func84, Try.ntmps84
  go_wp2_with fail
  go_ret
  exact ⟨rfl, HF.out _ (add_new _ _)⟩
end Go.Proofs.Ytaoibakbnimnkaa

namespace Go.Proofs.Ytaoibakbnimnkaa
open Go.RowKit NetM

theorem FrB.push {w w6 : World} {base gn g n cap g6 cap6 : Nat} {h : List NC} {a : Nat} {c : Int} (f : FrB w base gn g n cap h) 
    (hown : w6.ownsRow base 91 2 (.slice (some ⟨g6, 0, none⟩) (n + 1) cap6) (n + 1) (flat h ++ [natv a, iv c])) (hg : w.grownBy w6 (some g)) (hat : g6 = g ∨ w.heap.size ≤ g6) :
    FrB (w6.setCell ⟨gn, 0, none⟩ (.slice (some ⟨g6, 0, none⟩) (n + 1) cap6)) base gn g6 (n + 1) cap6 (h ++ [(a, c)]) ∧ Off w (w6.setCell ⟨gn, 0, none⟩ (.slice (some ⟨g6, 0, none⟩) (n + 1) cap6)) gn g g6 := by
  have hne := f.ne
  have hl := f.lt
  obtain ⟨k1, k2, k3, k4, k5, k6, k7⟩ := f
  have k1' : w6.heap[gn]? = some (.cells #[.slice (some ⟨g, 0, none⟩) n cap] 88 (0, 0)) := (hg.block gn hl (fun e => hne (Option.some.inj e))).trans k1
  have hne6 : gn ≠ g6 := by
    rcases hat with e | e
    · rw [e]; exact hne
    · omega
  have hb : base ≤ g6 ∧ n + 1 ≤ cap6 ∧ cap6 ≤ maxLen := by
    rcases hown.2 with ⟨h', _⟩ | ⟨g', cap', cur, h', hb, hg', hnc, hcm, _⟩
    · simp at h'
    · simp only [Value.slice.injEq, Option.some.injEq, Addr.mk.injEq, and_true, true_and] at h'
      obtain ⟨rfl, rfl⟩ := h'
      exact ⟨hb, hnc, hcm⟩
  refine ⟨⟨?_, k2, by simp; omega, hb.1, hb.2.1, hb.2.2, ?_⟩, ?_⟩
  · rw [heap_setCell_same w6 gn 0 _ _ _ k1']; rfl
  · rw [flat_app]
    exact hown.kept (grown_set w6 gn 0 _) (.inr fun e => hne6 (Option.some.inj e).symm)
  · exact Off.trans (b := w6) ⟨hg.os, hg.tape, hg.output, hg.size, fun k hk _ h2 => hg.block k hk (fun e => h2 (Option.some.inj e)), hat⟩ ⟨rfl, rfl, rfl, by simp, fun k _ hk _ => heap_setCell_other w6 ⟨gn, 0, none⟩ k _ hk, .inl rfl⟩
set_option maxRecDepth 100000 in
set_option maxHeartbeats 4000000 in
theorem fpush_any {w : World} {base gn g n cap : Nat} {h : List NC} (f : FrB w base gn g n cap h) (hn : n ≤ 10000000000) (hbw : base ≤ w.heap.size) (a : Nat) (c : Int) :
    Calls Try.prog 85 #[.pointer (some ⟨gn, 0, none⟩), ncv (a, c)] w fun e w' => e = .returned (.tuple #[]) ∧ ∃ g' cap', FrB w' base gn g' (n + 1) cap' (h ++ [(a, c)]) ∧ Off w w' gn g g' := by
  obtain ⟨i2, hi2, hq0, hq1, hq2⟩ := info_parts infoReach
  have v0 := f.var
  have l2 := f.lt
  have HFR := Lib.hid f
  have hne := f.ne
  have HOWN : Hid (w.drew.ownsRow base 91 2 (.slice (some ⟨g, 0, none⟩) n cap) n (flat h)) := Lib.hid f.2.2.2.2.2.2.drew
  have HD : Hid (∀ o, Add w (w.drew.alloc o)) := Lib.hid fun o => Add.trans (b_drew (Below.refl _ _)) (add_new _ o)
  have HR : Hid (ncv (a, c) = .iface 91 (.agg #[.int .i64 (a : Nat), .int .i64 c])) := Lib.hid rfl
  have HV : Hid (∀ W : World, W.heap[gn]? = some (.cells #[.slice (some ⟨g, 0, none⟩) n cap] 88 (0, 0)) → W.cell? ⟨gn, 0, none⟩ = some (.slice (some ⟨g, 0, none⟩) n cap)) := Lib.hid fun W h => (cell_of_row W gn 0 _ _ _ h).trans rfl
  rw [HR.out]
  clear f HR
  go_enter Try.func85, Try.ntmps85
  have HCD : Hid (w.drew.cell? ⟨gn, 0, none⟩ = some (.slice (some ⟨g, 0, none⟩) n cap)) := Lib.hid (HV.out _ HFR.out.1)
  have HSD : Hid True := Lib.hid trivial
  have hta : ∀ W : World, (Instr.typeAssert (.iface 91 (.agg #[.int .i64 (a : Nat), .int .i64 c])) 20 91 false).run Try.prog W = .ok (.agg #[.int .i64 (a : Nat), .int .i64 c]) W := fun _ => by kernel_rfl
  go_upto_region 0 with fail
  refine wp_region_T (fun w' => True) (fun w' => w'.cell? ⟨gn, 0, none⟩ = some (.slice (some ⟨g, 0, none⟩) n cap)) 9 (by kernel_rfl) ?_
  show wpAnyT _ _ _ _ _ _ _ 10 #[false, false, false, false, false, false, false, false, false, false] _ _
  refine wpAnyT_take (i := 0) (v := ?_) (by simp only [List.getElem?_toArray, List.getElem?_cons_zero]; rfl) (by kernel_rfl) (by kernel_rfl) (by kernel_rfl) (by kernel_rfl) (by intro _ _ _ h; exact h) (Or.inl ⟨by rfl, ?_⟩) HSD.out HCD.out ?_
  rotate_left
  · intro w' hSw
    try dsimp only at hSw
    go_simp
    try with_reducible rfl
  try simp only [Act.put, List.setIfInBounds_toArray, List.set_cons_zero, List.set_cons_succ]
  refine wpAnyT_take (i := 1) (v := ?_) (by simp only [List.getElem?_toArray, List.getElem?_cons_zero, List.getElem?_cons_succ]; rfl) (by kernel_rfl) (by kernel_rfl) (by kernel_rfl) (by kernel_rfl) (by intro _ _ _ h; exact h) (Or.inl ⟨by rfl, ?_⟩) HSD.out HCD.out ?_
  rotate_left
  · intro w' hSw
    try dsimp only at hSw
    go_simp
    try with_reducible rfl
  try simp only [Act.put, List.setIfInBounds_toArray, List.set_cons_zero, List.set_cons_succ]
  refine wpAnyT_take (i := 2) (v := ?_) (by simp only [List.getElem?_toArray, List.getElem?_cons_zero, List.getElem?_cons_succ]; rfl) (by kernel_rfl) (by kernel_rfl) (by kernel_rfl) (by kernel_rfl) (by intro _ _ _ h; exact h) (Or.inl ⟨by rfl, ?_⟩) HSD.out HCD.out ?_
  rotate_left
  · intro w' hSw
    try dsimp only at hSw
    go_simp
    try with_reducible rfl
  try simp only [Act.put, List.setIfInBounds_toArray, List.set_cons_zero, List.set_cons_succ]
  refine wpAnyT_take (i := 3) (v := ?_) (by simp only [List.getElem?_toArray, List.getElem?_cons_zero, List.getElem?_cons_succ]; rfl) (by kernel_rfl) (by kernel_rfl) (by kernel_rfl) (by kernel_rfl) (by intro _ _ _ h; exact h) (Or.inl ⟨by rfl, ?_⟩) HSD.out HCD.out ?_
  rotate_left
  · intro w' hSw
    try dsimp only at hSw
    go_simp
    try with_reducible rfl
  try simp only [Act.put, List.setIfInBounds_toArray, List.set_cons_zero, List.set_cons_succ]
  refine wpAnyT_take (i := 4) (v := ?_) (by simp only [List.getElem?_toArray, List.getElem?_cons_zero, List.getElem?_cons_succ]; rfl) (by kernel_rfl) (by kernel_rfl) (by kernel_rfl) (by kernel_rfl) (by intro _ _ _ h; exact h) (Or.inl ⟨by rfl, ?_⟩) HSD.out HCD.out ?_
  rotate_left
  · intro w' hSw
    try dsimp only at hSw
    go_simp
    try with_reducible rfl
  try simp only [Act.put, List.setIfInBounds_toArray, List.set_cons_zero, List.set_cons_succ]
  refine wpAnyT_take (i := 5) (v := ?_) (by simp only [List.getElem?_toArray, List.getElem?_cons_zero, List.getElem?_cons_succ]; rfl) (by kernel_rfl) (by kernel_rfl) (by kernel_rfl) (by kernel_rfl) (by intro _ _ _ h; exact h) (Or.inl ⟨by rfl, ?_⟩) HSD.out HCD.out ?_
  rotate_left
  · intro w' hSw
    try dsimp only at hSw
    go_simp
    try with_reducible rfl
  try simp only [Act.put, List.setIfInBounds_toArray, List.set_cons_zero, List.set_cons_succ]
  refine wpAnyT_one (i := 6) (by kernel_rfl) (wpOp_do (by simp only [List.getElem?_toArray, List.getElem?_cons_zero, List.getElem?_cons_succ]; rfl) fun K hK => ?_)
  go_simp
  refine hK _ _ ⟨⟨trivial, fun _ => HV.out _ (addB HFR.out.1 (HD.out _))⟩, ?_⟩
  clear hK K
  try simp only [List.setIfInBounds_toArray, List.set_cons_zero, List.set_cons_succ]
  refine wpAnyT_one (i := 7) (by kernel_rfl) (wpOp_do (by simp only [List.getElem?_toArray, List.getElem?_cons_zero, List.getElem?_cons_succ]; rfl) fun K hK => ?_)
  refine step_append_lies _ rfl _ _ 88 rfl base 91 i2 (.agg #[.int .i64 0, .int .i64 0]) 2 16 Try.underlying88 hi2 hq0 hq1 hq2 rfl (by decide) (.slice (some ⟨g, 0, none⟩) n cap) n (flat h) rfl (World.ownsRow.alloc HOWN.out _) ⟨w.heap.size, 0, none⟩ 1 1 [.int .i64 (a : Nat), .int .i64 c] rfl rfl (World.news_of_block (heap_alloc_new (World.drew w) _)) (by intro u hu; simp at hu; rcases hu with rfl | rfl <;> rfl) (by decide) (by unfold maxLen; omega) (by omega) (by simp; omega) _ rfl ?_
  intro g6 cap6 w6 hown6 hgr6 hat6 hlt6
  have hF6 := kept_ty (addB HFR.out.1 (HD.out _)) (World.ownsRow.alloc HOWN.out _) hgr6 (by decide)
  have k6 := HV.out _ hF6
  have f6 := frozen_of_row w6 gn 0 _ _ hF6
  refine hK _ _ ⟨⟨trivial, fun _ => k6⟩, ?_⟩
  clear hK K
  try simp only [Act.put, List.setIfInBounds_toArray, List.set_cons_zero, List.set_cons_succ]
  refine wpAnyT_one (i := 8) (by kernel_rfl) (wpOp_do (by simp only [List.getElem?_toArray, List.getElem?_cons_zero, List.getElem?_cons_succ]; rfl) fun K hK => ?_)
  go_simp
  refine hK _ _ ⟨⟨trivial, fun _ => k6⟩, ?_⟩
  clear hK K
  try simp only [List.setIfInBounds_toArray, List.set_cons_zero, List.set_cons_succ]
  refine wpAnyT_one (i := 9) (by kernel_rfl) (wpOp_do (by simp only [List.getElem?_toArray, List.getElem?_cons_zero, List.getElem?_cons_succ]; rfl) fun K hK => ?_)
  go_simp
  refine hK _ _ ⟨⟨trivial, fun h => absurd (show true = false from h) (by decide)⟩, ?_⟩
  clear hK K
  try simp only [List.setIfInBounds_toArray, List.set_cons_zero, List.set_cons_succ]
  refine wpAnyT_done (by kernel_rfl) ?_ _
  have hfin := FrB.push (a := a) (c := c) (HFR.out.kept (grownA_of (HD.out _)) (by simp) (by simp)) hown6 hgr6 (by
    rcases hat6 with e | e
    · exact .inl (Option.some.inj e).symm
    · exact .inr (by rw [e]; exact Nat.le_refl _))
  go_wp2_with fail
  go_end0
  exact ⟨rfl, g6, cap6, hfin.1, (Off.add gn g (HD.out _)).trans hfin.2⟩
end Go.Proofs.Ytaoibakbnimnkaa
