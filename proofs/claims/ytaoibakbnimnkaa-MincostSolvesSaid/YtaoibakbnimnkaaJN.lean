/- Networks as arguments: how they read, and what stays of it. | The reference of layer 12: Valid. | The reference of layer 12: Value, for valid networks. -/
import Derived.Test.YtaoibakbnimnkaaJU
import Derived.Test.YtaoibakbnimnkaaJA
import Derived.LoopTactic
import Derived.Deep.QuietTactic
import Derived.BigQuiet
import Derived.OwnWalk
import Derived.RegionTactic

namespace Go.Proofs.Ytaoibakbnimnkaa
open Go.RowKit NetM

/-- v reads in w as the arcs A. -/
def ArcsA (w : World) (v : Value) (A : List Arc) : Prop :=
  ∃ (a : Option Addr) (m c : Nat), v = .slice a m c ∧ A.length = m ∧ m ≤ c ∧ c ≤ maxLen ∧ ∀ i, i < m → ∃ b off, a = some ⟨b, off, none⟩ ∧
    w.cell? ⟨b, off + i * 4, none⟩ = some (.int .i64 (at' A i).1) ∧ w.cell? ⟨b, off + i * 4 + 1, none⟩ = some (.int .i64 (at' A i).2.1) ∧
    w.cell? ⟨b, off + i * 4 + 2, none⟩ = some (.int .i64 (at' A i).2.2.1) ∧ w.cell? ⟨b, off + i * 4 + 3, none⟩ = some (.int .i64 (at' A i).2.2.2)
/-- v is the network with N nodes from s to t with the arcs A. -/
def NetA (w : World) (v : Value) (N s t : Int) (A : List Arc) : Prop := ∃ va, v = .agg #[.int .i64 N, .int .i64 s, .int .i64 t, va] ∧ ArcsA w va A
theorem ArcsA.below {w w' : World} {b : Nat} {v : Value} {A : List Arc} (h : ArcsA w v A) (hb : Below b w w') (hl : w.heap.size ≤ b) : ArcsA w' v A := by
  obtain ⟨a, m, c, rfl, h1, h2, h3, h4⟩ := h
  refine ⟨a, m, c, rfl, h1, h2, h3, fun i hi => ?_⟩
  obtain ⟨g, off, e, k0, k1, k2, k3⟩ := h4 i hi
  have k := fun (p : Addr) (u : Value) (q : w.cell? p = some u) => (hb.cell (p := p) (Nat.lt_of_lt_of_le (World.block_lt_of_cell? w _ q) hl)).trans q
  exact ⟨g, off, e, k _ _ k0, k _ _ k1, k _ _ k2, k _ _ k3⟩
theorem ArcsA.add {w w' : World} {v : Value} {A : List Arc} (h : ArcsA w v A) (hb : Add w w') : ArcsA w' v A := h.below hb (Nat.le_refl _)
theorem NetA.below {w w' : World} {b : Nat} {v : Value} {N s t : Int} {A : List Arc} (h : NetA w v N s t A) (hb : Below b w w') (hl : w.heap.size ≤ b) : NetA w' v N s t A := by
  obtain ⟨va, rfl, h⟩ := h
  exact ⟨va, rfl, h.below hb hl⟩
theorem NetA.add {w w' : World} {v : Value} {N s t : Int} {A : List Arc} (h : NetA w v N s t A) (hb : Add w w') : NetA w' v N s t A := h.below hb (Nat.le_refl _)
end Go.Proofs.Ytaoibakbnimnkaa

namespace Go.Proofs.Ytaoibakbnimnkaa
open Go.RowKit NetM

/-- A bool is returned; new blocks are laid at most. -/
def RetB (w : World) (b : Bool) (e : Ending) (w' : World) : Prop := e = .returned (.bool b) ∧ Add w w'
def okB (N : Int) (a : Arc) : Bool := decide (0 ≤ a.1 ∧ a.1 < N ∧ 0 ≤ a.2.1 ∧ a.2.1 < N ∧ 0 ≤ a.2.2.1 ∧ a.2.2.1 ≤ 2147483647)
def headB (N s t : Int) (m : Nat) : Bool := decide (2 ≤ N ∧ N ≤ 700 ∧ m ≤ 2500 ∧ 0 ≤ s ∧ s < N ∧ 0 ≤ t ∧ t < N ∧ s ≠ t)
def validB (N s t : Int) (A : List Arc) : Bool := headB N s t A.length && A.all (okB N)

theorem headB_cases {N s t : Int} {m : Nat} (h : headB N s t m = false) : N < 2 ∨ (2 ≤ N ∧ 700 < N) ∨ (2 ≤ N ∧ N ≤ 700 ∧ 2500 < m) ∨ (2 ≤ N ∧ N ≤ 700 ∧ m ≤ 2500 ∧ s < 0) ∨ (2 ≤ N ∧ N ≤ 700 ∧ m ≤ 2500 ∧ 0 ≤ s ∧ N ≤ s) ∨
    (2 ≤ N ∧ N ≤ 700 ∧ m ≤ 2500 ∧ 0 ≤ s ∧ s < N ∧ t < 0) ∨ (2 ≤ N ∧ N ≤ 700 ∧ m ≤ 2500 ∧ 0 ≤ s ∧ s < N ∧ 0 ≤ t ∧ N ≤ t) ∨ (2 ≤ N ∧ N ≤ 700 ∧ m ≤ 2500 ∧ 0 ≤ s ∧ s < N ∧ 0 ≤ t ∧ t < N ∧ s = t) := by
  have := of_decide_eq_false h
  omega
theorem okB_cases {N x y z u : Int} (h : okB N (x, y, z, u) = false) : x < 0 ∨ (0 ≤ x ∧ N ≤ x) ∨ (0 ≤ x ∧ x < N ∧ y < 0) ∨ (0 ≤ x ∧ x < N ∧ 0 ≤ y ∧ N ≤ y) ∨ (0 ≤ x ∧ x < N ∧ 0 ≤ y ∧ y < N ∧ z < 0) ∨ (0 ≤ x ∧ x < N ∧ 0 ≤ y ∧ y < N ∧ 0 ≤ z ∧ 2147483647 < z) := by
  have := of_decide_eq_false h
  dsimp only at this
  omega
theorem at_take {A : List Arc} {k : Nat} (h : k < A.length) : A.take (k + 1) = A.take k ++ [at' A k] := by
  rw [List.take_add_one]; simp [at', List.getD, h]
theorem at_mem {A : List Arc} {k : Nat} (h : k < A.length) : at' A k ∈ A := by unfold at'; simp [List.getD, h]

set_option maxRecDepth 100000 in
set_option maxHeartbeats 1000000 in
theorem refValid_no {w : World} {v : Value} {N s t : Int} {A : List Arc} (h : NetA w v N s t A) (hh : Hid (headB N s t A.length = false)) :
    Calls Try.prog 31 #[v] w (RetB w false) := by
  obtain ⟨va, rfl, ⟨a, m, c, rfl, hl, hc, hm, hcell⟩⟩ := h
  have h1 := headB_cases hh.out
  rw [hl] at h1
  clear hl hcell hh
  unfold maxLen at hm
  rcases h1 with h1 | ⟨h1, h2⟩ | ⟨h1, h2, h3⟩ | ⟨h1, h2, h3, h4⟩ | ⟨h1, h2, h3, h4, h5⟩ | ⟨h1, h2, h3, h4, h5, h6⟩ | ⟨h1, h2, h3, h4, h5, h6, h7⟩ | ⟨h1, h2, h3, h4, h5, h6, h7, rfl⟩
  all_goals
    go_enter Try.func31, Try.ntmps31
    go_wp2
    go_ret
    exact ⟨rfl, add_new _ _⟩
set_option maxRecDepth 100000 in
set_option maxHeartbeats 1000000 in
theorem refValid_head {w : World} {v : Value} {N s t : Int} {A : List Arc} (h : NetA w v N s t A) (hh : Hid (headB N s t A.length = true)) :
    Calls Try.prog 31 #[v] w (RetB w (A.all (okB N))) := by
  obtain ⟨va, rfl, ⟨a, m, c, rfl, hl, hc, hm, hcell⟩⟩ := h
  obtain ⟨k1, k2, k3, k4, k5, k6, k7, k8⟩ := of_decide_eq_true hh.out
  have HL := Lib.hid hl
  have HC := Lib.hid hcell
  rw [hl] at k3
  have d8 : (s == t) = false := by simpa using k8
  clear hl hcell hm hh k8
  obtain ⟨W0, hW0⟩ : ∃ W0, W0 = w.alloc (.cells #[.int .i64 N, .int .i64 s, .int .i64 t, .slice a m c] 24) := ⟨_, rfl⟩
  have HW0 : Hid (Add w W0 ∧ W0.heap[w.heap.size]? = some (.cells #[.int .i64 N, .int .i64 s, .int .i64 t, .slice a m c] 24 (0, 0))) := Lib.hid (by rw [hW0]; exact ⟨add_new _ _, heap_alloc_new _ _⟩)
  go_enter Try.func31, Try.ntmps31
  go_wp2
  rw [← hW0]
  clear hW0
  go_loopw [3] (fun i wr => ∃ k : Nat, k ≤ m ∧ i = .int .i64 k ∧ Hid ((A.take k).all (okB N) = true) ∧ Add W0 wr) (fun i _ => m - (intOf i).toNat)
  case atStart => exact ⟨0, Nat.zero_le _, rfl, Lib.hid (by simp), Below.refl _ _⟩
  case round =>
    obtain ⟨k, hk, rfl, hpre, hadd⟩ := hrel
    have hbox : wr.heap[w.heap.size]? = some (.cells #[.int .i64 N, .int .i64 s, .int .i64 t, .slice a m c] 24 (0, 0)) := (hadd.block _ (Array.getElem?_eq_some_iff.1 HW0.out.2).1).trans HW0.out.2
    have b0 : wr.cell? ⟨w.heap.size, 0, none⟩ = some (.int .i64 N) := (cell_of_row wr w.heap.size 0 _ _ _ hbox).trans rfl
    have b3 : wr.cell? ⟨w.heap.size, 3, none⟩ = some (.slice a m c) := (cell_of_row wr w.heap.size 3 _ _ _ hbox).trans rfl
    have hsz : w.heap.size < wr.heap.size := (Array.getElem?_eq_some_iff.1 hbox).1
    have hT := Add.trans HW0.out.1 hadd
    clear hbox
    by_cases hlt : k < m
    · obtain ⟨b, off, rfl, q0, q1, q2, q3⟩ := HC.out k hlt
      have kk := fun (p : Addr) (u : Value) (q : w.cell? p = some u) => (hT.cell (p := p) (World.block_lt_of_cell? w _ q)).trans q
      replace q0 := kk _ _ q0
      replace q1 := kk _ _ q1
      replace q2 := kk _ _ q2
      replace q3 := kk _ _ q3
      have hm1 := at_mem (A := A) (k := k) (by rw [HL.out]; exact hlt)
      have ht1 := at_take (A := A) (k := k) (by rw [HL.out]; exact hlt)
      obtain ⟨⟨x, y, z, u⟩, hx⟩ : ∃ x, at' A k = x := ⟨_, rfl⟩
      rw [hx] at q0 q1 q2 q3 hm1 ht1
      dsimp only at q0 q1 q2 q3
      have HM := Lib.hid hm1
      have HTK := Lib.hid ht1
      clear kk hx hm1 ht1
      have HT := Lib.hid hT
      clear hT
      cases hb : okB N (x, y, z, u) with
      | true =>
        obtain ⟨r1, r2, r3, r4, r5, r6⟩ := of_decide_eq_true hb
        dsimp only at r1 r2 r3 r4 r5 r6
        have HB := Lib.hid hb
        clear hb
        go_wp2
        go_roundw
        case rel => exact ⟨k + 1, by omega, by go_num, Lib.hid (by rw [HTK.out, List.all_append, hpre.out]; simp [HB.out]), hadd.alloc hadd.size _⟩
        case measure => simp [intOf]; omega
      | false =>
        have hF : RetB w (A.all (okB N)) (.returned (.bool false)) (wr.alloc (.cells #[.int .i64 x, .int .i64 y, .int .i64 z, .int .i64 u] 35)) := by
          refine ⟨?_, Add.trans HT.out (add_new _ _)⟩
          have : A.all (okB N) = false := by
            rw [Bool.eq_false_iff]
            intro h
            have := List.all_eq_true.1 h _ HM.out
            rw [hb] at this; cases this
          rw [this]
        have h1 := okB_cases hb
        have HF := Lib.hid hF
        clear hF hb
        rcases h1 with h1 | ⟨h1, h2⟩ | ⟨h1, h2, h3⟩ | ⟨h1, h2, h3, h4⟩ | ⟨h1, h2, h3, h4, h5⟩ | ⟨h1, h2, h3, h4, h5, h6⟩
        all_goals
          go_wp2
          go_ret
          exact HF.out
    · obtain rfl : k = m := by omega
      have hF : RetB w (A.all (okB N)) (.returned (.bool true)) wr := by
        refine ⟨?_, hT⟩
        have := hpre.out
        rw [List.take_of_length_le (by rw [HL.out]; exact Nat.le_refl _)] at this
        rw [this]
      have HF := Lib.hid hF
      clear hF hT hpre
      go_wp2
      go_ret
      exact HF.out
end Go.Proofs.Ytaoibakbnimnkaa

namespace Go.Proofs.Ytaoibakbnimnkaa
open Go.RowKit NetM

/-- A valid network. -/
def VNet (N s t : Nat) (A : List Arc) : Prop := okArcs N A ∧ s < N ∧ t < N ∧ s ≠ t ∧ 2 ≤ N ∧ N ≤ 700 ∧ A.length ≤ 2500
theorem VNet.head {N s t : Nat} {A : List Arc} (h : VNet N s t A) : headB N s t A.length = true := by
  obtain ⟨-, h1, h2, h3, h4, h5, h6⟩ := h
  exact decide_eq_true (by omega)
theorem VNet.all {N s t : Nat} {A : List Arc} (h : VNet N s t A) : A.all (okB N) = true :=
  List.all_eq_true.2 fun a ha => decide_eq_true (h.1 a ha)
theorem VNet.of {N s t : Int} {A : List Arc} (h : validB N s t A = true) : ∃ N' s' t' : Nat, N = N' ∧ s = s' ∧ t = t' ∧ VNet N' s' t' A := by
  unfold validB at h
  rw [Bool.and_eq_true] at h
  obtain ⟨h1, h2⟩ := h
  have k := of_decide_eq_true h1
  refine ⟨N.toNat, s.toNat, t.toNat, by omega, by omega, by omega, ?_, by omega, by omega, by omega, by omega, by omega, by omega⟩
  intro a ha
  have := of_decide_eq_true (List.all_eq_true.1 h2 a ha)
  unfold okArc
  omega
theorem refValid_yes {w : World} {v : Value} {N s t : Nat} {A : List Arc} (h : NetA w v N s t A) (hv : VNet N s t A) : Calls Try.prog 31 #[v] w (RetB w true) := by
  have := refValid_head h (Lib.hid hv.head)
  rwa [hv.all] at this
theorem refValid_not {w : World} {v : Value} {N s t : Int} {A : List Arc} (h : NetA w v N s t A) (hv : validB N s t A = false) : Calls Try.prog 31 #[v] w (RetB w false) := by
  unfold validB at hv
  cases hh : headB N s t A.length with
  | false => exact refValid_no h (Lib.hid hh)
  | true =>
    have := refValid_head h (Lib.hid hh)
    rw [hh, Bool.true_and] at hv
    rwa [hv] at this

/-- What leaves each node by the first k arcs. -/
def netL (N : Nat) (A : List Arc) (F : List Int) : List Int := (List.range N).map fun x : Nat => net (x : Int) A F
theorem netL_len (N : Nat) (A : List Arc) (F : List Int) : (netL N A F).length = N := by simp [netL]
theorem netL_get {N : Nat} {A : List Arc} {F : List Int} {x : Nat} (h : x < N) : (netL N A F).getD x 0 = net (x : Int) A F := by simp [netL, List.getD, h]
theorem netL_nil (N : Nat) : netL N [] [] = List.replicate N 0 := by
  unfold netL
  refine List.ext_getElem (by simp) fun i h1 h2 => ?_
  simp [net]
theorem netL_step {N x y : Nat} {A : List Arc} {F : List Int} {z u f p q : Int} (hl : F.length = A.length) (hx : x < N) (hy : y < N) (hp : p = (netL N A F).getD x 0 + f) (hq : q = ((netL N A F).set x p).getD y 0 - f) :
    ((netL N A F).set x p).set y q = netL N (A ++ [((x : Int), (y : Int), z, u)]) (F ++ [f]) := by
  rw [netL_get hx] at hp
  have hq2 : q = net (y : Int) A F + (if (x : Int) = (y : Int) then f else 0) - f := by
    rw [hq]
    by_cases c : x = y
    · subst c; simp [List.getD, netL_len, hx, hp]
    · have : ¬ ((x : Int) = (y : Int)) := by omega
      rw [if_neg this]
      simp only [List.getD]; rw [List.getElem?_set_ne c]
      have := netL_get (A := A) (F := F) hy
      simp only [List.getD] at this
      rw [this]; omega
  clear hq
  refine List.ext_getElem (by simp [netL]) fun i h1 h2 => ?_
  have hi : i < N := by simpa [netL] using h2
  have e3 : (netL N (A ++ [((x : Int), (y : Int), z, u)]) (F ++ [f]))[i] = net (i : Int) A F + (if (x : Int) = (i : Int) then f else 0) - (if (y : Int) = (i : Int) then f else 0) := by
    rw [← net_snoc (x := (i : Int)) (l := A) (f := F) ((x : Int), (y : Int), z, u) f hl]
    simp [netL]
  have e4 : ∀ k (hk : k < N), (netL N A F)[k]'(by simpa [netL] using hk) = net (k : Int) A F := fun k hk => by simp [netL]
  rw [e3, List.getElem_set]
  by_cases c1 : y = i
  · subst c1
    rw [if_pos rfl, if_pos rfl, hq2]
  · rw [if_neg c1, List.getElem_set]
    have : ¬ ((y : Int) = (i : Int)) := by omega
    rw [if_neg this]
    by_cases c2 : x = i
    · subst c2; rw [if_pos rfl, if_pos rfl, hp]; omega
    · have : ¬ ((x : Int) = (i : Int)) := by omega
      rw [if_neg c2, if_neg this, e4 i hi]; omega
theorem take_len {α : Type} {l : List α} {n k : Nat} (hl : l.length = n) (hk : k ≤ n) : (l.take k).length = k := by rw [List.length_take]; omega
theorem take_snocI {F : List Int} {k : Nat} (h : k < F.length) : F.take (k + 1) = F.take k ++ [F.getD k 0] := by
  rw [List.take_add_one]; simp [List.getD, h]
theorem within_snoc : ∀ {l : List Arc} {f : List Int} {a : Arc} {v : Int}, within l f → 0 ≤ v → v ≤ a.2.2.1 → within (l ++ [a]) (f ++ [v])
  | [], [], _, _, _, h0, h1 => ⟨⟨h0, h1⟩, trivial⟩
  | _ :: _, _ :: _, _, _, h, h0, h1 => ⟨h.1, within_snoc h.2 h0 h1⟩
  | [], _ :: _, _, _, h, _, _ => h.elim
  | _ :: _, [], _, _, h, _, _ => h.elim
/-- What Value returns for a valid network. -/
def ValP (w : World) (N s t : Nat) (A : List Arc) (F : List Int) (e : Ending) (w' : World) : Prop :=
  ∃ (v : Int) (b : Bool), e = .returned (.tuple #[.int .i64 v, .bool b]) ∧ Add w w' ∧ (b = true → isFlow N s t A F ∧ v = net s A F) ∧ (b = false → ¬ isFlow N s t A F ∧ v = 0)

theorem infoInt : (Try.prog.info? 3).map (fun i => (i.zero, i.size, i.bytes)) = some (some (.int .i64 0), 1, 8) := by kernel_rfl
theorem infoBool : (Try.prog.info? 4).map (fun i => (i.zero, i.size, i.bytes)) = some (some (.bool false), 1, 1) := by kernel_rfl
theorem IBlk.made {w1 : World} {base g n : Nat} (hown : w1.ownsRow base 3 1 (.slice (some ⟨g, 0, none⟩) n n) n (madeCells #[Value.int .i64 0] n).toList) : IBlk w1 g (List.replicate n 0) := by
  rcases hown.2 with ⟨e, _⟩ | ⟨g', cap, cur, e, hg, hgg, hn', hm', hs, ht⟩
  · simp at e
  · simp only [Value.slice.injEq, Option.some.injEq, Addr.mk.injEq, and_true, true_and] at e
    obtain ⟨rfl, rfl⟩ := e
    unfold IBlk Blk
    rw [hgg]
    have hh : cur = ((List.replicate n (0 : Int)).map iv).toArray := by
      rw [List.map_replicate]
      rw [toList_madeCells_one] at ht
      show cur = (List.replicate n (Value.int .i64 0)).toArray
      rw [← ht, List.take_of_length_le (by simp; omega)]
    rw [hh]
theorem BBlk.made {w1 : World} {base g n : Nat} (hown : w1.ownsRow base 4 1 (.slice (some ⟨g, 0, none⟩) n n) n (madeCells #[Value.bool false] n).toList) : BBlk w1 g (List.replicate n false) := by
  rcases hown.2 with ⟨e, _⟩ | ⟨g', cap, cur, e, hg, hgg, hn', hm', hs, ht⟩
  · simp at e
  · simp only [Value.slice.injEq, Option.some.injEq, Addr.mk.injEq, and_true, true_and] at e
    obtain ⟨rfl, rfl⟩ := e
    unfold BBlk Blk
    rw [hgg]
    have hh : cur = ((List.replicate n false).map bv).toArray := by
      rw [List.map_replicate]
      rw [toList_madeCells_one] at ht
      show cur = (List.replicate n (Value.bool false)).toArray
      rw [← ht, List.take_of_length_le (by simp; omega)]
    rw [hh]
end Go.Proofs.Ytaoibakbnimnkaa
