/- The law FractionSums: its walk, for all arguments.
(With the texts that are joined here: Lists of fractions as arguments: as they came in, cut, and the guard on long ones. | Lists of fractions that are built by append: their cells, and the append onto a list of the call's own.) -/
import Derived.Test.YtiboebgnbnafdaaGreatDoorZG
import Derived.Test.YtiboebgnbnafdaaGreatDoorZF
import Derived.Maps.AppendAt
import Derived.Laws.OwnMore
import Derived.Deep.AppendLies
import Derived.Deep.RegionHeld3

namespace Go.Proofs.YtiboebgnbnafdaaGreatDoor
open Go.RowKit NatM Go.Proofs.YtiboebgnbnafdaaGreatDoor.Api

/-- What came in as one fraction. -/
abbrev FrL := Bool × List Nat × List Nat
def triOf (x : FrL) : Tri := (x.1, val x.2.1, val x.2.2)
/-- A list of fractions as it came in. -/
def FracsI (w : World) (v : Value) (L : List FrL) : Prop := ∃ (a : Option Addr) (n c : Nat), v = .slice a n c ∧ L.length = n ∧ n ≤ c ∧ c ≤ maxLen ∧ (a = none → n = 0 ∧ c = 0) ∧
  ∀ i, i < n → ∃ b off s an m cn ad d cd, a = some ⟨b, off, none⟩ ∧ w.cell? ⟨b, off + i * 3, none⟩ = some (.bool s) ∧ w.cell? ⟨b, off + i * 3 + 1, none⟩ = some (.slice an m cn) ∧ w.cell? ⟨b, off + i * 3 + 2, none⟩ = some (.slice ad d cd) ∧
    FracI w (.agg #[.bool s, .slice an m cn, .slice ad d cd]) (L.getD i (false, [], [])).1 (L.getD i (false, [], [])).2.1 (L.getD i (false, [], [])).2.2
def longL (L : List FrL) : Bool := L.any fun x => longB x.2.1 x.2.2
theorem FracsI.arg {w : World} {v : Value} {L : List FrL} (h : FracsI w v L) (hl : longL L = false) (hn : L.length ≤ 12) : FracsA w v (L.map triOf) := by
  obtain ⟨a, n, c, rfl, he, -, -, -, h⟩ := h
  refine ⟨a, n, c, rfl, by rw [List.length_map, he], by omega, fun i hi => ?_⟩
  obtain ⟨b, off, s, an, m, cn, ad, d, cd, h1, h2, h3, h4, h5⟩ := h i hi
  refine ⟨b, off, s, an, m, cn, ad, d, cd, h1, h2, h3, h4, ?_⟩
  have hi' : i < L.length := by omega
  have e : (L.map triOf).getD i (false, 0, 0) = triOf (L.getD i (false, [], [])) := by simp [List.getD, hi']
  rw [e]
  refine h5.arg ?_
  have hm : L.getD i (false, [], []) ∈ L := by simp [List.getD, hi']
  cases hb : longB (L.getD i (false, [], [])).2.1 (L.getD i (false, [], [])).2.2
  · rfl
  · have : longL L = true := List.any_eq_true.2 ⟨_, hm, hb⟩
    rw [hl] at this; cases this
set_option maxRecDepth 100000 in
set_option maxHeartbeats 1000000 in
theorem longL_is (b : Bool) {v : Value} {L : List FrL} {w : World} (hv : FracsI w v L) (hn : Hid (L.length ≤ 12)) (hb : Hid (longL L = b)) :
    Calls Tryz.prog 12 #[v] w (Long2P w b) := by
  obtain ⟨ao, n, c, rfl, hl, -, -, -, hc⟩ := hv
  have HL := Lib.hid hl
  have HC := Lib.hid hc
  have HB := hb
  have hn1 : n ≤ 12 := by have := hn.out; omega
  clear hl hc hb hn
  go_enter Tryz.func12, Tryz.ntmps12
  go_wp2_with fail
  go_loop [3] (fun i => ∃ k : Nat, k ≤ n ∧ i = .int .i64 (k : Nat) ∧ Hid (longL (L.take k) = false)) (fun i => n - (intOf i).toNat)
  case atStart => exact ⟨0, Nat.zero_le _, rfl, Lib.hid (by simp [longL])⟩
  case round =>
    obtain ⟨k, hk, rfl, hpre⟩ := hrel
    by_cases hlt : k < n
    · have dlt : decide (k < n) = true := decide_eq_true hlt
      obtain ⟨g, off, s, an, m, cn, ad, m2, cd, rfl, q0, q1, q2, a1, l1, c1, a2, l2, c2, he, r1, r2⟩ := HC.out k hlt
      simp only [Value.agg.injEq, Array.mk.injEq, List.cons.injEq, Value.bool.injEq, Value.slice.injEq, and_true] at he
      obtain ⟨rfl, ⟨rfl, rfl, rfl⟩, rfl, rfl, rfl⟩ := he
      have e1 := r1.lenV
      have e2 := r2.lenV
      have hget : L[k]? = some (L.getD k (false, [], [])) := by
        have h1 : k < L.length := by rw [HL.out]; exact hlt
        simp [List.getD, h1]
      obtain ⟨xk, hxk⟩ : ∃ x, L.getD k (false, [], []) = x := ⟨_, rfl⟩
      rw [hxk] at e1 e2 hget
      have hT : longB xk.2.1 xk.2.2 = (decide (24 < m) || decide (24 < m2)) := by
        unfold longB
        have g1 : lenV (.slice an m cn) = m := rfl
        have g2 : lenV (.slice ad m2 cd) = m2 := rfl
        rw [g1] at e1
        rw [g2] at e2
        rw [← e1, ← e2]
      have HG := Lib.hid hget
      have HTL := Lib.hid hT
      clear r1 r2 hget hT hxk e1 e2
      have hF : longB xk.2.1 xk.2.2 = true → Long2P w b (.returned (.bool true)) w := by
        intro ht
        refine ⟨?_, rfl⟩
        rw [← HB.out]
        have : longL L = true := List.any_eq_true.2 ⟨_, List.mem_of_getElem? HG.out, ht⟩
        rw [this]
      have HF := Lib.hid hF
      clear hF
      by_cases h1 : 24 < m
      · have d1 : decide ((24 : Int) < (m : Int)) = true := by simp; omega
        have hr := HF.out (by rw [HTL.out, decide_eq_true h1]; rfl)
        have HR := Lib.hid hr
        clear hr HF h1
        go_wp2_with fail
        go_ret
        exact HR.out
      · have d1 : decide ((24 : Int) < (m : Int)) = false := by simp; omega
        by_cases h2 : 24 < m2
        · have d2 : decide ((24 : Int) < (m2 : Int)) = true := by simp; omega
          have hr := HF.out (by rw [HTL.out, decide_eq_true h2]; simp)
          have HR := Lib.hid hr
          clear hr HF h1 h2
          go_wp2_with fail
          go_ret
          exact HR.out
        · have d2 : decide ((24 : Int) < (m2 : Int)) = false := by simp; omega
          have E := Lib.hid (show longB xk.2.1 xk.2.2 = false by rw [HTL.out, decide_eq_false h1, decide_eq_false h2]; rfl)
          clear h1 h2 HF HTL
          go_wp2_with fail
          go_round
          case rel =>
            refine ⟨k + 1, by omega, by go_num, Lib.hid ?_⟩
            have hp := hpre.out
            unfold longL at hp ⊢
            rw [List.take_add_one, List.any_append, hp, HG.out]
            simp [E.out]
          case measure => simp [intOf]; omega
    · have dlt : decide (k < n) = false := decide_eq_false hlt
      obtain rfl : k = n := by omega
      have hF : Long2P w b (.returned (.bool false)) w := by
        refine ⟨?_, rfl⟩
        have h1 := hpre.out
        rw [List.take_of_length_le (by rw [HL.out]; exact Nat.le_refl _), HB.out] at h1
        rw [h1]
      go_wp2_with fail
      go_ret
      exact hF
theorem FracsA.cutL {w : World} {a : Option Addr} {n c : Nat} {L : List Tri} (h : FracsA w (.slice a n c) L) {k : Nat} (hk : k ≤ n) (c' : Nat) : FracsA w (.slice a k c') (L.take k) := by
  obtain ⟨a', n', c2, e, hl, hn, h⟩ := h
  simp only [Value.slice.injEq] at e
  obtain ⟨rfl, rfl, rfl⟩ := e
  refine ⟨a, k, c', rfl, by rw [List.length_take]; omega, by omega, fun i hi => ?_⟩
  obtain ⟨b, off, s, an, m, cn, ad, d, cd, h1, h2, h3, h4, h5⟩ := h i (by omega)
  refine ⟨b, off, s, an, m, cn, ad, d, cd, h1, h2, h3, h4, ?_⟩
  have e : (L.take k).getD i (false, 0, 0) = L.getD i (false, 0, 0) := by simp [List.getD, hi]
  rw [e]; exact h5
theorem FracsA.cutR {w : World} {a a2 : Option Addr} {n c : Nat} {L : List Tri} (h : FracsA w (.slice a n c) L) {k : Nat} (hk : k ≤ n) (c' : Nat)
    (ha : k < n → ∀ b off, a = some ⟨b, off, none⟩ → a2 = some ⟨b, off + k * 3, none⟩) : FracsA w (.slice a2 (n - k) c') (L.drop k) := by
  obtain ⟨a', n', c2, e, hl, hn, h⟩ := h
  simp only [Value.slice.injEq] at e
  obtain ⟨rfl, rfl, rfl⟩ := e
  refine ⟨a2, n - k, c', rfl, by rw [List.length_drop]; omega, by omega, fun i hi => ?_⟩
  obtain ⟨b, off, s, an, m, cn, ad, d, cd, h1, h2, h3, h4, h5⟩ := h (k + i) (by omega)
  have e0 : off + (k + i) * 3 = off + k * 3 + i * 3 := by omega
  rw [e0] at h2 h3 h4
  refine ⟨b, off + k * 3, s, an, m, cn, ad, d, cd, ha (by omega) b off h1, h2, h3, h4, ?_⟩
  have e : (L.drop k).getD i (false, 0, 0) = L.getD (k + i) (false, 0, 0) := by simp [List.getD, List.getElem?_drop]
  rw [e]; exact h5
/-- All of them valid, of at most 8 limbs: what the sums are. -/
theorem sum_good {L : List Tri} (h : ∀ x ∈ L, Sz 8 x) (hl : L.length ≤ 12) : sumF (false, 0, 1) L = (can (sumQ L), 0) ∧ Sz 118 (can (sumQ L)) := by
  have := sumF_ok L 0 1 sz0 h (by omega)
  rw [can0, Rat.zero_add] at this
  exact ⟨this.1, this.2.up (by omega)⟩
theorem sum_bad {L : List Tri} (h : ∀ x ∈ L, x.2.1 < pw 8 ∧ x.2.2 < pw 8) (hl : L.length ≤ 12) (hx : ∃ x ∈ L, okF x = false) : sumF (false, 0, 1) L = ((false, 0, 0), 1) := by
  have := sumF_bad L 0 1 sz0 h (by omega) hx
  rwa [can0] at this
theorem FracsI.mono {w w' : World} {v : Value} {L : List FrL} (h : FracsI w v L) (hb : Add w w') : FracsI w' v L := by
  obtain ⟨a, n, c, rfl, hl, h1, h2, h3, h⟩ := h
  refine ⟨a, n, c, rfl, hl, h1, h2, h3, fun i hi => ?_⟩
  obtain ⟨b, off, s, an, m, cn, ad, d, cd, g1, g2, g3, g4, a1, l1, k1, a2, l2, k2, e, r1, r2⟩ := h i hi
  have k := fun (p : Addr) (v : Value) (g : w.cell? p = some v) => (hb.cell (p := p) (World.block_lt_of_cell? w _ g)).trans g
  exact ⟨b, off, s, an, m, cn, ad, d, cd, g1, k _ _ g2, k _ _ g3, k _ _ g4, a1, l1, k1, a2, l2, k2, e, r1.mono hb, r2.mono hb⟩
/-- The parts have at most 8 limbs. -/
def short8 (x : FrL) : Bool := decide (x.2.1.length ≤ 8) && decide (x.2.2.length ≤ 8)
theorem FracsI.cell {w : World} {a : Option Addr} {n c : Nat} {L : List FrL} (h : FracsI w (.slice a n c) L) {k : Nat} (hk : k < n) :
    ∃ b off s an m cn ad d cd, a = some ⟨b, off, none⟩ ∧ w.cell? ⟨b, off + k * 3, none⟩ = some (.bool s) ∧ w.cell? ⟨b, off + k * 3 + 1, none⟩ = some (.slice an m cn) ∧ w.cell? ⟨b, off + k * 3 + 2, none⟩ = some (.slice ad d cd) ∧
      short8 (L.getD k (false, [], [])) = (decide (m ≤ 8) && decide (d ≤ 8)) := by
  obtain ⟨a', n', c', e, hl, -, -, -, h⟩ := h
  simp only [Value.slice.injEq] at e
  obtain ⟨rfl, rfl, rfl⟩ := e
  obtain ⟨b, off, s, an, m, cn, ad, d, cd, g1, g2, g3, g4, a1, l1, k1, a2, l2, k2, e, r1, r2⟩ := h k hk
  simp only [Value.agg.injEq, Array.mk.injEq, List.cons.injEq, Value.bool.injEq, Value.slice.injEq, and_true] at e
  obtain ⟨-, ⟨rfl, rfl, rfl⟩, rfl, rfl, rfl⟩ := e
  refine ⟨b, off, s, an, m, cn, ad, d, cd, g1, g2, g3, g4, ?_⟩
  have e1 : m = _ := r1.lenV
  have e2 : d = _ := r2.lenV
  unfold short8
  rw [← e1, ← e2]
theorem FracsI.limbs {w : World} {v : Value} {L : List FrL} (h : FracsI w v L) : ∀ x ∈ L, Limbs x.2.1 ∧ Limbs x.2.2 := by
  obtain ⟨a, n, c, rfl, hl, -, -, -, h⟩ := h
  intro x hx
  obtain ⟨i, hi, rfl⟩ := List.mem_iff_getElem.1 hx
  obtain ⟨b, off, s, an, m, cn, ad, d, cd, g1, g2, g3, g4, a1, l1, k1, a2, l2, k2, e, r1, r2⟩ := h i (by omega)
  have e1 : L.getD i (false, [], []) = L[i] := by simp [List.getD, hi]
  rw [e1] at r1 r2
  exact ⟨r1.limbs, r2.limbs⟩
theorem short_tri {L : List FrL} (h : ∀ x ∈ L, Limbs x.2.1 ∧ Limbs x.2.2) (hs : ∀ x ∈ L, short8 x = true) : ∀ x ∈ L.map triOf, x.2.1 < pw 8 ∧ x.2.2 < pw 8 := by
  intro x hx
  obtain ⟨y, hy, rfl⟩ := List.mem_map.1 hx
  have h1 := hs y hy
  simp only [short8, Bool.and_eq_true, decide_eq_true_eq] at h1
  exact ⟨Nat.lt_of_lt_of_le (val_lt (h y hy).1) (pw_le h1.1), Nat.lt_of_lt_of_le (val_lt (h y hy).2) (pw_le h1.2)⟩
end Go.Proofs.YtiboebgnbnafdaaGreatDoor

namespace Go
variable {P : Program}
/-- append onto what the call owns, from whatever source: nothing may be appended. -/
theorem fracs_append (w : World) (t ty : TypeId) (base : Nat) (e : TypeId) (i : TypeInfo) (z : Value) (size bytes : Nat) (ht : P.underlying t = some (.slice e)) (hi : P.info? e = some i) (hz : i.zero = some z)
    (hsize : i.size = size) (hby : i.bytes = bytes) (hzs : z.cells.size = size) (hsz : 0 < size)
    (v : Value) (n : Nat) (xs : List Value) (hown : w.ownsRow base e size v n xs)
    (so : Option Addr) (m c : Nat) (hso : so = none → m = 0 ∧ c = 0) (news : List Value) (hl : news.length = m * size) (hnews : ∀ ad, so = some ad → ∀ j u, news[j]? = some u → w.cell? (ad.add j) = some u) (h1 : ∀ u ∈ news, u.oneCell' = true)
    (h63 : n + m ≤ maxLen) (hbytes : (n + m) * bytes ≤ 140737488355328) (hbase : base ≤ w.heap.size) :
    ∃ v' w', (Builtin.append_ #[t, t] ty #[v, .slice so m c]).run P w = .ok v' w' ∧ w'.ownsRow base e size v' (n + m) (xs ++ news) ∧ w.grownBy w' v.ownBlock ∧ (v'.ownBlock = v.ownBlock ∨ v'.ownBlock = some w.heap.size) := by
  cases so with
  | none =>
    obtain ⟨rfl, rfl⟩ := hso rfl
    have hn : news = [] := List.eq_nil_of_length_eq_zero (by simpa using hl)
    subst hn
    refine ⟨v, w, run_append_owned_none (P := P) (w := w) base t ty e i size ht hi v n xs hown, ?_, ⟨rfl, rfl, rfl, Nat.le_refl _, fun _ _ _ => rfl⟩, .inl rfl⟩
    rw [List.append_nil]
    exact hown
  | some ad =>
    obtain ⟨v', w', hr, h2, h3, -, h5⟩ := run_append_own_at (P := P) w base t ty e i z size bytes ht hi hz hsize hby hzs hsz v n xs hown ad m c news hl (hnews ad rfl) h1 h63 hbytes hbase
    exact ⟨v', w', hr, h2, h3, h5⟩
/-- The same at a step of a region that draws its order. -/
theorem step_fracs_append {w : World} {ops : Array Oper} {o : Oper} {a : Act} {K : Act → World → Prop} {Q : Exit → Act → World → Prop} {E : Prop} (hgd : o.guard = none) (s x : Operand) (t : TypeId)
    (ho : o.op = .call { callee := .builtin .append, args := #[s, x], argTypes := #[t, t] })
    (base : Nat) (e : TypeId) (i : TypeInfo) (z : Value) (size bytes : Nat) (ht : P.underlying t = some (.slice e)) (hi : P.info? e = some i) (hz : i.zero = some z)
    (hsize : i.size = size) (hby : i.bytes = bytes) (hzs : z.cells.size = size) (hsz : 0 < size)
    (v : Value) (n : Nat) (xs : List Value) (hs : a.eval s = v) (hown : w.ownsRow base e size v n xs)
    (so : Option Addr) (m c : Nat) (hx : a.eval x = .slice so m c) (hso : so = none → m = 0 ∧ c = 0) (news : List Value) (hl : news.length = m * size) (hnews : ∀ ad, so = some ad → ∀ j u, news[j]? = some u → w.cell? (ad.add j) = some u) (h1 : ∀ u ∈ news, u.oneCell' = true)
    (h63 : n + m ≤ maxLen) (hbytes : (n + m) * bytes ≤ 140737488355328) (hbase : base ≤ w.heap.size)
    (h : ∀ v' w', w'.ownsRow base e size v' (n + m) (xs ++ news) → w.grownBy w' v.ownBlock → (v'.ownBlock = v.ownBlock ∨ v'.ownBlock = some w.heap.size) → K (a.put o.dst v') w') :
    if Region.wanted o (yielded ops a.tmps) = true then Oper.wp P o a w K Q else E := by
  have hw : Region.wanted o (yielded ops a.tmps) = true := by simp [Region.wanted, hgd]
  rw [if_pos hw]
  obtain ⟨v', w', hr, h2, h3, h5⟩ := fracs_append (P := P) w t o.type base e i z size bytes ht hi hz hsize hby hzs hsz v n xs hown so m c hso news hl hnews h1 h63 hbytes hbase
  unfold Oper.wp execOp
  simp only [ho, resolve, invoke, builtin, Sem.run_bind, Sem.run_pure, Result.andThen_ok, List.map_toArray, List.map_cons, List.map_nil, hs, hx, hr]
  exact h v' w' h2 h3 h5
end Go
namespace Go.Proofs.YtiboebgnbnafdaaGreatDoor
open Go.RowKit NatM Go.Proofs.YtiboebgnbnafdaaGreatDoor.Api

theorem infoFrac : (Tryz.prog.info? 25).map (fun i => (i.zero, i.size, i.bytes)) = some (some (.agg #[.bool false, .slice none 0 0, .slice none 0 0]), 3, 56) := by kernel_rfl
theorem own_lit {w : World} {g base : Nat} (h : w.heap[g]? = some (.cells #[] 25 (0, 0))) (hb : base ≤ g) : w.ownsRow base 25 3 (.slice (some ⟨g, 0, none⟩) 0 0) 0 [] :=
  ⟨rfl, .inr ⟨g, 0, #[], rfl, hb, h, Nat.le_refl _, Nat.zero_le _, rfl, rfl⟩⟩
theorem own_block {w : World} {base e size n : Nat} {v : Value} {xs : List Value} (h : w.ownsRow base e size v n xs) : ∀ k, v.ownBlock = some k → base ≤ k ∧ k < w.heap.size := by
  intro k hk
  rcases h.2 with ⟨rfl, -⟩ | ⟨g, cap, cur, rfl, hb, hg, -⟩
  · cases hk
  · have e : g = k := by simpa [Value.ownBlock] using hk
    subst e
    exact ⟨hb, (Array.getElem?_eq_some_iff.1 hg).1⟩
theorem Box.grown {w w' : World} {g : Nat} {row : Option Nat} {b an n cn ad d cd} (h : Box w g b an n cn ad d cd) (hg : w.grownBy w' row) (hne : some g ≠ row) : Box w' g b an n cn ad d cd :=
  (hg.block g h.lt hne).trans h
theorem hne_b {w : World} {o1 o2 : Obj} {t : Option Nat} (h : t = some (w.heap.size + 1) ∨ t = some (World.drew ((w.alloc o1).alloc o2)).heap.size) : some w.heap.size ≠ t := by
  have e : (World.drew ((w.alloc o1).alloc o2)).heap.size = w.heap.size + 1 + 1 := by simp
  rw [e] at h
  rintro rfl
  rcases h with h | h
  · have := Option.some.inj h; omega
  · have := Option.some.inj h; omega
theorem hne_c {w : World} {o1 o2 : Obj} {t : Option Nat} (h : t = some w.heap.size ∨ t = some (World.drew ((w.alloc o1).alloc o2)).heap.size) : some (w.heap.size + 1) ≠ t := by
  have e : (World.drew ((w.alloc o1).alloc o2)).heap.size = w.heap.size + 1 + 1 := by simp
  rw [e] at h
  rintro rfl
  rcases h with h | h
  · have := Option.some.inj h; omega
  · have := Option.some.inj h; omega
theorem hne_b0 {n : Nat} : some n ≠ (Value.slice (some ⟨n + 1, 0, none⟩) 0 0).ownBlock := by
  intro h
  have := Option.some.inj (show some n = some (n + 1) from h)
  omega
theorem hne_c0 {n : Nat} : some (n + 1) ≠ (Value.slice (some ⟨n, 0, none⟩) 0 0).ownBlock := by
  intro h
  have := Option.some.inj (show some (n + 1) = some n from h)
  omega
/-- The cells of a list of fractions. -/
def CellsF (w : World) (xs : List Value) (L : List Tri) : Prop := xs.length = L.length * 3 ∧
  ∀ i, i < L.length → ∃ s an m cn ad d cd, xs[i * 3]? = some (.bool s) ∧ xs[i * 3 + 1]? = some (.slice an m cn) ∧ xs[i * 3 + 2]? = some (.slice ad d cd) ∧ FracA w (.agg #[.bool s, .slice an m cn, .slice ad d cd]) (L.getD i (false, 0, 0))
theorem CellsF.mono {w w' : World} {xs : List Value} {L : List Tri} (h : CellsF w xs L) (hb : Add w w') : CellsF w' xs L :=
  ⟨h.1, fun i hi => by
    obtain ⟨s, an, m, cn, ad, d, cd, h1, h2, h3, h4⟩ := h.2 i hi
    exact ⟨s, an, m, cn, ad, d, cd, h1, h2, h3, h4.mono hb⟩⟩
theorem CellsF.append {w : World} {xs ys : List Value} {L M : List Tri} (h : CellsF w xs L) (g : CellsF w ys M) : CellsF w (xs ++ ys) (L ++ M) := by
  refine ⟨by rw [List.length_append, List.length_append, h.1, g.1]; omega, fun i hi => ?_⟩
  rw [List.length_append] at hi
  have hx := h.1
  by_cases c : i < L.length
  · obtain ⟨s, an, m, cn, ad, d, cd, h1, h2, h3, h4⟩ := h.2 i c
    refine ⟨s, an, m, cn, ad, d, cd, ?_, ?_, ?_, ?_⟩
    · rw [List.getElem?_append_left (by omega)]; exact h1
    · rw [List.getElem?_append_left (by omega)]; exact h2
    · rw [List.getElem?_append_left (by omega)]; exact h3
    · have e : (L ++ M).getD i (false, 0, 0) = L.getD i (false, 0, 0) := by simp [List.getD, List.getElem?_append_left c]
      rw [e]; exact h4
  · obtain ⟨s, an, m, cn, ad, d, cd, h1, h2, h3, h4⟩ := g.2 (i - L.length) (by omega)
    refine ⟨s, an, m, cn, ad, d, cd, ?_, ?_, ?_, ?_⟩
    · rw [List.getElem?_append_right (by omega), show i * 3 - xs.length = (i - L.length) * 3 by omega]; exact h1
    · rw [List.getElem?_append_right (by omega), show i * 3 + 1 - xs.length = (i - L.length) * 3 + 1 by omega]; exact h2
    · rw [List.getElem?_append_right (by omega), show i * 3 + 2 - xs.length = (i - L.length) * 3 + 2 by omega]; exact h3
    · have e : (L ++ M).getD i (false, 0, 0) = M.getD (i - L.length) (false, 0, 0) := by simp [List.getD, List.getElem?_append_right (show L.length ≤ i by omega)]
      rw [e]; exact h4
theorem addr_add (b off j : Nat) : (⟨b, off, none⟩ : Addr).add j = ⟨b, off + j, none⟩ := by
  unfold Addr.add; split <;> simp_all
/-- The cells of a list that lies in memory. -/
theorem cells_of {w : World} {so : Option Addr} {n c : Nat} {L : List Tri} (h : FracsA w (.slice so n c) L) :
    ∃ xs, CellsF w xs L ∧ (∀ ad, so = some ad → ∀ j u, xs[j]? = some u → w.cell? (ad.add j) = some u) ∧ ∀ u ∈ xs, u.oneCell' = true := by
  obtain ⟨a', n', c', e, hl, -, h⟩ := h
  simp only [Value.slice.injEq] at e
  obtain ⟨rfl, rfl, rfl⟩ := e
  rcases Nat.eq_zero_or_pos n with h0 | h0
  · subst h0
    refine ⟨[], ⟨by rw [hl]; rfl, fun i hi => by omega⟩, fun ad _ j u hu => by simp at hu, fun u hu => by simp at hu⟩
  · obtain ⟨b, off, -, -, -, -, -, -, -, rfl, -⟩ := h 0 h0
    have key : ∀ j, j < n * 3 → ∃ u, w.cell? ⟨b, off + j, none⟩ = some u ∧ u.oneCell' = true := by
      intro j hj
      obtain ⟨b', off', s, an, m, cn, ad, d, cd, h1, h2, h3, h4, h5⟩ := h (j / 3) (by omega)
      simp only [Option.some.injEq, Addr.mk.injEq, and_true] at h1
      obtain ⟨rfl, rfl⟩ := h1
      have e : j % 3 = 0 ∨ j % 3 = 1 ∨ j % 3 = 2 := by omega
      rcases e with e | e | e
      · rw [show off + j = off + j / 3 * 3 by omega]; exact ⟨_, h2, rfl⟩
      · rw [show off + j = off + j / 3 * 3 + 1 by omega]; exact ⟨_, h3, rfl⟩
      · rw [show off + j = off + j / 3 * 3 + 2 by omega]; exact ⟨_, h4, rfl⟩
    have get : ∀ j, j < n * 3 → ((List.range (n * 3)).map fun j => (w.cell? ⟨b, off + j, none⟩).getD (.bool false))[j]? = w.cell? ⟨b, off + j, none⟩ := by
      intro j hj
      obtain ⟨u, hu, -⟩ := key j hj
      rw [hu]
      simp [List.getElem?_map, List.getElem?_range hj, hu]
    refine ⟨(List.range (n * 3)).map fun j => (w.cell? ⟨b, off + j, none⟩).getD (.bool false), ⟨by simp [hl], fun i hi => ?_⟩, fun ad ha j u hu => ?_, fun u hu => ?_⟩
    · obtain ⟨b', off', s, an, m, cn, ad, d, cd, h1, h2, h3, h4, h5⟩ := h i (by omega)
      simp only [Option.some.injEq, Addr.mk.injEq, and_true] at h1
      obtain ⟨rfl, rfl⟩ := h1
      refine ⟨s, an, m, cn, ad, d, cd, ?_, ?_, ?_, h5⟩
      · rw [get _ (by omega)]; exact h2
      · rw [get _ (by omega)]; exact h3
      · rw [get _ (by omega)]; exact h4
    · obtain rfl : ad = ⟨b, off, none⟩ := (Option.some.inj ha).symm
      have hj : j < n * 3 := by
        have := (List.getElem?_eq_some_iff.1 hu).1
        simpa using this
      rw [get j hj] at hu
      rw [addr_add]; exact hu
    · obtain ⟨j, hj, rfl⟩ := List.mem_map.1 hu
      obtain ⟨u, hu, h1⟩ := key j (List.mem_range.1 hj)
      rw [hu]; exact h1
/-- A row of the call's own reads as a list of fractions. -/
theorem fracs_own {w : World} {base n : Nat} {v : Value} {xs : List Value} {L : List Tri} (h : w.ownsRow base 25 3 v n xs) (hc : CellsF w xs L) (hn : L.length = n) (hb : n ≤ 100000) : FracsA w v L := by
  rcases h.2 with ⟨rfl, rfl⟩ | ⟨g, cap, cur, rfl, -⟩
  · exact ⟨none, 0, 0, rfl, hn, hb, fun i hi => by omega⟩
  · refine ⟨some ⟨g, 0, none⟩, n, cap, rfl, hn, hb, fun i hi => ?_⟩
    obtain ⟨s, an, m, cn, ad, d, cd, h1, h2, h3, h4⟩ := hc.2 i (by omega)
    have k := h.cells (g := g) rfl
    have k1 := k _ _ h1
    have k2 := k _ _ h2
    have k3 := k _ _ h3
    rw [addr_add] at k1 k2 k3
    rw [← Nat.add_assoc] at k2 k3
    exact ⟨g, 0, s, an, m, cn, ad, d, cd, rfl, k1, k2, k3, h4⟩
end Go.Proofs.YtiboebgnbnafdaaGreatDoor

namespace Go.Proofs.YtiboebgnbnafdaaGreatDoor.SumsL
open Go.Proofs.YtiboebgnbnafdaaGreatDoor Go.RowKit NatM Go.Proofs.YtiboebgnbnafdaaGreatDoor.Api
theorem Nv.put {w : World} {v : Value} {N g : Nat} {b an n cn ad d cd} (h : Nv w v N) (hB : Box w g b an n cn ad d cd) (u0 u1 u2 : Value) : Nv (put3 w g u0 u1 u2) v N := by
  obtain ⟨zs, h1, h2⟩ := h; exact ⟨zs, h1.put hB u0 u1 u2, h2⟩
theorem FracA.put {w : World} {v : Value} {x : Tri} {g : Nat} {b an n cn ad d cd} (h : FracA w v x) (hB : Box w g b an n cn ad d cd) (u0 u1 u2 : Value) : FracA (put3 w g u0 u1 u2) v x := by
  obtain ⟨an, n, cn, ad, d, cd, h1, h2, h3⟩ := h; exact ⟨an, n, cn, ad, d, cd, h1, Nv.put h2 hB u0 u1 u2, Nv.put h3 hB u0 u1 u2⟩
theorem put3_size (w : World) (g : Nat) (u0 u1 u2 : Value) : (put3 w g u0 u1 u2).heap.size = w.heap.size := by
  unfold put3; simp [World.setCell]
theorem Tab.put {w : World} {g : Nat} {b an n cn ad d cd} (h : Tab w) (hB : Box w g b an n cn ad d cd) (u0 u1 u2 : Value) : Tab (put3 w g u0 u1 u2) := by
  refine ⟨by rw [put3_size]; exact h.1, fun j hj => ?_⟩
  have hk : 2 ≠ g := by
    rintro rfl
    exact hB.not_int _ _ _ (h.2 j hj)
  rw [cell_other (fun k hk => put3_other u0 u1 u2 hk) _ hk]
  exact h.2 j hj
theorem Box.other {w : World} {g k : Nat} {b an n cn ad d cd} (h : Box w k b an n cn ad d cd) (hk : k ≠ g) (u0 u1 u2 : Value) : Box (put3 w g u0 u1 u2) k b an n cn ad d cd := (put3_other u0 u1 u2 hk).trans h
theorem addC {P Q : Rat} {i j : Nat} (h1 : Sz i (can P)) (h2 : Sz j (can Q)) (h : i + j + 1 ≤ 128) : addF (can P) (can Q) = (can (P + Q), 0) ∧ Sz (i + j + 1) (can (P + Q)) := by
  have := add_sz h1 h2 h
  rwa [qv_can, qv_can] at this
theorem mulC {P Q : Rat} {i j : Nat} (h1 : Sz i (can P)) (h2 : Sz j (can Q)) (h : i + j ≤ 128) : mulF (can P) (can Q) = (can (P * Q), 0) ∧ Sz (i + j) (can (P * Q)) := by
  have := mul_sz h1 h2 h
  rwa [qv_can, qv_can] at this
theorem quoC {P Q : Rat} {i j : Nat} (h1 : Sz i (can P)) (h2 : Sz j (can Q)) (h0 : Q ≠ 0) (h : i + j ≤ 128) : quoF (can P) (can Q) = (can (P / Q), 0) ∧ Sz (i + j) (can (P / Q)) := by
  have := quo_sz h1 h2 (fun e => h0 (can_zero_iff.1 e)) h
  rwa [qv_can, qv_can] at this
theorem subC {P Q : Rat} {i j : Nat} (h1 : Sz i (can P)) (h2 : Sz j (can Q)) (h : i + j + 1 ≤ 128) : subF (can P) (can Q) = (can (P - Q), 0) ∧ Sz (i + j + 1) (can (P - Q)) := by
  have hn : Sz j (negF (can Q)) := h2
  have e : qv (negF (can Q)) = -Q := by
    have h3 : qv (negF (can Q)) = -qv (can Q) := frac_not _ _ _
    rw [h3, qv_can]
  have := add_sz h1 hn h
  rw [e, qv_can, ← Rat.sub_eq_add_neg] at this
  exact this
theorem fracA_mk2 {w : World} {b : Bool} {N D k : Nat} {an n cn ad d cd} (h1 : Num w (.slice an n cn) N) (h2 : Num w (.slice ad d cd) D) (s : Sz k (b, N, D)) (hk : k ≤ 128) : FracA w (.agg #[.bool b, .slice an n cn, .slice ad d cd]) (b, N, D) :=
  ⟨an, n, cn, ad, d, cd, rfl, num_nv h1 (lt_up s.2.1 (by omega)), num_nv h2 (lt_up s.2.2 (by omega))⟩
theorem fracT_mk {w : World} {b : Bool} {N D : Nat} {an n cn ad d cd} (h1 : Num w (.slice an n cn) N) (h2 : Num w (.slice ad d cd) D) : FracT w (.agg #[.bool b, .slice an n cn, .slice ad d cd]) (b, N, D) := ⟨an, n, cn, ad, d, cd, rfl, h1, h2⟩
/-- A result of which the parts have names. -/
def ResE (w : World) (s : Bool) (N D c : Nat) (e : Ending) (w' : World) : Prop := ∃ a n k a' n' k', e = .returned (.tuple #[.agg #[.bool s, .slice a n k, .slice a' n' k'], .int .i64 (c : Nat)]) ∧ Num w' (.slice a n k) N ∧ Num w' (.slice a' n' k') D ∧ Add w w'
theorem resE {w : World} {p : Tri × Nat} {s : Bool} {N D c : Nat} {e : Ending} {w' : World} (g : ResF w p e w') (h : Hid (p = ((s, N, D), c))) : ResE w s N D c e w' := by
  obtain ⟨v, he, ⟨a, n, k, a', n', k', rfl, h1, h2⟩, h3⟩ := g
  have e1 := h.out
  subst e1
  exact ⟨a, n, k, a', n', k', he, h1, h2, h3⟩
def CmpE (w : World) (t : Int) (c : Nat) (e : Ending) (w' : World) : Prop := e = .returned (.tuple #[.int .i64 t, .int .i64 (c : Nat)]) ∧ Add w w'
theorem cmpE {w : World} {p : Int × Nat} {t : Int} {c : Nat} {e : Ending} {w' : World} (g : CmpR w p e w') (h : Hid (p = (t, c))) : CmpE w t c e w' := by
  have e1 := h.out
  subst e1
  exact ⟨g.1, g.2⟩


set_option maxRecDepth 100000 in
set_option maxHeartbeats 20000000 in
theorem sums_wide {v : Value} {L : List FrL} {m : Nat} (w : World) (hv : FracsI w v L) (hT : Tab w) (h : 12 < L.length) : Calls Tryz.prog 5 #[v, .int .u8 (m : Nat)] w (LawP w) := by
  have hv0 := hv
  obtain ⟨a, n, c, rfl, hl, hnc, hc, ha, -⟩ := hv0
  have d1 : decide ((12 : Int) < (n : Int)) = true := by simp; omega
  clear hl hnc hc ha h hv
  have T := Below.refl w.heap.size w
  go_enter Tryz.func5, Tryz.ntmps5
  go_wp2_with fail
  refine (awake2_any _ hT).mono ?_
  rintro e w9 ⟨rfl, h9⟩
  replace T := Add.trans T h9
  clear h9 hT
  go_wp2_with fail
  go_ret
  exact ⟨rfl, T⟩
set_option maxRecDepth 100000 in
set_option maxHeartbeats 20000000 in
theorem sums_long {v : Value} {L : List FrL} {m : Nat} (w : World) (hv : FracsI w v L) (hT : Tab w) (h : L.length ≤ 12) (hg : longL L = true) : Calls Tryz.prog 5 #[v, .int .u8 (m : Nat)] w (LawP w) := by
  have hv0 := hv
  obtain ⟨a, n, c, rfl, hl, hnc, hc, ha, -⟩ := hv0
  have d1 : decide ((12 : Int) < (n : Int)) = false := by simp; omega
  have CL := Lib.hid (longL_is true hv (Lib.hid h) (Lib.hid hg))
  clear hl hnc hc ha h hg hv
  have T := Below.refl w.heap.size w
  go_enter Tryz.func5, Tryz.ntmps5
  go_wp2_with fail
  refine CL.out.mono ?_
  rintro e w8 ⟨rfl, rfl⟩
  clear CL
  go_wp2_with fail
  refine (awake2_any _ hT).mono ?_
  rintro e w9 ⟨rfl, h9⟩
  replace T := Add.trans T h9
  clear h9 hT
  go_wp2_with fail
  go_ret
  exact ⟨rfl, T⟩

set_option maxRecDepth 100000 in
set_option maxHeartbeats 20000000 in
theorem sums_stop {v : Value} {L : List FrL} {m : Nat} (w : World) (hv : FracsI w v L) (hT : Tab w) (h : L.length ≤ 12) (hg : longL L = false) (hx : ∃ x ∈ L, short8 x = false) : Calls Tryz.prog 5 #[v, .int .u8 (m : Nat)] w (LawP w) := by
  have hv0 := hv
  obtain ⟨a, n, c, rfl, hl, hnc, hc, ha, -⟩ := hv0
  have d1 : decide ((12 : Int) < (n : Int)) = false := by simp; omega
  have CL := Lib.hid (longL_is false hv (Lib.hid h) (Lib.hid hg))
  have hl0 := hv.arg hg h
  have T := Below.refl w.heap.size w
  have HLn := Lib.hid hl
  have HAn := Lib.hid ha
  have hn12 : n ≤ 12 := by omega
  have hni : (n : Int) ≤ 12 := by omega
  have hnci : (n : Int) ≤ (c : Int) := by omega
  have hci : (c : Int) ≤ 9223372036854775807 := by unfold maxLen at hc; omega
  obtain ⟨s1, N1, D1, c1, e1⟩ : ∃ s N D c, sumF (false, 0, 1) (L.map triOf) = ((s, N, D), c) := ⟨_, _, _, _, rfl⟩
  have R1 := Lib.hid e1
  have HX := Lib.hid hx
  clear e1 hx
  clear hl hnc hc ha h hg
  go_enter Tryz.func5, Tryz.ntmps5
  go_wp2_with fail
  refine CL.out.mono ?_
  rintro e w9 ⟨rfl, rfl⟩
  have hl := hl0
  clear hl0
  clear CL d1
  go_wp2_with fail
  refine ((sumN _ hl hT (Lib.hid rfl)).mono fun _ _ g => resE g R1).mono ?_
  rintro e w10 ⟨aA, nA, cA, eA, mA, kA, rfl, uA, vA, h10⟩
  replace hT := hT.mono h10
  replace hl := hl.mono h10
  replace hv := hv.mono h10
  replace T := Add.trans T h10
  clear h10 
  obtain ⟨tt, hA⟩ := laid_var w10 s1 aA nA cA eA mA kA
  replace hT := hT.mono tt
  replace hl := hl.mono tt
  replace hv := hv.mono tt
  replace uA := uA.mono tt
  replace vA := vA.mono tt
  replace T := Add.trans T tt
  clear tt
  go_wp2_with fail
  refine ((refSumN _ hl (Lib.hid rfl)).mono fun _ _ g => resE g R1).mono ?_
  rintro e w11 ⟨aB, nB, cB, eB, mB, kB, rfl, uB, vB, h11⟩
  replace hT := hT.mono h11
  replace hl := hl.mono h11
  replace hv := hv.mono h11
  replace uA := uA.mono h11
  replace vA := vA.mono h11
  replace hA := hA.mono h11
  replace T := Add.trans T h11
  clear h11 
  obtain ⟨tt, hB⟩ := laid_var w11 s1 aB nB cB eB mB kB
  replace hT := hT.mono tt
  replace hl := hl.mono tt
  replace hv := hv.mono tt
  replace uA := uA.mono tt
  replace vA := vA.mono tt
  replace hA := hA.mono tt
  replace uB := uB.mono tt
  replace vB := vB.mono tt
  replace T := Add.trans T tt
  clear tt
  have hf0 := hA.c0
  have hf1 := hA.c1
  have hf2 := hA.c2
  have hg0 := hB.c0
  have hg1 := hB.c1
  have hg2 := hB.c2
  go_wp2_with fail
  refine (sameF true (fracT_mk (b := s1) uA vA) (fracT_mk (b := s1) uB vB) (Lib.hid (decide_eq_true rfl))).mono ?_
  rintro e w12 ⟨rfl, h12⟩
  replace hT := hT.mono h12
  replace hl := hl.mono h12
  replace hv := hv.mono h12
  replace uA := uA.mono h12
  replace vA := vA.mono h12
  replace hA := hA.mono h12
  replace uB := uB.mono h12
  replace vB := vB.mono h12
  replace hB := hB.mono h12
  replace T := Add.trans T h12
  clear h12 hf0 hf1 hf2 hg0 hg1 hg2
  clear hB uB vB
  clear hA uA vA hl
  go_wp2_with fail
  go_loopw [9] (fun i wr => ∃ k : Nat, k ≤ n ∧ i = .int .i64 (k : Nat) ∧ Hid (∀ x ∈ L.take k, short8 x = true) ∧ w12 = wr) (fun i _ => n - (intOf i).toNat)
  case atStart => exact ⟨0, Nat.zero_le _, rfl, Lib.hid (by intro x hx; simp at hx), rfl⟩
  case round =>
    obtain ⟨k, hk, rfl, hpre, rfl⟩ := hrel
    by_cases hlt : k < n
    · have dlt : decide (k < n) = true := decide_eq_true hlt
      obtain ⟨b, off, s, an, m', cn, ad, d, cd, rfl, q0, q1, q2, hsh⟩ := hv.cell hlt
      clear q0
      have HSH := Lib.hid hsh
      clear hsh
      by_cases h1 : 8 < m'
      · have d1 : decide ((8 : Int) < (m' : Int)) = true := by simp; omega
        clear h1 HSH
        go_wp2_with fail
        refine (awake2_any _ hT).mono ?_
        rintro e w13 ⟨rfl, h13⟩
        replace hT := hT.mono h13
        replace T := Add.trans T h13
        clear h13 
        go_wp2_with fail
        go_ret
        exact ⟨rfl, T⟩
      · have d1 : decide ((8 : Int) < (m' : Int)) = false := by simp; omega
        by_cases h2 : 8 < d
        · have d2 : decide ((8 : Int) < (d : Int)) = true := by simp; omega
          clear h1 h2 HSH
          go_wp2_with fail
          refine (awake2_any _ hT).mono ?_
          rintro e w13 ⟨rfl, h13⟩
          replace hT := hT.mono h13
          replace T := Add.trans T h13
          clear h13 
          go_wp2_with fail
          go_ret
          exact ⟨rfl, T⟩
        · have d2 : decide ((8 : Int) < (d : Int)) = false := by simp; omega
          have HS1 := Lib.hid (show short8 (L.getD k (false, [], [])) = true by rw [HSH.out, decide_eq_true (by omega), decide_eq_true (by omega)]; rfl)
          clear h1 h2 HSH
          go_wp2_with fail
          go_roundw
          case rel =>
            refine ⟨k + 1, by omega, by go_num, Lib.hid ?_, by trivial⟩
            intro x hx
            have hkl : k < L.length := by rw [HLn.out]; exact hlt
            rw [List.take_succ_eq_append_getElem hkl] at hx
            rcases List.mem_append.1 hx with h | h
            · exact hpre.out x h
            · have e : L.getD k (false, [], []) = L[k] := by simp [List.getD, hkl]
              have h' : x = L[k] := by simpa using h
              rw [h', ← e]; exact HS1.out
          case measure => simp [intOf]; omega
    · exfalso
      obtain rfl : k = n := by omega
      obtain ⟨x, hx, hx2⟩ := HX.out
      have := hpre.out x (by rw [List.take_of_length_le (by rw [HLn.out]; exact Nat.le_refl _)]; exact hx)
      rw [hx2] at this; cases this

set_option maxRecDepth 100000 in
set_option maxHeartbeats 20000000 in
theorem sums_bad {v : Value} {L : List FrL} {m : Nat} (w : World) (hv : FracsI w v L) (hT : Tab w) (h : L.length ≤ 12) (hg : longL L = false) (hs : ∀ x ∈ L, short8 x = true) (hx : ∃ x ∈ L.map triOf, okF x = false) : Calls Tryz.prog 5 #[v, .int .u8 (m : Nat)] w (LawP w) := by
  have hv0 := hv
  obtain ⟨a, n, c, rfl, hl, hnc, hc, ha, -⟩ := hv0
  have d1 : decide ((12 : Int) < (n : Int)) = false := by simp; omega
  have CL := Lib.hid (longL_is false hv (Lib.hid h) (Lib.hid hg))
  have hl0 := hv.arg hg h
  have T := Below.refl w.heap.size w
  have HLn := Lib.hid hl
  have HAn := Lib.hid ha
  have hn12 : n ≤ 12 := by omega
  have hni : (n : Int) ≤ 12 := by omega
  have hnci : (n : Int) ≤ (c : Int) := by omega
  have hci : (c : Int) ≤ 9223372036854775807 := by unfold maxLen at hc; omega
  obtain ⟨s1, N1, D1, h01, e1⟩ : ∃ s N D, (s, N, D) = (false, 0, 0) ∧ sumF (false, 0, 1) (L.map triOf) = ((s, N, D), 1) := ⟨_, _, _, rfl, sum_bad (short_tri hv.limbs hs) (by rw [List.length_map]; exact h) hx⟩
  have R1 := Lib.hid e1
  have HS := Lib.hid hs
  clear e1 hx hs h01
  clear hl hnc hc ha h hg
  go_enter Tryz.func5, Tryz.ntmps5
  go_wp2_with fail
  refine CL.out.mono ?_
  rintro e w9 ⟨rfl, rfl⟩
  have hl := hl0
  clear hl0
  clear CL d1
  go_wp2_with fail
  refine ((sumN _ hl hT (Lib.hid rfl)).mono fun _ _ g => resE g R1).mono ?_
  rintro e w10 ⟨aA, nA, cA, eA, mA, kA, rfl, uA, vA, h10⟩
  replace hT := hT.mono h10
  replace hl := hl.mono h10
  replace hv := hv.mono h10
  replace T := Add.trans T h10
  clear h10 
  obtain ⟨tt, hA⟩ := laid_var w10 s1 aA nA cA eA mA kA
  replace hT := hT.mono tt
  replace hl := hl.mono tt
  replace hv := hv.mono tt
  replace uA := uA.mono tt
  replace vA := vA.mono tt
  replace T := Add.trans T tt
  clear tt
  go_wp2_with fail
  refine ((refSumN _ hl (Lib.hid rfl)).mono fun _ _ g => resE g R1).mono ?_
  rintro e w11 ⟨aB, nB, cB, eB, mB, kB, rfl, uB, vB, h11⟩
  replace hT := hT.mono h11
  replace hl := hl.mono h11
  replace hv := hv.mono h11
  replace uA := uA.mono h11
  replace vA := vA.mono h11
  replace hA := hA.mono h11
  replace T := Add.trans T h11
  clear h11 
  obtain ⟨tt, hB⟩ := laid_var w11 s1 aB nB cB eB mB kB
  replace hT := hT.mono tt
  replace hl := hl.mono tt
  replace hv := hv.mono tt
  replace uA := uA.mono tt
  replace vA := vA.mono tt
  replace hA := hA.mono tt
  replace uB := uB.mono tt
  replace vB := vB.mono tt
  replace T := Add.trans T tt
  clear tt
  have hf0 := hA.c0
  have hf1 := hA.c1
  have hf2 := hA.c2
  have hg0 := hB.c0
  have hg1 := hB.c1
  have hg2 := hB.c2
  go_wp2_with fail
  refine (sameF true (fracT_mk (b := s1) uA vA) (fracT_mk (b := s1) uB vB) (Lib.hid (decide_eq_true rfl))).mono ?_
  rintro e w12 ⟨rfl, h12⟩
  replace hT := hT.mono h12
  replace hl := hl.mono h12
  replace hv := hv.mono h12
  replace uA := uA.mono h12
  replace vA := vA.mono h12
  replace hA := hA.mono h12
  replace uB := uB.mono h12
  replace vB := vB.mono h12
  replace hB := hB.mono h12
  replace T := Add.trans T h12
  clear h12 hf0 hf1 hf2 hg0 hg1 hg2
  clear hB uB vB
  clear hA uA vA hl
  go_wp2_with fail
  go_loopw [9] (fun i wr => ∃ k : Nat, k ≤ n ∧ i = .int .i64 (k : Nat) ∧ True ∧ w12 = wr) (fun i _ => n - (intOf i).toNat)
  case atStart => exact ⟨0, Nat.zero_le _, rfl, trivial, rfl⟩
  case round =>
    obtain ⟨k, hk, rfl, hpre, rfl⟩ := hrel
    by_cases hlt : k < n
    · have dlt : decide (k < n) = true := decide_eq_true hlt
      obtain ⟨b, off, s, an, m', cn, ad, d, cd, rfl, q0, q1, q2, hsh⟩ := hv.cell hlt
      clear q0
      have hkl : k < L.length := by rw [HLn.out]; exact hlt
      have hm8 := HS.out (L.getD k (false, [], [])) (by simp [List.getD, hkl])
      rw [hsh] at hm8
      simp only [Bool.and_eq_true, decide_eq_true_eq] at hm8
      have d1 : decide ((8 : Int) < (m' : Int)) = false := by simp; omega
      have d2 : decide ((8 : Int) < (d : Int)) = false := by simp; omega
      clear hkl hm8 hsh
      go_wp2_with fail
      go_roundw
      case rel => exact ⟨k + 1, by omega, by go_num, by trivial⟩
      case measure => simp [intOf]; omega
    · obtain rfl : k = n := by omega
      clear hpre hlt hk
      clear hv
      go_wp2_with fail
      refine (awake2_any _ hT).mono ?_
      rintro e w13 ⟨rfl, h13⟩
      replace hT := hT.mono h13
      replace T := Add.trans T h13
      clear h13 
      go_wp2_with fail
      go_ret
      exact ⟨rfl, T⟩

set_option maxRecDepth 100000 in
set_option maxHeartbeats 20000000 in
theorem sums_good {v : Value} {L : List FrL} {m : Nat} (w : World) (hv : FracsI w v L) (hT : Tab w) (h : L.length ≤ 12) (hg : longL L = false) (hs : ∀ x ∈ L, short8 x = true) (hx : ∀ x ∈ L.map triOf, okF x = true) (hm : m < 256) : Calls Tryz.prog 5 #[v, .int .u8 (m : Nat)] w (LawP w) := by
  have hv0 := hv
  obtain ⟨a, n, c, rfl, hl, hnc, hc, ha, -⟩ := hv0
  have d1 : decide ((12 : Int) < (n : Int)) = false := by simp; omega
  have CL := Lib.hid (longL_is false hv (Lib.hid h) (Lib.hid hg))
  have hl0 := hv.arg hg h
  have T := Below.refl w.heap.size w
  have HLn := Lib.hid hl
  have HAn := Lib.hid ha
  have hn12 : n ≤ 12 := by omega
  have hni : (n : Int) ≤ 12 := by omega
  have hnci : (n : Int) ≤ (c : Int) := by omega
  have hci : (c : Int) ≤ 9223372036854775807 := by unfold maxLen at hc; omega
  obtain ⟨e0, z0⟩ := sum_good (L := L.map triOf) (fun x hx' => ⟨(okF_iff.1 (hx x hx')).1, short_tri hv.limbs hs x hx'⟩) (by rw [List.length_map]; exact h)
  have R0 := Lib.hid e0
  have Z0 := Lib.hid z0
  have HG8 : Hid (∀ x ∈ L.map triOf, Sz 8 x) := Lib.hid fun x hx' => ⟨(okF_iff.1 (hx x hx')).1, short_tri hv.limbs hs x hx'⟩
  obtain ⟨⟨s1, N1, D1⟩, e1⟩ : ∃ t, can (sumQ (L.map triOf)) = t := ⟨_, rfl⟩
  rw [e1] at e0 z0
  have R1 := Lib.hid e0
  have Z1 := Lib.hid z0
  have E1 := Lib.hid e1
  have HS := Lib.hid hs
  clear e0 z0 e1 hx hs
  clear hl hnc hc ha h hg
  go_enter Tryz.func5, Tryz.ntmps5
  go_wp2_with fail
  refine CL.out.mono ?_
  rintro e w9 ⟨rfl, rfl⟩
  have hl := hl0
  clear hl0
  clear CL d1
  go_wp2_with fail
  refine ((sumN _ hl hT (Lib.hid rfl)).mono fun _ _ g => resE g R1).mono ?_
  rintro e w10 ⟨aA, nA, cA, eA, mA, kA, rfl, uA, vA, h10⟩
  replace hT := hT.mono h10
  replace hl := hl.mono h10
  replace hv := hv.mono h10
  replace T := Add.trans T h10
  clear h10 
  obtain ⟨tt, hA⟩ := laid_var w10 s1 aA nA cA eA mA kA
  replace hT := hT.mono tt
  replace hl := hl.mono tt
  replace hv := hv.mono tt
  replace uA := uA.mono tt
  replace vA := vA.mono tt
  replace T := Add.trans T tt
  clear tt
  go_wp2_with fail
  refine ((refSumN _ hl (Lib.hid rfl)).mono fun _ _ g => resE g R1).mono ?_
  rintro e w11 ⟨aB, nB, cB, eB, mB, kB, rfl, uB, vB, h11⟩
  replace hT := hT.mono h11
  replace hl := hl.mono h11
  replace hv := hv.mono h11
  replace uA := uA.mono h11
  replace vA := vA.mono h11
  replace hA := hA.mono h11
  replace T := Add.trans T h11
  clear h11 
  obtain ⟨tt, hB⟩ := laid_var w11 s1 aB nB cB eB mB kB
  replace hT := hT.mono tt
  replace hl := hl.mono tt
  replace hv := hv.mono tt
  replace uA := uA.mono tt
  replace vA := vA.mono tt
  replace hA := hA.mono tt
  replace uB := uB.mono tt
  replace vB := vB.mono tt
  replace T := Add.trans T tt
  clear tt
  have hf0 := hA.c0
  have hf1 := hA.c1
  have hf2 := hA.c2
  have hg0 := hB.c0
  have hg1 := hB.c1
  have hg2 := hB.c2
  go_wp2_with fail
  refine (sameF true (fracT_mk (b := s1) uA vA) (fracT_mk (b := s1) uB vB) (Lib.hid (decide_eq_true rfl))).mono ?_
  rintro e w12 ⟨rfl, h12⟩
  replace hT := hT.mono h12
  replace hl := hl.mono h12
  replace hv := hv.mono h12
  replace uA := uA.mono h12
  replace vA := vA.mono h12
  replace hA := hA.mono h12
  replace uB := uB.mono h12
  replace vB := vB.mono h12
  replace hB := hB.mono h12
  replace T := Add.trans T h12
  clear h12 hf0 hf1 hf2 hg0 hg1 hg2
  clear hB uB vB
  go_wp2_with fail
  go_loopw [9] (fun i wr => ∃ k : Nat, k ≤ n ∧ i = .int .i64 (k : Nat) ∧ True ∧ w12 = wr) (fun i _ => n - (intOf i).toNat)
  case atStart => exact ⟨0, Nat.zero_le _, rfl, trivial, rfl⟩
  case round =>
    obtain ⟨k, hk, rfl, hpre, rfl⟩ := hrel
    by_cases hlt : k < n
    · have dlt : decide (k < n) = true := decide_eq_true hlt
      obtain ⟨b, off, s, an, m', cn, ad, d, cd, rfl, q0, q1, q2, hsh⟩ := hv.cell hlt
      clear q0
      have hkl : k < L.length := by rw [HLn.out]; exact hlt
      have hm8 := HS.out (L.getD k (false, [], [])) (by simp [List.getD, hkl])
      rw [hsh] at hm8
      simp only [Bool.and_eq_true, decide_eq_true_eq] at hm8
      have d1 : decide ((8 : Int) < (m' : Int)) = false := by simp; omega
      have d2 : decide ((8 : Int) < (d : Int)) = false := by simp; omega
      clear hkl hm8 hsh
      go_wp2_with fail
      go_roundw
      case rel => exact ⟨k + 1, by omega, by go_num, by trivial⟩
      case measure => simp [intOf]; omega
    · obtain rfl : k = n := by omega
      clear hpre hlt hk
      have hk1 : ((k : Int) + 1 == 0) = false := by rw [beq_eq_false_iff_ne]; omega
      obtain ⟨j, hj⟩ : ∃ j : Nat, (m : Int) % ((k : Int) + 1) = (j : Int) := ⟨m % (k + 1), by rw [Int.natCast_emod, Int.natCast_add]; rfl⟩
      have hjk : (j : Int) ≤ (k : Int) := by have := Int.emod_lt_of_pos (m : Int) (show (0 : Int) < (k : Int) + 1 by omega); omega
      have hj0 : (0 : Int) ≤ (j : Int) := by omega
      have hjc : (j : Int) ≤ (c : Int) := by omega
      have hjn : j ≤ k := by omega
      have hkc : k ≤ c := by omega
      obtain ⟨M, hM⟩ : ∃ M, L.map triOf = M := ⟨_, rfl⟩
      rw [hM] at hl HG8 E1
      have hMl : M.length = k := by rw [← hM, List.length_map]; exact HLn.out
      obtain ⟨r2, z2⟩ := sumF_ok (M.take j) 0 1 sz0 (fun x hx => HG8.out x (List.mem_of_mem_take hx)) (by rw [List.length_take]; omega)
      obtain ⟨r3, z3⟩ := sumF_ok (M.drop j) 0 1 sz0 (fun x hx => HG8.out x (List.mem_of_mem_drop hx)) (by rw [List.length_drop]; omega)
      obtain ⟨r4, -⟩ := sumF_ok (M.drop j ++ M.take j) 0 1 sz0 (fun x hx => by rcases List.mem_append.1 hx with h | h; exact HG8.out x (List.mem_of_mem_drop h); exact HG8.out x (List.mem_of_mem_take h)) (by rw [List.length_append, List.length_drop, List.length_take]; omega)
      have hsum : sumQ (M.drop j) + sumQ (M.take j) = sumQ M := by
        have := sumQ_append (M.take j) (M.drop j)
        rw [List.take_append_drop] at this
        rw [this, Rat.add_comm]
      rw [can0, Rat.zero_add] at r2 r3 r4
      rw [Rat.zero_add] at z2 z3
      rw [sumQ_append, hsum, E1.out] at r4
      have z2' : Sz 109 (can (sumQ (M.take j))) := z2.up (by rw [List.length_take]; omega)
      have z3' : Sz 109 (can (sumQ (M.drop j))) := z3.up (by rw [List.length_drop]; omega)
      obtain ⟨r5, -⟩ := add_sz z3 z2 (by rw [List.length_drop, List.length_take]; omega)
      rw [qv_can, qv_can, hsum, E1.out] at r5
      obtain ⟨⟨s2, N2, D2⟩, e2⟩ : ∃ t, can (sumQ (M.take j)) = t := ⟨_, rfl⟩
      obtain ⟨⟨s3, N3, D3⟩, e3⟩ : ∃ t, can (sumQ (M.drop j)) = t := ⟨_, rfl⟩
      rw [e2] at r2 z2' r5
      rw [e3] at r3 z3' r5
      have R2 := Lib.hid r2
      have R3 := Lib.hid r3
      have R4 := Lib.hid r4
      have R5 := Lib.hid r5
      have Z2 := Lib.hid z2'
      have Z3 := Lib.hid z3'
      have h2 : FracsA _ (.slice a j c) (M.take j) := hl.cutL hjn c
      obtain ⟨so, hso⟩ : ∃ so, (if c = j then a else Option.map (fun x => x.add (j * 3)) a) = so := ⟨_, rfl⟩
      have h3 : FracsA _ (.slice so (k - j) (c - j)) (M.drop j) := hl.cutR hjn (c - j) (fun hlt b off hb => by
        subst hb
        rw [← hso, if_neg (by omega)]
        simp [addr_add])
      have hso0 : so = none → k - j = 0 ∧ c - j = 0 := by
        intro h
        rw [← hso] at h
        split at h
        · obtain ⟨g1, g2⟩ := HAn.out h; omega
        · have : a = none := by cases a with
            | none => rfl
            | some x => simp at h
          obtain ⟨g1, g2⟩ := HAn.out this; omega
      have ha0 : a = none → j = 0 ∧ c = 0 := fun h => by obtain ⟨g1, g2⟩ := HAn.out h; exact ⟨by omega, g2⟩
      have HSO := Lib.hid hso0
      have HA0 := Lib.hid ha0
      have HML := Lib.hid hMl
      clear r2 r3 r4 r5 z2 z3 z2' z3' hsum e2 e3 hM hMl hso0 ha0 hl hv HG8 E1 R0 Z0 R1 HS
      go_wp2_with fail
      refine ((sumN _ h2 hT (Lib.hid rfl)).mono fun _ _ g => resE g R2).mono ?_
      rintro e w13 ⟨aB, nB, cB, eB, mB, kB, rfl, uB, vB, h13⟩
      replace hT := hT.mono h13
      replace uA := uA.mono h13
      replace vA := vA.mono h13
      replace hA := hA.mono h13
      replace h2 := h2.mono h13
      replace h3 := h3.mono h13
      replace T := Add.trans T h13
      clear h13 
      obtain ⟨tt, hB⟩ := laid_var w13 s2 aB nB cB eB mB kB
      replace hT := hT.mono tt
      replace uA := uA.mono tt
      replace vA := vA.mono tt
      replace hA := hA.mono tt
      replace h2 := h2.mono tt
      replace h3 := h3.mono tt
      replace uB := uB.mono tt
      replace vB := vB.mono tt
      replace T := Add.trans T tt
      clear tt
      go_wp2_with fail
      refine ((sumN _ h3 hT (Lib.hid rfl)).mono fun _ _ g => resE g R3).mono ?_
      rintro e w14 ⟨aC, nC, cC, eC, mC, kC, rfl, uC, vC, h14⟩
      replace hT := hT.mono h14
      replace uA := uA.mono h14
      replace vA := vA.mono h14
      replace hA := hA.mono h14
      replace h2 := h2.mono h14
      replace h3 := h3.mono h14
      replace uB := uB.mono h14
      replace vB := vB.mono h14
      replace hB := hB.mono h14
      replace T := Add.trans T h14
      clear h14 
      obtain ⟨tt, hC⟩ := laid_var w14 s3 aC nC cC eC mC kC
      replace hT := hT.mono tt
      replace uA := uA.mono tt
      replace vA := vA.mono tt
      replace hA := hA.mono tt
      replace h2 := h2.mono tt
      replace h3 := h3.mono tt
      replace uB := uB.mono tt
      replace vB := vB.mono tt
      replace hB := hB.mono tt
      replace uC := uC.mono tt
      replace vC := vC.mono tt
      replace T := Add.trans T tt
      clear tt
      have hf0 := hC.c0
      have hf1 := hC.c1
      have hf2 := hC.c2
      have hg0 := hB.c0
      have hg1 := hB.c1
      have hg2 := hB.c2
      go_wp2_with fail
      refine ((addN' _ (fracA_mk2 (b := s3) uC vC Z3.out (by decide)) (fracA_mk2 (b := s2) uB vB Z2.out (by decide)) hT (Lib.hid rfl)).mono fun _ _ g => resE g R5).mono ?_
      rintro e w15 ⟨aD, nD, cD, eD, mD, kD, rfl, uD, vD, h15⟩
      replace hT := hT.mono h15
      replace uA := uA.mono h15
      replace vA := vA.mono h15
      replace hA := hA.mono h15
      replace h2 := h2.mono h15
      replace h3 := h3.mono h15
      replace uB := uB.mono h15
      replace vB := vB.mono h15
      replace hB := hB.mono h15
      replace uC := uC.mono h15
      replace vC := vC.mono h15
      replace hC := hC.mono h15
      replace T := Add.trans T h15
      clear h15 hf0 hf1 hf2 hg0 hg1 hg2
      obtain ⟨tt, hD⟩ := laid_var w15 s1 aD nD cD eD mD kD
      replace hT := hT.mono tt
      replace uA := uA.mono tt
      replace vA := vA.mono tt
      replace hA := hA.mono tt
      replace h2 := h2.mono tt
      replace h3 := h3.mono tt
      replace uB := uB.mono tt
      replace vB := vB.mono tt
      replace hB := hB.mono tt
      replace uC := uC.mono tt
      replace vC := vC.mono tt
      replace hC := hC.mono tt
      replace uD := uD.mono tt
      replace vD := vD.mono tt
      replace T := Add.trans T tt
      clear tt
      clear hB uB vB hC uC vC
      clear R2 R3
      obtain ⟨W0, hW0⟩ : ∃ W0, W0 = w15.alloc (.cells #[.bool s1, .slice aD nD cD, .slice eD mD kD] 25) := ⟨_, rfl⟩
      rw [← hW0] at T hT uA vA hA h2 h3 uD vD hD
      obtain ⟨i0, hi, hz0, hz1, hz2⟩ := info_parts infoFrac
      obtain ⟨x3, c3, m3, o3⟩ := cells_of h3
      obtain ⟨x2, c2, m2, o2⟩ := cells_of h2
      have l3 : x3.length = (k - j) * 3 := by rw [c3.1, List.length_drop, HML.out]
      have l2 : x2.length = j * 3 := by rw [c2.1, List.length_take, HML.out]; omega
      have M3 : Hid (∀ w', Add W0 w' → ∀ ad, so = some ad → ∀ j u, x3[j]? = some u → w'.cell? (ad.add j) = some u) := Lib.hid fun w' g ad h j u hu => (g.cell (World.block_lt_of_cell? W0 _ (m3 ad h j u hu))).trans (m3 ad h j u hu)
      have M2 : Hid (∀ w', Add W0 w' → ∀ ad, a = some ad → ∀ j u, x2[j]? = some u → w'.cell? (ad.add j) = some u) := Lib.hid fun w' g ad h j u hu => (g.cell (World.block_lt_of_cell? W0 _ (m2 ad h j u hu))).trans (m2 ad h j u hu)
      have O3 := Lib.hid o3
      have O2 := Lib.hid o2
      have L3 := Lib.hid l3
      have L2 := Lib.hid l2
      have CS : Hid (∀ w' v', Add W0 w' → w'.ownsRow W0.heap.size 25 3 v' (0 + (k - j) + j) ([] ++ x3 ++ x2) → Calls Tryz.prog 29 #[v'] w' (ResE w' s1 N1 D1 0)) := Lib.hid fun w' v' g ho => (sumN _ (fracs_own ho (by rw [List.nil_append]; exact (c3.append c2).mono g) (by rw [List.length_append, List.length_drop, List.length_take, HML.out]; omega) (by omega)) (hT.mono g) (Lib.hid rfl)).mono fun _ _ q => resE q R4
      clear c3 m3 o3 l3 c2 m2 o2 l2 h2 h3
      have LA := Lib.hid hA.lt
      have LD := Lib.hid hD.lt
      have LW : Hid (w.heap.size ≤ W0.heap.size) := Lib.hid T.size
      go_wp2_with fail
      rw [← hW0]
      clear hW0
      go_region_held3 (fun _ => True) (first | trivial | go_keep)
        (first | (refine step_fracs_append (by rfl) _ _ 45 (by rfl) W0.heap.size 25 i0 _ 3 56 Tryz.underlying45 hi hz0 hz1 hz2 (by rfl) (by decide) v1 _ _ (by rfl) ho1 _ _ _ (by rfl) HA0.out x2 L2.out (M2.out _ a2) O2.out (by unfold maxLen; omega) (by omega) a2.size ?_; intro v2 z2 ho2 hg2 hat2; have a3 : Add W0 z2 := Below.grown a2 hg2 a2.size (fun k hk => (own_block ho1 k hk).1); have bx2 := Box.grown bx1 hg2 hne1; (try clear hat2))
               | (refine step_fracs_append (by rfl) _ _ 45 (by rfl) W0.heap.size 25 i0 _ 3 56 Tryz.underlying45 hi hz0 hz1 hz2 (by rfl) (by decide) v1 _ _ (by rfl) ho1 _ _ _ (by rfl) HA0.out x2 L2.out (M2.out _ a2) O2.out (by unfold maxLen; omega) (by omega) a2.size ?_; intro v2 z2 ho2 hg2 hat2; have a3 : Add W0 z2 := Below.grown a2 hg2 a2.size (fun k hk => (own_block ho1 k hk).1); (try clear hat2))
               | (refine step_fracs_append (by rfl) _ _ 45 (by rfl) W0.heap.size 25 i0 _ 3 56 Tryz.underlying45 hi hz0 hz1 hz2 (by rfl) (by decide) v1 _ _ (by rfl) (ho1.alloc _) _ _ _ (by rfl) HA0.out x2 L2.out (M2.out _ (Add.trans a2 (add_new z1 _))) O2.out (by unfold maxLen; omega) (by omega) (Add.trans a2 (add_new z1 (.cells #[.bool false, .slice none 0 0, .slice none 0 0] 25))).size ?_; intro v2 z2 ho2 hg2 hat2; have a3 : Add W0 z2 := Below.grown (Add.trans a2 (add_new z1 (.cells #[.bool false, .slice none 0 0, .slice none 0 0] 25))) hg2 (Add.trans a2 (add_new z1 (.cells #[.bool false, .slice none 0 0, .slice none 0 0] 25))).size (fun k hk => (own_block ho1 k hk).1); have bx2 := Box.grown (box_new z1 false none 0 0 none 0 0) hg2 (fun e => absurd (own_block ho1 _ e.symm).2 (Nat.lt_irrefl _)); (try clear hat2))
               | (refine step_fracs_append (by rfl) _ _ 45 (by rfl) W0.heap.size 25 i0 _ 3 56 Tryz.underlying45 hi hz0 hz1 hz2 (by rfl) (by decide) _ _ _ (by rfl) (own_lit (w := (World.drew (W0.alloc (.cells #[] 25)))) (heap_alloc_new W0 (.cells #[] 25)) (Nat.le_refl _)) _ _ _ (by rfl) HSO.out x3 L3.out (M3.out _ (Below.drew (add_new W0 (.cells #[] 25)))) O3.out (by unfold maxLen; omega) (by omega) ((Below.drew (add_new W0 (.cells #[] 25))) : Add W0 (World.drew (W0.alloc (.cells #[] 25)))).size ?_; intro v1 z1 ho1 hg1 hat1; have a2 : Add W0 z1 := Below.grown (Below.drew (add_new W0 (.cells #[] 25))) hg1 ((Below.drew (add_new W0 (.cells #[] 25))) : Add W0 (World.drew (W0.alloc (.cells #[] 25)))).size (fun k hk => (own_block (base := W0.heap.size) (own_lit (w := (World.drew (W0.alloc (.cells #[] 25)))) (heap_alloc_new W0 (.cells #[] 25)) (Nat.le_refl _)) k hk).1); clear hat1; (try clear hat2))
               | (refine step_fracs_append (by rfl) _ _ 45 (by rfl) W0.heap.size 25 i0 _ 3 56 Tryz.underlying45 hi hz0 hz1 hz2 (by rfl) (by decide) _ _ _ (by rfl) (own_lit (w := (World.drew ((W0.alloc (.cells #[.bool false, .slice none 0 0, .slice none 0 0] 25)).alloc (.cells #[] 25)))) (g := W0.heap.size + 1) (show ((W0.alloc (.cells #[.bool false, .slice none 0 0, .slice none 0 0] 25)).alloc (.cells #[] 25)).heap[W0.heap.size + 1]? = _ by have h := heap_alloc_new (W0.alloc (.cells #[.bool false, .slice none 0 0, .slice none 0 0] 25)) (.cells #[] 25); simpa using h) (Nat.le_succ _)) _ _ _ (by rfl) HSO.out x3 L3.out (M3.out _ (Below.drew (Add.trans (add_new W0 (.cells #[.bool false, .slice none 0 0, .slice none 0 0] 25)) (add_new _ (.cells #[] 25))))) O3.out (by unfold maxLen; omega) (by omega) ((Below.drew (Add.trans (add_new W0 (.cells #[.bool false, .slice none 0 0, .slice none 0 0] 25)) (add_new _ (.cells #[] 25)))) : Add W0 (World.drew ((W0.alloc (.cells #[.bool false, .slice none 0 0, .slice none 0 0] 25)).alloc (.cells #[] 25)))).size ?_; intro v1 z1 ho1 hg1 hat1; have a2 : Add W0 z1 := Below.grown (Below.drew (Add.trans (add_new W0 (.cells #[.bool false, .slice none 0 0, .slice none 0 0] 25)) (add_new _ (.cells #[] 25)))) hg1 ((Below.drew (Add.trans (add_new W0 (.cells #[.bool false, .slice none 0 0, .slice none 0 0] 25)) (add_new _ (.cells #[] 25)))) : Add W0 (World.drew ((W0.alloc (.cells #[.bool false, .slice none 0 0, .slice none 0 0] 25)).alloc (.cells #[] 25)))).size (fun k hk => (own_block (base := W0.heap.size) (own_lit (w := (World.drew ((W0.alloc (.cells #[.bool false, .slice none 0 0, .slice none 0 0] 25)).alloc (.cells #[] 25)))) (g := W0.heap.size + 1) (show ((W0.alloc (.cells #[.bool false, .slice none 0 0, .slice none 0 0] 25)).alloc (.cells #[] 25)).heap[W0.heap.size + 1]? = _ by have h := heap_alloc_new (W0.alloc (.cells #[.bool false, .slice none 0 0, .slice none 0 0] 25)) (.cells #[] 25); simpa using h) (Nat.le_succ _)) k hk).1); have hne1 : some W0.heap.size ≠ v1.ownBlock := hne_b hat1; have bx1 := Box.grown (((box_new W0 false none 0 0 none 0 0).mono (add_new _ (.cells #[] 25))).mono (Below.drew (Below.refl _ _))) hg1 hne_b0; clear hat1; (try clear hat2))
               | (refine step_fracs_append (by rfl) _ _ 45 (by rfl) W0.heap.size 25 i0 _ 3 56 Tryz.underlying45 hi hz0 hz1 hz2 (by rfl) (by decide) _ _ _ (by rfl) (own_lit (w := (World.drew ((W0.alloc (.cells #[] 25)).alloc (.cells #[.bool false, .slice none 0 0, .slice none 0 0] 25)))) (g := W0.heap.size) (show ((W0.alloc (.cells #[] 25)).alloc (.cells #[.bool false, .slice none 0 0, .slice none 0 0] 25)).heap[W0.heap.size]? = _ from ((add_new (W0.alloc (.cells #[] 25)) (.cells #[.bool false, .slice none 0 0, .slice none 0 0] 25)).block W0.heap.size (by simp)).trans (heap_alloc_new W0 (.cells #[] 25))) (Nat.le_refl _)) _ _ _ (by rfl) HSO.out x3 L3.out (M3.out _ (Below.drew (Add.trans (add_new W0 (.cells #[] 25)) (add_new _ (.cells #[.bool false, .slice none 0 0, .slice none 0 0] 25))))) O3.out (by unfold maxLen; omega) (by omega) ((Below.drew (Add.trans (add_new W0 (.cells #[] 25)) (add_new _ (.cells #[.bool false, .slice none 0 0, .slice none 0 0] 25)))) : Add W0 (World.drew ((W0.alloc (.cells #[] 25)).alloc (.cells #[.bool false, .slice none 0 0, .slice none 0 0] 25)))).size ?_; intro v1 z1 ho1 hg1 hat1; have a2 : Add W0 z1 := Below.grown (Below.drew (Add.trans (add_new W0 (.cells #[] 25)) (add_new _ (.cells #[.bool false, .slice none 0 0, .slice none 0 0] 25)))) hg1 ((Below.drew (Add.trans (add_new W0 (.cells #[] 25)) (add_new _ (.cells #[.bool false, .slice none 0 0, .slice none 0 0] 25)))) : Add W0 (World.drew ((W0.alloc (.cells #[] 25)).alloc (.cells #[.bool false, .slice none 0 0, .slice none 0 0] 25)))).size (fun k hk => (own_block (base := W0.heap.size) (own_lit (w := (World.drew ((W0.alloc (.cells #[] 25)).alloc (.cells #[.bool false, .slice none 0 0, .slice none 0 0] 25)))) (g := W0.heap.size) (show ((W0.alloc (.cells #[] 25)).alloc (.cells #[.bool false, .slice none 0 0, .slice none 0 0] 25)).heap[W0.heap.size]? = _ from ((add_new (W0.alloc (.cells #[] 25)) (.cells #[.bool false, .slice none 0 0, .slice none 0 0] 25)).block W0.heap.size (by simp)).trans (heap_alloc_new W0 (.cells #[] 25))) (Nat.le_refl _)) k hk).1); have hne1 : some (W0.heap.size + 1) ≠ v1.ownBlock := hne_c hat1; have bx1 := Box.grown ((Box.cells (w := W0.alloc (.cells #[] 25)) (g := W0.heap.size + 1) (by simp)).mono (Below.drew (Below.refl _ _))) hg1 hne_c0; clear hat1; (try clear hat2))
               | (go_at_call 29; ((with_reducible refine (CS.out _ _ a3 ho2).mono ?_); rintro e z3 ⟨aE, nE, cE, eE, mE, kE, rfl, uE, vE, hq3⟩; have a4 := Add.trans a3 hq3; have bx3 := bx2.mono hq3; have g0 := bx3.c0; have g1 := bx3.c1; have g2 := bx3.c2; have g3 := bx3.fr 0; have g4 := bx3.fr 1; have g5 := bx3.fr 2))
               | (go_at_call 29; ((with_reducible refine (CS.out _ _ a3 ho2).mono ?_); rintro e z3 ⟨aE, nE, cE, eE, mE, kE, rfl, uE, vE, hq3⟩; have a4 := Add.trans a3 hq3))
               | (go_at_call 29; ((with_reducible refine (CS.out _ _ (Add.trans a3 (add_new z2 (.cells #[.bool false, .slice none 0 0, .slice none 0 0] 25))) (ho2.alloc _)).mono ?_); rintro e z3 ⟨aE, nE, cE, eE, mE, kE, rfl, uE, vE, hq3⟩; have a4 := Add.trans (Add.trans a3 (add_new z2 (.cells #[.bool false, .slice none 0 0, .slice none 0 0] 25))) hq3; have bx3 := (box_new z2 false none 0 0 none 0 0).mono hq3; have g0 := bx3.c0; have g1 := bx3.c1; have g2 := bx3.c2; have g3 := bx3.fr 0; have g4 := bx3.fr 1; have g5 := bx3.fr 2)))
      · rename_i hHeld
        clear hHeld
        obtain ⟨tt, hE⟩ := laid_var z3 s1 aE nE cE eE mE kE
        have tw := Add.trans a4 tt
        replace hT := hT.mono tw
        replace uA := uA.mono tw
        replace vA := vA.mono tw
        replace hA := hA.mono tw
        replace uD := uD.mono tw
        replace vD := vD.mono tw
        replace hD := hD.mono tw
        replace uE := uE.mono tt
        replace vE := vE.mono tt
        replace T := Add.trans T tw
        obtain ⟨gb, hgb⟩ : ∃ gb, gb = z3.heap.size := ⟨_, rfl⟩
        clear tt tw
        rw [← hgb] at hE ⊢
        obtain ⟨w40, hW5⟩ : ∃ W5, W5 = (z3.alloc (.cells #[.bool s1, .slice aE nE cE, .slice eE mE kE] 25)) := ⟨_, rfl⟩
        rw [← hW5] at hE uE vE T hT uA vA hA uD vD hD ⊢
        clear hW5 hgb hq3 a4 a3 a2 ho1 ho2 hg1 hg2 M2 M3 O2 O3 L2 L3 CS LA LD LW HSO HA0 hj hso hjk hj0 hjc hjn hkc hk1 hi hz0 hz1 hz2
        have hf0 := hD.c0
        have hf1 := hD.c1
        have hf2 := hD.c2
        have hg0 := hA.c0
        have hg1 := hA.c1
        have hg2 := hA.c2
        go_wp2_with fail
        refine (sameF true (fracT_mk (b := s1) uD vD) (fracT_mk (b := s1) uA vA) (Lib.hid (decide_eq_true rfl))).mono ?_
        rintro e w41 ⟨rfl, h41⟩
        replace hT := hT.mono h41
        replace uA := uA.mono h41
        replace vA := vA.mono h41
        replace hA := hA.mono h41
        replace uD := uD.mono h41
        replace vD := vD.mono h41
        replace hD := hD.mono h41
        replace hE := hE.mono h41
        replace uE := uE.mono h41
        replace vE := vE.mono h41
        replace T := Add.trans T h41
        clear h41 hf0 hf1 hf2 hg0 hg1 hg2
        clear hD uD vD
        have hf0 := hE.c0
        have hf1 := hE.c1
        have hf2 := hE.c2
        have hg0 := hA.c0
        have hg1 := hA.c1
        have hg2 := hA.c2
        go_wp2_with fail
        refine (sameF true (fracT_mk (b := s1) uE vE) (fracT_mk (b := s1) uA vA) (Lib.hid (decide_eq_true rfl))).mono ?_
        rintro e w42 ⟨rfl, h42⟩
        replace hT := hT.mono h42
        replace uA := uA.mono h42
        replace vA := vA.mono h42
        replace hA := hA.mono h42
        replace hE := hE.mono h42
        replace uE := uE.mono h42
        replace vE := vE.mono h42
        replace T := Add.trans T h42
        clear h42 hf0 hf1 hf2 hg0 hg1 hg2
        clear hE uE vE hA uA vA
        go_wp2_with fail
        refine (awake2_any _ hT).mono ?_
        rintro e w43 ⟨rfl, h43⟩
        replace hT := hT.mono h43
        replace T := Add.trans T h43
        clear h43 
        go_wp2_with fail
        go_ret
        exact ⟨rfl, T⟩
      · rename_i hHeld
        clear hHeld
        have hE := bx3.put s1 aE nE cE eE mE kE
        have gle : W0.heap.size ≤ z2.heap.size := a3.size
        have lA := LA.out
        have lD := LD.out
        have lW := LW.out
        replace hT := Tab.put (hT.mono a4) bx3 (.bool s1) (.slice aE nE cE) (.slice eE mE kE)
        replace uA := (uA.mono a4).put bx3 (.bool s1) (.slice aE nE cE) (.slice eE mE kE)
        replace vA := (vA.mono a4).put bx3 (.bool s1) (.slice aE nE cE) (.slice eE mE kE)
        replace hA := Box.other2 (hA.mono a4) (show w10.heap.size ≠ z2.heap.size by omega) (.bool s1) (.slice aE nE cE) (.slice eE mE kE)
        replace uD := (uD.mono a4).put bx3 (.bool s1) (.slice aE nE cE) (.slice eE mE kE)
        replace vD := (vD.mono a4).put bx3 (.bool s1) (.slice aE nE cE) (.slice eE mE kE)
        replace hD := Box.other2 (hD.mono a4) (show w15.heap.size ≠ z2.heap.size by omega) (.bool s1) (.slice aE nE cE) (.slice eE mE kE)
        replace uE := uE.put bx3 (.bool s1) (.slice aE nE cE) (.slice eE mE kE)
        replace vE := vE.put bx3 (.bool s1) (.slice aE nE cE) (.slice eE mE kE)
        replace T := put3_below (.bool s1) (.slice aE nE cE) (.slice eE mE kE) (Add.trans T a4) (show w.heap.size ≤ z2.heap.size by omega)
        obtain ⟨gb, hgb⟩ : ∃ gb, gb = z2.heap.size := ⟨_, rfl⟩
        unfold put3 at hE uE vE T hT uA vA hA uD vD hD
        clear bx3 g0 g1 g2 g3 g4 g5 gle lA lD lW
        rw [← hgb] at hE uE vE T hT uA vA hA uD vD hD ⊢
        obtain ⟨w40, hW5⟩ : ∃ W5, W5 = (((z3.setCell ⟨gb, 0, none⟩ (.bool s1)).setCell ⟨gb, 1, none⟩ (.slice aE nE cE)).setCell ⟨gb, 2, none⟩ (.slice eE mE kE)) := ⟨_, rfl⟩
        rw [← hW5] at hE uE vE T hT uA vA hA uD vD hD ⊢
        clear hW5 hgb hq3 a4 a3 a2 ho1 ho2 hg1 hg2 M2 M3 O2 O3 L2 L3 CS LA LD LW HSO HA0 hj hso hjk hj0 hjc hjn hkc hk1 hi hz0 hz1 hz2
        have hf0 := hD.c0
        have hf1 := hD.c1
        have hf2 := hD.c2
        have hg0 := hA.c0
        have hg1 := hA.c1
        have hg2 := hA.c2
        go_wp2_with fail
        refine (sameF true (fracT_mk (b := s1) uD vD) (fracT_mk (b := s1) uA vA) (Lib.hid (decide_eq_true rfl))).mono ?_
        rintro e w41 ⟨rfl, h41⟩
        replace hT := hT.mono h41
        replace uA := uA.mono h41
        replace vA := vA.mono h41
        replace hA := hA.mono h41
        replace uD := uD.mono h41
        replace vD := vD.mono h41
        replace hD := hD.mono h41
        replace hE := hE.mono h41
        replace uE := uE.mono h41
        replace vE := vE.mono h41
        replace T := Add.trans T h41
        clear h41 hf0 hf1 hf2 hg0 hg1 hg2
        clear hD uD vD
        have hf0 := hE.c0
        have hf1 := hE.c1
        have hf2 := hE.c2
        have hg0 := hA.c0
        have hg1 := hA.c1
        have hg2 := hA.c2
        go_wp2_with fail
        refine (sameF true (fracT_mk (b := s1) uE vE) (fracT_mk (b := s1) uA vA) (Lib.hid (decide_eq_true rfl))).mono ?_
        rintro e w42 ⟨rfl, h42⟩
        replace hT := hT.mono h42
        replace uA := uA.mono h42
        replace vA := vA.mono h42
        replace hA := hA.mono h42
        replace hE := hE.mono h42
        replace uE := uE.mono h42
        replace vE := vE.mono h42
        replace T := Add.trans T h42
        clear h42 hf0 hf1 hf2 hg0 hg1 hg2
        clear hE uE vE hA uA vA
        go_wp2_with fail
        refine (awake2_any _ hT).mono ?_
        rintro e w43 ⟨rfl, h43⟩
        replace hT := hT.mono h43
        replace T := Add.trans T h43
        clear h43 
        go_wp2_with fail
        go_ret
        exact ⟨rfl, T⟩
      · rename_i hHeld
        clear hHeld
        have hE := bx3.put s1 aE nE cE eE mE kE
        have gle : W0.heap.size ≤ z1.heap.size := a2.size
        have lA := LA.out
        have lD := LD.out
        have lW := LW.out
        replace hT := Tab.put (hT.mono a4) bx3 (.bool s1) (.slice aE nE cE) (.slice eE mE kE)
        replace uA := (uA.mono a4).put bx3 (.bool s1) (.slice aE nE cE) (.slice eE mE kE)
        replace vA := (vA.mono a4).put bx3 (.bool s1) (.slice aE nE cE) (.slice eE mE kE)
        replace hA := Box.other2 (hA.mono a4) (show w10.heap.size ≠ z1.heap.size by omega) (.bool s1) (.slice aE nE cE) (.slice eE mE kE)
        replace uD := (uD.mono a4).put bx3 (.bool s1) (.slice aE nE cE) (.slice eE mE kE)
        replace vD := (vD.mono a4).put bx3 (.bool s1) (.slice aE nE cE) (.slice eE mE kE)
        replace hD := Box.other2 (hD.mono a4) (show w15.heap.size ≠ z1.heap.size by omega) (.bool s1) (.slice aE nE cE) (.slice eE mE kE)
        replace uE := uE.put bx3 (.bool s1) (.slice aE nE cE) (.slice eE mE kE)
        replace vE := vE.put bx3 (.bool s1) (.slice aE nE cE) (.slice eE mE kE)
        replace T := put3_below (.bool s1) (.slice aE nE cE) (.slice eE mE kE) (Add.trans T a4) (show w.heap.size ≤ z1.heap.size by omega)
        obtain ⟨gb, hgb⟩ : ∃ gb, gb = z1.heap.size := ⟨_, rfl⟩
        unfold put3 at hE uE vE T hT uA vA hA uD vD hD
        clear bx3 g0 g1 g2 g3 g4 g5 gle lA lD lW
        rw [← hgb] at hE uE vE T hT uA vA hA uD vD hD ⊢
        obtain ⟨w40, hW5⟩ : ∃ W5, W5 = (((z3.setCell ⟨gb, 0, none⟩ (.bool s1)).setCell ⟨gb, 1, none⟩ (.slice aE nE cE)).setCell ⟨gb, 2, none⟩ (.slice eE mE kE)) := ⟨_, rfl⟩
        rw [← hW5] at hE uE vE T hT uA vA hA uD vD hD ⊢
        clear hW5 hgb hq3 a4 a3 a2 ho1 ho2 hg1 hg2 M2 M3 O2 O3 L2 L3 CS LA LD LW HSO HA0 hj hso hjk hj0 hjc hjn hkc hk1 hi hz0 hz1 hz2
        have hf0 := hD.c0
        have hf1 := hD.c1
        have hf2 := hD.c2
        have hg0 := hA.c0
        have hg1 := hA.c1
        have hg2 := hA.c2
        go_wp2_with fail
        refine (sameF true (fracT_mk (b := s1) uD vD) (fracT_mk (b := s1) uA vA) (Lib.hid (decide_eq_true rfl))).mono ?_
        rintro e w41 ⟨rfl, h41⟩
        replace hT := hT.mono h41
        replace uA := uA.mono h41
        replace vA := vA.mono h41
        replace hA := hA.mono h41
        replace uD := uD.mono h41
        replace vD := vD.mono h41
        replace hD := hD.mono h41
        replace hE := hE.mono h41
        replace uE := uE.mono h41
        replace vE := vE.mono h41
        replace T := Add.trans T h41
        clear h41 hf0 hf1 hf2 hg0 hg1 hg2
        clear hD uD vD
        have hf0 := hE.c0
        have hf1 := hE.c1
        have hf2 := hE.c2
        have hg0 := hA.c0
        have hg1 := hA.c1
        have hg2 := hA.c2
        go_wp2_with fail
        refine (sameF true (fracT_mk (b := s1) uE vE) (fracT_mk (b := s1) uA vA) (Lib.hid (decide_eq_true rfl))).mono ?_
        rintro e w42 ⟨rfl, h42⟩
        replace hT := hT.mono h42
        replace uA := uA.mono h42
        replace vA := vA.mono h42
        replace hA := hA.mono h42
        replace hE := hE.mono h42
        replace uE := uE.mono h42
        replace vE := vE.mono h42
        replace T := Add.trans T h42
        clear h42 hf0 hf1 hf2 hg0 hg1 hg2
        clear hE uE vE hA uA vA
        go_wp2_with fail
        refine (awake2_any _ hT).mono ?_
        rintro e w43 ⟨rfl, h43⟩
        replace hT := hT.mono h43
        replace T := Add.trans T h43
        clear h43 
        go_wp2_with fail
        go_ret
        exact ⟨rfl, T⟩
      · rename_i hHeld
        clear hHeld
        have hE := bx3.put s1 aE nE cE eE mE kE
        have gle : W0.heap.size ≤ W0.heap.size + 1 := Nat.le_succ _
        have lA := LA.out
        have lD := LD.out
        have lW := LW.out
        replace hT := Tab.put (hT.mono a4) bx3 (.bool s1) (.slice aE nE cE) (.slice eE mE kE)
        replace uA := (uA.mono a4).put bx3 (.bool s1) (.slice aE nE cE) (.slice eE mE kE)
        replace vA := (vA.mono a4).put bx3 (.bool s1) (.slice aE nE cE) (.slice eE mE kE)
        replace hA := Box.other2 (hA.mono a4) (show w10.heap.size ≠ W0.heap.size + 1 by omega) (.bool s1) (.slice aE nE cE) (.slice eE mE kE)
        replace uD := (uD.mono a4).put bx3 (.bool s1) (.slice aE nE cE) (.slice eE mE kE)
        replace vD := (vD.mono a4).put bx3 (.bool s1) (.slice aE nE cE) (.slice eE mE kE)
        replace hD := Box.other2 (hD.mono a4) (show w15.heap.size ≠ W0.heap.size + 1 by omega) (.bool s1) (.slice aE nE cE) (.slice eE mE kE)
        replace uE := uE.put bx3 (.bool s1) (.slice aE nE cE) (.slice eE mE kE)
        replace vE := vE.put bx3 (.bool s1) (.slice aE nE cE) (.slice eE mE kE)
        replace T := put3_below (.bool s1) (.slice aE nE cE) (.slice eE mE kE) (Add.trans T a4) (show w.heap.size ≤ W0.heap.size + 1 by omega)
        obtain ⟨gb, hgb⟩ : ∃ gb, gb = W0.heap.size + 1 := ⟨_, rfl⟩
        unfold put3 at hE uE vE T hT uA vA hA uD vD hD
        clear bx3 g0 g1 g2 g3 g4 g5 gle lA lD lW
        rw [← hgb] at hE uE vE T hT uA vA hA uD vD hD ⊢
        obtain ⟨w40, hW5⟩ : ∃ W5, W5 = (((z3.setCell ⟨gb, 0, none⟩ (.bool s1)).setCell ⟨gb, 1, none⟩ (.slice aE nE cE)).setCell ⟨gb, 2, none⟩ (.slice eE mE kE)) := ⟨_, rfl⟩
        rw [← hW5] at hE uE vE T hT uA vA hA uD vD hD ⊢
        clear hW5 hgb hq3 a4 a3 a2 ho1 ho2 hg1 hg2 M2 M3 O2 O3 L2 L3 CS LA LD LW HSO HA0 hj hso hjk hj0 hjc hjn hkc hk1 hi hz0 hz1 hz2
        have hf0 := hD.c0
        have hf1 := hD.c1
        have hf2 := hD.c2
        have hg0 := hA.c0
        have hg1 := hA.c1
        have hg2 := hA.c2
        go_wp2_with fail
        refine (sameF true (fracT_mk (b := s1) uD vD) (fracT_mk (b := s1) uA vA) (Lib.hid (decide_eq_true rfl))).mono ?_
        rintro e w41 ⟨rfl, h41⟩
        replace hT := hT.mono h41
        replace uA := uA.mono h41
        replace vA := vA.mono h41
        replace hA := hA.mono h41
        replace uD := uD.mono h41
        replace vD := vD.mono h41
        replace hD := hD.mono h41
        replace hE := hE.mono h41
        replace uE := uE.mono h41
        replace vE := vE.mono h41
        replace T := Add.trans T h41
        clear h41 hf0 hf1 hf2 hg0 hg1 hg2
        clear hD uD vD
        have hf0 := hE.c0
        have hf1 := hE.c1
        have hf2 := hE.c2
        have hg0 := hA.c0
        have hg1 := hA.c1
        have hg2 := hA.c2
        go_wp2_with fail
        refine (sameF true (fracT_mk (b := s1) uE vE) (fracT_mk (b := s1) uA vA) (Lib.hid (decide_eq_true rfl))).mono ?_
        rintro e w42 ⟨rfl, h42⟩
        replace hT := hT.mono h42
        replace uA := uA.mono h42
        replace vA := vA.mono h42
        replace hA := hA.mono h42
        replace hE := hE.mono h42
        replace uE := uE.mono h42
        replace vE := vE.mono h42
        replace T := Add.trans T h42
        clear h42 hf0 hf1 hf2 hg0 hg1 hg2
        clear hE uE vE hA uA vA
        go_wp2_with fail
        refine (awake2_any _ hT).mono ?_
        rintro e w43 ⟨rfl, h43⟩
        replace hT := hT.mono h43
        replace T := Add.trans T h43
        clear h43 
        go_wp2_with fail
        go_ret
        exact ⟨rfl, T⟩
      · rename_i hHeld
        clear hHeld
        have hE := bx3.put s1 aE nE cE eE mE kE
        have gle : W0.heap.size ≤ W0.heap.size := Nat.le_refl _
        have lA := LA.out
        have lD := LD.out
        have lW := LW.out
        replace hT := Tab.put (hT.mono a4) bx3 (.bool s1) (.slice aE nE cE) (.slice eE mE kE)
        replace uA := (uA.mono a4).put bx3 (.bool s1) (.slice aE nE cE) (.slice eE mE kE)
        replace vA := (vA.mono a4).put bx3 (.bool s1) (.slice aE nE cE) (.slice eE mE kE)
        replace hA := Box.other2 (hA.mono a4) (show w10.heap.size ≠ W0.heap.size by omega) (.bool s1) (.slice aE nE cE) (.slice eE mE kE)
        replace uD := (uD.mono a4).put bx3 (.bool s1) (.slice aE nE cE) (.slice eE mE kE)
        replace vD := (vD.mono a4).put bx3 (.bool s1) (.slice aE nE cE) (.slice eE mE kE)
        replace hD := Box.other2 (hD.mono a4) (show w15.heap.size ≠ W0.heap.size by omega) (.bool s1) (.slice aE nE cE) (.slice eE mE kE)
        replace uE := uE.put bx3 (.bool s1) (.slice aE nE cE) (.slice eE mE kE)
        replace vE := vE.put bx3 (.bool s1) (.slice aE nE cE) (.slice eE mE kE)
        replace T := put3_below (.bool s1) (.slice aE nE cE) (.slice eE mE kE) (Add.trans T a4) (show w.heap.size ≤ W0.heap.size by omega)
        obtain ⟨gb, hgb⟩ : ∃ gb, gb = W0.heap.size := ⟨_, rfl⟩
        unfold put3 at hE uE vE T hT uA vA hA uD vD hD
        clear bx3 g0 g1 g2 g3 g4 g5 gle lA lD lW
        rw [← hgb] at hE uE vE T hT uA vA hA uD vD hD ⊢
        obtain ⟨w40, hW5⟩ : ∃ W5, W5 = (((z3.setCell ⟨gb, 0, none⟩ (.bool s1)).setCell ⟨gb, 1, none⟩ (.slice aE nE cE)).setCell ⟨gb, 2, none⟩ (.slice eE mE kE)) := ⟨_, rfl⟩
        rw [← hW5] at hE uE vE T hT uA vA hA uD vD hD ⊢
        clear hW5 hgb hq3 a4 a3 a2 ho1 ho2 hg1 hg2 M2 M3 O2 O3 L2 L3 CS LA LD LW HSO HA0 hj hso hjk hj0 hjc hjn hkc hk1 hi hz0 hz1 hz2
        have hf0 := hD.c0
        have hf1 := hD.c1
        have hf2 := hD.c2
        have hg0 := hA.c0
        have hg1 := hA.c1
        have hg2 := hA.c2
        go_wp2_with fail
        refine (sameF true (fracT_mk (b := s1) uD vD) (fracT_mk (b := s1) uA vA) (Lib.hid (decide_eq_true rfl))).mono ?_
        rintro e w41 ⟨rfl, h41⟩
        replace hT := hT.mono h41
        replace uA := uA.mono h41
        replace vA := vA.mono h41
        replace hA := hA.mono h41
        replace uD := uD.mono h41
        replace vD := vD.mono h41
        replace hD := hD.mono h41
        replace hE := hE.mono h41
        replace uE := uE.mono h41
        replace vE := vE.mono h41
        replace T := Add.trans T h41
        clear h41 hf0 hf1 hf2 hg0 hg1 hg2
        clear hD uD vD
        have hf0 := hE.c0
        have hf1 := hE.c1
        have hf2 := hE.c2
        have hg0 := hA.c0
        have hg1 := hA.c1
        have hg2 := hA.c2
        go_wp2_with fail
        refine (sameF true (fracT_mk (b := s1) uE vE) (fracT_mk (b := s1) uA vA) (Lib.hid (decide_eq_true rfl))).mono ?_
        rintro e w42 ⟨rfl, h42⟩
        replace hT := hT.mono h42
        replace uA := uA.mono h42
        replace vA := vA.mono h42
        replace hA := hA.mono h42
        replace hE := hE.mono h42
        replace uE := uE.mono h42
        replace vE := vE.mono h42
        replace T := Add.trans T h42
        clear h42 hf0 hf1 hf2 hg0 hg1 hg2
        clear hE uE vE hA uA vA
        go_wp2_with fail
        refine (awake2_any _ hT).mono ?_
        rintro e w43 ⟨rfl, h43⟩
        replace hT := hT.mono h43
        replace T := Add.trans T h43
        clear h43 
        go_wp2_with fail
        go_ret
        exact ⟨rfl, T⟩

theorem sums_any {v : Value} {L : List FrL} {m : Nat} (w : World) (hv : FracsI w v L) (hT : Tab w) (hm : m < 256) : Calls Tryz.prog 5 #[v, .int .u8 (m : Nat)] w (LawP w) := by
  by_cases h : L.length ≤ 12
  · rcases hg : longL L with _ | _
    · by_cases hs : ∀ x ∈ L, short8 x = true
      · by_cases hx : ∀ x ∈ L.map triOf, okF x = true
        · exact sums_good w hv hT h hg hs hx hm
        · refine sums_bad w hv hT h hg hs ?_
          simp only [Classical.not_forall] at hx
          obtain ⟨x, hx1, hx2⟩ := hx
          exact ⟨x, hx1, by simpa using hx2⟩
      · refine sums_stop w hv hT h hg ?_
        simp only [Classical.not_forall] at hs
        obtain ⟨x, hx1, hx2⟩ := hs
        exact ⟨x, hx1, by simpa using hx2⟩
    · exact sums_long w hv hT h hg
  · exact sums_wide w hv hT (by omega)
end Go.Proofs.YtiboebgnbnafdaaGreatDoor.SumsL
