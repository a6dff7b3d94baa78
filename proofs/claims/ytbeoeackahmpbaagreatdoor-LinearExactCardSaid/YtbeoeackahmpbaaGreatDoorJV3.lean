import Derived.Test.YtbeoeackahmpbaaGreatDoorJV2
import Derived.Test.YtbeoeackahmpbaaGreatDoorJU
import Derived.Maps.AppendAt
import Derived.Deep.AppendLies
import Derived.Deep.Cut
namespace Go
theorem step_append_run {P : Program} {w : World} {ops : Array Oper} {o : Oper} {a : Act} {K : Act → World → Prop} {Q : Exit → Act → World → Prop} {E : Prop} (hgd : o.guard = none) (s x : Operand) (t : TypeId)
 (ho : o.op = .call { callee := .builtin .append, args := #[s, x], argTypes := #[t, t] }) {v u v' : Value} {w' : World} (hs : a.eval s = v) (hx : a.eval x = u)
 (hr : (Builtin.append_ #[t, t] o.type #[v, u]).run P w = .ok v' w') (h : K (a.put o.dst v') w') :
 if Region.wanted o (yielded ops a.tmps) = true then Oper.wp P o a w K Q else E := by
 have hw : Region.wanted o (yielded ops a.tmps) = true := by simp [Region.wanted, hgd]
 rw [if_pos hw]
 unfold Oper.wp execOp
 simp only [ho, resolve, invoke, builtin, Sem.run_bind, Sem.run_pure, Result.andThen_ok, List.map_toArray, List.map_cons, List.map_nil, hs, hx, hr]
 exact h
end Go
namespace Go.Proofs.YtbeoeackahmpbaaGreatDoor
open Go.RowKit NatM Go.Proofs.YtbeoeackahmpbaaGreatDoor.Api
def SoftV (u : Value) : Prop := ∀ k z, k ≠ IntKind.i64 → u ≠ .int k z
def SoftB (w : World) (v : Value) : Prop := ∀ g, v.ownBlock = some g → ∀ j k z, k ≠ IntKind.i64 → w.cell? ⟨g, j, none⟩ ≠ some (.int k z)
theorem soft_cells {w : World} {g : Nat} {cur : Array Value} {T : TypeId} {f : Nat × Nat} (h : w.heap[g]? = some (.cells cur T f)) (hs : ∀ u ∈ cur, SoftV u) : ∀ j k z, k ≠ IntKind.i64 → w.cell? ⟨g, j, none⟩ ≠ some (.int k z) := by
 intro j k z hk e
 rw [cell_of_row w g j cur T f h] at e
 exact hs _ (Array.mem_of_getElem? e) k z hk rfl
theorem soft_zero {z : Array Value} (hz : 0 < z.size) (hs : ∀ u ∈ z, SoftV u) (n : Nat) : ∀ u ∈ Builtin.zeroCells z n, SoftV u := by
 intro u hu
 unfold Builtin.zeroCells at hu
 obtain ⟨i, -, rfl⟩ := Array.mem_map.1 hu
 have hlt := Nat.mod_lt i hz
 rw [getElem!_pos z (i % z.size) hlt]
 exact hs _ (Array.getElem_mem hlt)
theorem run_append_soft {P : Program} (w : World) (base : Nat) (t ty e : TypeId) (i : TypeInfo) (z : Value) (size bytes : Nat) (ht : P.underlying t = some (.slice e)) (hi : P.info? e = some i) (hz : i.zero = some z)
 (hsize : i.size = size) (hby : i.bytes = bytes) (hzs : z.cells.size = size) (hsz : 0 < size) (hsoft : ∀ u ∈ z.cells, SoftV u)
 (v : Value) (n : Nat) (xs : List Value) (hown : w.ownsRow base e size v n xs) (hv : SoftB w v)
 (a : Addr) (m c : Nat) (news : List Value) (hl : news.length = m * size) (hnews : ∀ j u, news[j]? = some u → w.cell? (a.add j) = some u) (h1 : ∀ u ∈ news, u.oneCell' = true) (hns : ∀ u ∈ news, SoftV u)
 (h63 : n + m ≤ maxLen) (hbytes : (n + m) * bytes ≤ 140737488355328) (hbase : base ≤ w.heap.size) :
 ∃ v' w', (Builtin.append_ #[t, t] ty #[v, .slice (some a) m c]).run P w = .ok v' w' ∧ w'.ownsRow base e size v' (n + m) (xs ++ news) ∧ w.grownBy w' v.ownBlock ∧ (v'.ownBlock = v.ownBlock ∨ v'.ownBlock = some w.heap.size) ∧ SoftB w' v' := by
 obtain ⟨v', w', hr, h2, h3, h4, h5⟩ := run_append_own_at (P := P) w base t ty e i z size bytes ht hi hz hsize hby hzs hsz v n xs hown a m c news hl hnews h1 h63 hbytes hbase
 refine ⟨v', w', hr, h2, h3, h5, ?_⟩
 subst hsize
 subst hby
 unfold maxLen at h63
 have hxs : ∀ u ∈ xs, SoftV u := by
  intro u hu k z hk e
  obtain ⟨j, hj, rfl⟩ := List.mem_iff_getElem.1 hu
  rcases hown.2 with ⟨rfl, rfl⟩ | ⟨g, cap, cur, rfl, hbg, hg, hnc, hcm, hcs, htake⟩
  · have := hown.1; omega
  · have hc := hown.cells (g := g) rfl j xs[j] (by simp [hj])
    rw [Addr.add_lit, e] at hc
    exact hv g rfl _ k z hk hc
 rcases hown.2 with ⟨rfl, rfl⟩ | ⟨g, cap, cur, rfl, hbg, hg, hnc, hcm, hcs, htake⟩
 · by_cases hm : m = 0
   · have : v' = .slice none 0 0 := h4.2 ⟨rfl, hm⟩
     rw [this]
     intro g hg; cases hg
   · have hr' := run_append_nil (P := P) w t ty e i z ht hi hz a m c news hl hnews (by omega) (by omega) (by have hb := hbytes; simp only [Nat.zero_add] at hb; omega)
     rw [hr] at hr'
     obtain ⟨rfl, rfl⟩ := Result.ok.inj hr'
     intro g hg
     obtain rfl : w.heap.size = g := Option.some.inj hg
     refine soft_cells (heap_alloc_new w.drew _) fun u hu => ?_
     rcases Array.mem_append.1 hu with h | h
     · exact hns u (by simpa using h)
     · exact soft_zero (by omega) hsoft _ u h
 · by_cases hroom : n + m ≤ cap
   · have hr' := run_append_room (P := P) w t ty e i ht hi g n cap cur hg a m c news hl hnews h1 hroom (by rw [hl, hcs, ← Nat.add_mul]; exact Nat.mul_le_mul_right _ hroom)
     rw [hr] at hr'
     obtain ⟨rfl, rfl⟩ := Result.ok.inj hr'
     intro g' hg'
     obtain rfl : g = g' := Option.some.inj hg'
     refine soft_cells (setRow_heap w g cur _ e _ hg) fun u hu => ?_
     have hcur : ∀ u ∈ cur, SoftV u := fun u hu k z hk e => by
      obtain ⟨j, hj, rfl⟩ := Array.mem_iff_getElem.1 hu
      refine hv g rfl j k z hk ?_
      rw [cell_of_row w g j cur _ _ hg, ← e]; simp [hj]
     simp only [List.mem_toArray, List.mem_append] at hu
     rcases hu with (h | h) | h
     · exact hcur u (by simpa using List.mem_of_mem_take h)
     · exact hns u h
     · exact hcur u (by simpa using List.mem_of_mem_drop h)
   · have holds : ∀ j u, xs[j]? = some u → w.cell? ((⟨g, 0, none⟩ : Addr).add j) = some u := hown.cells (g := g) rfl
     have hr' := run_append_grow (P := P) w t ty e i z ht hi hz ⟨g, 0, none⟩ n cap xs hown.1 holds a m c news hl hnews (by omega) (by omega) (growslice_fits (by omega) hbytes)
     rw [hr] at hr'
     obtain ⟨rfl, rfl⟩ := Result.ok.inj hr'
     intro g' hg'
     obtain rfl : w.heap.size = g' := Option.some.inj hg'
     refine soft_cells (heap_alloc_new w.drew _) fun u hu => ?_
     rcases Array.mem_append.1 hu with h | h
     · rcases Array.mem_append.1 h with h | h
       · exact hxs u (by simpa using h)
       · exact hns u (by simpa using h)
     · exact soft_zero (by omega) hsoft _ u h
theorem chg_grown {w w' : World} {v : Value} (hg : w.grownBy w' v.ownBlock) (hv : SoftB w v) : Chg (fun k => v.ownBlock = some k) w w' :=
 ⟨hg.os, hg.tape, hg.output, hg.size, fun k hk hn => hg.block k hk fun e => hn e.symm, fun p k z hk hc => by
  by_cases e : some p.block = v.ownBlock
  · obtain ⟨b, o, s⟩ := p
    cases s with
    | some s => simp only [World.cell?] at hc; split at hc <;> simp at hc
    | none => exact absurd hc (hv b e.symm o k z hk)
  · exact hg.cell hc e⟩
def CellsT (w : World) (xs : List Value) (n : Nat) (t : Nat → Tri) : Prop :=
 ∀ i, i < n → ∃ s an m cn ad d cd, xs[i * 3]? = some (.bool s) ∧ xs[i * 3 + 1]? = some (.slice an m cn) ∧ xs[i * 3 + 2]? = some (.slice ad d cd) ∧ FracT w (.agg #[.bool s, .slice an m cn, .slice ad d cd]) (t i)
theorem CellsT.chg {S : Nat → Prop} {w w' : World} {xs : List Value} {n : Nat} {t : Nat → Tri} (h : CellsT w xs n t) (hb : Chg S w w') : CellsT w' xs n t := by
 intro i hi
 obtain ⟨s, an, m, cn, ad, d, cd, h1, h2, h3, h4⟩ := h i hi
 exact ⟨s, an, m, cn, ad, d, cd, h1, h2, h3, h4.chg hb⟩
def OwnF (w : World) (base : Nat) (v : Value) (n : Nat) (t : Nat → Tri) : Prop := ∃ xs, w.ownsRow base 37 3 v n xs ∧ CellsT w xs n t ∧ SoftB w v
theorem own_chg {S : Nat → Prop} {w w' : World} {base size n : Nat} {e : TypeId} {v : Value} {xs : List Value} (h : w.ownsRow base e size v n xs) (hb : Chg S w w') (hn : ∀ g, v.ownBlock = some g → ¬ S g) : w'.ownsRow base e size v n xs := by
 refine ⟨h.1, ?_⟩
 rcases h.2 with h0 | ⟨g, cap, cur, rfl, hbg, hg, rest⟩
 · exact .inl h0
 · exact .inr ⟨g, cap, cur, rfl, hbg, (hb.block g (Array.getElem?_eq_some_iff.1 hg).1 (hn g rfl)).trans hg, rest⟩
theorem own_in {w : World} {base size n : Nat} {e : TypeId} {v : Value} {xs : List Value} (h : w.ownsRow base e size v n xs) : ∀ g, v.ownBlock = some g → base ≤ g ∧ g < w.heap.size ∧ ∃ cur, w.heap[g]? = some (.cells cur e (0, 0)) := by
 intro k hk
 rcases h.2 with ⟨rfl, -⟩ | ⟨g, cap, cur, rfl, hb, hg, -⟩
 · cases hk
 · obtain rfl : g = k := Option.some.inj hk
   exact ⟨hb, (Array.getElem?_eq_some_iff.1 hg).1, cur, hg⟩
theorem soft_chg {S : Nat → Prop} {w w' : World} {v : Value} (h : SoftB w v) (hb : Chg S w w') (hl : ∀ g, v.ownBlock = some g → g < w.heap.size ∧ ¬ S g) : SoftB w' v := by
 intro g hg j k z hk e
 obtain ⟨h1, h2⟩ := hl g hg
 have := World.cell?_of_block (a := ⟨g, j, none⟩) (hb.block g h1 h2)
 rw [this] at e
 exact h g hg j k z hk e
theorem OwnF.chg {S : Nat → Prop} {w w' : World} {base n : Nat} {v : Value} {t : Nat → Tri} (h : OwnF w base v n t) (hb : Chg S w w') (hn : ∀ g, v.ownBlock = some g → ¬ S g) : OwnF w' base v n t := by
 obtain ⟨xs, h1, h2, h3⟩ := h
 exact ⟨xs, own_chg h1 hb hn, h2.chg hb, soft_chg h3 hb fun g hg => ⟨(own_in h1 g hg).2.1, hn g hg⟩⟩
theorem OwnF.add {w w' : World} {base n : Nat} {v : Value} {t : Nat → Tri} (h : OwnF w base v n t) (hb : Add w w') : OwnF w' base v n t := h.chg (Chg.of_add (fun _ => False) hb) fun _ _ => id
theorem OwnF.nil (w : World) (base : Nat) (t : Nat → Tri) : OwnF w base (.slice none 0 0) 0 t := ⟨[], World.ownsRow_nil _ _ _ _, fun i hi => by omega, fun g hg => by cases hg⟩
theorem OwnF.slice {w : World} {base n : Nat} {v : Value} {t : Nat → Tri} (h : OwnF w base v n t) : ∃ a c, v = .slice a n c ∧ n ≤ c ∧ c ≤ maxLen := by
 obtain ⟨xs, h1, -⟩ := h
 rcases h1.2 with ⟨rfl, rfl⟩ | ⟨g, cap, cur, rfl, -, -, h2, h3, -⟩
 · exact ⟨none, 0, rfl, Nat.le_refl _, by unfold maxLen; omega⟩
 · exact ⟨_, cap, rfl, h2, h3⟩
theorem OwnF.congr {w : World} {base n : Nat} {v : Value} {t t' : Nat → Tri} (h : OwnF w base v n t) (he : ∀ i, i < n → t i = t' i) : OwnF w base v n t' := by
 obtain ⟨xs, h1, h2, h3⟩ := h
 exact ⟨xs, h1, fun i hi => by rw [← he i hi]; exact h2 i hi, h3⟩
theorem OwnF.row {w : World} {base n : Nat} {v : Value} {t : Nat → Tri} (h : OwnF w base v n t) : RowP true w v n t := by
 obtain ⟨a, c, rfl, h4, h5⟩ := h.slice
 obtain ⟨xs, h1, h2, h3⟩ := h
 refine ⟨a, c, rfl, h4, h5, fun hn => ?_⟩
 rcases h1.2 with ⟨e, rfl⟩ | ⟨g, cap, cur, e, -, -, -⟩
 · omega
 · simp only [Value.slice.injEq] at e
   obtain ⟨rfl, -, rfl⟩ := e
   refine ⟨g, 0, rfl, fun i hi => ?_⟩
   obtain ⟨s, an, m, cn, ad, d, cd, g1, g2, g3, g4⟩ := h2 i hi
   have k := h1.cells (g := g) rfl
   have k1 := k _ _ g1
   have k2 := k _ _ g2
   have k3 := k _ _ g3
   rw [Addr.add_lit] at k1 k2 k3
   rw [← Nat.add_assoc] at k2 k3
   exact ⟨s, an, m, cn, ad, d, cd, k1, k2, k3, g4⟩
theorem OwnF.append {w : World} {base n B : Nat} {v : Value} {t : Nat → Tri} (h : OwnF w base v n t) {s : Bool} {an : Option Addr} {m cn : Nat} {ad : Option Addr} {d cd : Nat} {x : Tri} {T : TypeId} {f : Nat × Nat} (hB : w.heap[B]? = some (.cells #[.bool s, .slice an m cn, .slice ad d cd] T f)) (hx : FracT w (.agg #[.bool s, .slice an m cn, .slice ad d cd]) x)
 (hn : n ≤ 100000) (hbase : base ≤ w.heap.size) (c : Nat) :
 ∃ a' c' w', (Builtin.append_ #[23, 23] 23 #[v, .slice (some ⟨B, 0, none⟩) 1 c]).run Tryz.prog w = .ok (.slice a' (n + 1) c') w' ∧ OwnF w' base (.slice a' (n + 1) c') (n + 1) (fun i => if i = n then x else t i) ∧ Chg (fun k => v.ownBlock = some k) w w' ∧ ((Value.slice a' (n + 1) c').ownBlock = v.ownBlock ∨ (Value.slice a' (n + 1) c').ownBlock = some w.heap.size) := by
 obtain ⟨i0, hi, hz0, hz1, hz2⟩ := info_parts infoFracL
 obtain ⟨xs, h1, h2, h3⟩ := h
 obtain ⟨v', w', hr, k1, k2, k3, k4⟩ := run_append_soft (P := Tryz.prog) w base 23 23 37 i0 (.agg #[.bool false, .slice none 0 0, .slice none 0 0]) 3 56 Tryz.underlying23 hi hz0 hz1 hz2 rfl (by decide)
  (by intro u hu k z _ e; simp [Value.cells] at hu; rcases hu with rfl | rfl <;> cases e)
  v n xs h1 h3 ⟨B, 0, none⟩ 1 c [.bool s, .slice an m cn, .slice ad d cd] rfl (World.news_of_block hB) (by intro u hu; simp at hu; rcases hu with rfl | rfl | rfl <;> rfl) (by intro u hu k z _ e; simp at hu; rcases hu with rfl | rfl | rfl <;> cases e)
  (by unfold maxLen; omega) (by omega) hbase
 have hc := chg_grown k2 h3
 have hl : xs.length = n * 3 := h1.1
 have hO : OwnF w' base v' (n + 1) (fun i => if i = n then x else t i) := by
  refine ⟨_, k1, fun i hi => ?_, k4⟩
  by_cases e : i = n
  · subst e
    refine ⟨s, an, m, cn, ad, d, cd, ?_, ?_, ?_, ?_⟩
    · rw [List.getElem?_append_right (by omega), show i * 3 - xs.length = 0 by omega]; rfl
    · rw [List.getElem?_append_right (by omega), show i * 3 + 1 - xs.length = 1 by omega]; rfl
    · rw [List.getElem?_append_right (by omega), show i * 3 + 2 - xs.length = 2 by omega]; rfl
    · dsimp only; rw [if_pos rfl]; exact hx.chg hc
  · obtain ⟨s', an', m', cn', ad', d', cd', g1, g2, g3, g4⟩ := h2 i (by omega)
    refine ⟨s', an', m', cn', ad', d', cd', ?_, ?_, ?_, ?_⟩
    · rw [List.getElem?_append_left (by omega)]; exact g1
    · rw [List.getElem?_append_left (by omega)]; exact g2
    · rw [List.getElem?_append_left (by omega)]; exact g3
    · dsimp only; rw [if_neg e]; exact g4.chg hc
 obtain ⟨a', c', rfl, -, -⟩ := hO.slice
 exact ⟨a', c', w', hr, hO, hc, k3⟩
end Go.Proofs.YtbeoeackahmpbaaGreatDoor
namespace Go.Proofs.YtbeoeackahmpbaaGreatDoor
open Go.RowKit NatM Go.Proofs.YtbeoeackahmpbaaGreatDoor.Api
theorem OwnF.lt {w : World} {base n : Nat} {v : Value} {t : Nat → Tri} (h : OwnF w base v n t) : ∀ g, v.ownBlock = some g → base ≤ g ∧ g < w.heap.size := by
 obtain ⟨xs, h1, -⟩ := h
 intro g hg
 have := own_in h1 g hg
 exact ⟨this.1, this.2.1⟩
theorem OwnF.ne {w : World} {base n G k : Nat} {v : Value} {t : Nat → Tri} {hv : Nat → Value} (h : OwnF w base v n t) (hh : HB w G k hv) : v.ownBlock ≠ some G := by
 obtain ⟨xs, h1, -⟩ := h
 intro e
 obtain ⟨-, -, cur, hg⟩ := own_in h1 G e
 obtain ⟨cur', hg', -⟩ := hh
 rw [hg] at hg'
 simp only [Option.some.injEq, Obj.cells.injEq] at hg'
 exact absurd hg'.2.1 (by decide)
structure AM (w : World) (base G n : Nat) (hv : Nat → Value) (len : Nat → Nat) (X : Nat → Nat → Tri) : Prop where
 head : HB w G n hv
 rows : ∀ i, i < n → OwnF w base (hv i) (len i) (X i)
 sep : ∀ i j, i < n → j < n → i ≠ j → (hv i).ownBlock = (hv j).ownBlock → (hv i).ownBlock = none
 low : base ≤ G
theorem AM.add {w w' : World} {base G n : Nat} {hv : Nat → Value} {len : Nat → Nat} {X : Nat → Nat → Tri} (h : AM w base G n hv len X) (hb : Add w w') : AM w' base G n hv len X :=
 ⟨h.head.add hb, fun i hi => (h.rows i hi).add hb, h.sep, h.low⟩
theorem AM.congr {w : World} {base G n : Nat} {hv : Nat → Value} {len len' : Nat → Nat} {X X' : Nat → Nat → Tri} (h : AM w base G n hv len X) (hl : ∀ i, i < n → len i = len' i) (he : ∀ i j, i < n → j < len i → X i j = X' i j) : AM w base G n hv len' X' :=
 ⟨h.head, fun i hi => by rw [← hl i hi]; exact (h.rows i hi).congr fun j hj => he i j hi hj, h.sep, h.low⟩
theorem AM.start {w : World} {base G n : Nat} (X : Nat → Nat → Tri) (h : HB w G n (fun _ => .slice none 0 0)) (hb : base ≤ G) : AM w base G n (fun _ => .slice none 0 0) (fun _ => 0) X :=
 ⟨h, fun _ _ => OwnF.nil w base _, fun _ _ _ _ _ _ => rfl, hb⟩
theorem AM.push {w w1 w2 : World} {base G n i : Nat} {hv : Nat → Value} {len : Nat → Nat} {X : Nat → Nat → Tri} {a : Option Addr} {l c : Nat} {t : Nat → Tri} (h : AM w base G n hv len X) (hi : i < n) (ha : Add w w1)
 (ho : OwnF w2 base (.slice a l c) l t) (hc : Chg (fun k => (hv i).ownBlock = some k) w1 w2) (hat : (Value.slice a l c).ownBlock = (hv i).ownBlock ∨ (Value.slice a l c).ownBlock = some w1.heap.size) :
 AM (w2.setCell ⟨G, i, none⟩ (.slice a l c)) base G n (fun j => if j = i then .slice a l c else hv j) (fun j => if j = i then l else len j) (fun j => if j = i then t else X j) := by
 have h1 := h.add ha
 have hne := (h1.rows i hi).ne h1.head
 have hh2 := h1.head.chg hc hne
 have hs := hh2.chgS (S := fun b => b = G) rfl hi (.slice a l c)
 have far : ∀ j, j < n → j ≠ i → ∀ g, (hv j).ownBlock = some g → (hv i).ownBlock ≠ some g := fun j hj hji g hg e => by
  have := h.sep j i hj hi hji (hg.trans e.symm)
  rw [this] at hg; cases hg
 refine ⟨hh2.put hi a l c, fun j hj => ?_, fun j k hj hk hjk e => ?_, h.low⟩
 · by_cases e : j = i
   · subst e
     rw [if_pos rfl, if_pos rfl, if_pos rfl]
     exact ho.chg hs fun g hg q => ho.ne hh2 (by rw [hg, q])
   · rw [if_neg e, if_neg e, if_neg e]
     have k1 := h1.rows j hj
     have k2 := k1.chg hc (far j hj e)
     exact k2.chg hs fun g hg q => k2.ne hh2 (by rw [hg, q])
 · have new : ∀ j, j < n → j ≠ i → (Value.slice a l c).ownBlock = (hv j).ownBlock → (hv j).ownBlock = none := fun j hj hji e => by
    rcases hat with q | q
    · exact h.sep j i hj hi hji (e.symm.trans q)
    · rw [q] at e
      have := ((h1.rows j hj).lt _ e.symm).2
      omega
   by_cases e1 : j = i
   · rw [if_pos e1] at e ⊢
     rw [if_neg (fun q => hjk (e1.trans q.symm))] at e
     rw [e]; exact new k hk (fun q => hjk (e1.trans q.symm)) e
   · rw [if_neg e1] at e ⊢
     by_cases e2 : k = i
     · rw [if_pos e2] at e; exact new j hj e1 e.symm
     · rw [if_neg e2] at e; exact h.sep j k hj hk hjk e
theorem AM.below {w w1 w2 : World} {w0 : World} {G n i : Nat} {hv : Nat → Value} {len : Nat → Nat} {X : Nat → Nat → Tri} (h : AM w w0.heap.size G n hv len X) (hi : i < n) (h0 : Add w0 w) (ha : Add w w1) (hc : Chg (fun k => (hv i).ownBlock = some k) w1 w2) (u : Value) : Add w0 (w2.setCell ⟨G, i, none⟩ u) :=
 (hc.below (Add.trans h0 ha) (Nat.le_trans h0.size ha.size) fun k hk => ((h.rows i hi).lt k hk).1).setCell h.low u
theorem AM.cell {w : World} {base G n : Nat} {hv : Nat → Value} {len : Nat → Nat} {X : Nat → Nat → Tri} (h : AM w base G n hv len X) {i : Nat} (hi : i < n) : ∃ a c, hv i = .slice a (len i) c ∧ w.cell? ⟨G, i, none⟩ = some (.slice a (len i) c) := by
 obtain ⟨a, c, e, -, -⟩ := (h.rows i hi).slice
 exact ⟨a, c, e, by rw [h.head.cell hi, e]⟩
theorem AM.mat {w : World} {base G n : Nat} {hv : Nat → Value} {len : Nat → Nat} {X : Nat → Nat → Tri} (h : AM w base G n hv len X) (hn : n ≤ maxLen) : MatP true w (.slice (some ⟨G, 0, none⟩) n n) n len X := by
 refine ⟨_, n, rfl, Nat.le_refl _, hn, fun _ => ⟨G, 0, rfl, fun i hi => ⟨hv i, ?_, (h.rows i hi).row⟩⟩⟩
 rw [Nat.zero_add]; exact h.head.cell hi
def RetAM (w : World) (n : Nat) (len : Nat → Nat) (X : Nat → Nat → Tri) (e : Ending) (w' : World) : Prop := ∃ G hv, e = .returned (.slice (some ⟨G, 0, none⟩) n n) ∧ AM w' w.heap.size G n hv len X ∧ Add w w'
end Go.Proofs.YtbeoeackahmpbaaGreatDoor
namespace Go.Proofs.YtbeoeackahmpbaaGreatDoor
open Go.RowKit NatM Go.Proofs.YtbeoeackahmpbaaGreatDoor.Api
theorem b_drewL {w w' : World} (h : Add w w') : Add w (World.drew w') := Below.drew h
set_option maxRecDepth 100000 in
set_option maxHeartbeats 2000000 in
theorem transposedN {w : World} {v : Value} {n m : Nat} {X : Nat → Nat → Tri} (h : MatP true w v n (fun _ => m) X) (h1 : 1 ≤ n) (hn : n ≤ 1000) (hm : m ≤ 1000) :
 Calls Tryz.prog 48 #[v] w (RetAM w m (fun _ => n) (fun j i => X i j)) := by
 obtain ⟨i1, hi1, hy0, hy1, hy2⟩ := info_parts infoFracs
 obtain ⟨ao, c, rfl, -⟩ := h.isSlice
 have HX := Lib.hid h
 obtain ⟨b, off, a0, l0, rfl, -, hcell0, -⟩ := h.row (show 0 < n by omega)
 rw [Nat.add_zero] at hcell0
 clear h
 go_enter Tryz.func48, Tryz.ntmps48
 go_wp2_with (at_make; refine wpList_make_full _ rfl _ _ 22 rfl w.heap.size 23 i1 (.slice none 0 0) 1 Tryz.underlying22 hi1 hy0 hy1 _ _ _ _ m rfl rfl (by omega) (by omega) (by rw [hy2]; omega) (by unfold maxLen; omega) (Nat.le_refl _) ?_)
 intro w1 hown hgr
 obtain ⟨G, hG⟩ : ∃ G, G = w.heap.size := ⟨_, rfl⟩
 have hB := HB.made hown
 rw [← hG] at hB ⊢
 have A1 : Add w w1 := (Below.refl _ _).grown hgr (Nat.le_refl _) (by simp)
 have hE := AM.start (base := w.heap.size) (fun j i => X i j) hB (by omega)
 clear hown hgr hB hG hcell0
 go_wp2_with fail
 go_loopw [15] (fun i wr => ∃ (k : Nat) (hv : Nat → Value), k ≤ n ∧ i = .int .i64 (k : Nat) ∧ AM wr w.heap.size G m hv (fun _ => k) (fun j i => X i j) ∧ Add w wr) (fun i _ => n - (intOf i).toNat)
 case atStart => exact ⟨0, _, Nat.zero_le _, rfl, hE, A1⟩
 case round =>
  clear hE A1
  obtain ⟨k, hv, hk, rfl, hE, T⟩ := hrel
  by_cases h0 : k = n
  · have HF := Lib.hid hE
    have TT := Lib.hid T
    clear hE T
    subst h0
    go_wp2_with fail
    go_ret
    exact ⟨G, hv, rfl, HF.out, TT.out⟩
  · have hlt : k < n := by omega
    obtain ⟨b', off', a, l1, e, hm63, hcell0, hrow⟩ := HX.out.row hlt
    simp only [Option.some.injEq, Addr.mk.injEq, and_true] at e
    obtain ⟨rfl, rfl⟩ := e
    have hcell := cell_addL hcell0 T
    have HR := Lib.hid hrow
    have HE := Lib.hid (And.intro hE T)
    clear hrow hm63 T h0 hE hcell0
    rename World => wm
    go_wp2_with fail
    clear hcell
    go_loopw [21] (fun i wq => ∃ (j : Nat) (hv : Nat → Value), j ≤ m ∧ i = .int .i64 (j : Nat) ∧ AM wq w.heap.size G m hv (fun c => if c < j then k + 1 else k) (fun j i => X i j) ∧ Add w wq) (fun i _ => m - (intOf i).toNat)
    case atStart => exact ⟨0, hv, Nat.zero_le _, rfl, HE.out.1.congr (fun i _ => by rw [if_neg (by omega)]) (fun _ _ _ _ => rfl), HE.out.2⟩
    case round =>
     clear HE
     obtain ⟨j, hv, hj, rfl, hE, T⟩ := hrel
     by_cases h1 : j = m
     · have HF := Lib.hid (hE.congr (len' := fun _ => k + 1) (X' := fun j i => X i j) (fun i hi => by rw [if_pos (by omega)]) fun _ _ _ _ => rfl)
       have TF := Lib.hid T
       clear hE T
       subst h1
       go_wp2_with fail
       go_roundw
       case rel => exact ⟨k + 1, _, by omega, by go_num, HF.out, TF.out⟩
       case measure => simp [intOf]; omega
     · have hlt2 : j < m := by omega
       obtain ⟨b2, off2, s, an, q, cn, ad, d, cd, rfl, -, c0, c1, c2, hx⟩ := (HR.out.add T).get hlt2
       obtain ⟨T3, hO⟩ := laid_var wr s an q cn ad d cd
       have hx3 : FracT (wr.alloc (.cells #[.bool s, .slice an q cn, .slice ad d cd] 37)) (.agg #[.bool s, .slice an q cn, .slice ad d cd]) (X k j) := FracT.mono hx T3
       have TW := Add.trans T T3
       have hEW := hE.add T3
       obtain ⟨gx, hgx⟩ : ∃ gx, gx = wr.heap.size := ⟨_, rfl⟩
       obtain ⟨W3, hW3⟩ : ∃ W3, W3 = wr.alloc (.cells #[.bool s, .slice an q cn, .slice ad d cd] 37) := ⟨_, rfl⟩
       have HW3 : Hid ((wr.alloc (.cells #[.bool s, .slice an q cn, .slice ad d cd] 37)) = W3) := Lib.hid hW3.symm
       have HGX := Lib.hid hgx
       rw [← hW3] at hx3 TW hEW hO
       rw [← hgx] at hO
       obtain ⟨ra, rc, hvj, hcj⟩ := hEW.cell hlt2
       rw [if_neg (by omega)] at hvj hcj
       obtain ⟨l, hl⟩ : ∃ l, l = k := ⟨_, rfl⟩
       rw [← hl] at hvj hcj
       have HL := Lib.hid hl
       have hl1 : l ≤ 1000 := by omega
       have HD : Hid (∀ o, Add W3 ((World.drew W3).alloc o)) := Lib.hid fun o => Add.trans (b_drewL (Below.refl _ _)) (add_new _ o)
       have HS : Hid (∀ w', Add W3 w' → w'.cell? ⟨gx, 0, none⟩ = some (.bool s) ∧ w'.cell? ⟨gx, 1, none⟩ = some (.slice an q cn) ∧ w'.cell? ⟨gx, 2, none⟩ = some (.slice ad d cd)) := Lib.hid fun w' g => ⟨(hO.mono g).c0, (hO.mono g).c1, (hO.mono g).c2⟩
       have HC1 : Hid (∀ w', Add W3 w' → w'.cell? ⟨G, j, none⟩ = some (.slice ra l rc)) := Lib.hid fun w' g => cell_addL hcj g
       obtain ⟨Wb, hWb⟩ : ∃ Wb, Wb = (World.drew W3).alloc (.cells #[.bool s, .slice an q cn, .slice ad d cd] 37) := ⟨_, rfl⟩
       have hAb : Add W3 Wb := by rw [hWb]; exact HD.out _
       have hbk : Wb.heap[W3.heap.size]? = some (.cells #[.bool s, .slice an q cn, .slice ad d cd] 37 (0, 0)) := by rw [hWb]; exact heap_alloc_new (World.drew W3) _
       have hrw := hEW.rows j hlt2
       rw [if_neg (by omega), ← hl] at hrw
       obtain ⟨a', c', w6, hrun, hO6, hc6, hat⟩ := (hrw.add hAb).append hbk (hx3.mono hAb) (by omega) (Nat.le_trans TW.size hAb.size) 1
       have hE7 := hEW.push hlt2 hAb hO6 hc6 hat
       have T7 := hEW.below hlt2 TW hAb hc6 (.slice a' (l + 1) c')
       have hh6 := (hEW.head.add hAb).chg hc6 (hrw.ne hEW.head)
       have C6 : w6.cell? ⟨G, j, none⟩ = some (.slice ra l rc) := by rw [hh6.cell hlt2, hvj]
       have f6 := hh6.free j
       have l6 := hh6.lt
       have hgx1 : ¬ (hv j).ownBlock = some gx := fun e => by
        have := (hE.rows j hlt2).lt gx e
        omega
       have hgx2 : gx ≠ G := fun e => by have := hE.head.lt; omega
       have hO7 := (hO.mono hAb).chg hc6 hgx1
       have HS6 : Hid (w6.cell? ⟨gx, 0, none⟩ = some (.bool s) ∧ w6.cell? ⟨gx, 1, none⟩ = some (.slice an q cn) ∧ w6.cell? ⟨gx, 2, none⟩ = some (.slice ad d cd)) := Lib.hid ⟨hO7.c0, hO7.c1, hO7.c2⟩
       have HS7 : Hid ((w6.setCell ⟨G, j, none⟩ (.slice a' (l + 1) c')).cell? ⟨gx, 0, none⟩ = some (.bool s) ∧ (w6.setCell ⟨G, j, none⟩ (.slice a' (l + 1) c')).cell? ⟨gx, 1, none⟩ = some (.slice an q cn) ∧ (w6.setCell ⟨G, j, none⟩ (.slice a' (l + 1) c')).cell? ⟨gx, 2, none⟩ = some (.slice ad d cd)) := Lib.hid (by
        rw [cell_set_other rfl (fun e => hgx2 (congrArg Addr.block e)), cell_set_other rfl (fun e => hgx2 (congrArg Addr.block e)), cell_set_other rfl (fun e => hgx2 (congrArg Addr.block e))]
        exact HS6.out)
       rw [hWb, hvj] at hrun
       have HRUN := Lib.hid hrun
       have HN : Hid (AM (w6.setCell ⟨G, j, none⟩ (.slice a' (l + 1) c')) w.heap.size G m (fun c => if c = j then .slice a' (l + 1) c' else hv c) (fun c => if c < j + 1 then k + 1 else k) (fun j i => X i j) ∧ Add w (w6.setCell ⟨G, j, none⟩ (.slice a' (l + 1) c'))) := Lib.hid ⟨hE7.congr (fun i hi => by
        by_cases e : i = j
        · rw [if_pos e, if_pos (by omega), HL.out]
        · rw [if_neg e]
          by_cases e2 : i < j
          · rw [if_pos e2, if_pos (by omega)]
          · rw [if_neg e2, if_neg (by omega)]) (fun i r hi hr => by
        by_cases e : i = j
        · rw [if_pos e] at hr ⊢
          by_cases e2 : r = l
          · rw [if_pos e2, e2, e, HL.out]
          · rw [if_neg e2, e]
        · rw [if_neg e]), T7⟩
       have HSD := Lib.hid (HS.out _ (b_drewL (Below.refl _ W3)))
       have HCD := Lib.hid (HC1.out _ (b_drewL (Below.refl _ W3)))
       obtain ⟨p0, p1, p2⟩ := HS.out W3 (Below.refl _ _)
       have hGl := (hEW.head).lt
       clear hx hx3 T3 hO TW hEW hW3 hE h1 hgx hvj hrw hrun hbk hAb hWb hO6 hc6 hat hE7 T7 hh6 hgx1 hgx2 hO7 hl T
       go_upto_region 8 with fail
       rw [HW3.out, ← HGX.out]
       clear HW3 c0 c1 c2
       refine wp_region_T (fun w' => w'.cell? ⟨gx, 0, none⟩ = some (.bool s) ∧ w'.cell? ⟨gx, 1, none⟩ = some (.slice an q cn) ∧ w'.cell? ⟨gx, 2, none⟩ = some (.slice ad d cd)) (fun w' => w'.cell? ⟨G, j, none⟩ = some (.slice ra l rc)) 10 (by kernel_rfl) ?_
       show wpAnyT _ _ _ _ _ _ _ 11 #[false, false, false, false, false, false, false, false, false, false, false] _ _
       refine wpAnyT_take (i := 0) (v := ?_) (by simp only [List.getElem?_toArray, List.getElem?_cons_zero]; rfl) (by kernel_rfl) (by kernel_rfl) (by kernel_rfl) (by kernel_rfl) (by intro _ _ _ h; exact h) (Or.inl ⟨by rfl, ?_⟩) HSD.out HCD.out ?_
       rotate_left
       · intro w' hSw
         try dsimp only at hSw
         go_simp
         try with_reducible rfl
       try simp only [Act.put, List.setIfInBounds_toArray, List.set_cons_zero, List.set_cons_succ]
       refine wpAnyT_take (i := 1) (v := ?_) (by simp only [List.getElem?_toArray, List.getElem?_cons_zero, List.getElem?_cons_succ]; rfl) (by kernel_rfl) (by kernel_rfl) (by kernel_rfl) (by kernel_rfl) (by intro _ _ _ h; exact h) (Or.inl ⟨by rfl, ?_⟩) HSD.out HCD.out ?_
       rotate_left
       · intro w' hSw
         try dsimp only at hSw
         go_simp
         try with_reducible rfl
       try simp only [Act.put, List.setIfInBounds_toArray, List.set_cons_zero, List.set_cons_succ]
       refine wpAnyT_take (i := 2) (v := ?_) (by simp only [List.getElem?_toArray, List.getElem?_cons_zero, List.getElem?_cons_succ]; rfl) (by kernel_rfl) (by kernel_rfl) (by kernel_rfl) (by kernel_rfl) (by intro _ _ _ h; exact h) (Or.inl ⟨by rfl, ?_⟩) HSD.out HCD.out ?_
       rotate_left
       · intro w' hSw
         try dsimp only at hSw
         go_simp
         try with_reducible rfl
       try simp only [Act.put, List.setIfInBounds_toArray, List.set_cons_zero, List.set_cons_succ]
       refine wpAnyT_take (i := 3) (v := ?_) (by simp only [List.getElem?_toArray, List.getElem?_cons_zero, List.getElem?_cons_succ]; rfl) (by kernel_rfl) (by kernel_rfl) (by kernel_rfl) (by kernel_rfl) (by intro _ _ _ h; exact h) (Or.inl ⟨by rfl, ?_⟩) HSD.out HCD.out ?_
       rotate_left
       · intro w' hSw
         try dsimp only at hSw
         go_simp
         try with_reducible rfl
       try simp only [Act.put, List.setIfInBounds_toArray, List.set_cons_zero, List.set_cons_succ]
       refine wpAnyT_take (i := 4) (v := ?_) (by simp only [List.getElem?_toArray, List.getElem?_cons_zero, List.getElem?_cons_succ]; rfl) (by kernel_rfl) (by kernel_rfl) (by kernel_rfl) (by kernel_rfl) (by intro _ _ _ h; exact h) (Or.inl ⟨by rfl, ?_⟩) HSD.out HCD.out ?_
       rotate_left
       · intro w' hSw
         try dsimp only at hSw
         go_simp
         try with_reducible rfl
       try simp only [Act.put, List.setIfInBounds_toArray, List.set_cons_zero, List.set_cons_succ]
       refine wpAnyT_take (i := 5) (v := ?_) (by simp only [List.getElem?_toArray, List.getElem?_cons_zero, List.getElem?_cons_succ]; rfl) (by kernel_rfl) (by kernel_rfl) (by kernel_rfl) (by kernel_rfl) (by intro _ _ _ h; exact h) (Or.inl ⟨by rfl, ?_⟩) HSD.out HCD.out ?_
       rotate_left
       · intro w' hSw
         try dsimp only at hSw
         go_simp
         try with_reducible rfl
       try simp only [Act.put, List.setIfInBounds_toArray, List.set_cons_zero, List.set_cons_succ]
       refine wpAnyT_take (i := 6) (v := ?_) (by simp only [List.getElem?_toArray, List.getElem?_cons_zero, List.getElem?_cons_succ]; rfl) (by kernel_rfl) (by kernel_rfl) (by kernel_rfl) (by kernel_rfl) (by intro _ _ _ h; exact h) (Or.inl ⟨by rfl, ?_⟩) HSD.out HCD.out ?_
       rotate_left
       · intro w' hSw
         try dsimp only at hSw
         go_simp
         try with_reducible rfl
       try simp only [Act.put, List.setIfInBounds_toArray, List.set_cons_zero, List.set_cons_succ]
       refine wpAnyT_one (i := 7) (by kernel_rfl) (wpOp_do (by simp only [List.getElem?_toArray, List.getElem?_cons_zero, List.getElem?_cons_succ]; rfl) fun K hK => ?_)
       go_simp
       refine hK _ _ ⟨⟨HS.out _ (HD.out _), fun _ => HC1.out _ (HD.out _)⟩, ?_⟩
       clear hK K
       try simp only [List.setIfInBounds_toArray, List.set_cons_zero, List.set_cons_succ]
       refine wpAnyT_one (i := 8) (by kernel_rfl) (wpOp_do (by simp only [List.getElem?_toArray, List.getElem?_cons_zero, List.getElem?_cons_succ]; rfl) fun K hK => ?_)
       refine step_append_run rfl _ _ 23 rfl rfl rfl HRUN.out ?_
       refine hK _ _ ⟨⟨HS6.out, fun _ => C6⟩, ?_⟩
       clear hK K
       try simp only [Act.put, List.setIfInBounds_toArray, List.set_cons_zero, List.set_cons_succ]
       refine wpAnyT_one (i := 9) (by kernel_rfl) (wpOp_do (by simp only [List.getElem?_toArray, List.getElem?_cons_zero, List.getElem?_cons_succ]; rfl) fun K hK => ?_)
       go_simp
       refine hK _ _ ⟨⟨HS6.out, fun _ => C6⟩, ?_⟩
       clear hK K
       try simp only [List.setIfInBounds_toArray, List.set_cons_zero, List.set_cons_succ]
       refine wpAnyT_one (i := 10) (by kernel_rfl) (wpOp_do (by simp only [List.getElem?_toArray, List.getElem?_cons_zero, List.getElem?_cons_succ]; rfl) fun K hK => ?_)
       go_simp
       refine hK _ _ ⟨⟨HS7.out, fun h => absurd (show true = false from h) (by decide)⟩, ?_⟩
       clear hK K
       try simp only [List.setIfInBounds_toArray, List.set_cons_zero, List.set_cons_succ]
       refine wpAnyT_done (by kernel_rfl) ?_ _
       go_wp2_with fail
       go_roundw
       case rel => exact ⟨j + 1, _, by omega, by go_num, HN.out.1, HN.out.2⟩
       case measure => simp [intOf]; omega
end Go.Proofs.YtbeoeackahmpbaaGreatDoor
namespace Go.Proofs.YtbeoeackahmpbaaGreatDoor
open Go.RowKit NatM Go.Proofs.YtbeoeackahmpbaaGreatDoor.Api
def Sm (t : Tri) : Prop := t.2.1 < pw 128 ∧ t.2.2 < pw 128
theorem Sm.arg {w : World} {v : Value} {t : Tri} (h : FracT w v t) (hs : Sm t) : FracA w v t := h.arg (lt_up hs.1 (by decide)) (lt_up hs.2 (by decide))
theorem sm_zero : Sm (false, 0, 0) := ⟨pw_pos 128, pw_pos 128⟩
theorem sm_fit (q : Rat) : Sm (fitQ q).1 := fitQ_lt q
theorem sm_mul (x y : Tri) : Sm (mulF x y).1 := by
 unfold mulF; split
 · exact sm_fit _
 · exact sm_zero
theorem sm_add (x y : Tri) : Sm (addF x y).1 := by
 unfold addF; split
 · exact sm_fit _
 · exact sm_zero
theorem sm_sub (x y : Tri) : Sm (subF x y).1 := by unfold subF; exact sm_add _ _
theorem sm_quo (x y : Tri) : Sm (quoF x y).1 := by
 unfold quoF; split
 · split
   · exact sm_zero
   · exact sm_fit _
 · exact sm_zero
def mulR (x y : Nat → Tri) : Nat → Tri := fun k => (mulF (x k) (y k)).1
def dotT (x y : Nat → Tri) (m : Nat) : Tri := (sumF (false, 0, 1) ((List.range m).map (mulR x y))).1
def RetR (w : World) (n : Nat) (t : Nat → Tri) (e : Ending) (w' : World) : Prop := ∃ g, e = .returned (.slice (some ⟨g, 0, none⟩) n n) ∧ FBlk w' g n t ∧ w.heap.size ≤ g ∧ Add w w'
theorem RowP.arg {w : World} {v : Value} {n : Nat} {t : Nat → Tri} (h : RowP true w v n t) (hs : ∀ i, i < n → Sm (t i)) : RowP false w v n t := h.weak fun i _ hi g => (hs i hi).arg g
end Go.Proofs.YtbeoeackahmpbaaGreatDoor
