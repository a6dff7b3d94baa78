/- Rows of limbs that a call makes by append, with spare room or not. -/
import Derived.Test.YtifpfoeecnkhoaaDoorW16
import Derived.Laws.AppendOwnNone
import Derived.Maps.AppendAt
namespace Go.Proofs.YtifpfoeecnkhoaaDoor
open Go.RowKit NatM

/-- v is a row of the call's own, from block base on, that holds the limbs zs. -/
def OwnL (w : World) (base : Nat) (v : Value) (zs : List Nat) : Prop := w.ownsRow base 26 1 v zs.length (zs.map lim)
theorem OwnL.nil (w : World) (base : Nat) : OwnL w base (.slice none 0 0) [] := World.ownsRow_nil _ _ _ _
theorem OwnL.of_own {w : World} {base g n : Nat} {zs : List Nat} (h : Own w base g n zs) : OwnL w base (.slice (some ⟨g, 0, none⟩) n n) zs := by
  unfold OwnL; rw [h.length]; exact h
theorem OwnL.form {w : World} {base : Nat} {v : Value} {zs : List Nat} (h : OwnL w base v zs) :
    (v = .slice none 0 0 ∧ zs = []) ∨ ∃ g cap cur, v = .slice (some ⟨g, 0, none⟩) zs.length cap ∧ base ≤ g ∧ w.heap[g]? = some (.cells cur 26 (0, 0)) ∧ zs.length ≤ cap ∧ cap ≤ maxLen ∧ cur.size = cap ∧ cur.toList.take zs.length = zs.map lim := by
  rcases h.2 with ⟨rfl, h0⟩ | ⟨g, cap, cur, rfl, h1, h2, h3, h4, h5, h6⟩
  · exact .inl ⟨rfl, by simpa using h0⟩
  · exact .inr ⟨g, cap, cur, rfl, h1, h2, h3, h4, by simpa using h5, by simpa using h6⟩
theorem OwnL.reads {w : World} {base : Nat} {v : Value} {zs : List Nat} (h : OwnL w base v zs) (hx : Limbs zs) : Reads w v zs := by
  rcases h.form with ⟨rfl, rfl⟩ | ⟨g, cap, cur, rfl, h1, h2, h3, h4, h5, h6⟩
  · exact Reads.nil w
  · refine ⟨_, zs.length, cap, rfl, rfl, h3, h4, hx, fun _ => ⟨g, 0, rfl, fun i hi => ?_⟩⟩
    have := World.ownsRow.cellAt h i (by simpa using hi)
    rw [Nat.zero_add, this]
    simp [List.getD, hi, lim]
theorem OwnL.below {w w' : World} {base : Nat} {v : Value} {zs : List Nat} (h : OwnL w base v zs) (hb : Below w.heap.size w w') : OwnL w' base v zs := by
  refine ⟨h.1, ?_⟩
  rcases h.2 with hn | ⟨g', cap, cur, e, hg, hgg, rest⟩
  · exact .inl hn
  · refine .inr ⟨g', cap, cur, e, hg, ?_, rest⟩
    rw [hb.block g' (Array.getElem?_eq_some_iff.1 hgg).1]; exact hgg
theorem OwnL.base {w : World} {base base' : Nat} {v : Value} {zs : List Nat} (h : OwnL w base v zs) (hb : base' ≤ base) : OwnL w base' v zs := by
  refine ⟨h.1, ?_⟩
  rcases h.2 with hn | ⟨g', cap, cur, e, hg, rest⟩
  · exact .inl hn
  · exact .inr ⟨g', cap, cur, e, Nat.le_trans hb hg, rest⟩
theorem OwnL.len {w : World} {base : Nat} {v : Value} {zs : List Nat} (h : OwnL w base v zs) : ∃ ao c, v = .slice ao zs.length c := by
  rcases h.form with ⟨rfl, rfl⟩ | ⟨g, cap, cur, rfl, _⟩
  · exact ⟨_, _, rfl⟩
  · exact ⟨_, _, rfl⟩
theorem OwnL.drewN {w : World} {base : Nat} {v : Value} {zs : List Nat} (h : OwnL w base v zs) (n : Nat) : OwnL (w.drewN n) base v zs := h.below (below_drewN (Below.refl _ _) n)
/-- What an append leaves. -/
theorem OwnL.grown {w' : World} {base m : Nat} {v : Value} {zs us : List Nat} {vs : List Value} (h : w'.ownsRow base 26 1 v (zs.length + m) (zs.map lim ++ vs)) (hv : vs = us.map lim) (hm : us.length = m) : OwnL w' base v (zs ++ us) := by
  unfold OwnL
  rw [List.length_append, List.map_append, hm, ← hv]; exact h

/-- v is the canonical row of the number N, and the call's own. -/
def NumO (w : World) (base : Nat) (v : Value) (N : Nat) : Prop := ∃ zs, OwnL w base v zs ∧ Limbs zs ∧ Canon zs ∧ val zs = N
theorem NumO.num {w : World} {base : Nat} {v : Value} {N : Nat} (h : NumO w base v N) : Num w v N := by
  obtain ⟨zs, h1, h2, h3, h4⟩ := h; exact ⟨zs, h1.reads h2, h3, h4⟩
theorem NumO.below {w w' : World} {base : Nat} {v : Value} {N : Nat} (h : NumO w base v N) (hb : Add w w') : NumO w' base v N := by
  obtain ⟨zs, h1, h2⟩ := h; exact ⟨zs, h1.below hb, h2⟩
theorem NumO.base {w : World} {base base' : Nat} {v : Value} {N : Nat} (h : NumO w base v N) (hb : base' ≤ base) : NumO w base' v N := by
  obtain ⟨zs, h1, h2⟩ := h; exact ⟨zs, h1.base hb, h2⟩
/-- A call that returns the number N in a row of its own. -/
def RetO (w : World) (N : Nat) (e : Ending) (w' : World) : Prop := ∃ v, e = .returned v ∧ NumO w' w.heap.size v N ∧ Add w w'

theorem run_append_none_none {P : Program} (w : World) (t ty e : TypeId) (i : TypeInfo) (ht : P.underlying t = some (.slice e)) (hi : P.info? e = some i) (c : Nat) :
    (Builtin.append_ #[t, t] ty #[.slice none 0 0, .slice none 0 c]).run P w = .ok (.slice none 0 0) w := by
  simp [Builtin.append_, run_underlying ht, sizeOf, typeInfo, hi, Builtin.lenOf, Builtin.firstCells]
theorem wpList_append_none_none {P : Program} {w : World} {ops : Array Oper} {rest : List Oper} {o : Oper} {a : Act} {Q : Exit → Act → World → Prop} (hgd : o.guard = none) (s x : Operand) (t : TypeId)
    (ho : o.op = .call { callee := .builtin .append, args := #[s, x], argTypes := #[t, t] })
    (e : TypeId) (i : TypeInfo) (ht : P.underlying t = some (.slice e)) (hi : P.info? e = some i) (c : Nat)
    (hs : a.eval s = .slice none 0 0) (hx : a.eval x = .slice none 0 c)
    (h : wpList P ops Q rest (a.put o.dst (.slice none 0 0)) w) : wpList P ops Q (o :: rest) a w := by
  refine wpList_plain hgd fun K hK => ?_
  have hrun := run_append_none_none (P := P) w t o.type e i ht hi c
  unfold Oper.wp
  simp [execOp, ho, resolve, invoke, builtin, hs, hx, hrun, Result.andThen]
  exact hK _ _ h

theorem Reads.cell {w : World} {ao : Option Addr} {n c : Nat} {xs : List Nat} (h : Reads w (.slice ao n c) xs) {k : Nat} (hk : k < n) : ∃ b off, ao = some ⟨b, off, none⟩ ∧ w.cell? ⟨b, off + k, none⟩ = some (.int .u32 (xs.getD k 0 : Nat)) := by
  obtain ⟨ao', n', c', e, -, -, -, -, hr⟩ := h
  simp only [Value.slice.injEq] at e
  obtain ⟨rfl, rfl, rfl⟩ := e
  obtain ⟨b, off, e, g⟩ := hr (by omega)
  exact ⟨b, off, e, g k hk⟩
theorem reads_front {w : World} {b off : Nat} {n k : Nat} {xs : List Nat} (h : ∀ i, i < n → w.cell? ⟨b, off + i, none⟩ = some (.int .u32 (xs.getD i 0 : Nat))) (hk : k ≤ n) (hl : xs.length = n) :
    ∀ j u, ((xs.take k).map lim)[j]? = some u → w.cell? ((⟨b, off, none⟩ : Addr).add j) = some u := by
  intro j u hu
  have hj : j < k := by
    have := (List.getElem?_eq_some_iff.1 hu).1
    simp at this; omega
  have e : (⟨b, off, none⟩ : Addr).add j = ⟨b, off + j, none⟩ := by simp [Addr.add_lit]
  rw [e, h j (by omega)]
  have hjx : j < xs.length := by omega
  simp [hj, lim, hjx] at hu
  rw [← hu]
  simp [List.getD, hjx]
theorem lim_one (zs : List Nat) : ∀ u ∈ zs.map lim, u.oneCell' = true := by
  intro u hu
  obtain ⟨x, -, rfl⟩ := List.mem_map.1 hu
  rfl
end Go.Proofs.YtifpfoeecnkhoaaDoor
