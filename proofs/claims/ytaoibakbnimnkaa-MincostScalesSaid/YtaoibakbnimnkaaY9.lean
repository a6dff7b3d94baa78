/- Package mincost: search: what lies in memory. -/
import Derived.Test.YtaoibakbnimnkaaJY
namespace Go.Proofs.Ytaoibakbnimnkaa
open Go.RowKit NetM

theorem off_blk {w w' : World} {gn g g' b : Nat} {cur : Array Value} {T : TypeId} {f : Nat × Nat} (h : w.heap[b]? = some (.cells cur T f)) (ho : Off w w' gn g g') (h1 : b ≠ gn) (h2 : b ≠ g) : w'.heap[b]? = some (.cells cur T f) :=
  (ho.block b (Array.getElem?_eq_some_iff.1 h).1 h1 h2).trans h
theorem off_own {w w' : World} {gn g g' base n : Nat} {T : TypeId} {size : Nat} {v : Value} {xs : List Value} (h : w.ownsRow base T size v n xs) (ho : Off w w' gn g g') (h1 : v.ownBlock ≠ some gn) (h2 : v.ownBlock ≠ some g) : w'.ownsRow base T size v n xs := by
  refine ⟨h.1, ?_⟩
  rcases h.2 with hn | ⟨k, cap, cur, hv, hb, hg, rest⟩
  · exact .inl hn
  · refine .inr ⟨k, cap, cur, hv, hb, ?_, rest⟩
    subst hv
    exact off_blk hg ho (fun e => h1 (by rw [e]; rfl)) (fun e => h2 (by rw [e]; rfl))
/-- While search works: least in block gl, the frontier, the visited nodes (value vv). -/
def SchM (wb w : World) (gl gn g n cap : Nat) (D : List Int) (V H : List NC) (vv : Value) : Prop :=
  Add wb w ∧ IBlk w gl D ∧ FrB w wb.heap.size gn g n cap H ∧ HeapN H H.length ∧ w.ownsRow wb.heap.size 91 2 vv V.length (flat V) ∧ vv.ownBlock ≠ some g ∧ wb.heap.size ≤ gl
theorem SchM.add {wb w w' : World} {gl gn g n cap : Nat} {D : List Int} {V H : List NC} {vv : Value} (h : SchM wb w gl gn g n cap D V H vv) (hb : Add w w') : SchM wb w' gl gn g n cap D V H vv := by
  obtain ⟨h1, h2, h3, h4, h5, h6, h7⟩ := h
  have hg := grownA_of hb
  refine ⟨Add.trans h1 hb, Blk.add h2 hb, h3.kept hg (by simp) (by simp), h4, h5.kept hg ?_, h6, h7⟩
  cases e : vv.ownBlock with
  | none => exact .inl rfl
  | some k => exact .inr (by simp)
theorem SchM.vvn {wb w : World} {gl gn g n cap : Nat} {D : List Int} {V H : List NC} {vv : Value} (h : SchM wb w gl gn g n cap D V H vv) : vv.ownBlock ≠ some gn := by
  intro e
  obtain ⟨-, cur, q⟩ := own_ty h.2.2.2.2.1 gn e
  exact absurd rfl (ty_ne q h.2.2.1.1 (by decide))
/-- Behind a call of package heap. -/
theorem SchM.off {wb w w' : World} {gl gn g n cap g' n' cap' : Nat} {D : List Int} {V H H' : List NC} {vv : Value} (h : SchM wb w gl gn g n cap D V H vv) (ho : Off w w' gn g g') (f : FrB w' wb.heap.size gn g' n' cap' H') (hh : HeapN H' H'.length) : SchM wb w' gl gn g' n' cap' D V H' vv := by
  have hvn := h.vvn
  obtain ⟨h1, h2, h3, h4, h5, h6, h7⟩ := h
  obtain ⟨cur, hcur⟩ := h3.blk
  refine ⟨ho.below h1 h3.2.1 h3.2.2.2.1, off_blk h2 ho (ty_ne h2 h3.1 (by decide)) (ty_ne h2 hcur (by decide)), f, hh, off_own h5 ho hvn h6, ?_, h7⟩
  rcases ho.next with e | e
  · rw [e]; exact h6
  · intro q
    obtain ⟨-, cur', q'⟩ := own_ty h5 g' q
    have := (Array.getElem?_eq_some_iff.1 q').1
    omega
/-- A cost is stored. -/
theorem SchM.put {wb w : World} {gl gn g n cap : Nat} {D : List Int} {V H : List NC} {vv : Value} (h : SchM wb w gl gn g n cap D V H vv) (z : Nat) (c : Int) : SchM wb (w.setCell ⟨gl, z, none⟩ (.int .i64 c)) gl gn g n cap (D.set z c) V H vv := by
  obtain ⟨h1, h2, h3, h4, h5, h6, h7⟩ := h
  have hg := grown_set w gl z (.int .i64 c)
  obtain ⟨cur, hcur⟩ := h3.blk
  refine ⟨add_setLow h1 h7 _ _, IBlk.put h2 z c, h3.kept hg (fun e => ty_ne h2 h3.1 (by decide) (Option.some.inj e)) (fun e => ty_ne h2 hcur (by decide) (Option.some.inj e)), h4, h5.kept hg ?_, h6, h7⟩
  cases e : vv.ownBlock with
  | none => exact .inl rfl
  | some k =>
    right
    intro q
    obtain ⟨-, cur', q'⟩ := own_ty h5 k e
    exact absurd (Option.some.inj q).symm (ty_ne h2 q' (by decide))
/-- A node is visited. -/
theorem SchM.visit {wb w w' : World} {gl gn g n cap g6 cap6 : Nat} {D : List Int} {V H : List NC} {vv : Value} {r : NC} (h : SchM wb w gl gn g n cap D V H vv)
    (hown : w'.ownsRow wb.heap.size 91 2 (.slice (some ⟨g6, 0, none⟩) (V.length + 1) cap6) (V.length + 1) (flat V ++ [natv r.1, iv r.2])) (hg : w.grownBy w' vv.ownBlock) (hat : vv.ownBlock = some g6 ∨ g6 = w.heap.size) :
    SchM wb w' gl gn g n cap D (V ++ [r]) H (.slice (some ⟨g6, 0, none⟩) (V.length + 1) cap6) := by
  have hvn := h.vvn
  obtain ⟨h1, h2, h3, h4, h5, h6, h7⟩ := h
  have hgl := (Array.getElem?_eq_some_iff.1 h3.blk.choose_spec).1
  have hi : vv.ownBlock ≠ some gl := by
    intro e
    obtain ⟨-, cur', q'⟩ := own_ty h5 gl e
    exact absurd rfl (ty_ne h2 q' (by decide))
  refine ⟨?_, Blk.kept h2 hg (fun e => hi e.symm), h3.kept hg hvn h6, h4, ?_, ?_, h7⟩
  · refine ⟨hg.os.trans h1.os, hg.tape.trans h1.tape, hg.output.trans h1.output, Nat.le_trans h1.size hg.size, fun k hk => ?_⟩
    rw [hg.block k (Nat.lt_of_lt_of_le hk h1.size) (fun e => by
      have := (own_ty h5 k e.symm).1
      omega)]
    exact h1.block k hk
  · rw [List.length_append, List.length_singleton, flat_app]
    exact hown
  · intro e
    have e : g6 = g := Option.some.inj e
    rcases hat with q | q
    · rw [e] at q; exact h6 q
    · omega
end Go.Proofs.Ytaoibakbnimnkaa
