/- Package maxflow: residualOf: the state of its loop. -/
import Derived.Test.YtdihmbbkmbnomaaPF
namespace Go.Proofs.Ytdihmbbkmbnomaa
open Go.RowKit NetM

theorem addB {W W' : World} {g : Nat} {o : Obj} (h : W.heap[g]? = some o) (hb : Add W W') : W'.heap[g]? = some o := (hb.block g (Array.getElem?_eq_some_iff.1 h).1).trans h
/-- A block of another type than the row that was appended to. -/
theorem kept_ty {W w6 : World} {b base size n : Nat} {T T' : TypeId} {v : Value} {xs : List Value} {cur : Array Value} {f : Nat × Nat} (hb : W.heap[b]? = some (.cells cur T' f)) (hown : W.ownsRow base T size v n xs) (hg : W.grownBy w6 v.ownBlock) (hT : T ≠ T') :
    w6.heap[b]? = some (.cells cur T' f) := by
  refine (hg.block b (Array.getElem?_eq_some_iff.1 hb).1 (fun e => ?_)).trans hb
  obtain ⟨-, cur', q⟩ := own_ty hown b e.symm
  exact absurd rfl (ty_ne q hb hT)
/-- The state of the loop: k arcs are laid, the steps are sv, the rows R. -/
def BS (w0 w : World) (A : List Arc) (N s t : Nat) (a : Option Addr) (m c gr gf gd k : Nat) (sv : Value) (R : Nat → List Nat) : Prop :=
  NBox w w0.heap.size N s t a m c ∧ RBox w gr s t sv (.slice (some ⟨gf, 0, none⟩) N N) (.slice none 0 0) (.slice (some ⟨gd, 0, none⟩) N N) ∧ w.ownsRow (w0.heap.size + 1) 65 2 sv (2 * k) (cellsS A (2 * k)) ∧ RowsB w (w0.heap.size + 1) gf gd N R ∧
  IBlk w gd (List.replicate N 0) ∧ Add w0 w ∧ w0.heap.size < gr ∧ w0.heap.size < gf ∧ w0.heap.size < gd
theorem RowsB.add {w w' : World} {base gf gd N : Nat} {R : Nat → List Nat} (h : RowsB w base gf gd N R) (hb : Add w w') : RowsB w' base gf gd N R := h.kept (grownA_of hb) (fun k e => by cases e)
theorem BS.add {w0 w w' : World} {A : List Arc} {N s t : Nat} {a : Option Addr} {m c gr gf gd k : Nat} {sv : Value} {R : Nat → List Nat} (h : BS w0 w A N s t a m c gr gf gd k sv R) (hb : Add w w') : BS w0 w' A N s t a m c gr gf gd k sv R := by
  obtain ⟨h1, h2, h3, h4, h5, h6, h7⟩ := h
  exact ⟨h1.add hb, h2.kept (grownA_of hb) (by simp), h3.kept (grownA_of hb) (by cases hv : sv.ownBlock <;> simp), h4.add hb, Blk.add h5 hb, Add.trans h6 hb, h7⟩
theorem BS.steps {w0 W w6 : World} {A : List Arc} {N s t : Nat} {a : Option Addr} {m c gr gf gd k g6 cap6 : Nat} {sv : Value} {R : Nat → List Nat} {x y z u : Int} (h : BS w0 W A N s t a m c gr gf gd k sv R) (hk : k < A.length) (hx : at' A k = (x, y, z, u))
    (hown6 : w6.ownsRow (w0.heap.size + 1) 65 2 (.slice (some ⟨g6, 0, none⟩) (2 * k + 2) cap6) (2 * k + 2) (cellsS A (2 * k) ++ [.int .i64 y, .int .i64 z, .int .i64 x, .int .i64 0])) (hg : W.grownBy w6 sv.ownBlock) :
    BS w0 (w6.setCell ⟨gr, 2, none⟩ (.slice (some ⟨g6, 0, none⟩) (2 * k + 2) cap6)) A N s t a m c gr gf gd (k + 1) (.slice (some ⟨g6, 0, none⟩) (2 * k + 2) cap6) R := by
  obtain ⟨h1, h2, h3, h4, h5, h6, h7, h8, h9⟩ := h
  have n6 : NBox w6 _ N s t a m c := kept_ty h1 h3 hg (by decide)
  have r6 : RBox w6 gr s t sv _ _ _ := kept_ty h2 h3 hg (by decide)
  have i6 : IBlk w6 gd _ := kept_ty h5 h3 hg (by decide)
  obtain ⟨-, cs, q⟩ := own_ty hown6 g6 rfl
  have hgs := grown_set w6 gr 2 (.slice (some ⟨g6, 0, none⟩) (2 * k + 2) cap6)
  obtain ⟨cf, hcf, -⟩ := id h4
  have f6 := kept_ty hcf h3 hg (by decide)
  have b6 : RowsB w6 (w0.heap.size + 1) gf gd N R := h4.kept hg (fun k' e => by
    obtain ⟨-, cur', q'⟩ := own_ty h3 k' e
    exact ⟨ty_ne q' hcf (by decide), fun cur f hq => absurd rfl (ty_ne q' hq (by decide))⟩)
  refine ⟨?_, r6.set2 _, ?_, ?_, ?_, ?_, h7, h8, h9⟩
  · exact (heap_setCell_other w6 ⟨gr, 2, none⟩ w0.heap.size _ (by dsimp only; omega)).trans n6
  · have := hown6.kept hgs (.inr fun e => ty_ne q r6 (by decide) (Option.some.inj (show some g6 = some gr from e)))
    rw [show 2 * (k + 1) = 2 * k + 2 by omega, cellsS_two A hk hx]
    exact this
  · exact b6.kept hgs (fun k' e => by
      obtain rfl := Option.some.inj e
      exact ⟨ty_ne r6 f6 (by decide), fun cur f hq => absurd rfl (ty_ne r6 hq (by decide))⟩)
  · exact Blk.other i6 (ty_ne i6 r6 (by decide)) _ _
  · exact add_setLow (Below.grown h6 hg h6.size (fun k' e => by have := (own_ty h3 k' e).1; omega)) (by omega) _ _
theorem BS.rows {w0 W w6 : World} {A : List Arc} {N s t : Nat} {a : Option Addr} {m c gr gf gd k g6 cap6 x j rc : Nat} {ra : Option Addr} {sv : Value} {R : Nat → List Nat} (h : BS w0 W A N s t a m c gr gf gd k sv R) (hx : x < N) (hc : W.cell? ⟨gf, x, none⟩ = some (.slice ra (R x).length rc))
    (hown6 : w6.ownsRow (w0.heap.size + 1) 3 1 (.slice (some ⟨g6, 0, none⟩) ((R x).length + 1) cap6) ((R x).length + 1) ((R x).map natv ++ [natv j])) (hg : W.grownBy w6 (Value.slice ra (R x).length rc).ownBlock)
    (hat : (Value.slice ra (R x).length rc).ownBlock = some g6 ∨ g6 = W.heap.size) :
    BS w0 (w6.setCell ⟨gf, x, none⟩ (.slice (some ⟨g6, 0, none⟩) ((R x).length + 1) cap6)) A N s t a m c gr gf gd k sv (fun v => if v = x then R x ++ [j] else R v) := by
  obtain ⟨h1, h2, h3, h4, h5, h6, h7, h8, h9⟩ := h
  obtain ⟨a', c', q1, q2, q3, -⟩ := h4.get hx
  rw [hc] at q1
  simp only [Option.some.injEq, Value.slice.injEq, true_and] at q1
  obtain ⟨rfl, rfl⟩ := q1
  have hgd := Blk.lt h5
  have n6 : NBox w6 _ N s t a m c := kept_ty h1 q2 hg (by decide)
  have r6 : RBox w6 gr s t sv _ _ _ := kept_ty h2 q2 hg (by decide)
  have i6 : IBlk w6 gd _ := Blk.kept h5 hg (fun e => q3 e.symm)
  obtain ⟨cf, hcf, -⟩ := id h4
  have f6 := kept_ty hcf q2 hg (by decide)
  have hgs := grown_set w6 gf x (.slice (some ⟨g6, 0, none⟩) ((R x).length + 1) cap6)
  refine ⟨?_, ?_, ?_, h4.push hx hc hown6 hg hat hgd, ?_, ?_, h7, h8, h9⟩
  · exact (heap_setCell_other w6 ⟨gf, x, none⟩ w0.heap.size _ (by dsimp only; omega)).trans n6
  · exact r6.kept hgs (fun e => ty_ne f6 r6 (by decide) (Option.some.inj e))
  · refine (h3.kept hg ?_).kept hgs ?_
    · cases ho : sv.ownBlock with
      | none => exact .inl rfl
      | some gg =>
        right
        intro e
        obtain ⟨-, c1, p1⟩ := own_ty h3 gg ho
        obtain ⟨-, c2, p2⟩ := own_ty q2 gg e.symm
        exact absurd rfl (ty_ne p1 p2 (by decide))
    · cases ho : sv.ownBlock with
      | none => exact .inl rfl
      | some gg =>
        right
        intro e
        obtain rfl := Option.some.inj e
        obtain ⟨-, c1, p1⟩ := own_ty h3 gg ho
        exact absurd rfl (ty_ne p1 hcf (by decide))
  · exact Blk.other i6 (ty_ne i6 f6 (by decide)) _ _
  · exact add_setLow (Below.grown h6 hg h6.size (fun k' e => by have := (own_ty q2 k' e).1; omega)) (by omega) _ _
/-- What residualOf returns. -/
def ResOfP (w : World) (A : List Arc) (N s t : Nat) (e : Ending) (w' : World) : Prop :=
  ∃ gr gs gf gd H sv D, e = .returned (.pointer (some ⟨gr, 0, none⟩)) ∧ ResB w w' A N s t gr gs gf gd H sv (.slice none 0 0) (roomS A (List.replicate A.length 0)) D ∧ gd < H ∧ w.heap.size ≤ H ∧ H ≤ w'.heap.size
theorem BS.done {w0 w : World} {A : List Arc} {N s t : Nat} {a : Option Addr} {m c gr gf gd : Nat} {sv : Value} (h : BS w0 w A N s t a m c gr gf gd A.length sv (fromR A)) : ResOfP w0 A N s t (.returned (.pointer (some ⟨gr, 0, none⟩))) w := by
  obtain ⟨h1, h2, h3, h4, h5, h6, h7, h8, h9⟩ := h
  obtain ⟨gs, k1, k2⟩ := steps_done h3
  exact ⟨gr, gs, gf, gd, w.heap.size, sv, _, rfl, ⟨h2, k1, h4.done (Nat.le_refl _), h5, by simp, h6, by omega, by omega, fun h => by have := k2 h; omega⟩, Blk.lt h5, h6.size, Nat.le_refl _⟩
theorem make_run24 {e t : TypeId} {i : TypeInfo} {z : Value} {b : Nat} (ht : Try.prog.underlying t = some (.slice e)) (hi : Try.prog.info? e = some i) (hz : i.zero = some z) (hs : i.size = 1) (hb : i.bytes = b) (hzc : z.cells = #[z]) (hb8 : b ≤ 24) (N : Nat) (hN : N ≤ 700) (w : World) :
    (Instr.makeSlice t (.int .i64 (N : Int)) (.int .i64 (N : Int))).run Try.prog w = .ok (.slice (some ⟨w.heap.size, 0, none⟩) N N) (w.alloc (.cells (List.replicate N z).toArray e)) := by
  have hr := run_make (P := Try.prog) w t e i z ht hi hz .i64 .i64 N N (by omega) (Int.le_refl _) (by rw [hb]; have : (b : Int) * (N : Int) ≤ 24 * 700 := Int.mul_le_mul (by omega) (by omega) (by omega) (by omega); omega) (by omega)
  simp only [Int.toNat_natCast] at hr
  rw [hr, hzc, hs, Nat.mul_one]
  have : madeCells #[z] N = (List.replicate N z).toArray := by rw [← toList_madeCells_one]
  rw [this]
/-- The beginning: both lists and the variable are laid, the lists in either order. -/
theorem bs_start {w0 w1 w4 : World} {A : List Arc} {N s t : Nat} {a : Option Addr} {m c gf gd : Nat} (h1 : NBox w1 w0.heap.size N s t a m c) (hA : Add w0 w1) (hB : Add w1 w4) (hf : w4.heap[gf]? = some (.cells (List.replicate N (Value.slice none 0 0)).toArray 25 (0, 0))) (hd : IBlk w4 gd (List.replicate N 0)) (g1 : w1.heap.size ≤ gf) (g2 : w1.heap.size ≤ gd) :
    BS w0 (w4.alloc (.cells #[.int .i64 s, .int .i64 t, .slice none 0 0, .slice (some ⟨gf, 0, none⟩) N N, .slice none 0 0, .slice (some ⟨gd, 0, none⟩) N N] 63)).drew A N s t a m c w4.heap.size gf gd 0 (.slice none 0 0) (fromK A 0) := by
  have hC := b_drew (add_new w4 (.cells #[.int .i64 s, .int .i64 t, .slice none 0 0, .slice (some ⟨gf, 0, none⟩) N N, .slice none 0 0, .slice (some ⟨gd, 0, none⟩) N N] 63))
  have hl := h1.lt
  have hz := hB.size
  refine ⟨(h1.add hB).add hC, ?_, World.ownsRow_nil _ _ _ _, ⟨_, addB hf hC, by simp, fun x hx => ⟨.slice none 0 0, by simp [hx], World.ownsRow_nil _ _ _ _, by simp [Value.ownBlock]⟩, fun x y v u hx hy _ hv _ _ => ?_⟩, Blk.add hd hC, Add.trans hA (Add.trans hB hC), by omega, by omega, by omega⟩
  · exact heap_alloc_new w4 _
  · have : v = .slice none 0 0 := by simp [hx] at hv; exact hv.symm
    rw [this]; rfl
end Go.Proofs.Ytdihmbbkmbnomaa
