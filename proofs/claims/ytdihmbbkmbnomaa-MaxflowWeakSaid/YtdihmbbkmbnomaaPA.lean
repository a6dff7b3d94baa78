/- Package maxflow: measure: what lies in memory while it searches. -/
import Derived.Test.YtdihmbbkmbnomaaP9
import Derived.Test.YtdihmbbkmbnomaaNe
namespace Go.Proofs.Ytdihmbbkmbnomaa
open Go.RowKit NetM

theorem ResB.grow {w0 w w' : World} {A : List Arc} {N s t gr gs gf gd H g : Nat} {sv uv : Value} {R : Nat → Int} {D : List Int} (h : ResB w0 w A N s t gr gs gf gd H sv uv R D) (hg : w.grownBy w' (some g)) {cur : Array Value}
    (hq : w.heap[g]? = some (.cells cur 3 (0, 0))) (h1 : H ≤ g) (h2 : gd < H) (_h3 : w0.heap.size ≤ H) : ResB w0 w' A N s t gr gs gf gd H sv uv R D := by
  obtain ⟨k1, k2, k3, k4, k5, k6, k7⟩ := h
  obtain ⟨cf, hcf⟩ := k3.blk
  exact ⟨k1.kept hg (fun e => ty_ne hq k1 (by decide) (Option.some.inj e)), k2.kept hg (k2.far hq (by decide)), k3.kept hg (far_ban (ty_ne hq hcf (by decide)) (.inr h1)), Blk.kept k4 hg (fun e => by have := Option.some.inj e; omega), k5,
    Below.grown k6 hg k6.size (fun k e => by have := Option.some.inj e; omega), k7⟩
theorem Unt.grow {w0 w w' : World} {N gu gf gd H g : Nat} {uv : Value} {U : List (List Nat)} (hu : Unt w0 w N gu gf gd H uv U) (hg : w.grownBy w' (some g)) {cur : Array Value} (hq : w.heap[g]? = some (.cells cur 3 (0, 0))) (h1 : H ≤ g) : Unt w0 w' N gu gf gd H uv U := by
  obtain ⟨c', e', g1, g2, g3, g4⟩ := hu
  obtain ⟨cf, hcf⟩ := g3.blk
  exact ⟨c', e', g1, g2, g3.kept hg (far_ban (ty_ne hq hcf (by decide)) (.inr h1)), g4⟩
theorem RowR.nil (w : World) (Z : Nat → Prop) : RowR w Z (.slice none 0 0) [] := ⟨none, 0, rfl, Nat.le_refl _, by unfold maxLen; omega, fun h => by simp at h⟩
/-- The state of the search: the queue tv, and a row rv that is read. -/
def QS (w0 w : World) (A : List Arc) (N s t gr gs gf gd gu H : Nat) (sv uv : Value) (R : Nat → Int) (U : List (List Nat)) (D : List Int) (Q : List Nat) (tv rv : Value) (xs : List Nat) : Prop :=
  ResB w0 w A N s t gr gs gf gd H sv uv R D ∧ Unt w0 w N gu gf gd H uv U ∧ (∃ gq off, Que w H gq off 3 tv (Q.map natv)) ∧ RowR w (ban gd H) rv xs ∧ H ≤ w.heap.size
theorem QS.add {w0 w w' : World} {A : List Arc} {N s t gr gs gf gd gu H : Nat} {sv uv tv rv : Value} {R : Nat → Int} {U : List (List Nat)} {D : List Int} {Q xs : List Nat} (h : QS w0 w A N s t gr gs gf gd gu H sv uv R U D Q tv rv xs) (hb : Add w w') :
    QS w0 w' A N s t gr gs gf gd gu H sv uv R U D Q tv rv xs := by
  obtain ⟨h1, h2, ⟨gq, off, h3⟩, h4, h5⟩ := h
  exact ⟨h1.add hb, h2.add hb, ⟨gq, off, h3.add hb⟩, h4.kept (gf := 0) (grownA_of hb) (far_none _ _ _), Nat.le_trans h5 hb.size⟩
theorem QS.dist {w0 w : World} {A : List Arc} {N s t gr gs gf gd gu H : Nat} {sv uv tv rv : Value} {R : Nat → Int} {U : List (List Nat)} {D : List Int} {Q xs : List Nat} (h : QS w0 w A N s t gr gs gf gd gu H sv uv R U D Q tv rv xs) (h2 : gd < H) (j : Nat) (x : Int) :
    QS w0 (w.setCell ⟨gd, j, none⟩ (.int .i64 x)) A N s t gr gs gf gd gu H sv uv R U (D.set j x) Q tv rv xs := by
  obtain ⟨k1, k2, ⟨gq, off, k3⟩, k4, k5⟩ := h
  have hq := k3.lt
  exact ⟨k1.dist j x, Unt.dist k1 k2 j x, ⟨gq, off, k3.other (by omega) _ _⟩, k4.kept (gf := gd + 1) (grown_set w gd j _) (far_ban (by omega) (.inl rfl)), by simpa using k5⟩
theorem QS.push {w0 w : World} {A : List Arc} {N s t gr gs gf gd gu H : Nat} {sv uv tv rv : Value} {R : Nat → Int} {U : List (List Nat)} {D : List Int} {Q xs : List Nat} (h : QS w0 w A N s t gr gs gf gd gu H sv uv R U D Q tv rv xs) (h2 : gd < H) (h3 : w0.heap.size ≤ H) (z : Nat) (ad : Addr) (cc : Nat) (hz : w.cell? ad = some (natv z)) (hl : Q.length ≤ 100000) :
    ∃ tv' w', (Builtin.append_ #[25, 25] 25 #[tv, .slice (some ad) 1 cc]).run Try.prog w = .ok tv' w' ∧ QS w0 w' A N s t gr gs gf gd gu H sv uv R U D (Q ++ [z]) tv' rv xs := by
  obtain ⟨i0, hi, hz0, hz1, hz2⟩ := info_parts infoInt
  obtain ⟨k1, k2, ⟨gq, off, k3⟩, k4, k5⟩ := h
  have hq := k3.lt
  obtain ⟨cap, cur, e, j1, j2, j3⟩ := id k3
  obtain ⟨tv', w', g', off', r1, r2, r3, r4⟩ := run_que (P := Try.prog) 25 25 i0 (.int .i64 0) 8 Try.underlying25 hi hz0 hz1 hz2 rfl k3 ad cc hz rfl (by rw [List.length_map]; unfold maxLen; omega) (by rw [List.length_map]; omega)
  refine ⟨tv', w', r1, k1.grow r3 j2 hq.1 h2 h3, k2.grow r3 j2 hq.1, ⟨g', off', by rw [List.map_append]; exact r2⟩, k4.kept (gf := gq + 1) r3 (far_ban (by omega) (.inr hq.1)), Nat.le_trans k5 r3.size⟩
/-- The next node is taken from the queue. -/
theorem QS.next {w0 w : World} {A : List Arc} {N s t gr gs gf gd gu H : Nat} {sv uv rv : Value} {R : Nat → Int} {U : List (List Nat)} {D : List Int} {Q xs ys : List Nat} {gq off n cap x : Nat} {so : Option Addr} {rv' : Value}
    (h : QS w0 w A N s t gr gs gf gd gu H sv uv R U D (x :: Q) (.slice (some ⟨gq, off, none⟩) n cap) rv xs) (hso : (if cap = 1 then some (⟨gq, off, none⟩ : Addr) else some ⟨gq, off + 1, none⟩) = so) (hr : RowR w (ban gd H) rv' ys) :
    QS w0 w A N s t gr gs gf gd gu H sv uv R U D Q (.slice so (n - 1) (cap - 1)) rv' ys := by
  obtain ⟨k1, k2, ⟨gq', off', k3⟩, k4, k5⟩ := h
  have e : gq' = gq ∧ off' = off := by
    obtain ⟨cap', cur, e, -⟩ := k3
    simp only [Value.slice.injEq, Option.some.injEq, Addr.mk.injEq, and_true] at e
    omega
  obtain ⟨rfl, rfl⟩ := e
  obtain ⟨off2, q⟩ := Que.pop k3 hso.symm
  exact ⟨k1, k2, ⟨gq', off2, q⟩, hr, k5⟩
theorem HdB.congr {w : World} {g N : Nat} {Z : Nat → Prop} {R R' : Nat → List Nat} (h : HdB w g Z N R) (hR : ∀ x, x < N → R x = R' x) : HdB w g Z N R' := by
  obtain ⟨cur, h1, h2, h3⟩ := h
  exact ⟨cur, h1, h2, fun x hx => by rw [← hR x hx]; exact h3 x hx⟩
/-- All steps of each node. -/
def allU (A : List Arc) (N : Nat) : List (List Nat) := (List.range N).map (fromR A)
theorem allU_len (A : List Arc) (N : Nat) : (allU A N).length = N := by simp [allU]
theorem ul_all {A : List Arc} {N x : Nat} (h : x < N) : ul (allU A N) x = fromR A x := by simp [ul, allU, List.getD, h]
/-- What measure returns. -/
def MeasP (w0 : World) (A : List Arc) (N s t gr gs gf gd H : Nat) (sv : Value) (F : List Int) (e : Ending) (w' : World) : Prop :=
  ∃ b D gu uv, e = .returned (.bool b) ∧ ResB w0 w' A N s t gr gs gf gd H sv uv (roomS A F) D ∧ Unt w0 w' N gu gf gd H uv (allU A N) ∧ Lev A F N s D ∧ b = decide (dl D t ≠ -1) ∧ H ≤ w'.heap.size
/-- The list of what may be tried is laid anew. -/
theorem ResB.fresh {w0 w w' : World} {A : List Arc} {N s t gr gs gf gd H g c : Nat} {sv uv : Value} {R : Nat → Int} {D : List Int} (h : ResB w0 w A N s t gr gs gf gd H sv uv R D) (hH : H ≤ w.heap.size) (h3 : w0.heap.size ≤ H) (hc : HdB w' g (ban gd H) N (fromR A)) (hb : Add w w') (hg : w.heap.size ≤ g) (hN : N ≤ c) (hm : c ≤ maxLen) :
    ResB w0 (w'.setCell ⟨gr, 4, none⟩ (.slice (some ⟨g, 0, none⟩) N c)) A N s t gr gs gf gd H sv (.slice (some ⟨g, 0, none⟩) N c) R D ∧ Unt w0 (w'.setCell ⟨gr, 4, none⟩ (.slice (some ⟨g, 0, none⟩) N c)) N g gf gd H (.slice (some ⟨g, 0, none⟩) N c) (allU A N) := by
  have hlf := h.2.2.1.lt
  obtain ⟨k1, k2, k3, k4, k5, k6, k7, k8, k9⟩ := h.add hb
  have hgs := grown_set w' gr 4 (.slice (some ⟨g, 0, none⟩) N c)
  obtain ⟨cf, hcf⟩ := k3.blk
  obtain ⟨cg, hcg⟩ := hc.blk
  refine ⟨⟨k1.set4 _, k2.kept hgs (k2.far k1 (by decide)), k3.kept hgs (far_ty k1 (by decide) (ty_ne k1 hcf (by decide))), Blk.kept k4 hgs (fun e => ty_ne k1 k4 (by decide) (Option.some.inj e).symm), k5, add_setLow k6 k7 _ _, k7, k8, k9⟩, ?_⟩
  exact ⟨c, rfl, hN, hm, (hc.kept hgs (far_ty k1 (by decide) (ty_ne k1 hcg (by decide)))).congr (fun x hx => (ul_all hx).symm), allU_len A N, by omega, by omega⟩
theorem rep_step {k : Nat} {D : List Int} (hk : k < D.length) : (List.replicate k (-1) ++ D.drop k).set k (-1) = List.replicate (k + 1) (-1) ++ D.drop (k + 1) := by
  rw [List.set_append_right _ _ (by simp)]
  simp only [List.length_replicate, Nat.sub_self]
  rw [List.drop_eq_getElem_cons hk, List.set_cons_zero, List.replicate_succ', List.append_assoc]; rfl
end Go.Proofs.Ytdihmbbkmbnomaa
