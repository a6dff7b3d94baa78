/- A queue that the call made: a slice with room, cut in front and appended to. -/
import Derived.Test.YtdihmbbkmbnomaaU1
import Derived.ArgAppend
import Derived.Lib.AppendZeros
namespace Go.Proofs.Ytdihmbbkmbnomaa
open Go.RowKit

/-- v lies in block g, which the call made, from 'off' on, and holds the one-cell elements xs. -/
def Que (w : World) (base g off : Nat) (T : TypeId) (v : Value) (xs : List Value) : Prop :=
  ∃ cap cur, v = .slice (some ⟨g, off, none⟩) xs.length cap ∧ base ≤ g ∧ w.heap[g]? = some (.cells cur T (0, 0)) ∧ xs.length ≤ cap ∧ cap ≤ maxLen ∧ off + cap ≤ cur.size ∧ ∀ i, i < xs.length → cur[off + i]? = some (xs.getD i undef)
theorem Que.lt {w : World} {base g off : Nat} {T : TypeId} {v : Value} {xs : List Value} (h : Que w base g off T v xs) : base ≤ g ∧ g < w.heap.size := by
  obtain ⟨cap, cur, -, h1, h2, -⟩ := h
  exact ⟨h1, (Array.getElem?_eq_some_iff.1 h2).1⟩
theorem Que.add {w w' : World} {base g off : Nat} {T : TypeId} {v : Value} {xs : List Value} (h : Que w base g off T v xs) (hb : Add w w') : Que w' base g off T v xs := by
  have hlt := h.lt.2
  obtain ⟨cap, cur, e, h1, h2, h3⟩ := h
  exact ⟨cap, cur, e, h1, (hb.block g hlt).trans h2, h3⟩
theorem Que.other {w : World} {base g off g' : Nat} {T : TypeId} {v : Value} {xs : List Value} (h : Que w base g off T v xs) (hne : g ≠ g') (i : Nat) (u : Value) : Que (w.setCell ⟨g', i, none⟩ u) base g off T v xs := by
  obtain ⟨cap, cur, e, h1, h2, h3⟩ := h
  exact ⟨cap, cur, e, h1, (heap_setCell_other w ⟨g', i, none⟩ g u hne).trans h2, h3⟩
theorem Que.start (w : World) (T : TypeId) (u : Value) {base : Nat} (hb : base ≤ w.heap.size) : Que (w.alloc (.cells #[u] T)) base w.heap.size 0 T (.slice (some ⟨w.heap.size, 0, none⟩) 1 1) [u] := by
  refine ⟨1, #[u], rfl, hb, heap_alloc_new w _, Nat.le_refl _, by unfold maxLen; omega, by simp, fun i hi => ?_⟩
  have : i = 0 := by simpa using hi
  subst this; rfl
theorem Que.head {w : World} {base g off : Nat} {T : TypeId} {v x : Value} {xs : List Value} (h : Que w base g off T v (x :: xs)) : w.cell? ⟨g, off, none⟩ = some x := by
  obtain ⟨cap, cur, -, -, h2, -, -, -, h3⟩ := h
  rw [cell_of_row w g off cur T (0, 0) h2]
  have := h3 0 (by simp)
  simpa using this
/-- The first element is taken. -/
theorem Que.pop {w : World} {base g off cap : Nat} {T : TypeId} {x : Value} {xs : List Value} {n : Nat} {a : Option Addr} (h : Que w base g off T (.slice (some ⟨g, off, none⟩) n cap) (x :: xs))
    (ha : a = if cap = 1 then some ⟨g, off, none⟩ else some ⟨g, off + 1, none⟩) : ∃ off', Que w base g off' T (.slice a (n - 1) (cap - 1)) xs := by
  obtain ⟨cap', cur, e, h1, h2, h3, h4, h5, h6⟩ := h
  simp only [Value.slice.injEq, true_and] at e
  obtain ⟨rfl, rfl⟩ := e
  rw [List.length_cons] at h3
  by_cases c : cap = 1
  · have : xs = [] := List.eq_nil_of_length_eq_zero (by omega)
    subst this
    rw [if_pos c] at ha
    subst ha
    exact ⟨off, 0, cur, by simp [c], h1, h2, Nat.le_refl _, by unfold maxLen; omega, by omega, fun i hi => by simp at hi⟩
  · rw [if_neg c] at ha
    subst ha
    refine ⟨off + 1, cap - 1, cur, by simp, h1, h2, by omega, by omega, by omega, fun i hi => ?_⟩
    have := h6 (i + 1) (by rw [List.length_cons]; omega)
    rw [show off + 1 + i = off + (i + 1) by omega]
    rw [this]; rfl
theorem run_que {P : Program} {w : World} {base g off : Nat} {T : TypeId} {v u : Value} {xs : List Value} (t ty : TypeId) (i : TypeInfo) (z : Value) (bytes : Nat) (ht : P.underlying t = some (.slice T)) (hi : P.info? T = some i) (hz : i.zero = some z)
    (hsize : i.size = 1) (hby : i.bytes = bytes) (hzs : z.cells.size = 1) (h : Que w base g off T v xs) (ad : Addr) (c : Nat) (hc : w.cell? ad = some u) (h1 : u.oneCell' = true)
    (h63 : xs.length + 1 ≤ maxLen) (hbytes : (xs.length + 1) * bytes ≤ 140737488355328) :
    ∃ v' w' g' off', (Builtin.append_ #[t, t] ty #[v, .slice (some ad) 1 c]).run P w = .ok v' w' ∧ Que w' base g' off' T v' (xs ++ [u]) ∧ w.grownBy w' (some g) ∧ (g' = g ∨ g' = w.heap.size) := by
  have hlt := h.lt
  obtain ⟨cap, cur, rfl, k1, k2, k3, k4, k5, k6⟩ := h
  have hadd : ad.add 0 = ad := by unfold Addr.add; split <;> simp_all
  have hnews : ∀ j u', ([u] : List Value)[j]? = some u' → w.cell? (ad.add j) = some u' := by
    intro j u' hj
    cases j with
    | zero => simp at hj; subst hj; rw [hadd]; exact hc
    | succ j => simp at hj
  by_cases hr : xs.length + 1 ≤ cap
  · have hin : off + xs.length < cur.size := by omega
    have hrun := run_append_room_cells (P := P) w t ty T i ht hi g off xs.length cap ad 1 c [u] (by rw [hsize]; rfl) hnews (by intro u' hu'; simp at hu'; subst hu'; exact h1) hr
      (by intro j hj; simp at hj; subst hj; rw [cell_of_row w g _ cur T (0, 0) k2, hsize]; simp [hin])
      (by intro j hj; exact frozen_of_row w g _ cur T k2)
    rw [hsize, Nat.mul_one] at hrun
    have e : w.setCells g (off + xs.length) [u] = w.setCell ⟨g, off + xs.length, none⟩ u := rfl
    rw [e] at hrun
    refine ⟨_, _, g, off, hrun, ⟨cap, cur.setIfInBounds (off + xs.length) u, by simp, k1, ?_, by simp; omega, k4, by simp; omega, fun j hj => ?_⟩, ?_, .inl rfl⟩
    · rw [heap_setCell_same w g _ cur T u k2]
    · rw [List.length_append, List.length_singleton] at hj
      by_cases ej : j = xs.length
      · subst ej; simp [hin, List.getD]
      · rw [Array.getElem?_setIfInBounds_ne (by omega), k6 j (by omega)]
        simp only [List.getD]; rw [List.getElem?_append_left (by omega)]
    · exact ⟨rfl, rfl, rfl, by simp, fun k _ hk => heap_setCell_other w ⟨g, _, none⟩ k u (fun e => hk (by simp [e]))⟩
  · have hx : ∀ j u', xs[j]? = some u' → w.cell? ((⟨g, off, none⟩ : Addr).add j) = some u' := by
      intro j u' hj
      have hjl := (List.getElem?_eq_some_iff.1 hj).1
      have e : (⟨g, off, none⟩ : Addr).add j = ⟨g, off + j, none⟩ := by unfold Addr.add; split <;> simp_all
      rw [e, cell_of_row w g _ cur T (0, 0) k2, k6 j hjl]
      simp only [List.getD, hj, Option.getD_some]
    subst hby
    have hrun := run_append_grow (P := P) w t ty T i z ht hi hz ⟨g, off, none⟩ xs.length cap xs (by rw [hsize]; omega) hx ad 1 c [u] (by rw [hsize]; rfl) hnews (by omega) (by unfold maxLen at h63; omega) (growslice_fits (by omega) hbytes)
    have hge := grownCap_ge w (xs.length + 1) cap T
    have hcm := grownCap_le_maxLen w (xs.length + 1) cap T h63
    refine ⟨_, _, w.heap.size, 0, hrun, ⟨grownCap w (xs.length + 1) cap T, _, by simp, by omega, heap_alloc_new w.drew _, by simp; omega, hcm, ?_, fun j hj => ?_⟩, ?_, .inr rfl⟩
    · simp only [Array.size_append, List.size_toArray, size_zeroCells, hzs, List.length_singleton]; omega
    · rw [List.length_append, List.length_singleton] at hj
      rw [Nat.zero_add]
      rw [Array.getElem?_append_left (by simp; omega)]
      have : (xs.toArray ++ [u].toArray)[j]? = (xs ++ [u])[j]? := by simp
      rw [this]
      simp only [List.getD]
      rw [List.getElem?_eq_getElem (by simp; omega)]; rfl
    · exact ⟨rfl, rfl, rfl, by simp, fun j hj _ => heap_alloc_old w.drew _ hj⟩
end Go.Proofs.Ytdihmbbkmbnomaa
