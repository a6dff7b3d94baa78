/- The reference of layer 12: Value, for valid networks. -/
import Derived.Test.YtdihmbbkmbnomaaN2
import Derived.OwnWalk
import Derived.RegionTactic
namespace Go.Proofs.Ytdihmbbkmbnomaa
open Go.RowKit NetM

/-- A valid network. -/
def VNet (N s t : Nat) (A : List Arc) : Prop := okArcs N A ∧ s < N ∧ t < N ∧ s ≠ t ∧ 2 ≤ N ∧ N ≤ 700 ∧ A.length ≤ 2500
theorem VNet.head {N s t : Nat} {A : List Arc} (h : VNet N s t A) : headB N s t A.length = true := by
  obtain ⟨-, h1, h2, h3, h4, h5, h6⟩ := h
  exact decide_eq_true (by omega)
theorem VNet.all {N s t : Nat} {A : List Arc} (h : VNet N s t A) : A.all (okB N) = true :=
  List.all_eq_true.2 fun a ha => decide_eq_true (h.1 a ha)
theorem VNet.of {N s t : Int} {A : List Arc} (h : validB N s t A = true) : ∃ N' s' t' : Nat, N = N' ∧ s = s' ∧ t = t' ∧ VNet N' s' t' A := by
  unfold validB at h
  rw [Bool.and_eq_true] at h
  obtain ⟨h1, h2⟩ := h
  have k := of_decide_eq_true h1
  refine ⟨N.toNat, s.toNat, t.toNat, by omega, by omega, by omega, ?_, by omega, by omega, by omega, by omega, by omega, by omega⟩
  intro a ha
  have := of_decide_eq_true (List.all_eq_true.1 h2 a ha)
  unfold okArc
  omega
theorem refValid_yes {w : World} {v : Value} {N s t : Nat} {A : List Arc} (h : NetA w v N s t A) (hv : VNet N s t A) : Calls Try.prog 16 #[v] w (RetB w true) := by
  have := refValid_head h (Lib.hid hv.head)
  rwa [hv.all] at this
theorem refValid_not {w : World} {v : Value} {N s t : Int} {A : List Arc} (h : NetA w v N s t A) (hv : validB N s t A = false) : Calls Try.prog 16 #[v] w (RetB w false) := by
  unfold validB at hv
  cases hh : headB N s t A.length with
  | false => exact refValid_no h (Lib.hid hh)
  | true =>
    have := refValid_head h (Lib.hid hh)
    rw [hh, Bool.true_and] at hv
    rwa [hv] at this

/-- What leaves each node by the first k arcs. -/
def netL (N : Nat) (A : List Arc) (F : List Int) : List Int := (List.range N).map fun x : Nat => net (x : Int) A F
theorem netL_len (N : Nat) (A : List Arc) (F : List Int) : (netL N A F).length = N := by simp [netL]
theorem netL_get {N : Nat} {A : List Arc} {F : List Int} {x : Nat} (h : x < N) : (netL N A F).getD x 0 = net (x : Int) A F := by simp [netL, List.getD, h]
theorem netL_nil (N : Nat) : netL N [] [] = List.replicate N 0 := by
  unfold netL
  refine List.ext_getElem (by simp) fun i h1 h2 => ?_
  simp [net]
theorem netL_step {N x y : Nat} {A : List Arc} {F : List Int} {z u f p q : Int} (hl : F.length = A.length) (hx : x < N) (hy : y < N) (hp : p = (netL N A F).getD x 0 + f) (hq : q = ((netL N A F).set x p).getD y 0 - f) :
    ((netL N A F).set x p).set y q = netL N (A ++ [((x : Int), (y : Int), z, u)]) (F ++ [f]) := by
  rw [netL_get hx] at hp
  have hq2 : q = net (y : Int) A F + (if (x : Int) = (y : Int) then f else 0) - f := by
    rw [hq]
    by_cases c : x = y
    · subst c; simp [List.getD, netL_len, hx, hp]
    · have : ¬ ((x : Int) = (y : Int)) := by omega
      rw [if_neg this]
      simp only [List.getD]; rw [List.getElem?_set_ne c]
      have := netL_get (A := A) (F := F) hy
      simp only [List.getD] at this
      rw [this]; omega
  clear hq
  refine List.ext_getElem (by simp [netL]) fun i h1 h2 => ?_
  have hi : i < N := by simpa [netL] using h2
  have e3 : (netL N (A ++ [((x : Int), (y : Int), z, u)]) (F ++ [f]))[i] = net (i : Int) A F + (if (x : Int) = (i : Int) then f else 0) - (if (y : Int) = (i : Int) then f else 0) := by
    rw [← net_snoc (x := (i : Int)) (l := A) (f := F) ((x : Int), (y : Int), z, u) f hl]
    simp [netL]
  have e4 : ∀ k (hk : k < N), (netL N A F)[k]'(by simpa [netL] using hk) = net (k : Int) A F := fun k hk => by simp [netL]
  rw [e3, List.getElem_set]
  by_cases c1 : y = i
  · subst c1
    rw [if_pos rfl, if_pos rfl, hq2]
  · rw [if_neg c1, List.getElem_set]
    have : ¬ ((y : Int) = (i : Int)) := by omega
    rw [if_neg this]
    by_cases c2 : x = i
    · subst c2; rw [if_pos rfl, if_pos rfl, hp]; omega
    · have : ¬ ((x : Int) = (i : Int)) := by omega
      rw [if_neg c2, if_neg this, e4 i hi]; omega
theorem take_len {α : Type} {l : List α} {n k : Nat} (hl : l.length = n) (hk : k ≤ n) : (l.take k).length = k := by rw [List.length_take]; omega
theorem take_snocI {F : List Int} {k : Nat} (h : k < F.length) : F.take (k + 1) = F.take k ++ [F.getD k 0] := by
  rw [List.take_add_one]; simp [List.getD, h]
theorem within_snoc : ∀ {l : List Arc} {f : List Int} {a : Arc} {v : Int}, within l f → 0 ≤ v → v ≤ a.2.2.1 → within (l ++ [a]) (f ++ [v])
  | [], [], _, _, _, h0, h1 => ⟨⟨h0, h1⟩, trivial⟩
  | _ :: _, _ :: _, _, _, h, h0, h1 => ⟨h.1, within_snoc h.2 h0 h1⟩
  | [], _ :: _, _, _, h, _, _ => h.elim
  | _ :: _, [], _, _, h, _, _ => h.elim
/-- What Value returns for a valid network. -/
def ValP (w : World) (N s t : Nat) (A : List Arc) (F : List Int) (e : Ending) (w' : World) : Prop :=
  ∃ (v : Int) (b : Bool), e = .returned (.tuple #[.int .i64 v, .bool b]) ∧ Add w w' ∧ (b = true → isFlow N s t A F ∧ v = net s A F) ∧ (b = false → ¬ isFlow N s t A F ∧ v = 0)

theorem infoInt : (Try.prog.info? 3).map (fun i => (i.zero, i.size, i.bytes)) = some (some (.int .i64 0), 1, 8) := by kernel_rfl
theorem infoBool : (Try.prog.info? 4).map (fun i => (i.zero, i.size, i.bytes)) = some (some (.bool false), 1, 1) := by kernel_rfl
theorem IBlk.made {w1 : World} {base g n : Nat} (hown : w1.ownsRow base 3 1 (.slice (some ⟨g, 0, none⟩) n n) n (madeCells #[Value.int .i64 0] n).toList) : IBlk w1 g (List.replicate n 0) := by
  rcases hown.2 with ⟨e, _⟩ | ⟨g', cap, cur, e, hg, hgg, hn', hm', hs, ht⟩
  · simp at e
  · simp only [Value.slice.injEq, Option.some.injEq, Addr.mk.injEq, and_true, true_and] at e
    obtain ⟨rfl, rfl⟩ := e
    unfold IBlk Blk
    rw [hgg]
    have hh : cur = ((List.replicate n (0 : Int)).map iv).toArray := by
      rw [List.map_replicate]
      rw [toList_madeCells_one] at ht
      show cur = (List.replicate n (Value.int .i64 0)).toArray
      rw [← ht, List.take_of_length_le (by simp; omega)]
    rw [hh]
theorem BBlk.made {w1 : World} {base g n : Nat} (hown : w1.ownsRow base 4 1 (.slice (some ⟨g, 0, none⟩) n n) n (madeCells #[Value.bool false] n).toList) : BBlk w1 g (List.replicate n false) := by
  rcases hown.2 with ⟨e, _⟩ | ⟨g', cap, cur, e, hg, hgg, hn', hm', hs, ht⟩
  · simp at e
  · simp only [Value.slice.injEq, Option.some.injEq, Addr.mk.injEq, and_true, true_and] at e
    obtain ⟨rfl, rfl⟩ := e
    unfold BBlk Blk
    rw [hgg]
    have hh : cur = ((List.replicate n false).map bv).toArray := by
      rw [List.map_replicate]
      rw [toList_madeCells_one] at ht
      show cur = (List.replicate n (Value.bool false)).toArray
      rw [← ht, List.take_of_length_le (by simp; omega)]
    rw [hh]
end Go.Proofs.Ytdihmbbkmbnomaa
