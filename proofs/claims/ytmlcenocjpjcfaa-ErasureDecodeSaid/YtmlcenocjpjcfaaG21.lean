/- The helper square of the laws of field. -/
import Derived.Test.YtmlcenocjpjcfaaG19
import Derived.Test.YtmlcenocjpjcfaaG13
import Derived.Laws.AppendOwn
import Derived.Maps.AppendAt
namespace Go.Proofs.Ytmlcenocjpjcfaa
open Go.RowKit GfM

/-- Row i of the matrix of n rows that the bytes l fill. -/
def sqRow (l : List Nat) (n i : Nat) : List Nat := (List.range n).map fun j => l.getD (i * n + j) 0
def sqTo (l : List Nat) (n k : Nat) : List (List Nat) := (List.range k).map (sqRow l n)
theorem length_sqRow (l : List Nat) (n i : Nat) : (sqRow l n i).length = n := by simp [sqRow]
theorem length_sqTo (l : List Nat) (n k : Nat) : (sqTo l n k).length = k := by simp [sqTo]
theorem sqTo_succ (l : List Nat) (n k : Nat) : sqTo l n (k + 1) = sqTo l n k ++ [sqRow l n k] := by simp [sqTo, List.range_succ]
theorem sqRow_get {l : List Nat} {n i j : Nat} (h : j < n) : (sqRow l n i).getD j 0 = l.getD (i * n + j) 0 := by simp [sqRow, List.getD, h]
theorem bys_sqRow {l : List Nat} (h : Bys l) (n i : Nat) : Bys (sqRow l n i) := by
  intro x hx
  obtain ⟨j, _, rfl⟩ := List.mem_map.1 hx
  exact h.get _
theorem bysM_sq {l : List Nat} (h : Bys l) (n k : Nat) : BysM (sqTo l n k) := by
  intro i
  by_cases hi : i < k
  · have : (sqTo l n k).getD i [] = sqRow l n i := by simp [sqTo, List.getD, hi]
    rw [this]; exact bys_sqRow h n i
  · have : (sqTo l n k).getD i [] = [] := by simp [sqTo, List.getD, Nat.le_of_not_lt hi]
    rw [this]; exact Bys.nil
theorem fill_rest {S : List Nat} {n j : Nat} (h : S.length = n) (hj : j ≤ n) (hz : ∀ k, j ≤ k → k < n → S.getD k 0 = 0) : fillTo S n j = S := by
  have e : S.drop j = List.replicate (n - j) 0 := by
    refine List.eq_replicate_iff.2 ⟨by rw [List.length_drop, h], fun b hb => ?_⟩
    obtain ⟨k, hk, e⟩ := List.mem_iff_getElem.1 hb
    rw [List.length_drop] at hk
    have h2 := hz (j + k) (by omega) (by omega)
    rw [List.getElem_drop] at e
    have h3 : j + k < S.length := by omega
    simp only [List.getD, List.getElem?_eq_getElem h3, Option.getD_some] at h2
    rw [← e]; exact h2
  unfold fillTo
  rw [← e, List.take_append_drop]

/-- A matrix that the call made by appending rows. -/
def SqM (w : World) (base m : Nat) (v : Value) (gs : List Nat) (M : List (List Nat)) : Prop :=
  w.ownsRow base 32 1 v gs.length (gs.map (hdr m)) ∧ RowsAt w m gs M ∧ ∀ g ∈ gs, base ≤ g
theorem own_ne {w : World} {base n g : Nat} {v : Value} {xs : List Value} {zs : List Nat} (h : w.ownsRow base 32 1 v n xs) (hr : Row w g zs) : some g ≠ v.ownBlock := by
  rcases h.2 with ⟨rfl, _⟩ | ⟨g', cap, cur, rfl, hb, hgg, rest⟩
  · intro e; cases e
  · intro e
    have e2 : g = g' := Option.some.inj e
    subst e2
    unfold Row at hr
    rw [hgg] at hr
    simp at hr
theorem own_base {w : World} {base n k : Nat} {v : Value} {xs : List Value} (h : w.ownsRow base 32 1 v n xs) (e : v.ownBlock = some k) : base ≤ k ∧ k < w.heap.size := by
  rcases h.2 with ⟨rfl, _⟩ | ⟨g', cap, cur, rfl, hb, hgg, rest⟩
  · cases e
  · cases e; exact ⟨hb, (Array.getElem?_eq_some_iff.1 hgg).1⟩
/-- All that the matrix consists of lies below block g. -/
def SqLt (g : Nat) (v : Value) (gs : List Nat) : Prop := (∀ x ∈ gs, x < g) ∧ ∀ k, v.ownBlock = some k → k < g
theorem SqM.lt {w : World} {base m : Nat} {v : Value} {gs : List Nat} {M : List (List Nat)} (h : SqM w base m v gs M) : SqLt w.heap.size v gs := ⟨h.2.1.lt, fun _ hk => (own_base h.1 hk).2⟩
theorem SqM.kept {w w' : World} {base m g : Nat} {v : Value} {gs : List Nat} {M : List (List Nat)} (h : SqM w base m v gs M) (hg : w.grownBy w' (some g)) (hl : SqLt g v gs) : SqM w' base m v gs M := by
  refine ⟨h.1.kept hg ?_, h.2.1.kept hg (fun x hx e => by have := hl.1 x hx; have := Option.some.inj e; omega), h.2.2⟩
  cases hv : v.ownBlock with
  | none => exact Or.inl rfl
  | some k => right; intro e; have := hl.2 k hv; have := Option.some.inj e; omega
theorem SqM.kept0 {w w' : World} {base m : Nat} {v : Value} {gs : List Nat} {M : List (List Nat)} (h : SqM w base m v gs M) (hg : w.grownBy w' none) : SqM w' base m v gs M := by
  refine ⟨h.1.kept hg ?_, h.2.1.kept hg (fun x hx e => by cases e), h.2.2⟩
  cases hv : v.ownBlock with
  | none => exact Or.inl rfl
  | some k => right; intro e; cases e

/-- What square returns. -/
def SqP (w : World) (l : List Nat) (n : Nat) (e : Ending) (w' : World) : Prop := ∃ v gs, e = .returned v ∧ SqM w' w.heap.size n v gs (sqTo l n n) ∧ Add w w'
theorem SqM.push {wr w3 : World} {base m g : Nat} {v v' : Value} {gs : List Nat} {M : List (List Nat)} {zs : List Nat} {o : Obj} (h : SqM wr base m v gs M) (hr : Row wr g zs) (hl : zs.length = m) (hb : base ≤ g) (hg : (wr.alloc o).grownBy w3 v.ownBlock)
    (hown : w3.ownsRow base 32 1 v' (gs.length + 1) (gs.map (hdr m) ++ [hdr m g])) : SqM w3 base m v' (gs ++ [g]) (M ++ [zs]) := by
  have h1 := h.kept0 (World.grownBy_alloc wr o none)
  have hr1 : Row (wr.alloc o) g zs := hr.kept (World.grownBy_alloc wr o none) (by simp)
  refine ⟨by rw [List.length_append, List.map_append]; exact hown, (h1.2.1.push hr1 hl).kept hg ?_, ?_⟩
  · intro x hx
    rcases List.mem_append.1 hx with hx | hx
    · obtain ⟨i, hi, rfl⟩ := List.mem_iff_getElem.1 hx
      have := (h1.2.1.2 i (by rw [← h1.2.1.1]; exact hi)).1
      have e : gs.getD i 0 = gs[i] := by simp [List.getD, hi]
      rw [e] at this
      exact own_ne h1.1 this
    · rw [List.mem_singleton.1 hx]; exact own_ne h1.1 hr1
  · intro x hx
    rcases List.mem_append.1 hx with hx | hx
    · exact h.2.2 x hx
    · rw [List.mem_singleton.1 hx]; exact hb

end Go.Proofs.Ytmlcenocjpjcfaa
