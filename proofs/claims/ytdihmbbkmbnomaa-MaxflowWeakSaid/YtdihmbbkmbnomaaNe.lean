/- The search for distances over steps. Plain mathematics. -/
import Derived.Test.YtdihmbbkmbnomaaNd
namespace NetM

def cntD (D : List Int) : Nat := (D.filter fun d => decide (d ≠ -1)).length
theorem cntD_le (D : List Int) : cntD D ≤ D.length := List.length_filter_le _ _
theorem cntD_set : ∀ (D : List Int) (z : Nat) (v : Int), z < D.length → dl D z = -1 → v ≠ -1 → cntD (D.set z v) = cntD D + 1
  | [], z, v, h, _, _ => by simp at h
  | d :: D, 0, v, _, h, hv => by
    have : d = -1 := h
    subst this
    simp [cntD, hv]
  | d :: D, z + 1, v, h, g, hv => by
    have ih := cntD_set D z v (by simpa using h) (by simpa [dl] using g) hv
    unfold cntD at ih ⊢
    rw [List.set_cons_succ, List.filter_cons, List.filter_cons]
    split
    · rw [List.length_cons, List.length_cons, ih]
    · exact ih
theorem dl_set {D : List Int} {z y : Nat} {v : Int} (hz : z < D.length) : dl (D.set z v) y = if y = z then v else dl D y := by
  unfold dl
  by_cases e : y = z
  · subst e; simp [List.getD, hz]
  · rw [if_neg e]; simp only [List.getD]; rw [List.getElem?_set_ne (fun h => e h.symm)]
/-- What holds of the search: the distances D, the nodes Q that wait, p that were looked at. -/
def LBfs (A : List Arc) (F : List Int) (N s : Nat) (D : List Int) (Q : List Nat) (p : Nat) : Prop :=
  D.length = N ∧ dl D s = 0 ∧ (∀ x, x < N → -1 ≤ dl D x ∧ dl D x < cntD D) ∧ (∀ q ∈ Q, q < N ∧ dl D q ≠ -1) ∧ p + Q.length = cntD D ∧
  (∀ y, y < N → dl D y ≠ -1 → y ≠ s → ∃ j x : Nat, j < 2 * A.length ∧ tailS A j = (x : Int) ∧ headS A j = (y : Int) ∧ 0 < roomS A F j ∧ x < N ∧ 0 ≤ dl D x ∧ dl D y = dl D x + 1)
/-- What has a distance and does not wait has no way out to what has none; of node x only the steps 'pre' are known. -/
def LCl (A : List Arc) (F : List Int) (N : Nat) (D : List Int) (Q : List Nat) (x : Nat) (pre : List Nat) : Prop :=
  ∀ y, y < N → dl D y ≠ -1 → y ∉ Q → ∀ j, j ∈ fromR A y → (y = x → j ∈ pre) → ∀ z : Nat, headS A j = (z : Int) → 0 < roomS A F j → dl D z ≠ -1
theorem LBfs.start {A : List Arc} {F : List Int} {N s : Nat} (hs : s < N) : LBfs A F N s ((List.replicate N (-1)).set s 0) [s] 0 := by
  have hl : s < (List.replicate N (-1 : Int)).length := by simpa using hs
  have hg : ∀ y, y < N → dl (List.replicate N (-1)) y = -1 := by intro y h; simp [dl, List.getD, h]
  have h0 : cntD (List.replicate N (-1)) = 0 := by unfold cntD; simp
  have h1 := cntD_set (List.replicate N (-1)) s 0 hl (hg s hs) (by decide)
  rw [h0] at h1
  refine ⟨by simp, ?_, fun x hx => ?_, fun q hq => ?_, ?_, fun y hy hd hne => ?_⟩
  · rw [dl_set hl, if_pos rfl]
  · rw [dl_set hl, h1, hg x hx]; split <;> omega
  · obtain rfl : q = s := by simpa using hq
    exact ⟨hs, by rw [dl_set hl, if_pos rfl]; decide⟩
  · rw [h1]; rfl
  · rw [dl_set hl, if_neg hne, hg y hy] at hd
    exact absurd rfl hd
theorem LCl.start {A : List Arc} {F : List Int} {N s : Nat} (hs : s < N) : LCl A F N ((List.replicate N (-1)).set s 0) [s] N [] := by
  intro y hy hd hq
  have hl : s < (List.replicate N (-1 : Int)).length := by simpa using hs
  have hne : y ≠ s := fun e => hq (by simp [e])
  rw [dl_set hl, if_neg hne] at hd
  exact absurd (by simp [dl, List.getD, hy]) hd
theorem LBfs.pop {A : List Arc} {F D : List Int} {N s x p : Nat} {Q : List Nat} (h : LBfs A F N s D (x :: Q) p) : LBfs A F N s D Q (p + 1) ∧ x < N ∧ dl D x ≠ -1 ∧ p < N := by
  obtain ⟨h1, h2, h3, h4, h5, h6⟩ := h
  have := cntD_le D
  rw [List.length_cons] at h5
  exact ⟨⟨h1, h2, h3, fun q hq => h4 q (List.mem_cons_of_mem _ hq), by omega, h6⟩, (h4 x (List.mem_cons_self ..)).1, (h4 x (List.mem_cons_self ..)).2, by omega⟩
theorem LCl.pop {A : List Arc} {F D : List Int} {N x x0 : Nat} {Q : List Nat} {pre : List Nat} (h : LCl A F N D (x :: Q) x0 pre) (hp : x0 < N → ∀ j, j ∈ fromR A x0 → j ∈ pre) : LCl A F N D Q x [] := by
  intro y hy hd hq j hj hi z hz hr
  by_cases e : y = x
  · exact absurd (hi e) (by simp)
  · exact h y hy hd (fun hm => by rcases List.mem_cons.1 hm with h | h; exact e h; exact hq h) j hj (fun e2 => by subst e2; exact hp hy j hj) z hz hr
/-- A node gets a distance. -/
theorem LBfs.grow {A : List Arc} {F D : List Int} {N s x z p j : Nat} {Q : List Nat} (h : LBfs A F N s D Q p) (hx : x < N) (dx : dl D x ≠ -1) (hz : z < N) (dz : dl D z = -1) (hj : j < 2 * A.length) (h1 : tailS A j = (x : Int)) (h2 : headS A j = (z : Int)) (h3 : 0 < roomS A F j) :
    LBfs A F N s (D.set z (dl D x + 1)) (Q ++ [z]) p := by
  obtain ⟨g1, g2, g3, g4, g5, g6⟩ := h
  have hzl : z < D.length := by omega
  have hxb := g3 x hx
  have hc := cntD_set D z (dl D x + 1) hzl dz (by omega)
  have hsz : s ≠ z := by rintro rfl; omega
  refine ⟨by simpa using g1, ?_, fun y hy => ?_, fun q hq => ?_, ?_, fun y hy hd hne => ?_⟩
  · rw [dl_set hzl, if_neg hsz]; exact g2
  · rw [dl_set hzl, hc]
    have := g3 y hy
    split <;> omega
  · rw [dl_set hzl]
    rcases List.mem_append.1 hq with hq | hq
    · refine ⟨(g4 q hq).1, ?_⟩
      split
      · omega
      · exact (g4 q hq).2
    · obtain rfl : q = z := by simpa using hq
      exact ⟨hz, by rw [if_pos rfl]; omega⟩
  · rw [hc, List.length_append, List.length_singleton]; omega
  · have hxz : x ≠ z := by rintro rfl; exact dx dz
    by_cases e : y = z
    · subst e
      exact ⟨j, x, hj, h1, h2, h3, hx, by rw [dl_set hzl, if_neg hxz]; omega, by rw [dl_set hzl, dl_set hzl, if_pos rfl, if_neg hxz]⟩
    · rw [dl_set hzl, if_neg e] at hd
      obtain ⟨i, w, k1, k2, k3, k4, k5, k6, k7⟩ := g6 y hy hd hne
      have hwz : w ≠ z := by rintro rfl; omega
      exact ⟨i, w, k1, k2, k3, k4, k5, by rw [dl_set hzl, if_neg hwz]; exact k6, by rw [dl_set hzl, dl_set hzl, if_neg e, if_neg hwz]; exact k7⟩
theorem LCl.grow {A : List Arc} {F D : List Int} {N x z : Nat} {Q : List Nat} {pre : List Nat} {v : Int} (h : LCl A F N D Q x pre) (hz : z < D.length) (hv : v ≠ -1) : LCl A F N (D.set z v) (Q ++ [z]) x pre := by
  intro y hy hd hq j hj hi w hw hr
  have hne : y ≠ z := fun e => hq (by simp [e])
  rw [dl_set hz, if_neg hne] at hd
  have k := h y hy hd (fun hm => hq (by simp [hm])) j hj hi w hw hr
  rw [dl_set hz]
  split
  · exact hv
  · exact k
/-- One more step of node x was looked at. -/
theorem LCl.step {A : List Arc} {F D : List Int} {N x i : Nat} {Q : List Nat} {pre : List Nat} (h : LCl A F N D Q x pre) (hi : ∀ z : Nat, headS A i = (z : Int) → 0 < roomS A F i → dl D z ≠ -1) : LCl A F N D Q x (pre ++ [i]) := by
  intro y hy hd hq j hj hp z hz hr
  by_cases e : j = i
  · subst e; exact hi z hz hr
  · refine h y hy hd hq j hj (fun e2 => ?_) z hz hr
    rcases List.mem_append.1 (hp e2) with h | h
    · exact h
    · exact absurd (by simpa using h) e
/-- The search has ended. -/
theorem lev_of {A : List Arc} {F D : List Int} {N s p x0 : Nat} {pre : List Nat} (h : LBfs A F N s D [] p) (hc : LCl A F N D [] x0 pre) (hp : x0 < N → ∀ j, j ∈ fromR A x0 → j ∈ pre) (ha : okArcs N A) (hN : N ≤ 700) : Lev A F N s D := by
  obtain ⟨g1, g2, g3, -, -, g6⟩ := h
  refine ⟨g1, g2, fun x hx => ?_, fun j hj x y h1 h2 dx hr => ?_, g6⟩
  · have := g3 x hx
    have := cntD_le D
    omega
  · obtain ⟨x', y', k1, k2, k3, k4⟩ := step_nodes ha hj
    have e : x = x' := by omega
    subst e
    exact hc x k3 dx (by simp) j (mem_fromR.2 ⟨hj, h1⟩) (fun e => by subst e; exact hp k3 j (mem_fromR.2 ⟨hj, h1⟩)) y h2 hr
end NetM
