/- The search in a network and the way back: what is reached and by which arc, and what the flow is when it is raised along the way. Plain mathematics. -/
import Derived.Test.YtdihmbbkmbnomaaNm
namespace NetM

def getB (S : List Bool) (y : Nat) : Bool := S.getD y false
/-- Arc number i (or, from the number of arcs on, arc i back) leads with room left from x to z. -/
def Room (A : List Arc) (F : List Int) (i x z : Nat) : Prop :=
  (i < A.length ∧ (at' A i).1 = (x : Int) ∧ (at' A i).2.1 = (z : Int) ∧ F.getD i 0 < (at' A i).2.2.1) ∨
  (∃ j, i = A.length + j ∧ j < A.length ∧ (at' A j).2.1 = (x : Int) ∧ (at' A j).1 = (z : Int) ∧ 0 < F.getD j 0)
/-- Each node that was reached, but for the start, was reached from one of lower rank. -/
def Tree (A : List Arc) (F : List Int) (N s : Nat) (S : List Bool) (Y : List Int) (rk : Nat → Nat) : Prop :=
  ∀ y, y < N → getB S y = true → y ≠ s → ∃ i x : Nat, Y.getD y 0 = (i : Int) ∧ Room A F i x y ∧ x < N ∧ getB S x = true ∧ rk x < rk y
def cnt (S : List Bool) : Nat := S.count true
/-- What holds of the search. -/
def Bfs (A : List Arc) (F : List Int) (N s : Nat) (S : List Bool) (Y : List Int) (Q : List Nat) (p : Nat) : Prop :=
  S.length = N ∧ Y.length = N ∧ getB S s = true ∧ (∀ q ∈ Q, q < N ∧ getB S q = true) ∧ p + Q.length = cnt S ∧ (∃ rk, Tree A F N s S Y rk)
/-- What was seen and does not wait has no way out to what was not seen; of node x only the first i arcs are known. -/
def Closed (A : List Arc) (F : List Int) (N : Nat) (S : List Bool) (Q : List Nat) (x i : Nat) : Prop :=
  ∀ y j, y < N → getB S y = true → y ∉ Q → j < A.length → (y = x → j < i) →
    ((at' A j).1 = (y : Int) → F.getD j 0 < (at' A j).2.2.1 → ∀ z : Nat, (at' A j).2.1 = (z : Int) → getB S z = true) ∧
    ((at' A j).2.1 = (y : Int) → 0 < F.getD j 0 → ∀ z : Nat, (at' A j).1 = (z : Int) → getB S z = true)
theorem getB_set (S : List Bool) (z y : Nat) (hz : z < S.length) : getB (S.set z true) y = if y = z then true else getB S y := by
  unfold getB
  simp only [List.getD, List.getElem?_set]
  by_cases e : z = y
  · subst e; simp [hz]
  · rw [if_neg e, if_neg (fun h => e h.symm)]
theorem getB_mono {S : List Bool} {z y : Nat} (hz : z < S.length) (h : getB S y = true) : getB (S.set z true) y = true := by
  rw [getB_set S z y hz]; split
  · rfl
  · exact h
theorem cnt_set : ∀ (S : List Bool) (z : Nat), z < S.length → getB S z = false → cnt (S.set z true) = cnt S + 1
  | [], z, h, _ => by simp at h
  | b :: S, 0, _, h => by
    have : b = false := h
    subst this
    simp [cnt]
  | b :: S, z + 1, h, g => by
    have ih := cnt_set S z (by simpa using h) (by simpa [getB] using g)
    unfold cnt at ih ⊢
    rw [List.set_cons_succ, List.count_cons, List.count_cons, ih]; omega
theorem cnt_le (S : List Bool) : cnt S ≤ S.length := List.count_le_length
/-- A node is reached. -/
theorem Bfs.grow {A F N s S Y Q p} (h : Bfs A F N s S Y Q p) {i x z : Nat} (hx : x < N) (sx : getB S x = true) (hz : z < N) (sz : getB S z = false) (hr : Room A F i x z) :
    Bfs A F N s (S.set z true) (Y.set z (i : Int)) (Q ++ [z]) p := by
  obtain ⟨h1, h2, h3, h4, h5, rk, h6⟩ := h
  refine ⟨by rw [List.length_set]; exact h1, by rw [List.length_set]; exact h2, getB_mono (by omega) h3, ?_, ?_, fun y => if y = z then rk x + 1 else rk y, ?_⟩
  · intro q hq
    rcases List.mem_append.1 hq with hq | hq
    · exact ⟨(h4 q hq).1, getB_mono (by omega) (h4 q hq).2⟩
    · obtain rfl : q = z := by simpa using hq
      exact ⟨hz, by rw [getB_set S q q (by omega), if_pos rfl]⟩
  · rw [cnt_set S z (by omega) sz, List.length_append, List.length_singleton]; omega
  · intro y hy sy hne
    by_cases e : y = z
    · subst e
      refine ⟨i, x, by simp [List.getD, h2, hy], hr, hx, getB_mono (by omega) sx, ?_⟩
      have : x ≠ y := by rintro rfl; rw [sx] at sz; cases sz
      show (if x = y then rk x + 1 else rk x) < if y = y then rk x + 1 else rk y
      rw [if_neg this, if_pos rfl]; omega
    · rw [getB_set S z y (by omega), if_neg e] at sy
      obtain ⟨i', x', g1, g2, g3, g4, g5⟩ := h6 y hy sy hne
      have hx' : x' ≠ z := by rintro rfl; rw [g4] at sz; cases sz
      refine ⟨i', x', ?_, g2, g3, getB_mono (by omega) g4, ?_⟩
      · rw [← g1]; simp only [List.getD]; rw [List.getElem?_set_ne (fun h => e h.symm)]
      · show (if x' = z then rk x + 1 else rk x') < if y = z then rk x + 1 else rk y
        rw [if_neg hx', if_neg e]; exact g5
theorem Closed.grow {A F N S Q x i z} (h : Closed A F N S Q x i) (hz : z < S.length) : Closed A F N (S.set z true) (Q ++ [z]) x i := by
  intro y j hy sy hq hj hi
  have hne : y ≠ z := fun e => hq (by simp [e])
  rw [getB_set S z y hz, if_neg hne] at sy
  obtain ⟨g1, g2⟩ := h y j hy sy (fun h => hq (by simp [h])) hj hi
  exact ⟨fun a b c d => getB_mono hz (g1 a b c d), fun a b c d => getB_mono hz (g2 a b c d)⟩
/-- One more arc was looked at. -/
theorem Closed.step {A F N S Q x i} (h : Closed A F N S Q x i)
    (h1 : (at' A i).1 = (x : Int) → F.getD i 0 < (at' A i).2.2.1 → ∀ z : Nat, (at' A i).2.1 = (z : Int) → getB S z = true)
    (h2 : (at' A i).2.1 = (x : Int) → 0 < F.getD i 0 → ∀ z : Nat, (at' A i).1 = (z : Int) → getB S z = true) : Closed A F N S Q x (i + 1) := by
  intro y j hy sy hq hj hi
  by_cases e : y = x ∧ j = i
  · obtain ⟨rfl, rfl⟩ := e
    exact ⟨h1, h2⟩
  · exact h y j hy sy hq hj fun hyx => by have := hi hyx; have : j ≠ i := fun hji => e ⟨hyx, hji⟩; omega
theorem Closed.pop {A F N S Q x} {x0 : Nat} (h : Closed A F N S (x :: Q) x0 A.length) : Closed A F N S Q x 0 := by
  intro y j hy sy hq hj hi
  by_cases e : y = x
  · exact absurd (hi e) (Nat.not_lt_zero _)
  · exact h y j hy sy (fun hm => by rcases List.mem_cons.1 hm with h | h; exact e h; exact hq h) hj fun _ => hj
theorem Bfs.pop {A F N s S Y x Q p} (h : Bfs A F N s S Y (x :: Q) p) : Bfs A F N s S Y Q (p + 1) ∧ x < N ∧ getB S x = true ∧ p < N := by
  obtain ⟨h1, h2, h3, h4, h5, h6⟩ := h
  have := cnt_le S
  rw [List.length_cons] at h5
  exact ⟨⟨h1, h2, h3, fun q hq => h4 q (List.mem_cons_of_mem _ hq), by omega, h6⟩, (h4 x (List.mem_cons_self ..)).1, (h4 x (List.mem_cons_self ..)).2, by omega⟩
theorem Bfs.start {A F N s} (hs : s < N) : Bfs A F N s ((List.replicate N false).set s true) (List.replicate N 0) [s] 0 := by
  have hg : ∀ y, getB (List.replicate N false) y = false := by
    intro y; unfold getB; by_cases h : y < N <;> simp [List.getD, h]
  refine ⟨by simp, by simp, ?_, ?_, ?_, fun _ => 0, ?_⟩
  · rw [getB_set _ _ _ (by simpa using hs), if_pos rfl]
  · intro q hq
    obtain rfl : q = s := by simpa using hq
    exact ⟨hs, by rw [getB_set _ _ _ (by simpa using hs), if_pos rfl]⟩
  · rw [cnt_set _ _ (by simpa using hs) (hg s)]
    simp [cnt, List.count_replicate]
  · intro y _ sy hne
    rw [getB_set _ _ _ (by simpa using hs), if_neg hne, hg] at sy
    cases sy
theorem Closed.start {A F N s} (hs : s < N) : Closed A F N ((List.replicate N false).set s true) [s] 0 A.length := by
  intro y j _ sy hq
  have hg : getB (List.replicate N false) y = false := by unfold getB; by_cases h : y < N <;> simp [List.getD, h]
  have hne : y ≠ s := fun e => hq (by simp [e])
  rw [getB_set _ _ _ (by simpa using hs), if_neg hne, hg] at sy
  cases sy
/-- The cut of a list. -/
def cutOf (S : List Bool) (x : Int) : Bool := getB S x.toNat
/-- Where the search ends without the sink, nothing can pass. -/
theorem Closed.tight {A F N S} {x0 : Nat} (h : Closed A F N S [] x0 A.length) (ha : okArcs N A) (hw : within A F) : tight (cutOf S) A F := by
  have hl := within_length hw
  rw [tight_iff hl]
  intro i hi
  have hm : at' A i ∈ A := by unfold at'; simp [List.getD, hi]
  obtain ⟨a1, a2, a3, a4, a5, a6⟩ := ha _ hm
  obtain ⟨x, hx⟩ : ∃ x : Nat, (at' A i).1 = x := ⟨(at' A i).1.toNat, by omega⟩
  obtain ⟨z, hz⟩ : ∃ z : Nat, (at' A i).2.1 = z := ⟨(at' A i).2.1.toNat, by omega⟩
  have hb := (within_iff.1 hw).2 i hi
  rw [hx, hz]
  have e1 : cutOf S (x : Int) = getB S x := by simp [cutOf]
  have e2 : cutOf S (z : Int) = getB S z := by simp [cutOf]
  rw [e1, e2]
  constructor
  · intro sx sz
    rcases Int.lt_or_le (F.getD i 0) (at' A i).2.2.1 with hlt | hge
    · have := (h x i (by omega) sx (by simp) hi fun _ => hi).1 hx hlt z hz
      rw [this] at sz; cases sz
    · omega
  · intro sx sz
    rcases Int.lt_or_le 0 (F.getD i 0) with hlt | hge
    · have := (h z i (by omega) sz (by simp) hi fun _ => hi).2 hz hlt x hx
      rw [this] at sx; cases sx
    · omega

/-! The way back. -/
def predP (A : List Arc) (Y : List Int) (x : Nat) : Nat :=
  if (Y.getD x 0).toNat < A.length then (at' A (Y.getD x 0).toNat).1.toNat else (at' A ((Y.getD x 0).toNat - A.length)).2.1.toNat
def resP (A : List Arc) (F : List Int) (Y : List Int) (x : Nat) : Int :=
  if (Y.getD x 0).toNat < A.length then (at' A (Y.getD x 0).toNat).2.2.1 - F.getD (Y.getD x 0).toNat 0 else F.getD ((Y.getD x 0).toNat - A.length) 0
/-- The least room on the way from x back to s. -/
def bott (A : List Arc) (F : List Int) (Y : List Int) (s : Nat) : Nat → Int → Nat → Int
  | 0, m, _ => m
  | k + 1, m, x => if x = s then m else bott A F Y s k (min m (resP A F Y x)) (predP A Y x)
theorem bott_le {A F Y s} : ∀ (k : Nat) (m : Int) (x : Nat), bott A F Y s k m x ≤ m
  | 0, m, x => Int.le_refl _
  | k + 1, m, x => by
    unfold bott; split
    · exact Int.le_refl _
    · exact Int.le_trans (bott_le k _ _) (Int.min_le_left _ _)
theorem bott_s {A F Y s} (k : Nat) (m : Int) : bott A F Y s k m s = m := by
  cases k with
  | zero => rfl
  | succ k => unfold bott; rw [if_pos rfl]
/-- What is known at a node on the way. -/
theorem Tree.at {A F N s S Y rk} (h : Tree A F N s S Y rk) {x : Nat} (hx : x < N) (sx : getB S x = true) (hne : x ≠ s) :
    0 < resP A F Y x ∧ predP A Y x < N ∧ getB S (predP A Y x) = true ∧ rk (predP A Y x) < rk x ∧
    ((∃ i : Nat, Y.getD x 0 = (i : Int) ∧ i < A.length ∧ (at' A i).1 = (predP A Y x : Int) ∧ (at' A i).2.1 = (x : Int) ∧ resP A F Y x = (at' A i).2.2.1 - F.getD i 0) ∨
     (∃ j : Nat, Y.getD x 0 = ((A.length + j : Nat) : Int) ∧ j < A.length ∧ (at' A j).2.1 = (predP A Y x : Int) ∧ (at' A j).1 = (x : Int) ∧ resP A F Y x = F.getD j 0)) := by
  obtain ⟨i, p, hy, hr, hp, sp, hrk⟩ := h x hx sx hne
  rcases hr with ⟨h1, h2, h3, h4⟩ | ⟨j, rfl, h1, h2, h3, h4⟩
  · have e1 : predP A Y x = p := by unfold predP; rw [hy, Int.toNat_natCast, if_pos h1, h2]; omega
    have e2 : resP A F Y x = (at' A i).2.2.1 - F.getD i 0 := by unfold resP; rw [hy, Int.toNat_natCast, if_pos h1]
    rw [e1, e2]
    exact ⟨by omega, hp, sp, hrk, .inl ⟨i, hy, h1, h2, h3, rfl⟩⟩
  · have e1 : predP A Y x = p := by unfold predP; rw [hy, Int.toNat_natCast, if_neg (by omega), Nat.add_sub_cancel_left, h2]; omega
    have e2 : resP A F Y x = F.getD j 0 := by unfold resP; rw [hy, Int.toNat_natCast, if_neg (by omega), Nat.add_sub_cancel_left]
    rw [e1, e2]
    exact ⟨by omega, hp, sp, hrk, .inr ⟨j, hy, h1, h2, h3, rfl⟩⟩
/-- The first way: the least room so far. -/
def Way (A : List Arc) (F : List Int) (N s t : Nat) (S : List Bool) (Y : List Int) (rk : Nat → Nat) (most : Int) (x : Nat) : Prop :=
  x < N ∧ getB S x = true ∧ 0 < most ∧ most ≤ 2147483647 ∧ ∃ k, rk x ≤ k ∧ bott A F Y s (rk t) 2147483647 t = bott A F Y s k most x
theorem Way.start {A F N s t S Y rk} (ht : t < N) (st : getB S t = true) : Way A F N s t S Y rk 2147483647 t := ⟨ht, st, by decide, by decide, rk t, Nat.le_refl _, rfl⟩
theorem Way.step {A F N s t S Y rk most x} (h : Way A F N s t S Y rk most x) (hT : Tree A F N s S Y rk) (hne : x ≠ s) :
    Way A F N s t S Y rk (min most (resP A F Y x)) (predP A Y x) ∧ rk (predP A Y x) < rk x := by
  obtain ⟨h1, h2, h3, h4, k, hk, he⟩ := h
  obtain ⟨g1, g2, g3, g4, -⟩ := hT.at h1 h2 hne
  refine ⟨⟨g2, g3, by omega, by omega, k - 1, by omega, ?_⟩, g4⟩
  obtain ⟨k', rfl⟩ : ∃ k', k = k' + 1 := ⟨k - 1, by omega⟩
  rw [he, Nat.add_sub_cancel]
  conv => lhs; unfold bott
  rw [if_neg hne]
theorem Way.done {A F N s t S Y rk most} (h : Way A F N s t S Y rk most s) : 0 < most ∧ most ≤ 2147483647 ∧ bott A F Y s (rk t) 2147483647 t = most := by
  obtain ⟨-, -, h3, h4, k, -, he⟩ := h
  exact ⟨h3, h4, by rw [he, bott_s]⟩
/-- The second way: the flow raised by 'most' on the arcs from x on. -/
def Aug (A : List Arc) (F : List Int) (N s t : Nat) (S : List Bool) (Y : List Int) (rk : Nat → Nat) (most : Int) (G : List Int) (x : Nat) : Prop :=
  x < N ∧ getB S x = true ∧ 0 < most ∧ within A G ∧ (∀ y : Int, net y A G = net y A F + (if y = (x : Int) then most else 0) - (if y = (t : Int) then most else 0)) ∧
  (∀ j, j < A.length → G.getD j 0 ≠ F.getD j 0 → rk x ≤ rk (at' A j).1.toNat ∧ rk x ≤ rk (at' A j).2.1.toNat) ∧ ∃ k m, rk x ≤ k ∧ most = bott A F Y s k m x
theorem Aug.start {A F N s t S Y rk most} (ht : t < N) (st : getB S t = true) (hm : 0 < most) (he : bott A F Y s (rk t) 2147483647 t = most) (hw : within A F) : Aug A F N s t S Y rk most F t :=
  ⟨ht, st, hm, hw, fun y => by omega, fun j _ h => absurd rfl h, rk t, _, Nat.le_refl _, he.symm⟩
theorem getD_set_ne {F : List Int} {i j : Nat} (v : Int) (h : i ≠ j) : (F.set i v).getD j 0 = F.getD j 0 := by
  simp only [List.getD]; rw [List.getElem?_set_ne h]
theorem getD_set_same {F : List Int} {i : Nat} (v : Int) (h : i < F.length) : (F.set i v).getD i 0 = v := by
  simp [List.getD, h]
theorem Aug.step {A F N s t S Y rk most G x} (h : Aug A F N s t S Y rk most G x) (hT : Tree A F N s S Y rk) (hne : x ≠ s) :
    rk (predP A Y x) < rk x ∧ predP A Y x < N ∧
    ((∃ i : Nat, Y.getD x 0 = (i : Int) ∧ i < A.length ∧ (at' A i).1 = (predP A Y x : Int) ∧ Aug A F N s t S Y rk most (G.set i (G.getD i 0 + most)) (predP A Y x)) ∨
     (∃ j : Nat, Y.getD x 0 = ((A.length + j : Nat) : Int) ∧ j < A.length ∧ (at' A j).2.1 = (predP A Y x : Int) ∧ Aug A F N s t S Y rk most (G.set j (G.getD j 0 - most)) (predP A Y x))) := by
  obtain ⟨h1, h2, h3, h4, h5, h6, k, m, hk, he⟩ := h
  obtain ⟨g1, g2, g3, g4, g5⟩ := hT.at h1 h2 hne
  obtain ⟨k', rfl⟩ : ∃ k', k = k' + 1 := ⟨k - 1, by omega⟩
  have he' : most = bott A F Y s k' (min m (resP A F Y x)) (predP A Y x) := by
    rw [he]; conv => lhs; unfold bott
    rw [if_neg hne]
  have hle : most ≤ resP A F Y x := by
    have := bott_le (A := A) (F := F) (Y := Y) (s := s) k' (min m (resP A F Y x)) (predP A Y x)
    omega
  have hl := within_length h4
  have hw := (within_iff.1 h4).2
  refine ⟨g4, g2, ?_⟩
  rcases g5 with ⟨i, q1, q2, q3, q4, q5⟩ | ⟨i, q1, q2, q3, q4, q5⟩
  all_goals
    have hsame : G.getD i 0 = F.getD i 0 := by
      by_cases c : G.getD i 0 = F.getD i 0
      · exact c
      · have := h6 i q2 c
        rw [q3, q4, Int.toNat_natCast, Int.toNat_natCast] at this
        omega
    have hwi := hw i q2
  · refine .inl ⟨i, q1, q2, q3, g2, g3, h3, ?_, ?_, ?_, k', _, by omega, he'⟩
    · refine within_iff.2 ⟨by rw [List.length_set]; exact hl, fun j hj => ?_⟩
      by_cases c : i = j
      · subst c; rw [getD_set_same _ (by omega)]; omega
      · rw [getD_set_ne _ c]; exact hw j hj
    · intro y
      rw [net_set i _ hl q2, h5 y, q3, q4]
      have e : G.getD i 0 + most - G.getD i 0 = most := by omega
      rw [e]
      have hpx : ((predP A Y x : Nat) : Int) ≠ (x : Int) := by
        intro h
        have : predP A Y x = x := by omega
        rw [this] at g4; omega
      repeat' split
      all_goals omega
    · intro j hj hc
      by_cases c : i = j
      · subst c; rw [q3, q4, Int.toNat_natCast, Int.toNat_natCast]; omega
      · rw [getD_set_ne _ c] at hc
        have := h6 j hj hc
        omega
  · refine .inr ⟨i, q1, q2, q3, g2, g3, h3, ?_, ?_, ?_, k', _, by omega, he'⟩
    · refine within_iff.2 ⟨by rw [List.length_set]; exact hl, fun j hj => ?_⟩
      by_cases c : i = j
      · subst c; rw [getD_set_same _ (by omega)]; omega
      · rw [getD_set_ne _ c]; exact hw j hj
    · intro y
      rw [net_set i _ hl q2, h5 y, q3, q4]
      have e : G.getD i 0 - most - G.getD i 0 = -most := by omega
      rw [e]
      have hpx : ((predP A Y x : Nat) : Int) ≠ (x : Int) := by
        intro h
        have : predP A Y x = x := by omega
        rw [this] at g4; omega
      repeat' split
      all_goals omega
    · intro j hj hc
      by_cases c : i = j
      · subst c; rw [q3, q4, Int.toNat_natCast, Int.toNat_natCast]; omega
      · rw [getD_set_ne _ c] at hc
        have := h6 j hj hc
        omega
/-- The way is whole: a flow that is greater by 'most'. -/
theorem Aug.done {A F N s t S Y rk most G} (h : Aug A F N s t S Y rk most G s) (hf : isFlow N s t A F) (hst : s ≠ t) : isFlow N s t A G ∧ net s A G = net s A F + most ∧ 0 < most := by
  obtain ⟨-, -, h3, h4, h5, -, -⟩ := h
  refine ⟨⟨h4, fun x hx h1 h2 => ?_⟩, ?_, h3⟩
  · rw [h5 x, hf.2 x hx h1 h2, if_neg (by omega), if_neg (by omega)]; rfl
  · rw [h5 s, if_pos rfl, if_neg (by omega)]; omega
theorem zero_flow {N s t : Nat} : ∀ {A : List Arc}, okArcs N A → isFlow N s t A (List.replicate A.length 0) := by
  intro A ha
  have hw : within A (List.replicate A.length 0) := by
    refine within_iff.2 ⟨by simp, fun i hi => ?_⟩
    have hm : at' A i ∈ A := by unfold at'; simp [List.getD, hi]
    have := ha _ hm
    unfold okArc at this
    have e : (List.replicate A.length (0 : Int)).getD i 0 = 0 := by simp [List.getD, hi]
    rw [e]; omega
  have hz : ∀ (x : Int) (l : List Arc), net x l (List.replicate l.length 0) = 0 := by
    intro x l
    induction l with
    | nil => rfl
    | cons a l ih =>
      rw [List.length_cons, List.replicate_succ]
      dsimp only [net]
      rw [ih]; split <;> split <;> rfl
  exact ⟨hw, fun x _ _ _ => hz x A⟩
end NetM
