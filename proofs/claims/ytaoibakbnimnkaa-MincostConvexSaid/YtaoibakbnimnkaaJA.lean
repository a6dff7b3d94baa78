/- Flows and cuts in networks: sums over arcs and over nodes, weak duality, what a cut that nothing can pass proves. Plain mathematics over integers. | The search in a network and the way back: what is reached and by which arc, and what the flow is when it is raised along the way. Plain mathematics. | What the laws say of networks: one capacity changed, one arc left out, all arcs turned, all cuts counted. Plain mathematics. | Growing a flow along shortest ways (Dinic): steps, their rooms, distances, what one push does, why a push from the source sends something. Plain mathematics. | The search for distances over steps. Plain mathematics. | Costs of flows and potentials: what potentials prove. Plain mathematics over integers. | Cheapest ways: what a search along arcs with room keeps, the way back, and how potentials go on. Plain mathematics. | Circulations: steps with costs, what a node has too much, what no cut can hide, how low potentials are. Plain mathematics. | Circulations: the digits of the Caps, one after the other. Plain mathematics. | Heaps as package heap keeps them: what Push and Pop do to the list. Plain mathematics. | Circulations: the search for the cheapest way to a node with too little, and the potentials behind it. Plain mathematics. | Circulations: how a search begins, and what the potentials are behind it. Plain mathematics. | Circulations: what nodes with too much send on. Plain mathematics. | Circulations: what holds between the digits and while they are balanced; what the last digit leaves. Plain mathematics. -/


namespace NetM

/-- An arc: from, to, capacity, cost. -/
abbrev Arc := Int × Int × Int × Int
/-- What leaves node x minus what comes in. -/
def net (x : Int) : List Arc → List Int → Int
  | a :: l, f :: g => (if a.1 = x then f else 0) - (if a.2.1 = x then f else 0) + net x l g
  | _, _ => 0
/-- The capacity of a cut. -/
def capF (c : Int → Bool) : List Arc → Int
  | a :: l => (if (c a.1 && !c a.2.1) = true then a.2.2.1 else 0) + capF c l
  | [] => 0
/-- What crosses a cut, there minus back. -/
def crossF (c : Int → Bool) : List Arc → List Int → Int
  | a :: l, f :: g => (if c a.1 = true then f else 0) - (if c a.2.1 = true then f else 0) + crossF c l g
  | _, _ => 0
def okArc (n : Nat) (a : Arc) : Prop := 0 ≤ a.1 ∧ a.1 < n ∧ 0 ≤ a.2.1 ∧ a.2.1 < n ∧ 0 ≤ a.2.2.1 ∧ a.2.2.1 ≤ 2147483647
def okArcs (n : Nat) (l : List Arc) : Prop := ∀ a ∈ l, okArc n a
def within : List Arc → List Int → Prop
  | a :: l, f :: g => (0 ≤ f ∧ f ≤ a.2.2.1) ∧ within l g
  | [], [] => True
  | _, _ => False
def sumN (g : Nat → Int) : Nat → Int
  | 0 => 0
  | n + 1 => sumN g n + g n
theorem sumN_add (g h : Nat → Int) (n : Nat) : sumN (fun x => g x + h x) n = sumN g n + sumN h n := by
  induction n with
  | zero => rfl
  | succ n ih => simp only [sumN]; omega
theorem sumN_zero {g : Nat → Int} {n : Nat} (h : ∀ x, x < n → g x = 0) : sumN g n = 0 := by
  induction n with
  | zero => rfl
  | succ n ih => simp only [sumN]; rw [ih fun x hx => h x (by omega), h n (by omega)]; rfl
theorem sumN_one {g : Nat → Int} {n s : Nat} (hs : s < n) (h : ∀ x, x < n → x ≠ s → g x = 0) : sumN g n = g s := by
  induction n with
  | zero => omega
  | succ n ih =>
    simp only [sumN]
    by_cases e : n = s
    · subst e
      rw [sumN_zero fun x hx => h x (by omega) (by omega)]; omega
    · rw [ih (by omega) fun x hx => h x (by omega), h n (by omega) e]; omega
theorem sumN_pick (c : Int → Bool) (a f : Int) (n : Nat) (h0 : 0 ≤ a) (h1 : a < n) :
    sumN (fun x => if c (x : Int) = true then (if a = (x : Int) then f else 0) else 0) n = if c a = true then f else 0 := by
  obtain ⟨k, rfl⟩ : ∃ k : Nat, a = k := ⟨a.toNat, by omega⟩
  rw [sumN_one (s := k) (by omega)]
  · simp
  · intro x _ hx
    have : ¬ ((k : Int) = (x : Int)) := by omega
    simp [this]
def cutSum (c : Int → Bool) (l : List Arc) (f : List Int) (n : Nat) : Int := sumN (fun x => if c (x : Int) = true then net x l f else 0) n
theorem cut_cross (c : Int → Bool) (n : Nat) : ∀ (l : List Arc) (f : List Int), okArcs n l → cutSum c l f n = crossF c l f
  | [], f, _ => by
    unfold cutSum
    rw [sumN_zero]
    · cases f <;> rfl
    · intro x _; cases f <;> simp [net]
  | a :: l, [], _ => by
    unfold cutSum
    rw [sumN_zero]
    · rfl
    · intro x _; simp [net]
  | a :: l, f :: g, h => by
    have ih := cut_cross c n l g fun b hb => h b (List.mem_cons_of_mem _ hb)
    obtain ⟨h1, h2, h3, h4, -⟩ := h a (List.mem_cons_self ..)
    unfold cutSum at ih ⊢
    have e : (fun x : Nat => if c (x : Int) = true then net x (a :: l) (f :: g) else 0) = fun x : Nat =>
        (fun x : Nat => if c (x : Int) = true then (if a.1 = (x : Int) then f else 0) else 0) x + (fun x : Nat =>
          (fun x : Nat => if c (x : Int) = true then (if a.2.1 = (x : Int) then -f else 0) else 0) x + (fun x : Nat => if c (x : Int) = true then net x l g else 0) x) x := by
      funext x
      dsimp only [net]
      by_cases hc : c (x : Int) = true
      · rw [if_pos hc, if_pos hc, if_pos hc, if_pos hc]
        by_cases e2 : a.2.1 = (x : Int)
        · rw [if_pos e2, if_pos e2]; omega
        · rw [if_neg e2, if_neg e2]; omega
      · rw [if_neg hc, if_neg hc, if_neg hc, if_neg hc]; rfl
    rw [e, sumN_add, sumN_add, sumN_pick c _ _ n h1 h2, sumN_pick c _ _ n h3 h4, ih]
    dsimp only [crossF]
    by_cases hc : c a.2.1 = true
    · rw [if_pos hc, if_pos hc]; omega
    · rw [if_neg hc, if_neg hc]; omega
theorem cross_le (c : Int → Bool) : ∀ (l : List Arc) (f : List Int), within l f → crossF c l f ≤ capF c l
  | [], [], _ => Int.le_refl _
  | a :: l, f :: g, h => by
    have ih := cross_le c l g h.2
    have h1 := h.1
    dsimp only [crossF, capF]
    cases c a.1 <;> cases c a.2.1 <;> simp <;> omega
  | [], _ :: _, h => h.elim
  | _ :: _, [], h => h.elim
/-- Nothing more can pass from the cut's side to the other. -/
def tight (c : Int → Bool) : List Arc → List Int → Prop
  | a :: l, f :: g => ((c a.1 = true → c a.2.1 = false → f = a.2.2.1) ∧ (c a.1 = false → c a.2.1 = true → f = 0)) ∧ tight c l g
  | _, _ => True
theorem cross_tight (c : Int → Bool) : ∀ (l : List Arc) (f : List Int), within l f → tight c l f → crossF c l f = capF c l
  | [], [], _, _ => rfl
  | a :: l, f :: g, h, t => by
    have ih := cross_tight c l g h.2 t.2
    have h1 := t.1
    dsimp only [crossF, capF]
    cases h3 : c a.1 <;> cases h4 : c a.2.1 <;> simp [h3, h4] at h1 ⊢ <;> omega
  | [], _ :: _, h, _ => h.elim
  | _ :: _, [], h, _ => h.elim
/-- A flow of a network with n nodes from s to t. -/
def isFlow (n : Nat) (s t : Nat) (l : List Arc) (f : List Int) : Prop := within l f ∧ ∀ x : Nat, x < n → x ≠ s → x ≠ t → net x l f = 0
theorem cutSum_flow {c : Int → Bool} {n s t : Nat} {l : List Arc} {f : List Int} (hs : s < n) (h : isFlow n s t l f) (cs : c s = true) (ct : c t = false) : cutSum c l f n = net s l f := by
  unfold cutSum
  rw [sumN_one hs]
  · rw [if_pos cs]
  · intro x hx hne
    by_cases e : x = t
    · subst e; rw [if_neg (by rw [ct]; exact Bool.false_ne_true)]
    · rw [h.2 x hx hne e]; split <;> rfl
/-- The value of a flow is at most the capacity of a cut. -/
theorem value_le {c : Int → Bool} {n s t : Nat} {l : List Arc} {f : List Int} (hs : s < n) (ha : okArcs n l) (h : isFlow n s t l f) (cs : c s = true) (ct : c t = false) : net s l f ≤ capF c l := by
  rw [← cutSum_flow hs h cs ct, cut_cross c n l f ha]
  exact cross_le c l f h.1
/-- A cut that nothing can pass proves that the flow is greatest. -/
theorem value_eq {c : Int → Bool} {n s t : Nat} {l : List Arc} {f : List Int} (hs : s < n) (ha : okArcs n l) (h : isFlow n s t l f) (cs : c s = true) (ct : c t = false) (ht : tight c l f) : net s l f = capF c l := by
  rw [← cutSum_flow hs h cs ct, cut_cross c n l f ha]
  exact cross_tight c l f h.1 ht
theorem cap_nonneg {n : Nat} (c : Int → Bool) : ∀ (l : List Arc), okArcs n l → 0 ≤ capF c l
  | [], _ => Int.le_refl _
  | a :: l, h => by
    have ih := cap_nonneg c l fun b hb => h b (List.mem_cons_of_mem _ hb)
    have := h a (List.mem_cons_self ..)
    dsimp only [capF]
    unfold okArc at this
    split <;> omega
theorem cap_le {n : Nat} (c : Int → Bool) : ∀ (l : List Arc), okArcs n l → capF c l ≤ (l.length : Int) * 2147483647
  | [], _ => Int.le_refl _
  | a :: l, h => by
    have ih := cap_le c l fun b hb => h b (List.mem_cons_of_mem _ hb)
    have := h a (List.mem_cons_self ..)
    dsimp only [capF]
    unfold okArc at this
    rw [List.length_cons, Int.natCast_add, Int.add_mul]
    split <;> omega
theorem within_length : ∀ {l : List Arc} {f : List Int}, within l f → f.length = l.length
  | [], [], _ => rfl
  | a :: l, f :: g, h => by rw [List.length_cons, List.length_cons, within_length h.2]
  | [], _ :: _, h => h.elim
  | _ :: _, [], h => h.elim
theorem net_bound {x : Int} {n : Nat} : ∀ {l : List Arc} {f : List Int}, okArcs n l → within l f → -((l.length : Int) * 2147483647) ≤ net x l f ∧ net x l f ≤ (l.length : Int) * 2147483647
  | [], [], _, _ => ⟨Int.le_refl _, Int.le_refl _⟩
  | a :: l, f :: g, ha, h => by
    have ih := net_bound (x := x) (fun b hb => ha b (List.mem_cons_of_mem _ hb)) h.2
    have h1 := h.1
    have h2 := ha a (List.mem_cons_self ..)
    unfold okArc at h2
    dsimp only [net]
    rw [List.length_cons, Int.natCast_add, Int.add_mul]
    constructor <;> split <;> split <;> omega
  | [], _ :: _, _, h => h.elim
  | _ :: _, [], _, h => h.elim
/-- Two proved optima are equal. -/
theorem opt_unique {n s t : Nat} {l : List Arc} {f f' : List Int} {c c' : Int → Bool} (hs : s < n) (ha : okArcs n l) (h : isFlow n s t l f) (h' : isFlow n s t l f')
    (cs : c s = true) (ct : c t = false) (cs' : c' s = true) (ct' : c' t = false) (e : net s l f = capF c l) (e' : net s l f' = capF c' l) : net s l f = net s l f' := by
  have h1 := value_le hs ha h cs' ct'
  have h2 := value_le hs ha h' cs ct
  omega

/-! Values by index. -/
def at' (l : List Arc) (i : Nat) : Arc := l.getD i (0, 0, 0, 0)
theorem within_iff : ∀ {l : List Arc} {f : List Int}, within l f ↔ f.length = l.length ∧ ∀ i, i < l.length → 0 ≤ f.getD i 0 ∧ f.getD i 0 ≤ (at' l i).2.2.1
  | [], [] => by simp [within]
  | a :: l, f :: g => by
    simp only [within]
    rw [within_iff (l := l) (f := g)]
    constructor
    · rintro ⟨h1, h2, h3⟩
      refine ⟨by simp [h2], fun i hi => ?_⟩
      cases i with
      | zero => exact h1
      | succ i => exact h3 i (by simpa using hi)
    · rintro ⟨h1, h2⟩
      exact ⟨h2 0 (by simp), by simpa using h1, fun i hi => h2 (i + 1) (by simpa using hi)⟩
  | [], _ :: _ => by simp [within]
  | _ :: _, [] => by simp [within]
theorem tight_iff {c : Int → Bool} : ∀ {l : List Arc} {f : List Int}, f.length = l.length →
    (tight c l f ↔ ∀ i, i < l.length → (c (at' l i).1 = true → c (at' l i).2.1 = false → f.getD i 0 = (at' l i).2.2.1) ∧ (c (at' l i).1 = false → c (at' l i).2.1 = true → f.getD i 0 = 0))
  | [], [], _ => by simp [tight]
  | a :: l, f :: g, hl => by
    simp only [tight]
    rw [tight_iff (l := l) (f := g) (by simpa using hl)]
    constructor
    · rintro ⟨h1, h3⟩ i hi
      cases i with
      | zero => exact h1
      | succ i => exact h3 i (by simpa using hi)
    · intro h2
      exact ⟨h2 0 (by simp), fun i hi => h2 (i + 1) (by simpa using hi)⟩
  | [], _ :: _, h => by simp at h
  | _ :: _, [], h => by simp at h
/-- One flow is changed. -/
theorem net_set {x : Int} : ∀ {l : List Arc} {f : List Int} (i : Nat) (v : Int), f.length = l.length → i < l.length →
    net x l (f.set i v) = net x l f + (if (at' l i).1 = x then v - f.getD i 0 else 0) - (if (at' l i).2.1 = x then v - f.getD i 0 else 0)
  | [], _, i, v, _, hi => by simp at hi
  | _ :: _, [], i, v, h, _ => by simp at h
  | a :: l, f :: g, 0, v, hl, _ => by
    simp only [List.set_cons_zero, net, at', List.getD_cons_zero]
    split <;> split <;> omega
  | a :: l, f :: g, i + 1, v, hl, hi => by
    have ih := net_set (x := x) (l := l) (f := g) i v (by simpa using hl) (by simpa using hi)
    simp only [List.set_cons_succ, net, at', List.getD_cons_succ] at ih ⊢
    rw [ih]; omega
theorem net_snoc {x : Int} : ∀ {l : List Arc} {f : List Int} (a : Arc) (v : Int), f.length = l.length → net x (l ++ [a]) (f ++ [v]) = net x l f + (if a.1 = x then v else 0) - (if a.2.1 = x then v else 0)
  | [], [], a, v, _ => by simp only [List.nil_append, net]; split <;> split <;> omega
  | b :: l, f :: g, a, v, hl => by
    have ih := net_snoc (x := x) (l := l) (f := g) a v (by simpa using hl)
    simp only [List.cons_append, net, ih]; omega
  | [], _ :: _, _, _, h => by simp at h
  | _ :: _, [], _, _, h => by simp at h
theorem cap_snoc {c : Int → Bool} : ∀ {l : List Arc} (a : Arc), capF c (l ++ [a]) = capF c l + (if (c a.1 && !c a.2.1) = true then a.2.2.1 else 0)
  | [], a => by simp only [List.nil_append, capF]; omega
  | b :: l, a => by simp only [List.cons_append, capF, cap_snoc (l := l) a]; omega
theorem cap_append {c : Int → Bool} : ∀ {l m : List Arc}, capF c (l ++ m) = capF c l + capF c m
  | [], m => by simp [capF]
  | b :: l, m => by simp only [List.cons_append, capF, cap_append (l := l) (m := m)]; omega
end NetM

namespace NetM

def getB (S : List Bool) (y : Nat) : Bool := S.getD y false
/-- Arc number i (or, from the number of arcs on, arc i back) leads with room left from x to z. -/
def Room (A : List Arc) (F : List Int) (i x z : Nat) : Prop :=
  (i < A.length ∧ (at' A i).1 = (x : Int) ∧ (at' A i).2.1 = (z : Int) ∧ F.getD i 0 < (at' A i).2.2.1) ∨
  (∃ j, i = A.length + j ∧ j < A.length ∧ (at' A j).2.1 = (x : Int) ∧ (at' A j).1 = (z : Int) ∧ 0 < F.getD j 0)
/-- Each node that was reached, but for the start, was reached from one of lower rank. -/
def Tree (A : List Arc) (F : List Int) (N s : Nat) (S : List Bool) (Y : List Int) (rk : Nat → Nat) : Prop :=
  ∀ y, y < N → getB S y = true → y ≠ s → ∃ i x : Nat, Y.getD y 0 = (i : Int) ∧ Room A F i x y ∧ x < N ∧ getB S x = true ∧ rk x < rk y
def cnt (S : List Bool) : Nat := S.count true
/-- What holds of the search. -/
def Bfs (A : List Arc) (F : List Int) (N s : Nat) (S : List Bool) (Y : List Int) (Q : List Nat) (p : Nat) : Prop :=
  S.length = N ∧ Y.length = N ∧ getB S s = true ∧ (∀ q ∈ Q, q < N ∧ getB S q = true) ∧ p + Q.length = cnt S ∧ (∃ rk, Tree A F N s S Y rk)
/-- What was seen and does not wait has no way out to what was not seen; of node x only the first i arcs are known. -/
def Closed (A : List Arc) (F : List Int) (N : Nat) (S : List Bool) (Q : List Nat) (x i : Nat) : Prop :=
  ∀ y j, y < N → getB S y = true → y ∉ Q → j < A.length → (y = x → j < i) →
    ((at' A j).1 = (y : Int) → F.getD j 0 < (at' A j).2.2.1 → ∀ z : Nat, (at' A j).2.1 = (z : Int) → getB S z = true) ∧
    ((at' A j).2.1 = (y : Int) → 0 < F.getD j 0 → ∀ z : Nat, (at' A j).1 = (z : Int) → getB S z = true)
theorem getB_set (S : List Bool) (z y : Nat) (hz : z < S.length) : getB (S.set z true) y = if y = z then true else getB S y := by
  unfold getB
  simp only [List.getD, List.getElem?_set]
  by_cases e : z = y
  · subst e; simp [hz]
  · rw [if_neg e, if_neg (fun h => e h.symm)]
theorem getB_mono {S : List Bool} {z y : Nat} (hz : z < S.length) (h : getB S y = true) : getB (S.set z true) y = true := by
  rw [getB_set S z y hz]; split
  · rfl
  · exact h
theorem cnt_set : ∀ (S : List Bool) (z : Nat), z < S.length → getB S z = false → cnt (S.set z true) = cnt S + 1
  | [], z, h, _ => by simp at h
  | b :: S, 0, _, h => by
    have : b = false := h
    subst this
    simp [cnt]
  | b :: S, z + 1, h, g => by
    have ih := cnt_set S z (by simpa using h) (by simpa [getB] using g)
    unfold cnt at ih ⊢
    rw [List.set_cons_succ, List.count_cons, List.count_cons, ih]; omega
theorem cnt_le (S : List Bool) : cnt S ≤ S.length := List.count_le_length
/-- A node is reached. -/
theorem Bfs.grow {A F N s S Y Q p} (h : Bfs A F N s S Y Q p) {i x z : Nat} (hx : x < N) (sx : getB S x = true) (hz : z < N) (sz : getB S z = false) (hr : Room A F i x z) :
    Bfs A F N s (S.set z true) (Y.set z (i : Int)) (Q ++ [z]) p := by
  obtain ⟨h1, h2, h3, h4, h5, rk, h6⟩ := h
  refine ⟨by rw [List.length_set]; exact h1, by rw [List.length_set]; exact h2, getB_mono (by omega) h3, ?_, ?_, fun y => if y = z then rk x + 1 else rk y, ?_⟩
  · intro q hq
    rcases List.mem_append.1 hq with hq | hq
    · exact ⟨(h4 q hq).1, getB_mono (by omega) (h4 q hq).2⟩
    · obtain rfl : q = z := by simpa using hq
      exact ⟨hz, by rw [getB_set S q q (by omega), if_pos rfl]⟩
  · rw [cnt_set S z (by omega) sz, List.length_append, List.length_singleton]; omega
  · intro y hy sy hne
    by_cases e : y = z
    · subst e
      refine ⟨i, x, by simp [List.getD, h2, hy], hr, hx, getB_mono (by omega) sx, ?_⟩
      have : x ≠ y := by rintro rfl; rw [sx] at sz; cases sz
      show (if x = y then rk x + 1 else rk x) < if y = y then rk x + 1 else rk y
      rw [if_neg this, if_pos rfl]; omega
    · rw [getB_set S z y (by omega), if_neg e] at sy
      obtain ⟨i', x', g1, g2, g3, g4, g5⟩ := h6 y hy sy hne
      have hx' : x' ≠ z := by rintro rfl; rw [g4] at sz; cases sz
      refine ⟨i', x', ?_, g2, g3, getB_mono (by omega) g4, ?_⟩
      · rw [← g1]; simp only [List.getD]; rw [List.getElem?_set_ne (fun h => e h.symm)]
      · show (if x' = z then rk x + 1 else rk x') < if y = z then rk x + 1 else rk y
        rw [if_neg hx', if_neg e]; exact g5
theorem Closed.grow {A F N S Q x i z} (h : Closed A F N S Q x i) (hz : z < S.length) : Closed A F N (S.set z true) (Q ++ [z]) x i := by
  intro y j hy sy hq hj hi
  have hne : y ≠ z := fun e => hq (by simp [e])
  rw [getB_set S z y hz, if_neg hne] at sy
  obtain ⟨g1, g2⟩ := h y j hy sy (fun h => hq (by simp [h])) hj hi
  exact ⟨fun a b c d => getB_mono hz (g1 a b c d), fun a b c d => getB_mono hz (g2 a b c d)⟩
/-- One more arc was looked at. -/
theorem Closed.step {A F N S Q x i} (h : Closed A F N S Q x i)
    (h1 : (at' A i).1 = (x : Int) → F.getD i 0 < (at' A i).2.2.1 → ∀ z : Nat, (at' A i).2.1 = (z : Int) → getB S z = true)
    (h2 : (at' A i).2.1 = (x : Int) → 0 < F.getD i 0 → ∀ z : Nat, (at' A i).1 = (z : Int) → getB S z = true) : Closed A F N S Q x (i + 1) := by
  intro y j hy sy hq hj hi
  by_cases e : y = x ∧ j = i
  · obtain ⟨rfl, rfl⟩ := e
    exact ⟨h1, h2⟩
  · exact h y j hy sy hq hj fun hyx => by have := hi hyx; have : j ≠ i := fun hji => e ⟨hyx, hji⟩; omega
theorem Closed.pop {A F N S Q x} {x0 : Nat} (h : Closed A F N S (x :: Q) x0 A.length) : Closed A F N S Q x 0 := by
  intro y j hy sy hq hj hi
  by_cases e : y = x
  · exact absurd (hi e) (Nat.not_lt_zero _)
  · exact h y j hy sy (fun hm => by rcases List.mem_cons.1 hm with h | h; exact e h; exact hq h) hj fun _ => hj
theorem Bfs.pop {A F N s S Y x Q p} (h : Bfs A F N s S Y (x :: Q) p) : Bfs A F N s S Y Q (p + 1) ∧ x < N ∧ getB S x = true ∧ p < N := by
  obtain ⟨h1, h2, h3, h4, h5, h6⟩ := h
  have := cnt_le S
  rw [List.length_cons] at h5
  exact ⟨⟨h1, h2, h3, fun q hq => h4 q (List.mem_cons_of_mem _ hq), by omega, h6⟩, (h4 x (List.mem_cons_self ..)).1, (h4 x (List.mem_cons_self ..)).2, by omega⟩
theorem Bfs.start {A F N s} (hs : s < N) : Bfs A F N s ((List.replicate N false).set s true) (List.replicate N 0) [s] 0 := by
  have hg : ∀ y, getB (List.replicate N false) y = false := by
    intro y; unfold getB; by_cases h : y < N <;> simp [List.getD, h]
  refine ⟨by simp, by simp, ?_, ?_, ?_, fun _ => 0, ?_⟩
  · rw [getB_set _ _ _ (by simpa using hs), if_pos rfl]
  · intro q hq
    obtain rfl : q = s := by simpa using hq
    exact ⟨hs, by rw [getB_set _ _ _ (by simpa using hs), if_pos rfl]⟩
  · rw [cnt_set _ _ (by simpa using hs) (hg s)]
    simp [cnt, List.count_replicate]
  · intro y _ sy hne
    rw [getB_set _ _ _ (by simpa using hs), if_neg hne, hg] at sy
    cases sy
theorem Closed.start {A F N s} (hs : s < N) : Closed A F N ((List.replicate N false).set s true) [s] 0 A.length := by
  intro y j _ sy hq
  have hg : getB (List.replicate N false) y = false := by unfold getB; by_cases h : y < N <;> simp [List.getD, h]
  have hne : y ≠ s := fun e => hq (by simp [e])
  rw [getB_set _ _ _ (by simpa using hs), if_neg hne, hg] at sy
  cases sy
/-- The cut of a list. -/
def cutOf (S : List Bool) (x : Int) : Bool := getB S x.toNat
/-- Where the search ends without the sink, nothing can pass. -/
theorem Closed.tight {A F N S} {x0 : Nat} (h : Closed A F N S [] x0 A.length) (ha : okArcs N A) (hw : within A F) : tight (cutOf S) A F := by
  have hl := within_length hw
  rw [tight_iff hl]
  intro i hi
  have hm : at' A i ∈ A := by unfold at'; simp [List.getD, hi]
  obtain ⟨a1, a2, a3, a4, a5, a6⟩ := ha _ hm
  obtain ⟨x, hx⟩ : ∃ x : Nat, (at' A i).1 = x := ⟨(at' A i).1.toNat, by omega⟩
  obtain ⟨z, hz⟩ : ∃ z : Nat, (at' A i).2.1 = z := ⟨(at' A i).2.1.toNat, by omega⟩
  have hb := (within_iff.1 hw).2 i hi
  rw [hx, hz]
  have e1 : cutOf S (x : Int) = getB S x := by simp [cutOf]
  have e2 : cutOf S (z : Int) = getB S z := by simp [cutOf]
  rw [e1, e2]
  constructor
  · intro sx sz
    rcases Int.lt_or_le (F.getD i 0) (at' A i).2.2.1 with hlt | hge
    · have := (h x i (by omega) sx (by simp) hi fun _ => hi).1 hx hlt z hz
      rw [this] at sz; cases sz
    · omega
  · intro sx sz
    rcases Int.lt_or_le 0 (F.getD i 0) with hlt | hge
    · have := (h z i (by omega) sz (by simp) hi fun _ => hi).2 hz hlt x hx
      rw [this] at sx; cases sx
    · omega

/-! The way back. -/
def predP (A : List Arc) (Y : List Int) (x : Nat) : Nat :=
  if (Y.getD x 0).toNat < A.length then (at' A (Y.getD x 0).toNat).1.toNat else (at' A ((Y.getD x 0).toNat - A.length)).2.1.toNat
def resP (A : List Arc) (F : List Int) (Y : List Int) (x : Nat) : Int :=
  if (Y.getD x 0).toNat < A.length then (at' A (Y.getD x 0).toNat).2.2.1 - F.getD (Y.getD x 0).toNat 0 else F.getD ((Y.getD x 0).toNat - A.length) 0
/-- The least room on the way from x back to s. -/
def bott (A : List Arc) (F : List Int) (Y : List Int) (s : Nat) : Nat → Int → Nat → Int
  | 0, m, _ => m
  | k + 1, m, x => if x = s then m else bott A F Y s k (min m (resP A F Y x)) (predP A Y x)
theorem bott_le {A F Y s} : ∀ (k : Nat) (m : Int) (x : Nat), bott A F Y s k m x ≤ m
  | 0, m, x => Int.le_refl _
  | k + 1, m, x => by
    unfold bott; split
    · exact Int.le_refl _
    · exact Int.le_trans (bott_le k _ _) (Int.min_le_left _ _)
theorem bott_s {A F Y s} (k : Nat) (m : Int) : bott A F Y s k m s = m := by
  cases k with
  | zero => rfl
  | succ k => unfold bott; rw [if_pos rfl]
/-- What is known at a node on the way. -/
theorem Tree.at {A F N s S Y rk} (h : Tree A F N s S Y rk) {x : Nat} (hx : x < N) (sx : getB S x = true) (hne : x ≠ s) :
    0 < resP A F Y x ∧ predP A Y x < N ∧ getB S (predP A Y x) = true ∧ rk (predP A Y x) < rk x ∧
    ((∃ i : Nat, Y.getD x 0 = (i : Int) ∧ i < A.length ∧ (at' A i).1 = (predP A Y x : Int) ∧ (at' A i).2.1 = (x : Int) ∧ resP A F Y x = (at' A i).2.2.1 - F.getD i 0) ∨
     (∃ j : Nat, Y.getD x 0 = ((A.length + j : Nat) : Int) ∧ j < A.length ∧ (at' A j).2.1 = (predP A Y x : Int) ∧ (at' A j).1 = (x : Int) ∧ resP A F Y x = F.getD j 0)) := by
  obtain ⟨i, p, hy, hr, hp, sp, hrk⟩ := h x hx sx hne
  rcases hr with ⟨h1, h2, h3, h4⟩ | ⟨j, rfl, h1, h2, h3, h4⟩
  · have e1 : predP A Y x = p := by unfold predP; rw [hy, Int.toNat_natCast, if_pos h1, h2]; omega
    have e2 : resP A F Y x = (at' A i).2.2.1 - F.getD i 0 := by unfold resP; rw [hy, Int.toNat_natCast, if_pos h1]
    rw [e1, e2]
    exact ⟨by omega, hp, sp, hrk, .inl ⟨i, hy, h1, h2, h3, rfl⟩⟩
  · have e1 : predP A Y x = p := by unfold predP; rw [hy, Int.toNat_natCast, if_neg (by omega), Nat.add_sub_cancel_left, h2]; omega
    have e2 : resP A F Y x = F.getD j 0 := by unfold resP; rw [hy, Int.toNat_natCast, if_neg (by omega), Nat.add_sub_cancel_left]
    rw [e1, e2]
    exact ⟨by omega, hp, sp, hrk, .inr ⟨j, hy, h1, h2, h3, rfl⟩⟩
/-- The first way: the least room so far. -/
def Way (A : List Arc) (F : List Int) (N s t : Nat) (S : List Bool) (Y : List Int) (rk : Nat → Nat) (most : Int) (x : Nat) : Prop :=
  x < N ∧ getB S x = true ∧ 0 < most ∧ most ≤ 2147483647 ∧ ∃ k, rk x ≤ k ∧ bott A F Y s (rk t) 2147483647 t = bott A F Y s k most x
theorem Way.start {A F N s t S Y rk} (ht : t < N) (st : getB S t = true) : Way A F N s t S Y rk 2147483647 t := ⟨ht, st, by decide, by decide, rk t, Nat.le_refl _, rfl⟩
theorem Way.step {A F N s t S Y rk most x} (h : Way A F N s t S Y rk most x) (hT : Tree A F N s S Y rk) (hne : x ≠ s) :
    Way A F N s t S Y rk (min most (resP A F Y x)) (predP A Y x) ∧ rk (predP A Y x) < rk x := by
  obtain ⟨h1, h2, h3, h4, k, hk, he⟩ := h
  obtain ⟨g1, g2, g3, g4, -⟩ := hT.at h1 h2 hne
  refine ⟨⟨g2, g3, by omega, by omega, k - 1, by omega, ?_⟩, g4⟩
  obtain ⟨k', rfl⟩ : ∃ k', k = k' + 1 := ⟨k - 1, by omega⟩
  rw [he, Nat.add_sub_cancel]
  conv => lhs; unfold bott
  rw [if_neg hne]
theorem Way.done {A F N s t S Y rk most} (h : Way A F N s t S Y rk most s) : 0 < most ∧ most ≤ 2147483647 ∧ bott A F Y s (rk t) 2147483647 t = most := by
  obtain ⟨-, -, h3, h4, k, -, he⟩ := h
  exact ⟨h3, h4, by rw [he, bott_s]⟩
/-- The second way: the flow raised by 'most' on the arcs from x on. -/
def Aug (A : List Arc) (F : List Int) (N s t : Nat) (S : List Bool) (Y : List Int) (rk : Nat → Nat) (most : Int) (G : List Int) (x : Nat) : Prop :=
  x < N ∧ getB S x = true ∧ 0 < most ∧ within A G ∧ (∀ y : Int, net y A G = net y A F + (if y = (x : Int) then most else 0) - (if y = (t : Int) then most else 0)) ∧
  (∀ j, j < A.length → G.getD j 0 ≠ F.getD j 0 → rk x ≤ rk (at' A j).1.toNat ∧ rk x ≤ rk (at' A j).2.1.toNat) ∧ ∃ k m, rk x ≤ k ∧ most = bott A F Y s k m x
theorem Aug.start {A F N s t S Y rk most} (ht : t < N) (st : getB S t = true) (hm : 0 < most) (he : bott A F Y s (rk t) 2147483647 t = most) (hw : within A F) : Aug A F N s t S Y rk most F t :=
  ⟨ht, st, hm, hw, fun y => by omega, fun j _ h => absurd rfl h, rk t, _, Nat.le_refl _, he.symm⟩
theorem getD_set_ne {F : List Int} {i j : Nat} (v : Int) (h : i ≠ j) : (F.set i v).getD j 0 = F.getD j 0 := by
  simp only [List.getD]; rw [List.getElem?_set_ne h]
theorem getD_set_same {F : List Int} {i : Nat} (v : Int) (h : i < F.length) : (F.set i v).getD i 0 = v := by
  simp [List.getD, h]
theorem Aug.step {A F N s t S Y rk most G x} (h : Aug A F N s t S Y rk most G x) (hT : Tree A F N s S Y rk) (hne : x ≠ s) :
    rk (predP A Y x) < rk x ∧ predP A Y x < N ∧
    ((∃ i : Nat, Y.getD x 0 = (i : Int) ∧ i < A.length ∧ (at' A i).1 = (predP A Y x : Int) ∧ Aug A F N s t S Y rk most (G.set i (G.getD i 0 + most)) (predP A Y x)) ∨
     (∃ j : Nat, Y.getD x 0 = ((A.length + j : Nat) : Int) ∧ j < A.length ∧ (at' A j).2.1 = (predP A Y x : Int) ∧ Aug A F N s t S Y rk most (G.set j (G.getD j 0 - most)) (predP A Y x))) := by
  obtain ⟨h1, h2, h3, h4, h5, h6, k, m, hk, he⟩ := h
  obtain ⟨g1, g2, g3, g4, g5⟩ := hT.at h1 h2 hne
  obtain ⟨k', rfl⟩ : ∃ k', k = k' + 1 := ⟨k - 1, by omega⟩
  have he' : most = bott A F Y s k' (min m (resP A F Y x)) (predP A Y x) := by
    rw [he]; conv => lhs; unfold bott
    rw [if_neg hne]
  have hle : most ≤ resP A F Y x := by
    have := bott_le (A := A) (F := F) (Y := Y) (s := s) k' (min m (resP A F Y x)) (predP A Y x)
    omega
  have hl := within_length h4
  have hw := (within_iff.1 h4).2
  refine ⟨g4, g2, ?_⟩
  rcases g5 with ⟨i, q1, q2, q3, q4, q5⟩ | ⟨i, q1, q2, q3, q4, q5⟩
  all_goals
    have hsame : G.getD i 0 = F.getD i 0 := by
      by_cases c : G.getD i 0 = F.getD i 0
      · exact c
      · have := h6 i q2 c
        rw [q3, q4, Int.toNat_natCast, Int.toNat_natCast] at this
        omega
    have hwi := hw i q2
  · refine .inl ⟨i, q1, q2, q3, g2, g3, h3, ?_, ?_, ?_, k', _, by omega, he'⟩
    · refine within_iff.2 ⟨by rw [List.length_set]; exact hl, fun j hj => ?_⟩
      by_cases c : i = j
      · subst c; rw [getD_set_same _ (by omega)]; omega
      · rw [getD_set_ne _ c]; exact hw j hj
    · intro y
      rw [net_set i _ hl q2, h5 y, q3, q4]
      have e : G.getD i 0 + most - G.getD i 0 = most := by omega
      rw [e]
      have hpx : ((predP A Y x : Nat) : Int) ≠ (x : Int) := by
        intro h
        have : predP A Y x = x := by omega
        rw [this] at g4; omega
      repeat' split
      all_goals omega
    · intro j hj hc
      by_cases c : i = j
      · subst c; rw [q3, q4, Int.toNat_natCast, Int.toNat_natCast]; omega
      · rw [getD_set_ne _ c] at hc
        have := h6 j hj hc
        omega
  · refine .inr ⟨i, q1, q2, q3, g2, g3, h3, ?_, ?_, ?_, k', _, by omega, he'⟩
    · refine within_iff.2 ⟨by rw [List.length_set]; exact hl, fun j hj => ?_⟩
      by_cases c : i = j
      · subst c; rw [getD_set_same _ (by omega)]; omega
      · rw [getD_set_ne _ c]; exact hw j hj
    · intro y
      rw [net_set i _ hl q2, h5 y, q3, q4]
      have e : G.getD i 0 - most - G.getD i 0 = -most := by omega
      rw [e]
      have hpx : ((predP A Y x : Nat) : Int) ≠ (x : Int) := by
        intro h
        have : predP A Y x = x := by omega
        rw [this] at g4; omega
      repeat' split
      all_goals omega
    · intro j hj hc
      by_cases c : i = j
      · subst c; rw [q3, q4, Int.toNat_natCast, Int.toNat_natCast]; omega
      · rw [getD_set_ne _ c] at hc
        have := h6 j hj hc
        omega
/-- The way is whole: a flow that is greater by 'most'. -/
theorem Aug.done {A F N s t S Y rk most G} (h : Aug A F N s t S Y rk most G s) (hf : isFlow N s t A F) (hst : s ≠ t) : isFlow N s t A G ∧ net s A G = net s A F + most ∧ 0 < most := by
  obtain ⟨-, -, h3, h4, h5, -, -⟩ := h
  refine ⟨⟨h4, fun x hx h1 h2 => ?_⟩, ?_, h3⟩
  · rw [h5 x, hf.2 x hx h1 h2, if_neg (by omega), if_neg (by omega)]; rfl
  · rw [h5 s, if_pos rfl, if_neg (by omega)]; omega
theorem zero_flow {N s t : Nat} : ∀ {A : List Arc}, okArcs N A → isFlow N s t A (List.replicate A.length 0) := by
  intro A ha
  have hw : within A (List.replicate A.length 0) := by
    refine within_iff.2 ⟨by simp, fun i hi => ?_⟩
    have hm : at' A i ∈ A := by unfold at'; simp [List.getD, hi]
    have := ha _ hm
    unfold okArc at this
    have e : (List.replicate A.length (0 : Int)).getD i 0 = 0 := by simp [List.getD, hi]
    rw [e]; omega
  have hz : ∀ (x : Int) (l : List Arc), net x l (List.replicate l.length 0) = 0 := by
    intro x l
    induction l with
    | nil => rfl
    | cons a l ih =>
      rw [List.length_cons, List.replicate_succ]
      dsimp only [net]
      rw [ih]; split <;> split <;> rfl
  exact ⟨hw, fun x _ _ _ => hz x A⟩
end NetM

namespace NetM

/-- What an arc adds to a cut. -/
def adds (c : Int → Bool) (a : Arc) : Int := if (c a.1 && !c a.2.1) = true then a.2.2.1 else 0
theorem adds_bound {c : Int → Bool} {n : Nat} {a : Arc} (h : okArc n a) : 0 ≤ adds c a ∧ adds c a ≤ a.2.2.1 := by
  unfold okArc at h; unfold adds; split <;> omega
theorem cap_cons {c : Int → Bool} {a : Arc} {l : List Arc} : capF c (a :: l) = adds c a + capF c l := rfl
theorem cap_set {c : Int → Bool} : ∀ {l : List Arc} {i : Nat} (b : Arc), i < l.length → capF c (l.set i b) = capF c l - adds c (at' l i) + adds c b
  | [], i, b, h => by simp at h
  | a :: l, 0, b, _ => by rw [List.set_cons_zero, cap_cons, cap_cons]; simp only [at', List.getD_cons_zero]; omega
  | a :: l, i + 1, b, h => by
    rw [List.set_cons_succ, cap_cons, cap_cons, cap_set b (by simpa using h)]
    simp only [at', List.getD_cons_succ]; omega
theorem cap_out {c : Int → Bool} : ∀ {l : List Arc} {i : Nat}, i < l.length → capF c (l.take i ++ l.drop (i + 1)) = capF c l - adds c (at' l i)
  | [], i, h => by simp at h
  | a :: l, 0, _ => by rw [List.take_zero, List.nil_append, List.drop_succ_cons, List.drop_zero, cap_cons]; simp only [at', List.getD_cons_zero]; omega
  | a :: l, i + 1, h => by
    rw [List.take_succ_cons, List.drop_succ_cons, List.cons_append, cap_cons, cap_cons, cap_out (by simpa using h)]
    simp only [at', List.getD_cons_succ]; omega
/-- A proved optimum. -/
def Opt (n s t : Nat) (l : List Arc) (v : Int) : Prop := ∃ (f : List Int) (S : List Bool), isFlow n s t l f ∧ S.length = n ∧ cutOf S s = true ∧ cutOf S t = false ∧ net s l f = v ∧ capF (cutOf S) l = v
theorem Opt.le {n s t : Nat} {l m : List Arc} {v w : Int} (h : Opt n s t l v) (g : Opt n s t m w) (hs : s < n) (ha : okArcs n l) {d : Int} (hd : ∀ c, capF c l ≤ capF c m + d) : v ≤ w + d := by
  obtain ⟨f, S, h1, -, -, -, h4, -⟩ := h
  obtain ⟨g1, T, -, -, g2, g3, -, g5⟩ := g
  have := value_le hs ha h1 g2 g3
  have := hd (cutOf T)
  omega
theorem Opt.unique {n s t : Nat} {l : List Arc} {v w : Int} (h : Opt n s t l v) (g : Opt n s t l w) (hs : s < n) (ha : okArcs n l) : v = w := by
  have h1 := h.le g hs ha (d := 0) fun c => by omega
  have h2 := g.le h hs ha (d := 0) fun c => by omega
  omega
theorem okArcs_at {n : Nat} {l : List Arc} (h : okArcs n l) {i : Nat} (hi : i < l.length) : okArc n (at' l i) := by
  refine h _ ?_
  unfold at'; simp [List.getD, hi]
/-- One more unit of capacity. -/
theorem Opt.more {n s t : Nat} {l : List Arc} {v w : Int} {i : Nat} (h : Opt n s t l v) (hi : i < l.length) (hs : s < n) (ha : okArcs n l) (hc : (at' l i).2.2.1 < 2147483647)
    (g : Opt n s t (l.set i ((at' l i).1, (at' l i).2.1, (at' l i).2.2.1 + 1, (at' l i).2.2.2)) w) : v ≤ w ∧ w ≤ v + 1 := by
  have hok := okArcs_at ha hi
  have ha' : okArcs n (l.set i ((at' l i).1, (at' l i).2.1, (at' l i).2.2.1 + 1, (at' l i).2.2.2)) := by
    intro a hm
    rcases List.mem_or_eq_of_mem_set hm with hm | rfl
    · exact ha a hm
    · unfold okArc at hok ⊢; dsimp only; omega
  have key : ∀ c, capF c (l.set i ((at' l i).1, (at' l i).2.1, (at' l i).2.2.1 + 1, (at' l i).2.2.2)) = capF c l + if (c (at' l i).1 && !c (at' l i).2.1) = true then 1 else 0 := by
    intro c
    rw [cap_set _ hi]; unfold adds; dsimp only; split <;> omega
  have h1 := h.le g hs ha (d := 0) fun c => by rw [key]; split <;> omega
  have h2 := g.le h hs ha' (d := 1) fun c => by rw [key]; split <;> omega
  omega
/-- An arc less. -/
theorem Opt.less {n s t : Nat} {l : List Arc} {v u : Int} {i : Nat} (h : Opt n s t l v) (hi : i < l.length) (hs : s < n) (ha : okArcs n l)
    (g : Opt n s t (l.take i ++ l.drop (i + 1)) u) : u ≤ v ∧ v ≤ u + (at' l i).2.2.1 := by
  have hok := okArcs_at ha hi
  have ha' : okArcs n (l.take i ++ l.drop (i + 1)) := by
    intro a hm
    rcases List.mem_append.1 hm with hm | hm
    · exact ha a (List.mem_of_mem_take hm)
    · exact ha a (List.mem_of_mem_drop hm)
  have h1 := g.le h hs ha' (d := 0) fun c => by rw [cap_out hi]; have := (adds_bound (c := c) hok); omega
  have h2 := h.le g hs ha (d := (at' l i).2.2.1) fun c => by rw [cap_out hi]; have := (adds_bound (c := c) hok); omega
  omega
/-- All arcs turned. -/
def turn (a : Arc) : Arc := (a.2.1, a.1, a.2.2.1, 0)
theorem cap_turn (c : Int → Bool) : ∀ l : List Arc, capF c ((l.map turn).reverse) = capF (fun x => !c x) l
  | [] => rfl
  | a :: l => by
    rw [List.map_cons, List.reverse_cons, cap_append, cap_turn c l, cap_cons, cap_cons]
    have e : capF c [] = 0 := rfl
    rw [e]
    generalize capF (fun x => !c x) l = X
    unfold adds turn
    dsimp only
    by_cases h1 : c a.1 = true <;> by_cases h2 : c a.2.1 = true <;> simp [h1, h2] <;> omega
theorem Opt.turn {n s t : Nat} {l : List Arc} {v w : Int} (h : Opt n s t l v) (g : Opt n t s ((l.map turn).reverse) w) (hs : s < n) (ht : t < n) (ha : okArcs n l) : v = w := by
  obtain ⟨f, S, h1, -, h2, h3, h4, h5⟩ := h
  obtain ⟨f', T, g1, -, g2, g3, g4, g5⟩ := g
  have ha' : okArcs n ((l.map NetM.turn).reverse) := by
    intro a hm
    rw [List.mem_reverse, List.mem_map] at hm
    obtain ⟨b, hb, rfl⟩ := hm
    have := ha b hb
    unfold okArc at this ⊢; unfold NetM.turn; dsimp only; omega
  have e1 := value_le (c := fun x => !cutOf T x) hs ha h1 (by simp [g3]) (by simp [g2])
  rw [← cap_turn, h4, g5] at e1
  have e2 := value_le (c := fun x => !cutOf S x) ht ha' g1 (by simp [h3]) (by simp [h2])
  rw [cap_turn, g4] at e2
  simp only [Bool.not_not] at e2
  rw [show (fun x => cutOf S x) = cutOf S from rfl, h5] at e2
  omega
/-- Each list of n bits is that of a number below 2^n. -/
theorem bits_num : ∀ S : List Bool, ∃ k, k < 2 ^ S.length ∧ ∀ i, i < S.length → k.testBit i = getB S i
  | [] => ⟨0, by decide, fun i h => by simp at h⟩
  | b :: S => by
    obtain ⟨k, hk, h⟩ := bits_num S
    refine ⟨2 * k + b.toNat, ?_, fun i hi => ?_⟩
    · rw [List.length_cons, Nat.pow_succ]; cases b <;> simp <;> omega
    · cases i with
      | zero => rw [Nat.testBit_zero]; cases b <;> simp [getB] <;> omega
      | succ i =>
        rw [Nat.testBit_succ]
        have e : (2 * k + b.toNat) / 2 = k := by cases b <;> simp <;> omega
        rw [e, h i (by simpa using hi)]; rfl
end NetM

namespace NetM

/-- Steps 2 i and 2 i + 1 lead along arc i and back. -/
def tailS (A : List Arc) (j : Nat) : Int := if j % 2 = 0 then (at' A (j / 2)).1 else (at' A (j / 2)).2.1
def headS (A : List Arc) (j : Nat) : Int := if j % 2 = 0 then (at' A (j / 2)).2.1 else (at' A (j / 2)).1
def roomS (A : List Arc) (F : List Int) (j : Nat) : Int := if j % 2 = 0 then (at' A (j / 2)).2.2.1 - F.getD (j / 2) 0 else F.getD (j / 2) 0
/-- The steps from node x, in their order. -/
def fromR (A : List Arc) (x : Nat) : List Nat := (List.range (2 * A.length)).filter fun j => decide (tailS A j = (x : Int))
theorem mem_fromR {A : List Arc} {x j : Nat} : j ∈ fromR A x ↔ j < 2 * A.length ∧ tailS A j = (x : Int) := by
  unfold fromR; simp [List.mem_filter]
def twin (j : Nat) : Nat := if j % 2 = 0 then j + 1 else j - 1
theorem twin_half (j : Nat) : twin j / 2 = j / 2 := by unfold twin; split <;> omega
theorem twin_lt {j m : Nat} (h : j < 2 * m) : twin j < 2 * m := by unfold twin; split <;> omega
theorem twin_ne (j : Nat) : twin j ≠ j := by unfold twin; split <;> omega
theorem twin_mod (j : Nat) : twin j % 2 = 0 ↔ ¬ j % 2 = 0 := by unfold twin; split <;> omega
/-- Flow 'p' is sent along step j. -/
def along (F : List Int) (j : Nat) (p : Int) : List Int := F.set (j / 2) (if j % 2 = 0 then F.getD (j / 2) 0 + p else F.getD (j / 2) 0 - p)
theorem along_len (F : List Int) (j : Nat) (p : Int) : (along F j p).length = F.length := by unfold along; simp
theorem along_get (F : List Int) (j k : Nat) (p : Int) (hj : j / 2 < F.length) : (along F j p).getD k 0 = if k = j / 2 then (if j % 2 = 0 then F.getD (j / 2) 0 + p else F.getD (j / 2) 0 - p) else F.getD k 0 := by
  unfold along
  by_cases e : k = j / 2
  · subst e; rw [if_pos rfl, getD_set_same _ hj]
  · rw [if_neg e, getD_set_ne _ (fun h => e h.symm)]
theorem along_zero (F : List Int) (j : Nat) (hj : j / 2 < F.length) : along F j 0 = F := by
  unfold along
  have : (if j % 2 = 0 then F.getD (j / 2) 0 + 0 else F.getD (j / 2) 0 - 0) = F.getD (j / 2) 0 := by split <;> omega
  rw [this]
  refine List.ext_getElem (by simp) fun i h1 h2 => ?_
  rw [List.getElem_set]
  split
  · next h => subst h; simp [List.getD, hj]
  · rfl
theorem room_self {A : List Arc} {F : List Int} {j : Nat} (p : Int) (hj : j / 2 < F.length) : roomS A (along F j p) j = roomS A F j - p := by
  unfold roomS
  rw [along_get F j _ p hj, if_pos rfl]
  by_cases e : j % 2 = 0 <;> simp only [e, if_true, if_false] <;> omega
theorem room_twin {A : List Arc} {F : List Int} {j : Nat} (p : Int) (hj : j / 2 < F.length) : roomS A (along F j p) (twin j) = roomS A F (twin j) + p := by
  unfold roomS
  rw [twin_half, along_get F j _ p hj, if_pos rfl]
  by_cases e : j % 2 = 0
  · have : ¬ twin j % 2 = 0 := by have := twin_mod j; omega
    simp only [e, this, if_true, if_false]
  · have : twin j % 2 = 0 := by have := twin_mod j; omega
    simp only [e, this, if_true, if_false]; omega
theorem room_other {A : List Arc} {F : List Int} {j k : Nat} (p : Int) (hj : j / 2 < F.length) (h1 : k ≠ j) (h2 : k ≠ twin j) : roomS A (along F j p) k = roomS A F k := by
  have : k / 2 ≠ j / 2 := by
    intro e
    unfold twin at h2
    split at h2 <;> omega
  unfold roomS
  rw [along_get F j _ p hj, if_neg this]
theorem along_net {A : List Arc} {F : List Int} {j : Nat} (p : Int) (hl : F.length = A.length) (hj : j / 2 < A.length) (y : Int) :
    net y A (along F j p) = net y A F + (if tailS A j = y then p else 0) - (if headS A j = y then p else 0) := by
  unfold along
  rw [net_set _ _ hl hj]
  unfold tailS headS
  by_cases e : j % 2 = 0
  · simp only [e, if_true]
    split <;> split <;> omega
  · simp only [e, if_false]
    split <;> split <;> omega
theorem room_bound {A : List Arc} {F : List Int} {j : Nat} {n : Nat} (ha : okArcs n A) (h : within A F) (hj : j < 2 * A.length) : 0 ≤ roomS A F j ∧ roomS A F j ≤ 2147483647 := by
  have h1 := (within_iff.1 h).2 (j / 2) (by omega)
  have h2 := okArcs_at ha (i := j / 2) (by omega)
  unfold okArc at h2
  unfold roomS
  split <;> omega
theorem room_sum {A : List Arc} {F : List Int} {j : Nat} : roomS A F j + roomS A F (twin j) = (at' A (j / 2)).2.2.1 := by
  unfold roomS
  rw [twin_half]
  have := twin_mod j
  by_cases e : j % 2 = 0
  · have : ¬ twin j % 2 = 0 := by omega
    simp only [e, this, if_true, if_false]; omega
  · have : twin j % 2 = 0 := by omega
    simp only [e, this, if_true, if_false]; omega
theorem along_within {A : List Arc} {F : List Int} {j : Nat} {p : Int} (h : within A F) (hj : j / 2 < A.length) (h0 : 0 ≤ p) (h1 : p ≤ roomS A F j) : within A (along F j p) := by
  have hl := within_length h
  refine within_iff.2 ⟨by rw [along_len]; exact hl, fun i hi => ?_⟩
  rw [along_get F j i p (by omega)]
  have hi' := (within_iff.1 h).2 i hi
  by_cases e : i = j / 2
  · subst e
    rw [if_pos rfl]
    unfold roomS at h1
    by_cases c : j % 2 = 0
    · simp only [c, if_true] at h1 ⊢; omega
    · simp only [c, if_false] at h1 ⊢; omega
  · rw [if_neg e]; exact hi'
theorem step_nodes {A : List Arc} {n j : Nat} (ha : okArcs n A) (hj : j < 2 * A.length) : ∃ x y : Nat, tailS A j = (x : Int) ∧ headS A j = (y : Int) ∧ x < n ∧ y < n := by
  have h2 := okArcs_at ha (i := j / 2) (by omega)
  unfold okArc at h2
  unfold tailS headS
  split
  · exact ⟨(at' A (j / 2)).1.toNat, (at' A (j / 2)).2.1.toNat, by omega, by omega, by omega, by omega⟩
  · exact ⟨(at' A (j / 2)).2.1.toNat, (at' A (j / 2)).1.toNat, by omega, by omega, by omega, by omega⟩
theorem tail_twin {A : List Arc} {j : Nat} : tailS A (twin j) = headS A j := by
  unfold tailS headS
  rw [twin_half]
  have := twin_mod j
  by_cases e : j % 2 = 0
  · have : ¬ twin j % 2 = 0 := by omega
    simp only [e, this, if_true, if_false]
  · have : twin j % 2 = 0 := by omega
    simp only [e, this, if_true, if_false]
theorem head_twin {A : List Arc} {j : Nat} : headS A (twin j) = tailS A j := by
  unfold tailS headS
  rw [twin_half]
  have := twin_mod j
  by_cases e : j % 2 = 0
  · have : ¬ twin j % 2 = 0 := by omega
    simp only [e, this, if_true, if_false]
  · have : twin j % 2 = 0 := by omega
    simp only [e, this, if_true, if_false]

/-- The distance of a node. -/
def dl (D : List Int) (x : Nat) : Int := D.getD x 0
/-- The steps of a node that may still lead to the sink. -/
def ul (U : List (List Nat)) (x : Nat) : List Nat := U.getD x []
/-- Each step that is not tried any more leads to no greater flow in this round. -/
def Tried (A : List Arc) (N t : Nat) (D : List Int) (F : List Int) (U : List (List Nat)) : Prop :=
  U.length = N ∧ ∀ x, x < N → ∃ pre, fromR A x = pre ++ ul U x ∧ ∀ j ∈ pre, ∀ y : Nat, headS A j = (y : Int) → dl D y ≠ dl D x + 1 ∨ roomS A F j ≤ 0 ∨ (y ≠ t ∧ ul U y = [])
theorem Tried.start {A : List Arc} {N t : Nat} {D F : List Int} {U : List (List Nat)} (hl : U.length = N) (h : ∀ x, x < N → ul U x = fromR A x) : Tried A N t D F U :=
  ⟨hl, fun x hx => ⟨[], by rw [h x hx]; rfl, fun j hj => absurd hj (by simp)⟩⟩
theorem Tried.mem {A : List Arc} {N t : Nat} {D F : List Int} {U : List (List Nat)} (h : Tried A N t D F U) {x i : Nat} {rest : List Nat} (hx : x < N) (hu : ul U x = i :: rest) : i < 2 * A.length ∧ tailS A i = (x : Int) := by
  obtain ⟨pre, e, -⟩ := h.2 x hx
  refine mem_fromR.1 ?_
  rw [e, hu]; simp
theorem ul_set {U : List (List Nat)} {x y : Nat} {r : List Nat} (hx : x < U.length) : ul (U.set x r) y = if y = x then r else ul U y := by
  unfold ul
  by_cases e : y = x
  · subst e; simp [List.getD, hx]
  · rw [if_neg e]; simp only [List.getD]; rw [List.getElem?_set_ne (fun h => e h.symm)]
/-- What is left of a node's steps gets shorter by one. -/
theorem Tried.pop {A : List Arc} {N t : Nat} {D F : List Int} {U : List (List Nat)} (h : Tried A N t D F U) {x i : Nat} {rest : List Nat} (hx : x < N) (hu : ul U x = i :: rest)
    (hd : ∀ y : Nat, headS A i = (y : Int) → dl D y ≠ dl D x + 1 ∨ roomS A F i ≤ 0 ∨ (y ≠ t ∧ ul U y = [])) : Tried A N t D F (U.set x rest) := by
  have hxU : x < U.length := by rw [h.1]; exact hx
  refine ⟨by rw [List.length_set]; exact h.1, fun z hz => ?_⟩
  obtain ⟨pre, e, k⟩ := h.2 z hz
  have key : ∀ y : Nat, ul U y = [] → ul (U.set x rest) y = [] := by
    intro y hy
    rw [ul_set hxU]
    by_cases c : y = x
    · subst c; rw [hu] at hy; cases hy
    · rw [if_neg c]; exact hy
  have mono : ∀ (zz : Nat) (j : Nat) (y : Nat), (dl D y ≠ dl D zz + 1 ∨ roomS A F j ≤ 0 ∨ (y ≠ t ∧ ul U y = [])) → (dl D y ≠ dl D zz + 1 ∨ roomS A F j ≤ 0 ∨ (y ≠ t ∧ ul (U.set x rest) y = [])) := by
    intro zz j y hh
    rcases hh with h1 | h1 | ⟨h1, h2⟩
    · exact .inl h1
    · exact .inr (.inl h1)
    · exact .inr (.inr ⟨h1, key y h2⟩)
  by_cases c : z = x
  · subst c
    refine ⟨pre ++ [i], ?_, fun j hj y hy => ?_⟩
    · rw [ul_set hxU, if_pos rfl, e, hu]; simp
    · rcases List.mem_append.1 hj with hj | hj
      · exact mono _ _ _ (k j hj y hy)
      · obtain rfl : j = i := by simpa using hj
        exact mono _ _ _ (hd y hy)
  · refine ⟨pre, ?_, fun j hj y hy => mono _ _ _ (k j hj y hy)⟩
    rw [ul_set hxU, if_neg c]; exact e
/-- Flow is sent along a step that leads one farther. -/
theorem Tried.along {A : List Arc} {N t : Nat} {D F : List Int} {U : List (List Nat)} (h : Tried A N t D F U) {i x y : Nat} {p : Int} (h0 : 0 ≤ p) (hi : i / 2 < F.length) (hx : tailS A i = (x : Int)) (hy : headS A i = (y : Int)) (hd : dl D y = dl D x + 1) :
    Tried A N t D (along F i p) U := by
  refine ⟨h.1, fun z hz => ?_⟩
  obtain ⟨pre, e, k⟩ := h.2 z hz
  refine ⟨pre, e, fun j hj v hv => ?_⟩
  have hzt : tailS A j = (z : Int) := (mem_fromR.1 (by rw [e]; exact List.mem_append_left _ hj)).2
  have k1 := k j hj v hv
  by_cases c1 : j = i
  · subst c1
    rw [room_self p hi]
    rcases k1 with h1 | h1 | h1
    · exact .inl h1
    · exact .inr (.inl (by omega))
    · exact .inr (.inr h1)
  · by_cases c2 : j = twin i
    · subst c2
      rw [tail_twin, hy] at hzt
      rw [head_twin, hx] at hv
      left
      have e1 : z = y := by omega
      have e2 : v = x := by omega
      rw [e1, e2]; omega
    · rw [room_other p hi c1 c2]; exact k1

/-- What a push of at most 'a' from node x leaves: p is sent, the flow is F', the steps left are U'. -/
def Sent (A : List Arc) (N t : Nat) (D : List Int) (x : Nat) (F : List Int) (U : List (List Nat)) (p : Int) (F' : List Int) (U' : List (List Nat)) : Prop :=
  0 ≤ p ∧ within A F' ∧ (∀ y : Int, net y A F' = net y A F + (if y = (x : Int) then p else 0) - (if y = (t : Int) then p else 0)) ∧ Tried A N t D F' U' ∧ (p = 0 → F' = F) ∧
  (∀ y, y < N → dl D y < dl D x → ul U' y = ul U y) ∧ (∀ k, k < A.length → F'.getD k 0 ≠ F.getD k 0 → dl D x ≤ dl D (at' A k).1.toNat ∧ dl D x ≤ dl D (at' A k).2.1.toNat)
/-- .. and all that can be sent. -/
def Pushed (A : List Arc) (N t : Nat) (D : List Int) (x : Nat) (a : Int) (F : List Int) (U : List (List Nat)) (p : Int) (F' : List Int) (U' : List (List Nat)) : Prop :=
  Sent A N t D x F U p F' U' ∧ p ≤ a ∧ (p < a → x ≠ t ∧ ul U' x = [])
theorem Pushed.sink {A : List Arc} {N t : Nat} {D F : List Int} {U : List (List Nat)} {a : Int} (h0 : 0 ≤ a) (hw : within A F) (hT : Tried A N t D F U) : Pushed A N t D t a F U a F U :=
  ⟨⟨h0, hw, fun y => by split <;> omega, hT, fun _ => rfl, fun _ _ _ => rfl, fun _ _ h => absurd rfl h⟩, Int.le_refl _, fun h => absurd h (by omega)⟩
theorem Sent.start {A : List Arc} {N t : Nat} {D F : List Int} {U : List (List Nat)} {x : Nat} (hw : within A F) (hT : Tried A N t D F U) : Sent A N t D x F U 0 F U :=
  ⟨Int.le_refl _, hw, fun y => by split <;> split <;> omega, hT, fun _ => rfl, fun _ _ _ => rfl, fun _ _ h => absurd rfl h⟩
theorem Sent.done {A : List Arc} {N t : Nat} {D F F' : List Int} {U U' : List (List Nat)} {x : Nat} {a p : Int} (h : Sent A N t D x F U p F' U') (hle : p ≤ a) (hx : x ≠ t) (hu : p < a → ul U' x = []) : Pushed A N t D x a F U p F' U' :=
  ⟨h, hle, fun hp => ⟨hx, hu hp⟩⟩
/-- A step that leads not one farther, or that has no room left, is let go. -/
theorem Sent.drop {A : List Arc} {N t : Nat} {D F F1 : List Int} {U U1 : List (List Nat)} {x i : Nat} {rest : List Nat} {q : Int} (h : Sent A N t D x F U q F1 U1) (hx : x < N) (hu : ul U1 x = i :: rest)
    (hd : ∀ y : Nat, headS A i = (y : Int) → dl D y ≠ dl D x + 1 ∨ roomS A F1 i ≤ 0 ∨ (y ≠ t ∧ ul U1 y = [])) : Sent A N t D x F U q F1 (U1.set x rest) := by
  obtain ⟨h1, h2, h3, h4, h5, h6, h7⟩ := h
  refine ⟨h1, h2, h3, h4.pop hx hu hd, h5, fun y hy hlt => ?_, h7⟩
  rw [ul_set (by rw [h4.1]; exact hx), if_neg (by rintro rfl; omega)]
  exact h6 y hy hlt
/-- What lies behind a step is pushed to. -/
theorem Sent.step {A : List Arc} {N t : Nat} {D F F1 F2 : List Int} {U U1 U2 : List (List Nat)} {x y i : Nat} {rest : List Nat} {q p b : Int} (h : Sent A N t D x F U q F1 U1) (_ha : okArcs N A) (hx : x < N) (hu : ul U1 x = i :: rest)
    (hy : headS A i = (y : Int)) (hd : dl D y = dl D x + 1) (hb : b ≤ roomS A F1 i) (hp : Pushed A N t D y b F1 U1 p F2 U2) :
    Sent A N t D x F U (q + p) (along F2 i p) U2 ∧ ul U2 x = i :: rest ∧ roomS A F2 i = roomS A F1 i ∧ roomS A F2 (twin i) = roomS A F1 (twin i) ∧
    (p < roomS A F1 i → p < b → y ≠ t ∧ ul U2 y = []) := by
  obtain ⟨h1, h2, h3, h4, h5, h6, h7⟩ := h
  obtain ⟨⟨g1, g2, g3, g4, g5, g6, g7⟩, g8, g9⟩ := hp
  obtain ⟨hi, hti⟩ := h4.mem hx hu
  have hl2 := within_length g2
  have hl1 := within_length h2
  have hi2 : i / 2 < A.length := by omega
  have hsame : F2.getD (i / 2) 0 = F1.getD (i / 2) 0 := by
    by_cases c : F2.getD (i / 2) 0 = F1.getD (i / 2) 0
    · exact c
    · have k := g7 (i / 2) hi2 c
      exfalso
      unfold tailS at hti; unfold headS at hy
      by_cases e : i % 2 = 0
      · simp only [e, if_true] at hti hy
        rw [hti, hy, Int.toNat_natCast, Int.toNat_natCast] at k; omega
      · simp only [e, if_false] at hti hy
        rw [hti, hy, Int.toNat_natCast, Int.toNat_natCast] at k; omega
  have hr : roomS A F2 i = roomS A F1 i := by unfold roomS; rw [hsame]
  have hr2 : roomS A F2 (twin i) = roomS A F1 (twin i) := by unfold roomS; rw [twin_half, hsame]
  refine ⟨⟨by omega, along_within g2 hi2 g1 (by omega), fun z => ?_, g4.along g1 (by omega) hti hy hd, fun h0 => ?_, fun z hz hlt => ?_, fun k hk hc => ?_⟩, ?_, hr, hr2, fun _ hpb => g9 hpb⟩
  · rw [along_net p hl2 hi2 z, g3 z, h3 z, hti, hy]
    have : (x : Int) ≠ (y : Int) := by
      intro e
      have : x = y := by omega
      subst this; omega
    repeat' split
    all_goals omega
  · have e1 : p = 0 := by omega
    have e2 : q = 0 := by omega
    subst e1
    rw [along_zero F2 i (by omega), g5 rfl, h5 e2]
  · rw [g6 z hz (by omega), h6 z hz hlt]
  · rw [along_get F2 i k p (by omega)] at hc
    by_cases c : k = i / 2
    · subst c
      unfold tailS at hti; unfold headS at hy
      by_cases e : i % 2 = 0
      · simp only [e, if_true] at hti hy
        rw [hti, hy, Int.toNat_natCast, Int.toNat_natCast]; omega
      · simp only [e, if_false] at hti hy
        rw [hti, hy, Int.toNat_natCast, Int.toNat_natCast]; omega
    · rw [if_neg c] at hc
      by_cases c2 : F2.getD k 0 = F1.getD k 0
      · exact h7 k hk (by rw [← c2]; exact hc)
      · have := g7 k hk c2
        omega
  · rw [g6 x hx (by omega)]; exact hu

/-- The distances of a round. -/
def Lev (A : List Arc) (F : List Int) (N s : Nat) (D : List Int) : Prop :=
  D.length = N ∧ dl D s = 0 ∧ (∀ x, x < N → -1 ≤ dl D x ∧ dl D x ≤ 700) ∧
  (∀ j, j < 2 * A.length → ∀ x y : Nat, tailS A j = (x : Int) → headS A j = (y : Int) → dl D x ≠ -1 → 0 < roomS A F j → dl D y ≠ -1) ∧
  (∀ y, y < N → dl D y ≠ -1 → y ≠ s → ∃ j x : Nat, j < 2 * A.length ∧ tailS A j = (x : Int) ∧ headS A j = (y : Int) ∧ 0 < roomS A F j ∧ x < N ∧ 0 ≤ dl D x ∧ dl D y = dl D x + 1)
/-- If the sink has a distance a push from the source sends something. -/
theorem push_some {A : List Arc} {N s t : Nat} {D F F' : List Int} {U U' : List (List Nat)} {a p : Int} (hL : Lev A F N s D) (hs : s < N) (ht : t < N) (hst : s ≠ t) (hr : dl D t ≠ -1) (ha : 0 < a) (h : Pushed A N t D s a F U p F' U') : 0 < p := by
  obtain ⟨⟨h1, -, -, h4, h5, -, -⟩, h8, h9⟩ := h
  rcases Int.lt_or_le 0 p with hp | hp
  · exact hp
  exfalso
  have e0 : p = 0 := by omega
  have hF := h5 e0
  subst hF
  have key : ∀ n : Nat, ∀ y, y < N → dl D y = (n : Int) → (y = t ∨ ul U' y ≠ []) → ul U' s ≠ [] := by
    intro n
    induction n with
    | zero =>
      intro y hy hd hq
      by_cases c : y = s
      · subst c
        rcases hq with rfl | hq
        · exact absurd rfl hst
        · exact hq
      · obtain ⟨j, x, -, -, -, -, -, k1, k2⟩ := hL.2.2.2.2 y hy (by omega) c
        omega
    | succ n ih =>
      intro y hy hd hq
      by_cases c : y = s
      · subst c
        rcases hq with rfl | hq
        · exact absurd rfl hst
        · exact hq
      · obtain ⟨j, x, g1, g2, g3, g4, g5, g6, g7⟩ := hL.2.2.2.2 y hy (by omega) c
        refine ih x g5 (by omega) ?_
        by_cases cx : ul U' x = []
        · exfalso
          obtain ⟨pre, e, k⟩ := h4.2 x g5
          have hj : j ∈ pre := by
            have := mem_fromR.2 ⟨g1, g2⟩
            rw [e, cx] at this
            simpa using this
          rcases k j hj y g3 with k1 | k1 | ⟨k1, k2⟩
          · omega
          · omega
          · rcases hq with hq | hq
            · exact k1 hq
            · exact hq k2
        · exact .inr cx
  have hb := hL.2.2.1 t ht
  exact key (dl D t).toNat t ht (by omega) (.inl rfl) (h9 (by omega)).2
/-- If the sink has no distance the flow is greatest. -/
theorem lev_tight {A : List Arc} {N s : Nat} {D F : List Int} (hL : Lev A F N s D) (ha : okArcs N A) (hw : within A F) : tight (cutOf (D.map fun d => decide (d ≠ -1))) A F := by
  have hl := within_length hw
  have hg : ∀ y : Nat, y < N → cutOf (D.map fun d => decide (d ≠ -1)) (y : Int) = decide (dl D y ≠ -1) := by
    intro y hy
    have : y < D.length := by rw [hL.1]; exact hy
    simp [cutOf, getB, dl, List.getD, this]
  rw [tight_iff hl]
  intro i hi
  obtain ⟨x, y, h1, h2, hx, hy⟩ := step_nodes (j := 2 * i) ha (by omega)
  have e1 : (2 * i) % 2 = 0 := by omega
  have e2 : (2 * i) / 2 = i := by omega
  have e3 : (2 * i + 1) % 2 = 1 := by omega
  have e4 : (2 * i + 1) / 2 = i := by omega
  have k1 := hL.2.2.2.1 (2 * i) (by omega) x y h1 h2
  have k2 := hL.2.2.2.1 (2 * i + 1) (by omega) y x (by unfold tailS; unfold headS at h2; simp only [e1, e2, e3, e4] at h2 ⊢; simpa using h2) (by unfold headS; unfold tailS at h1; simp only [e1, e2, e3, e4] at h1 ⊢; simpa using h1)
  have hb := (within_iff.1 hw).2 i hi
  unfold roomS at k1 k2
  unfold tailS at h1; unfold headS at h2
  simp only [e1, e2, if_true] at h1 h2 k1
  simp only [e3, e4] at k2
  rw [h1, h2, hg x hx, hg y hy]
  constructor
  · intro c1 c2
    have c1 := of_decide_eq_true c1
    have c2 := of_decide_eq_false c2
    rcases Int.lt_or_le (F.getD i 0) (at' A i).2.2.1 with hlt | hge
    · exact absurd (k1 c1 (by omega)) c2
    · omega
  · intro c1 c2
    have c1 := of_decide_eq_false c1
    have c2 := of_decide_eq_true c2
    rcases Int.lt_or_le 0 (F.getD i 0) with hlt | hge
    · exact absurd (k2 c2 (by simpa using hlt)) c1
    · omega
end NetM

namespace NetM

def cntD (D : List Int) : Nat := (D.filter fun d => decide (d ≠ -1)).length
theorem cntD_le (D : List Int) : cntD D ≤ D.length := List.length_filter_le _ _
theorem cntD_set : ∀ (D : List Int) (z : Nat) (v : Int), z < D.length → dl D z = -1 → v ≠ -1 → cntD (D.set z v) = cntD D + 1
  | [], z, v, h, _, _ => by simp at h
  | d :: D, 0, v, _, h, hv => by
    have : d = -1 := h
    subst this
    simp [cntD, hv]
  | d :: D, z + 1, v, h, g, hv => by
    have ih := cntD_set D z v (by simpa using h) (by simpa [dl] using g) hv
    unfold cntD at ih ⊢
    rw [List.set_cons_succ, List.filter_cons, List.filter_cons]
    split
    · rw [List.length_cons, List.length_cons, ih]
    · exact ih
theorem dl_set {D : List Int} {z y : Nat} {v : Int} (hz : z < D.length) : dl (D.set z v) y = if y = z then v else dl D y := by
  unfold dl
  by_cases e : y = z
  · subst e; simp [List.getD, hz]
  · rw [if_neg e]; simp only [List.getD]; rw [List.getElem?_set_ne (fun h => e h.symm)]
/-- What holds of the search: the distances D, the nodes Q that wait, p that were looked at. -/
def LBfs (A : List Arc) (F : List Int) (N s : Nat) (D : List Int) (Q : List Nat) (p : Nat) : Prop :=
  D.length = N ∧ dl D s = 0 ∧ (∀ x, x < N → -1 ≤ dl D x ∧ dl D x < cntD D) ∧ (∀ q ∈ Q, q < N ∧ dl D q ≠ -1) ∧ p + Q.length = cntD D ∧
  (∀ y, y < N → dl D y ≠ -1 → y ≠ s → ∃ j x : Nat, j < 2 * A.length ∧ tailS A j = (x : Int) ∧ headS A j = (y : Int) ∧ 0 < roomS A F j ∧ x < N ∧ 0 ≤ dl D x ∧ dl D y = dl D x + 1)
/-- What has a distance and does not wait has no way out to what has none; of node x only the steps 'pre' are known. -/
def LCl (A : List Arc) (F : List Int) (N : Nat) (D : List Int) (Q : List Nat) (x : Nat) (pre : List Nat) : Prop :=
  ∀ y, y < N → dl D y ≠ -1 → y ∉ Q → ∀ j, j ∈ fromR A y → (y = x → j ∈ pre) → ∀ z : Nat, headS A j = (z : Int) → 0 < roomS A F j → dl D z ≠ -1
theorem LBfs.start {A : List Arc} {F : List Int} {N s : Nat} (hs : s < N) : LBfs A F N s ((List.replicate N (-1)).set s 0) [s] 0 := by
  have hl : s < (List.replicate N (-1 : Int)).length := by simpa using hs
  have hg : ∀ y, y < N → dl (List.replicate N (-1)) y = -1 := by intro y h; simp [dl, List.getD, h]
  have h0 : cntD (List.replicate N (-1)) = 0 := by unfold cntD; simp
  have h1 := cntD_set (List.replicate N (-1)) s 0 hl (hg s hs) (by decide)
  rw [h0] at h1
  refine ⟨by simp, ?_, fun x hx => ?_, fun q hq => ?_, ?_, fun y hy hd hne => ?_⟩
  · rw [dl_set hl, if_pos rfl]
  · rw [dl_set hl, h1, hg x hx]; split <;> omega
  · obtain rfl : q = s := by simpa using hq
    exact ⟨hs, by rw [dl_set hl, if_pos rfl]; decide⟩
  · rw [h1]; rfl
  · rw [dl_set hl, if_neg hne, hg y hy] at hd
    exact absurd rfl hd
theorem LCl.start {A : List Arc} {F : List Int} {N s : Nat} (hs : s < N) : LCl A F N ((List.replicate N (-1)).set s 0) [s] N [] := by
  intro y hy hd hq
  have hl : s < (List.replicate N (-1 : Int)).length := by simpa using hs
  have hne : y ≠ s := fun e => hq (by simp [e])
  rw [dl_set hl, if_neg hne] at hd
  exact absurd (by simp [dl, List.getD, hy]) hd
theorem LBfs.pop {A : List Arc} {F D : List Int} {N s x p : Nat} {Q : List Nat} (h : LBfs A F N s D (x :: Q) p) : LBfs A F N s D Q (p + 1) ∧ x < N ∧ dl D x ≠ -1 ∧ p < N := by
  obtain ⟨h1, h2, h3, h4, h5, h6⟩ := h
  have := cntD_le D
  rw [List.length_cons] at h5
  exact ⟨⟨h1, h2, h3, fun q hq => h4 q (List.mem_cons_of_mem _ hq), by omega, h6⟩, (h4 x (List.mem_cons_self ..)).1, (h4 x (List.mem_cons_self ..)).2, by omega⟩
theorem LCl.pop {A : List Arc} {F D : List Int} {N x x0 : Nat} {Q : List Nat} {pre : List Nat} (h : LCl A F N D (x :: Q) x0 pre) (hp : x0 < N → ∀ j, j ∈ fromR A x0 → j ∈ pre) : LCl A F N D Q x [] := by
  intro y hy hd hq j hj hi z hz hr
  by_cases e : y = x
  · exact absurd (hi e) (by simp)
  · exact h y hy hd (fun hm => by rcases List.mem_cons.1 hm with h | h; exact e h; exact hq h) j hj (fun e2 => by subst e2; exact hp hy j hj) z hz hr
/-- A node gets a distance. -/
theorem LBfs.grow {A : List Arc} {F D : List Int} {N s x z p j : Nat} {Q : List Nat} (h : LBfs A F N s D Q p) (hx : x < N) (dx : dl D x ≠ -1) (hz : z < N) (dz : dl D z = -1) (hj : j < 2 * A.length) (h1 : tailS A j = (x : Int)) (h2 : headS A j = (z : Int)) (h3 : 0 < roomS A F j) :
    LBfs A F N s (D.set z (dl D x + 1)) (Q ++ [z]) p := by
  obtain ⟨g1, g2, g3, g4, g5, g6⟩ := h
  have hzl : z < D.length := by omega
  have hxb := g3 x hx
  have hc := cntD_set D z (dl D x + 1) hzl dz (by omega)
  have hsz : s ≠ z := by rintro rfl; omega
  refine ⟨by simpa using g1, ?_, fun y hy => ?_, fun q hq => ?_, ?_, fun y hy hd hne => ?_⟩
  · rw [dl_set hzl, if_neg hsz]; exact g2
  · rw [dl_set hzl, hc]
    have := g3 y hy
    split <;> omega
  · rw [dl_set hzl]
    rcases List.mem_append.1 hq with hq | hq
    · refine ⟨(g4 q hq).1, ?_⟩
      split
      · omega
      · exact (g4 q hq).2
    · obtain rfl : q = z := by simpa using hq
      exact ⟨hz, by rw [if_pos rfl]; omega⟩
  · rw [hc, List.length_append, List.length_singleton]; omega
  · have hxz : x ≠ z := by rintro rfl; exact dx dz
    by_cases e : y = z
    · subst e
      exact ⟨j, x, hj, h1, h2, h3, hx, by rw [dl_set hzl, if_neg hxz]; omega, by rw [dl_set hzl, dl_set hzl, if_pos rfl, if_neg hxz]⟩
    · rw [dl_set hzl, if_neg e] at hd
      obtain ⟨i, w, k1, k2, k3, k4, k5, k6, k7⟩ := g6 y hy hd hne
      have hwz : w ≠ z := by rintro rfl; omega
      exact ⟨i, w, k1, k2, k3, k4, k5, by rw [dl_set hzl, if_neg hwz]; exact k6, by rw [dl_set hzl, dl_set hzl, if_neg e, if_neg hwz]; exact k7⟩
theorem LCl.grow {A : List Arc} {F D : List Int} {N x z : Nat} {Q : List Nat} {pre : List Nat} {v : Int} (h : LCl A F N D Q x pre) (hz : z < D.length) (hv : v ≠ -1) : LCl A F N (D.set z v) (Q ++ [z]) x pre := by
  intro y hy hd hq j hj hi w hw hr
  have hne : y ≠ z := fun e => hq (by simp [e])
  rw [dl_set hz, if_neg hne] at hd
  have k := h y hy hd (fun hm => hq (by simp [hm])) j hj hi w hw hr
  rw [dl_set hz]
  split
  · exact hv
  · exact k
/-- One more step of node x was looked at. -/
theorem LCl.step {A : List Arc} {F D : List Int} {N x i : Nat} {Q : List Nat} {pre : List Nat} (h : LCl A F N D Q x pre) (hi : ∀ z : Nat, headS A i = (z : Int) → 0 < roomS A F i → dl D z ≠ -1) : LCl A F N D Q x (pre ++ [i]) := by
  intro y hy hd hq j hj hp z hz hr
  by_cases e : j = i
  · subst e; exact hi z hz hr
  · refine h y hy hd hq j hj (fun e2 => ?_) z hz hr
    rcases List.mem_append.1 (hp e2) with h | h
    · exact h
    · exact absurd (by simpa using h) e
/-- The search has ended. -/
theorem lev_of {A : List Arc} {F D : List Int} {N s p x0 : Nat} {pre : List Nat} (h : LBfs A F N s D [] p) (hc : LCl A F N D [] x0 pre) (hp : x0 < N → ∀ j, j ∈ fromR A x0 → j ∈ pre) (ha : okArcs N A) (hN : N ≤ 700) : Lev A F N s D := by
  obtain ⟨g1, g2, g3, -, -, g6⟩ := h
  refine ⟨g1, g2, fun x hx => ?_, fun j hj x y h1 h2 dx hr => ?_, g6⟩
  · have := g3 x hx
    have := cntD_le D
    omega
  · obtain ⟨x', y', k1, k2, k3, k4⟩ := step_nodes ha hj
    have e : x = x' := by omega
    subst e
    exact hc x k3 dx (by simp) j (mem_fromR.2 ⟨hj, h1⟩) (fun e => by subst e; exact hp k3 j (mem_fromR.2 ⟨hj, h1⟩)) y h2 hr
end NetM

namespace NetM

/-- The cost of a flow. -/
def costF : List Arc → List Int → Int
  | a :: l, f :: g => f * a.2.2.2 + costF l g
  | _, _ => 0
/-- The reduced cost of an arc. -/
def rc (p : Int → Int) (a : Arc) : Int := a.2.2.2 + p a.1 - p a.2.1
def Pot (p : Int → Int) : List Arc → List Int → Prop
  | a :: l, f :: g => ((f < a.2.2.1 → 0 ≤ rc p a) ∧ (0 < f → rc p a ≤ 0)) ∧ Pot p l g
  | _, _ => True
def rcF (p : Int → Int) : List Arc → List Int → Int
  | a :: l, f :: g => rc p a * f + rcF p l g
  | _, _ => 0
def crossP (p : Int → Int) : List Arc → List Int → Int
  | a :: l, f :: g => p a.1 * f - p a.2.1 * f + crossP p l g
  | _, _ => 0
theorem cost_rc (p : Int → Int) : ∀ (l : List Arc) (f : List Int), costF l f = rcF p l f - crossP p l f
  | a :: l, f :: g => by
    have ih := cost_rc p l g
    have e : rc p a * f = f * a.2.2.2 + p a.1 * f - p a.2.1 * f := by
      unfold rc
      rw [Int.sub_mul, Int.add_mul, Int.mul_comm a.2.2.2 f]
    dsimp only [costF, rcF, crossP]
    omega
  | [], f => by cases f <;> rfl
  | _ :: _, [] => rfl
theorem sumN_pickP (p : Int → Int) (a f : Int) (n : Nat) (h0 : 0 ≤ a) (h1 : a < n) :
    sumN (fun x => p (x : Int) * (if a = (x : Int) then f else 0)) n = p a * f := by
  obtain ⟨k, rfl⟩ : ∃ k : Nat, a = k := ⟨a.toNat, by omega⟩
  rw [sumN_one (s := k) (by omega)]
  · simp
  · intro x _ hx
    have : ¬ ((k : Int) = (x : Int)) := by omega
    simp [this]
theorem pot_cross (p : Int → Int) (n : Nat) : ∀ (l : List Arc) (f : List Int), okArcs n l → sumN (fun x => p (x : Int) * net x l f) n = crossP p l f
  | [], f, _ => by
    rw [sumN_zero]
    · cases f <;> rfl
    · intro x _; cases f <;> simp [net]
  | a :: l, [], _ => by
    rw [sumN_zero]
    · rfl
    · intro x _; simp [net]
  | a :: l, f :: g, h => by
    have ih := pot_cross p n l g fun b hb => h b (List.mem_cons_of_mem _ hb)
    obtain ⟨h1, h2, h3, h4, -⟩ := h a (List.mem_cons_self ..)
    have e : (fun x : Nat => p (x : Int) * net x (a :: l) (f :: g)) = fun x : Nat =>
        (fun x : Nat => p (x : Int) * (if a.1 = (x : Int) then f else 0)) x + (fun x : Nat =>
          (fun x : Nat => p (x : Int) * (if a.2.1 = (x : Int) then -f else 0)) x + (fun x : Nat => p (x : Int) * net x l g) x) x := by
      funext x
      dsimp only [net]
      rw [← Int.mul_add, ← Int.mul_add]
      congr 1
      by_cases e2 : a.2.1 = (x : Int)
      · rw [if_pos e2, if_pos e2]; omega
      · rw [if_neg e2, if_neg e2]; omega
    rw [e, sumN_add, sumN_add, sumN_pickP p _ _ n h1 h2, sumN_pickP p _ _ n h3 h4, ih]
    dsimp only [crossP]
    rw [Int.mul_neg]; omega
theorem sumN_two {g : Nat → Int} {n s t : Nat} (hs : s < n) (ht : t < n) (hst : s ≠ t) (h : ∀ x, x < n → x ≠ s → x ≠ t → g x = 0) : sumN g n = g s + g t := by
  have e : g = fun x => (fun x => if x = s then g s else 0) x + (fun x => if x = s then 0 else g x) x := by
    funext x
    by_cases c : x = s
    · subst c; simp
    · simp [c]
  rw [e, sumN_add, sumN_one (s := s) hs, sumN_one (s := t) ht]
  · have : t ≠ s := fun h => hst h.symm
    simp [this]
  · intro x hx hne
    by_cases c : x = s
    · simp [c]
    · simp [c, h x hx c hne]
  · intro x _ hne; simp [hne]
theorem cross_one : ∀ (l : List Arc) (f : List Int), crossP (fun _ => 1) l f = 0
  | a :: l, f :: g => by dsimp only [crossP]; rw [cross_one l g]; omega
  | [], f => by cases f <;> rfl
  | _ :: _, [] => rfl
theorem net_ends {n s t : Nat} {l : List Arc} {f : List Int} (hs : s < n) (ht : t < n) (hst : s ≠ t) (ha : okArcs n l) (h : isFlow n s t l f) : net t l f = - net s l f := by
  have e := pot_cross (fun _ => 1) n l f ha
  rw [cross_one, sumN_two hs ht hst] at e
  · simp only [Int.one_mul] at e; omega
  · intro x hx h1 h2; rw [h.2 x hx h1 h2]; rfl
theorem cross_flow (p : Int → Int) {n s t : Nat} {l : List Arc} {f : List Int} (hs : s < n) (ht : t < n) (hst : s ≠ t) (ha : okArcs n l) (h : isFlow n s t l f) : crossP p l f = p s * net s l f - p t * net s l f := by
  rw [← pot_cross p n l f ha, sumN_two hs ht hst]
  · rw [net_ends hs ht hst ha h, Int.mul_neg]; omega
  · intro x hx h1 h2; rw [h.2 x hx h1 h2, Int.mul_zero]
theorem rc_le {r f g u : Int} (f0 : 0 ≤ f) (g0 : 0 ≤ g) (gu : g ≤ u) (h1 : f < u → 0 ≤ r) (h2 : 0 < f → r ≤ 0) : r * f ≤ r * g := by
  rcases Int.lt_trichotomy f g with h | h | h
  · exact Int.mul_le_mul_of_nonneg_left (by omega) (h1 (by omega))
  · subst h; exact Int.le_refl _
  · exact Int.mul_le_mul_of_nonpos_left (h2 (by omega)) (by omega)
theorem rcF_le (p : Int → Int) : ∀ (l : List Arc) (f g : List Int), within l f → within l g → Pot p l f → rcF p l f ≤ rcF p l g
  | [], [], [], _, _, _ => Int.le_refl _
  | a :: l, f :: fs, g :: gs, h, h', hp => by
    have ih := rcF_le p l fs gs h.2 h'.2 hp.2
    have := rc_le h.1.1 h'.1.1 h'.1.2 hp.1.1 hp.1.2
    dsimp only [rcF]; omega
  | [], _ :: _, _, h, _, _ => h.elim
  | [], [], _ :: _, _, h, _ => h.elim
  | _ :: _, [], _, h, _, _ => h.elim
  | _ :: _, _ :: _, [], _, h, _ => h.elim
/-- What potentials prove: no flow is cheaper than the line through this one. -/
theorem pot_le {p : Int → Int} {n s t : Nat} {l : List Arc} {f g : List Int} (hs : s < n) (ht : t < n) (hst : s ≠ t) (ha : okArcs n l) (hf : isFlow n s t l f) (hg : isFlow n s t l g) (hp : Pot p l f) :
    costF l f + (p t - p s) * (net s l g - net s l f) ≤ costF l g := by
  have h := rcF_le p l f g hf.1 hg.1 hp
  rw [cost_rc p l f, cost_rc p l g, cross_flow p hs ht hst ha hf, cross_flow p hs ht hst ha hg, Int.mul_sub, Int.sub_mul, Int.sub_mul]
  omega
/-- c is the least cost of a flow of value v, with potentials that prove it. -/
def MinC (n s t : Nat) (l : List Arc) (v c : Int) : Prop := ∃ (f : List Int) (p : Int → Int), isFlow n s t l f ∧ Pot p l f ∧ net s l f = v ∧ costF l f = c
theorem MinC.le {n s t : Nat} {l : List Arc} {v c : Int} {g : List Int} (h : MinC n s t l v c) (hs : s < n) (ht : t < n) (hst : s ≠ t) (ha : okArcs n l) (hg : isFlow n s t l g) (hv : net s l g = v) : c ≤ costF l g := by
  obtain ⟨f, p, h1, h2, h3, rfl⟩ := h
  have := pot_le hs ht hst ha h1 hg h2
  rw [h3, hv, Int.sub_self, Int.mul_zero] at this
  omega
theorem MinC.unique {n s t : Nat} {l : List Arc} {v c d : Int} (h : MinC n s t l v c) (g : MinC n s t l v d) (hs : s < n) (ht : t < n) (hst : s ≠ t) (ha : okArcs n l) : c = d := by
  obtain ⟨f, p, h1, h2, h3, h4⟩ := id h
  obtain ⟨f', p', g1, g2, g3, g4⟩ := id g
  have a1 := h.le hs ht hst ha g1 g3
  have a2 := g.le hs ht hst ha h1 h3
  omega
/-- Each further unit costs at least as much as the one before it. -/
theorem MinC.convex {n s t : Nat} {l : List Arc} {v c0 c1 c2 : Int} (h0 : MinC n s t l (v - 1) c0) (h1 : MinC n s t l v c1) (h2 : MinC n s t l (v + 1) c2) (hs : s < n) (ht : t < n) (hst : s ≠ t) (ha : okArcs n l) : c1 - c0 ≤ c2 - c1 := by
  obtain ⟨f0, -, a1, -, a3, rfl⟩ := h0
  obtain ⟨f1, p, b1, b2, b3, rfl⟩ := h1
  obtain ⟨f2, -, e1, -, e3, rfl⟩ := h2
  have k0 := pot_le hs ht hst ha b1 a1 b2
  have k2 := pot_le hs ht hst ha b1 e1 b2
  rw [a3, b3] at k0
  rw [e3, b3] at k2
  have q0 : v - 1 - v = -1 := by omega
  have q2 : v + 1 - v = 1 := by omega
  rw [q0] at k0
  rw [q2] at k2
  omega
/-- The value of a flow is at most the greatest. -/
theorem MinC.most {n s t : Nat} {l : List Arc} {v c w : Int} (h : MinC n s t l v c) (g : Opt n s t l w) (hs : s < n) (ha : okArcs n l) : v ≤ w := by
  obtain ⟨f, -, h1, -, rfl, -⟩ := h
  obtain ⟨-, S, -, -, g2, g3, -, g5⟩ := g
  rw [← g5]; exact value_le hs ha h1 g2 g3
def okCost (a : Arc) : Prop := a.2.2.1 ≤ 1000000 ∧ 0 ≤ a.2.2.2 ∧ a.2.2.2 ≤ 1000
def okCosts (l : List Arc) : Prop := ∀ a ∈ l, okCost a
theorem cost_bound : ∀ {l : List Arc} {f : List Int}, okCosts l → within l f → 0 ≤ costF l f ∧ costF l f ≤ (l.length : Int) * 1000000000
  | [], [], _, _ => ⟨Int.le_refl _, Int.le_refl _⟩
  | a :: l, f :: g, ha, h => by
    have ih := cost_bound (fun b hb => ha b (List.mem_cons_of_mem _ hb)) h.2
    have h1 := h.1
    have h2 := ha a (List.mem_cons_self ..)
    unfold okCost at h2
    have b0 : 0 ≤ f * a.2.2.2 := Int.mul_nonneg h1.1 h2.2.1
    have b1 : f * a.2.2.2 ≤ 1000000 * 1000 := Int.mul_le_mul (by omega) h2.2.2 h2.2.1 (by omega)
    dsimp only [costF]
    rw [List.length_cons, Int.natCast_add, Int.add_mul]
    omega
  | [], _ :: _, _, h => h.elim
  | _ :: _, [], _, h => h.elim
theorem cost_zero (l : List Arc) : costF l (List.replicate l.length 0) = 0 := by
  induction l with
  | nil => rfl
  | cons a l ih =>
    rw [List.length_cons, List.replicate_succ]
    dsimp only [costF]
    rw [ih]; omega
theorem cost_snoc : ∀ {l : List Arc} {f : List Int} (a : Arc) (v : Int), f.length = l.length → costF (l ++ [a]) (f ++ [v]) = costF l f + v * a.2.2.2
  | [], [], a, v, _ => by simp only [List.nil_append, costF]; omega
  | b :: l, f :: g, a, v, hl => by
    have ih := cost_snoc (l := l) (f := g) a v (by simpa using hl)
    simp only [List.cons_append, costF, ih]; omega
  | [], _ :: _, _, _, h => by simp at h
  | _ :: _, [], _, _, h => by simp at h
theorem pot_iff {p : Int → Int} : ∀ {l : List Arc} {f : List Int}, f.length = l.length →
    (Pot p l f ↔ ∀ i, i < l.length → (f.getD i 0 < (at' l i).2.2.1 → 0 ≤ rc p (at' l i)) ∧ (0 < f.getD i 0 → rc p (at' l i) ≤ 0))
  | [], [], _ => by simp [Pot]
  | a :: l, f :: g, hl => by
    simp only [Pot]
    rw [pot_iff (l := l) (f := g) (by simpa using hl)]
    constructor
    · rintro ⟨h1, h3⟩ i hi
      cases i with
      | zero => exact h1
      | succ i => exact h3 i (by simpa using hi)
    · intro h2
      exact ⟨h2 0 (by simp), fun i hi => h2 (i + 1) (by simpa using hi)⟩
  | [], _ :: _, h => by simp at h
  | _ :: _, [], h => by simp at h

/-! Other costs. -/
/-- All costs times k. -/
def scaleA (k : Int) (a : Arc) : Arc := (a.1, a.2.1, a.2.2.1, k * a.2.2.2)
/-- b more on each arc from s. -/
def dearA (s b : Int) (a : Arc) : Arc := (a.1, a.2.1, a.2.2.1, if a.1 = s then a.2.2.2 + b else a.2.2.2)
/-- The same arcs, but for the costs. -/
def likeA (g : Arc → Arc) : Prop := ∀ a, (g a).1 = a.1 ∧ (g a).2.1 = a.2.1 ∧ (g a).2.2.1 = a.2.2.1
theorem like_scale (k : Int) : likeA (scaleA k) := fun _ => ⟨rfl, rfl, rfl⟩
theorem like_dear (s b : Int) : likeA (dearA s b) := fun _ => ⟨rfl, rfl, rfl⟩
theorem net_like {g : Arc → Arc} (hg : likeA g) (x : Int) : ∀ (l : List Arc) (f : List Int), net x (l.map g) f = net x l f
  | a :: l, f :: fs => by
    obtain ⟨h1, h2, h3⟩ := hg a
    rw [List.map_cons]; dsimp only [net]; rw [h1, h2, net_like hg x l fs]
  | [], f => by cases f <;> rfl
  | _ :: _, [] => rfl
theorem within_like {g : Arc → Arc} (hg : likeA g) : ∀ (l : List Arc) (f : List Int), within (l.map g) f ↔ within l f
  | a :: l, f :: fs => by
    obtain ⟨h1, h2, h3⟩ := hg a
    rw [List.map_cons]; dsimp only [within]; rw [h3, within_like hg l fs]
  | [], f => by cases f <;> exact Iff.rfl
  | _ :: _, [] => Iff.rfl
theorem flow_like {g : Arc → Arc} (hg : likeA g) {n s t : Nat} {l : List Arc} {f : List Int} : isFlow n s t (l.map g) f ↔ isFlow n s t l f := by
  unfold isFlow
  rw [within_like hg]
  simp only [net_like hg]
theorem okArcs_like {g : Arc → Arc} (hg : likeA g) {n : Nat} {l : List Arc} (h : okArcs n l) : okArcs n (l.map g) := by
  intro a hm
  obtain ⟨b, hb, rfl⟩ := List.mem_map.1 hm
  obtain ⟨h1, h2, h3⟩ := hg b
  have := h b hb
  unfold okArc at this ⊢
  rw [h1, h2, h3]; exact this
theorem cost_scale (k : Int) : ∀ (l : List Arc) (f : List Int), costF (l.map (scaleA k)) f = k * costF l f
  | a :: l, f :: fs => by
    rw [List.map_cons]; dsimp only [costF, scaleA]; rw [cost_scale k l fs, Int.mul_add, Int.mul_left_comm]
  | [], f => by cases f <;> (dsimp only [List.map, costF]; omega)
  | _ :: _, [] => by dsimp only [List.map, costF]; omega
/-- No arc leads to s. -/
def noBack (s : Int) (l : List Arc) : Prop := ∀ a ∈ l, a.2.1 ≠ s
theorem cost_dear (s b : Int) : ∀ (l : List Arc) (f : List Int), noBack s l → costF (l.map (dearA s b)) f = costF l f + net s l f * b
  | a :: l, f :: fs, h => by
    have ih := cost_dear s b l fs fun x hx => h x (List.mem_cons_of_mem _ hx)
    have hn := h a (List.mem_cons_self ..)
    rw [List.map_cons]; dsimp only [costF, dearA, net]
    rw [ih, if_neg hn]
    split
    · rw [Int.mul_add, Int.add_mul, Int.sub_mul]; omega
    · rw [Int.add_mul]; omega
  | [], f, _ => by cases f <;> (dsimp only [List.map, costF, net]; omega)
  | _ :: _, [], _ => by dsimp only [List.map, costF, net]; omega
theorem MinC.scale {n s t : Nat} {l : List Arc} {v c d k : Int} (h : MinC n s t l v c) (g : MinC n s t (l.map (scaleA k)) v d) (hk : 0 ≤ k) (hs : s < n) (ht : t < n) (hst : s ≠ t) (ha : okArcs n l) : d = k * c := by
  obtain ⟨f, p, h1, h2, h3, h4⟩ := id h
  obtain ⟨f', p', g1, g2, g3, g4⟩ := id g
  have a1 := h.le hs ht hst ha ((flow_like (like_scale k)).1 g1) (by rw [← net_like (like_scale k)]; exact g3)
  have a2 := g.le hs ht hst (okArcs_like (like_scale k) ha) ((flow_like (like_scale k)).2 h1) (by rw [net_like (like_scale k)]; exact h3)
  rw [cost_scale, h4] at a2
  rw [cost_scale] at g4
  have := Int.mul_le_mul_of_nonneg_left a1 hk
  omega
theorem MinC.dear {n s t : Nat} {l : List Arc} {v c d b : Int} (h : MinC n s t l v c) (g : MinC n s t (l.map (dearA s b)) v d) (hb : noBack s l) (hs : s < n) (ht : t < n) (hst : s ≠ t) (ha : okArcs n l) : d = c + v * b := by
  obtain ⟨f, p, h1, h2, h3, h4⟩ := id h
  obtain ⟨f', p', g1, g2, g3, g4⟩ := id g
  have q3 : net s l f' = v := by rw [← net_like (like_dear s b)]; exact g3
  have a1 := h.le hs ht hst ha ((flow_like (like_dear s b)).1 g1) q3
  have a2 := g.le hs ht hst (okArcs_like (like_dear s b) ha) ((flow_like (like_dear s b)).2 h1) (by rw [net_like (like_dear s b)]; exact h3)
  rw [cost_dear _ _ _ _ hb, h4, h3] at a2
  rw [cost_dear _ _ _ _ hb, q3] at g4
  omega
end NetM

namespace NetM

/-- The cost of arc number i, or (from the number of arcs on) of arc i back. -/
def cR (A : List Arc) (i : Nat) : Int := if i < A.length then (at' A i).2.2.2 else -(at' A (i - A.length)).2.2.2
/-- No arc with room is cheaper than the difference. -/
def PotR (A : List Arc) (F : List Int) (N : Nat) (P : Nat → Int) : Prop := ∀ i x z : Nat, x < N → z < N → Room A F i x z → P z ≤ P x + cR A i
def far : Int := 1099511627776
/-- Potentials as they stand before a search: 0 at s, none below 0, none high. -/
def PotB (A : List Arc) (F : List Int) (N s t : Nat) (P : Nat → Int) : Prop :=
  PotR A F N P ∧ P s = 0 ∧ (∀ x, x < N → 0 ≤ P x) ∧ P t ≤ 700000 ∧ ∀ x, x < N → P x - P t ≤ 700000
theorem PotB.le {A F N s t P} (h : PotB A F N s t P) {x : Nat} (hx : x < N) : P x ≤ 1400000 := by
  have := h.2.2.2.2 x hx
  have := h.2.2.2.1
  omega
/-- What holds of the search. -/
def DS (A : List Arc) (F : List Int) (N s : Nat) (P : Nat → Int) (D Y : List Int) : Prop :=
  D.length = N ∧ Y.length = N ∧ D.getD s 0 = 0 ∧ (∀ x, x < N → P x ≤ D.getD x 0 ∧ D.getD x 0 ≤ far) ∧
  ∃ (τ : Nat → Nat) (T : Nat), (∀ x, τ x < T) ∧ ∀ x, x < N → D.getD x 0 < far → x ≠ s →
    ∃ i p : Nat, Y.getD x 0 = (i : Int) ∧ Room A F i p x ∧ p < N ∧ D.getD p 0 < far ∧ D.getD p 0 + cR A i ≤ D.getD x 0 ∧ (D.getD p 0 + cR A i = D.getD x 0 → τ p < τ x)
def sumD : List Int → Int
  | [] => 0
  | d :: D => d + sumD D
theorem sumD_set : ∀ (D : List Int) (z : Nat) (v : Int), z < D.length → sumD (D.set z v) = sumD D - D.getD z 0 + v
  | [], z, v, h => by simp at h
  | d :: D, 0, v, _ => by rw [List.set_cons_zero]; dsimp only [sumD]; simp only [List.getD_cons_zero]; omega
  | d :: D, z + 1, v, h => by
    rw [List.set_cons_succ]; dsimp only [sumD]
    rw [sumD_set D z v (by simpa using h)]; simp only [List.getD_cons_succ]; omega
theorem sumD_nonneg : ∀ (D : List Int), (∀ x, x < D.length → 0 ≤ D.getD x 0) → 0 ≤ sumD D
  | [], _ => Int.le_refl _
  | d :: D, h => by
    have h0 : 0 ≤ d := h 0 (by simp)
    have := sumD_nonneg D fun x hx => by simpa using h (x + 1) (by simpa using hx)
    dsimp only [sumD]; omega
theorem sumD_le : ∀ (D : List Int), (∀ x, x < D.length → D.getD x 0 ≤ far) → sumD D ≤ (D.length : Int) * far
  | [], _ => by simp [sumD]
  | d :: D, h => by
    have h0 : d ≤ far := h 0 (by simp)
    have := sumD_le D fun x hx => by simpa using h (x + 1) (by simpa using hx)
    dsimp only [sumD]
    rw [List.length_cons, Int.natCast_add, Int.add_mul]; omega
/-- A node is reached cheaper. -/
theorem DS.relax {A F N s P D Y} (h : DS A F N s P D Y) (hP : PotR A F N P) (h0 : P s = 0) {i x z : Nat} (hx : x < N) (hz : z < N) (hr : Room A F i x z) (hd : D.getD x 0 < far) (hlt : D.getD x 0 + cR A i < D.getD z 0) :
    z ≠ s ∧ x ≠ z ∧ 0 ≤ D.getD x 0 + cR A i - P z ∧ DS A F N s P (D.set z (D.getD x 0 + cR A i)) (Y.set z (i : Int)) ∧ sumD (D.set z (D.getD x 0 + cR A i)) < sumD D := by
  obtain ⟨h1, h2, h3, h4, τ, T, hT, h5⟩ := h
  have hp := hP i x z hx hz hr
  have hzs : z ≠ s := by
    rintro rfl
    have := (h4 x hx).1
    omega
  have hxz : x ≠ z := by
    rintro rfl; omega
  have ez : (D.set z (D.getD x 0 + cR A i)).getD z 0 = D.getD x 0 + cR A i := getD_set_same _ (by omega)
  have en : ∀ y, y ≠ z → (D.set z (D.getD x 0 + cR A i)).getD y 0 = D.getD y 0 := fun y hy => getD_set_ne _ (fun e => hy e.symm)
  have hx4 := h4 x hx
  have hz4 := h4 z hz
  refine ⟨hzs, hxz, by omega, ⟨by rw [List.length_set]; exact h1, by rw [List.length_set]; exact h2, by rw [en s fun e => hzs e.symm]; exact h3, fun y hy => ?_, fun y => if y = z then T else τ y, T + 1, fun y => ?_, fun y hy hyf hys => ?_⟩, ?_⟩
  · by_cases c : y = z
    · subst c; rw [ez]; omega
    · rw [en y c]; exact h4 y hy
  · have := hT y
    show (if y = z then T else τ y) < T + 1
    split <;> omega
  · by_cases c : y = z
    · subst c
      refine ⟨i, x, getD_set_same _ (by omega), hr, hx, by rw [en x hxz]; exact hd, by rw [en x hxz, ez]; exact Int.le_refl _, fun _ => ?_⟩
      show (if x = y then T else τ x) < if y = y then T else τ y
      rw [if_neg hxz, if_pos rfl]; exact hT x
    · rw [en y c] at hyf
      obtain ⟨j, p, g1, g2, g3, g4, g5, g6⟩ := h5 y hy hyf hys
      by_cases cp : p = z
      · subst cp
        refine ⟨j, p, by rw [getD_set_ne _ fun e => c e.symm]; exact g1, g2, g3, by rw [ez]; omega, by rw [ez, en y c]; omega, fun e => ?_⟩
        rw [ez, en y c] at e; omega
      · refine ⟨j, p, by rw [getD_set_ne _ fun e => c e.symm]; exact g1, g2, g3, by rw [en p cp]; exact g4, by rw [en p cp, en y c]; exact g5, fun e => ?_⟩
        rw [en p cp, en y c] at e
        show (if p = z then T else τ p) < if y = z then T else τ y
        rw [if_neg cp, if_neg c]; exact g6 e
  · rw [sumD_set D z _ (by omega)]; omega
theorem DS.start {A F N s P} (hs : s < N) (h0 : P s = 0) (hf : ∀ x, x < N → P x ≤ far) : DS A F N s P ((List.replicate N far).set s 0) (List.replicate N 0) := by
  have en : ∀ y, y ≠ s → y < N → ((List.replicate N far).set s 0).getD y 0 = far := fun y hy hN => by rw [getD_set_ne _ fun e => hy e.symm]; simp [List.getD, hN]
  have es : ((List.replicate N far).set s 0).getD s 0 = 0 := getD_set_same _ (by simpa using hs)
  refine ⟨by simp, by simp, es, fun x hx => ?_, fun _ => 0, 1, fun _ => Nat.one_pos, fun x hx hd hne => ?_⟩
  · by_cases c : x = s
    · subst c; rw [es, h0]; exact ⟨Int.le_refl _, by decide⟩
    · rw [en x c hx]; exact ⟨hf x hx, Int.le_refl _⟩
  · rw [en x hne hx] at hd; omega
/-- Of the first k arcs none makes a node cheaper. -/
def ClosedD (A : List Arc) (F D : List Int) (k : Nat) : Prop := ∀ j, j < k → j < A.length → ∀ x z : Nat, (at' A j).1 = (x : Int) → (at' A j).2.1 = (z : Int) →
  (F.getD j 0 < (at' A j).2.2.1 → D.getD x 0 < far → D.getD z 0 ≤ D.getD x 0 + (at' A j).2.2.2) ∧
  (0 < F.getD j 0 → D.getD z 0 < far → D.getD x 0 ≤ D.getD z 0 - (at' A j).2.2.2)
theorem ClosedD.room {A F D N} (h : ClosedD A F D A.length) {i x z : Nat} (hr : Room A F i x z) (hx : D.getD x 0 < far) (_ : x < N) : D.getD z 0 ≤ D.getD x 0 + cR A i := by
  rcases hr with ⟨h1, h2, h3, h4⟩ | ⟨j, rfl, h1, h2, h3, h4⟩
  · unfold cR; rw [if_pos h1]; exact (h i h1 h1 x z h2 h3).1 h4 hx
  · unfold cR; rw [if_neg (by omega), Nat.add_sub_cancel_left]; exact (h j h1 h1 z x h3 h2).2 h4 hx
/-- Which nodes were reached. -/
def reachedS (D : List Int) : List Bool := D.map fun d => decide (d < far)
theorem reachedS_get {D : List Int} {x : Nat} (hx : x < D.length) : (getB (reachedS D) x = true ↔ D.getD x 0 < far) := by
  unfold getB reachedS
  simp [List.getD, hx]
/-- The way back ends: ranks. -/
theorem DS.tree {A F N s P D Y} (h : DS A F N s P D Y) (hP : PotR A F N P) : ∃ rk, Tree A F N s (reachedS D) Y rk := by
  obtain ⟨h1, h2, h3, h4, τ, T, hT, h5⟩ := h
  refine ⟨fun x => (D.getD x 0 - P x).toNat * T + τ x, fun y hy sy hne => ?_⟩
  rw [reachedS_get (by omega)] at sy
  obtain ⟨i, p, g1, g2, g3, g4, g5, g6⟩ := h5 y hy sy hne
  refine ⟨i, p, g1, g2, g3, by rw [reachedS_get (by omega)]; exact g4, ?_⟩
  have hp := hP i p y g3 hy g2
  have k1 := (h4 p g3).1
  have k2 := (h4 y hy).1
  have tp := hT p
  show (D.getD p 0 - P p).toNat * T + τ p < (D.getD y 0 - P y).toNat * T + τ y
  by_cases c : D.getD p 0 + cR A i = D.getD y 0
  · have t1 := g6 c
    have : (D.getD p 0 - P p).toNat ≤ (D.getD y 0 - P y).toNat := by omega
    have := Nat.mul_le_mul_right T this
    omega
  · have : (D.getD p 0 - P p).toNat + 1 ≤ (D.getD y 0 - P y).toNat := by omega
    have := Nat.mul_le_mul_right T this
    rw [Nat.add_mul, Nat.one_mul] at this
    omega
/-- How many nodes have a lower rank. -/
def below (rk : Nat → Nat) (k : Nat) : Nat → Nat
  | 0 => 0
  | n + 1 => below rk k n + if rk n < k then 1 else 0
theorem below_le (rk : Nat → Nat) (k : Nat) : ∀ n, below rk k n ≤ n
  | 0 => Nat.le_refl _
  | n + 1 => by have := below_le rk k n; unfold below; split <;> omega
theorem below_mono (rk : Nat → Nat) {k l : Nat} (h : k ≤ l) : ∀ n, below rk k n ≤ below rk l n
  | 0 => Nat.le_refl _
  | n + 1 => by
    have := below_mono rk h n
    unfold below; split <;> split <;> omega
theorem below_lt (rk : Nat → Nat) {l p : Nat} (h : rk p < l) : ∀ n, p < n → below rk (rk p) n + 1 ≤ below rk l n
  | 0, hp => by omega
  | n + 1, hp => by
    unfold below
    by_cases c : p = n
    · subst c
      have := below_mono rk (Nat.le_of_lt h) p
      rw [if_neg (Nat.lt_irrefl _), if_pos h]; omega
    · have := below_lt rk h n (by omega)
      split <;> split <;> omega
/-- No distance is high. -/
theorem dist_bound {A F N s P D Y} (h : DS A F N s P D Y) (hP : PotR A F N P) (hc : ClosedD A F D A.length) (hk : okCosts A) {x : Nat} (hx : x < N) (hd : D.getD x 0 < far) : D.getD x 0 ≤ (N : Int) * 1000 := by
  obtain ⟨rk, hT⟩ := h.tree hP
  obtain ⟨h1, h2, h3, h4, -⟩ := h
  have key : ∀ k y, rk y ≤ k → y < N → D.getD y 0 < far → D.getD y 0 ≤ (below rk (rk y) N : Int) * 1000 := by
    intro k
    induction k with
    | zero =>
      intro y hy hyN hyf
      by_cases c : y = s
      · subst c; rw [h3]; omega
      · obtain ⟨i, p, -, -, -, -, g⟩ := hT y hyN ((reachedS_get (by omega)).2 hyf) c
        omega
    | succ k ih =>
      intro y hy hyN hyf
      by_cases c : y = s
      · subst c; rw [h3]; omega
      · obtain ⟨i, p, g1, g2, g3, g4, g5⟩ := hT y hyN ((reachedS_get (by omega)).2 hyf) c
        have gp := (reachedS_get (by omega)).1 g4
        have i1 := ih p (by omega) g3 gp
        have i2 := hc.room (N := N) g2 gp g3
        have i3 := below_lt rk g5 N g3
        have i4 : cR A i ≤ 1000 := by
          rcases g2 with ⟨q1, -⟩ | ⟨j, rfl, q1, -⟩
          · unfold cR; rw [if_pos q1]
            have hm : at' A i ∈ A := by unfold at'; simp [List.getD, q1]
            exact (hk _ hm).2.2
          · unfold cR; rw [if_neg (by omega), Nat.add_sub_cancel_left]
            have hm : at' A j ∈ A := by unfold at'; simp [List.getD, q1]
            have := (hk _ hm).2.1
            omega
        omega
  have := key (rk x) x (Nat.le_refl _) hx hd
  have := below_le rk (rk x) N
  omega
/-- Where the sink is not reached, the flow is greatest. -/
theorem dist_tight {A F N s P D Y} (h : DS A F N s P D Y) (hP : PotR A F N P) (hc : ClosedD A F D A.length) (hk : okCosts A) (ha : okArcs N A) (hw : within A F) (hN : N ≤ 700) : tight (cutOf (reachedS D)) A F := by
  have hl := within_length hw
  rw [tight_iff hl]
  intro i hi
  have hm : at' A i ∈ A := by unfold at'; simp [List.getD, hi]
  obtain ⟨a1, a2, a3, a4, a5, a6⟩ := ha _ hm
  have hki := hk _ hm
  unfold okCost at hki
  obtain ⟨x, hx⟩ : ∃ x : Nat, (at' A i).1 = x := ⟨(at' A i).1.toNat, by omega⟩
  obtain ⟨z, hz⟩ : ∃ z : Nat, (at' A i).2.1 = z := ⟨(at' A i).2.1.toNat, by omega⟩
  have hb := (within_iff.1 hw).2 i hi
  have hDl := h.1
  rw [hx, hz]
  have e1 : cutOf (reachedS D) (x : Int) = getB (reachedS D) x := by simp [cutOf]
  have e2 : cutOf (reachedS D) (z : Int) = getB (reachedS D) z := by simp [cutOf]
  rw [e1, e2]
  have cl := hc i hi hi x z hx hz
  unfold far at cl
  constructor
  · intro sx sz
    have dx := (reachedS_get (by omega)).1 sx
    have bx := dist_bound h hP hc hk (by omega) dx
    rcases Int.lt_or_le (F.getD i 0) (at' A i).2.2.1 with hlt | hge
    · have := cl.1 hlt (by unfold far at dx; omega)
      rw [(reachedS_get (by omega)).2 (by unfold far; omega)] at sz; cases sz
    · omega
  · intro sx sz
    have dz := (reachedS_get (by omega)).1 sz
    have bz := dist_bound h hP hc hk (by omega) dz
    rcases Int.lt_or_le 0 (F.getD i 0) with hlt | hge
    · have := cl.2 hlt (by unfold far at dz; omega)
      rw [(reachedS_get (by omega)).2 (by unfold far; omega)] at sx; cases sx
    · omega

/-! The way back, with any amount to begin with. -/
def WayM (A : List Arc) (F : List Int) (N s t : Nat) (S : List Bool) (Y : List Int) (rk : Nat → Nat) (M most : Int) (x : Nat) : Prop :=
  x < N ∧ getB S x = true ∧ 0 < most ∧ most ≤ M ∧ ∃ k, rk x ≤ k ∧ bott A F Y s (rk t) M t = bott A F Y s k most x
theorem WayM.start {A F N s t S Y rk M} (ht : t < N) (st : getB S t = true) (hM : 0 < M) : WayM A F N s t S Y rk M M t := ⟨ht, st, hM, Int.le_refl _, rk t, Nat.le_refl _, rfl⟩
theorem WayM.step {A F N s t S Y rk M most x} (h : WayM A F N s t S Y rk M most x) (hT : Tree A F N s S Y rk) (hne : x ≠ s) :
    WayM A F N s t S Y rk M (min most (resP A F Y x)) (predP A Y x) ∧ rk (predP A Y x) < rk x := by
  obtain ⟨h1, h2, h3, h4, k, hk, he⟩ := h
  obtain ⟨g1, g2, g3, g4, -⟩ := hT.at h1 h2 hne
  refine ⟨⟨g2, g3, by omega, by omega, k - 1, by omega, ?_⟩, g4⟩
  obtain ⟨k', rfl⟩ : ∃ k', k = k' + 1 := ⟨k - 1, by omega⟩
  rw [he, Nat.add_sub_cancel]
  conv => lhs; unfold bott
  rw [if_neg hne]
theorem WayM.done {A F N s t S Y rk M most} (h : WayM A F N s t S Y rk M most s) : 0 < most ∧ most ≤ M ∧ bott A F Y s (rk t) M t = most := by
  obtain ⟨-, -, h3, h4, k, -, he⟩ := h
  exact ⟨h3, h4, by rw [he, bott_s]⟩
theorem AugM.start {A F N s t S Y rk M most} (ht : t < N) (st : getB S t = true) (hm : 0 < most) (he : bott A F Y s (rk t) M t = most) (hw : within A F) : Aug A F N s t S Y rk most F t :=
  ⟨ht, st, hm, hw, fun y => by omega, fun j _ h => absurd rfl h, rk t, _, Nat.le_refl _, he.symm⟩
/-- The potentials behind the search. -/
def nextP (P : Nat → Int) (D : List Int) (t : Nat) (x : Nat) : Int := min (D.getD x 0) (P x + D.getD t 0 - P t)
/-- The arcs whose flow was changed are as dear as the difference; x lies on the way. -/
def Fit (A : List Arc) (F : List Int) (P : Nat → Int) (D : List Int) (t : Nat) (G : List Int) (x : Nat) : Prop :=
  D.getD x 0 < far ∧ D.getD x 0 - P x ≤ D.getD t 0 - P t ∧
  ∀ j, j < A.length → G.getD j 0 ≠ F.getD j 0 → ∀ a b : Nat, (at' A j).1 = (a : Int) → (at' A j).2.1 = (b : Int) → nextP P D t b = nextP P D t a + (at' A j).2.2.2
theorem Fit.start {A F P D t} (h : D.getD t 0 < far) : Fit A F P D t F t := ⟨h, Int.le_refl _, fun _ _ h => absurd rfl h⟩
/-- What the search's parent costs, when it has ended. -/
theorem DS.parent {A F N s P D Y} (h : DS A F N s P D Y) (hP : PotR A F N P) (hc : ClosedD A F D A.length) {x : Nat} (hx : x < N) (hd : D.getD x 0 < far) (hne : x ≠ s) :
    D.getD (predP A Y x) 0 < far ∧ D.getD (predP A Y x) 0 - P (predP A Y x) ≤ D.getD x 0 - P x ∧
    ∃ i : Nat, Y.getD x 0 = (i : Int) ∧ D.getD x 0 = D.getD (predP A Y x) 0 + cR A i := by
  obtain ⟨h1, h2, h3, h4, τ, T, hT, h5⟩ := h
  obtain ⟨i, p, g1, g2, g3, g4, g5, g6⟩ := h5 x hx hd hne
  have ep : predP A Y x = p := by
    rcases g2 with ⟨q1, q2, q3, q4⟩ | ⟨j, rfl, q1, q2, q3, q4⟩
    · unfold predP; rw [g1, Int.toNat_natCast, if_pos q1, q2]; omega
    · unfold predP; rw [g1, Int.toNat_natCast, if_neg (by omega), Nat.add_sub_cancel_left, q2]; omega
  rw [ep]
  have k1 := hc.room (N := N) g2 g4 g3
  have k2 := hP i p x g3 hx g2
  exact ⟨g4, by omega, i, g1, by omega⟩
theorem Fit.step {A F P D t G x N s Y} (h : Fit A F P D t G x) (hD : DS A F N s P D Y) (hP : PotR A F N P) (hc : ClosedD A F D A.length) (hx : x < N) (hne : x ≠ s) :
    (∀ i : Nat, Y.getD x 0 = (i : Int) → i < A.length → (at' A i).1 = (predP A Y x : Int) → (at' A i).2.1 = (x : Int) → ∀ v, Fit A F P D t (G.set i v) (predP A Y x)) ∧
    (∀ j : Nat, Y.getD x 0 = ((A.length + j : Nat) : Int) → j < A.length → (at' A j).2.1 = (predP A Y x : Int) → (at' A j).1 = (x : Int) → ∀ v, Fit A F P D t (G.set j v) (predP A Y x)) := by
  obtain ⟨h1, h2, h3⟩ := h
  obtain ⟨g1, g2, i0, g3, g4⟩ := hD.parent hP hc hx h1 hne
  have nx : nextP P D t x = D.getD x 0 := by unfold nextP; omega
  have np : nextP P D t (predP A Y x) = D.getD (predP A Y x) 0 := by unfold nextP; omega
  constructor
  · intro i e1 hi ea eb v
    refine ⟨g1, by omega, fun j hj hne' a b qa qb => ?_⟩
    by_cases c : i = j
    · subst c
      have e2 : i0 = i := by omega
      subst e2
      have ea' : a = predP A Y x := by omega
      have eb' : b = x := by omega
      rw [ea', eb', nx, np, g4]; unfold cR; rw [if_pos hi]
    · rw [getD_set_ne _ c] at hne'; exact h3 j hj hne' a b qa qb
  · intro i e1 hi ea eb v
    refine ⟨g1, by omega, fun j hj hne' a b qa qb => ?_⟩
    by_cases c : i = j
    · subst c
      have e2 : i0 = A.length + i := by omega
      subst e2
      have ea' : b = predP A Y x := by omega
      have eb' : a = x := by omega
      rw [ea', eb', nx, np, g4]; unfold cR; rw [if_neg (by omega), Nat.add_sub_cancel_left]; omega
    · rw [getD_set_ne _ c] at hne'; exact h3 j hj hne' a b qa qb
/-- The way is whole: potentials for the new flow. -/
theorem Fit.done {A F P D t G x N s Y} (h : Fit A F P D t G x) (hD : DS A F N s P D Y) (hB : PotB A F N s t P) (hc : ClosedD A F D A.length) (hk : okCosts A) (hN : N ≤ 700) (hs : s < N) (ht : t < N) (htf : D.getD t 0 < far) (hwf : within A F) (hwg : within A G) :
    PotB A G N s t (nextP P D t) := by
  obtain ⟨-, -, h3⟩ := h
  have hB' := id hB
  obtain ⟨b1, b2, b3, b4, b5⟩ := hB
  have hDt := dist_bound hD b1 hc hk ht htf
  have hD' := id hD
  obtain ⟨d1, d2, d3, d4, -⟩ := hD
  have q1 := d4 t ht
  have q2 := d4 s hs
  have hgl := within_length hwg
  have hfl := within_length hwf
  have tt : nextP P D t t = D.getD t 0 := by unfold nextP; omega
  have keep : ∀ i x z : Nat, x < N → z < N → Room A F i x z → nextP P D t z ≤ nextP P D t x + cR A i := by
    intro i x z hx hz hr
    have k1 := b1 i x z hx hz hr
    have k2 := d4 x hx
    unfold nextP
    by_cases c : D.getD x 0 < far
    · have k3 := hc.room (N := N) hr c hx
      omega
    · have k4 := hB'.le hx
      have k5 := b3 t ht
      have k6 : D.getD x 0 = far := by omega
      rw [k6]
      have k8 : P x + D.getD t 0 - P t ≤ far := by unfold far; omega
      omega
  refine ⟨fun i x z hx hz hr => ?_, ?_, fun x hx => ?_, ?_, fun x hx => ?_⟩
  · by_cases c : Room A F i x z
    · exact keep i x z hx hz c
    · rcases hr with ⟨r1, r2, r3, r4⟩ | ⟨j, rfl, r1, r2, r3, r4⟩
      · have hne : G.getD i 0 ≠ F.getD i 0 := fun e => c (.inl ⟨r1, r2, r3, by rw [← e]; exact r4⟩)
        have := h3 i r1 hne x z r2 r3
        unfold cR; rw [if_pos r1]; omega
      · have hne : G.getD j 0 ≠ F.getD j 0 := fun e => c (.inr ⟨j, rfl, r1, r2, r3, by rw [← e]; exact r4⟩)
        have := h3 j r1 hne z x r3 r2
        unfold cR; rw [if_neg (by omega), Nat.add_sub_cancel_left]; omega
  · unfold nextP; omega
  · have := d4 x hx
    have := b3 x hx
    unfold nextP; omega
  · rw [tt]; omega
  · rw [tt]
    have := b5 x hx
    unfold nextP; omega
/-- Without a flow there are potentials: 0 everywhere. -/
theorem PotB.start {A : List Arc} {N s t : Nat} (hk : okCosts A) : PotB A (List.replicate A.length 0) N s t fun _ => 0 := by
  refine ⟨fun i x z hx hz hr => ?_, rfl, fun _ _ => Int.le_refl _, (by decide : (0 : Int) ≤ 700000), fun _ _ => (by decide : (0 : Int) - 0 ≤ 700000)⟩
  show (0 : Int) ≤ 0 + cR A i
  rcases hr with ⟨h1, -⟩ | ⟨j, rfl, h1, h2, h3, h4⟩
  · have hm : at' A i ∈ A := by unfold at'; simp [List.getD, h1]
    have := (hk _ hm).2.1
    unfold cR; rw [if_pos h1]; omega
  · have e : (List.replicate A.length (0 : Int)).getD j 0 = 0 := by simp [List.getD, h1]
    rw [e] at h4; omega
/-- Potentials as the document has them. -/
theorem PotR.pot {A F N P} (h : PotR A F N P) (ha : okArcs N A) (hw : within A F) : Pot (fun x => P x.toNat) A F := by
  rw [pot_iff (within_length hw)]
  intro i hi
  have hm : at' A i ∈ A := by unfold at'; simp [List.getD, hi]
  obtain ⟨a1, a2, a3, a4, -⟩ := ha _ hm
  obtain ⟨x, hx⟩ : ∃ x : Nat, (at' A i).1 = x := ⟨(at' A i).1.toNat, by omega⟩
  obtain ⟨z, hz⟩ : ∃ z : Nat, (at' A i).2.1 = z := ⟨(at' A i).2.1.toNat, by omega⟩
  unfold rc
  rw [hx, hz]
  simp only [Int.toNat_natCast]
  constructor
  · intro hlt
    have := h i x z (by omega) (by omega) (.inl ⟨hi, hx, hz, hlt⟩)
    unfold cR at this; rw [if_pos hi] at this; omega
  · intro hlt
    have := h (A.length + i) z x (by omega) (by omega) (.inr ⟨i, rfl, hi, hz, hx, hlt⟩)
    unfold cR at this; rw [if_neg (by omega), Nat.add_sub_cancel_left] at this; omega

/-! Potentials by themselves: the least sums that end in a node. -/
/-- Above P, but for the highest value of it. -/
def PS (N : Nat) (P : Nat → Int) (K : Int) (D : List Int) : Prop := D.length = N ∧ ∀ x, x < N → P x - K ≤ D.getD x 0 ∧ D.getD x 0 ≤ 0
theorem PS.relax {A F N P K D} (h : PS N P K D) (hP : PotR A F N P) {i x z : Nat} (hx : x < N) (hz : z < N) (hr : Room A F i x z) (hlt : D.getD x 0 + cR A i < D.getD z 0) :
    PS N P K (D.set z (D.getD x 0 + cR A i)) ∧ sumD (D.set z (D.getD x 0 + cR A i)) < sumD D := by
  obtain ⟨h1, h2⟩ := h
  have hp := hP i x z hx hz hr
  refine ⟨⟨by rw [List.length_set]; exact h1, fun y hy => ?_⟩, by rw [sumD_set D z _ (by omega)]; omega⟩
  have e1 := h2 x hx
  have e2 := h2 z hz
  by_cases c : y = z
  · subst c; rw [getD_set_same _ (by omega)]; omega
  · rw [getD_set_ne _ fun e => c e.symm]; exact h2 y hy
end NetM

namespace NetM

theorem sumN_nonneg {g : Nat → Int} : ∀ {n : Nat}, (∀ x, x < n → 0 ≤ g x) → 0 ≤ sumN g n
  | 0, _ => by simp [sumN]
  | n + 1, h => by
    have ih := sumN_nonneg (g := g) (n := n) fun x hx => h x (by omega)
    have := h n (by omega)
    simp only [sumN]; omega
theorem sumN_mono {g k : Nat → Int} : ∀ {n : Nat}, (∀ x, x < n → g x ≤ k x) → sumN g n ≤ sumN k n
  | 0, _ => by simp [sumN]
  | n + 1, h => by
    have ih := sumN_mono (g := g) (k := k) (n := n) fun x hx => h x (by omega)
    have := h n (by omega)
    simp only [sumN]; omega
theorem sumN_congr {g k : Nat → Int} : ∀ {n : Nat}, (∀ x, x < n → g x = k x) → sumN g n = sumN k n
  | 0, _ => by simp [sumN]
  | n + 1, h => by
    have ih := sumN_congr (g := g) (k := k) (n := n) fun x hx => h x (by omega)
    have := h n (by omega)
    simp only [sumN]; omega
theorem sumN_pos {g : Nat → Int} {u : Nat} : ∀ {n : Nat}, (∀ x, x < n → 0 ≤ g x) → u < n → 0 < g u → 0 < sumN g n
  | 0, _, h, _ => by omega
  | n + 1, h, hu, hp => by
    have h0 := sumN_nonneg (g := g) (n := n) fun x hx => h x (by omega)
    have h1 := h n (by omega)
    simp only [sumN]
    by_cases e : u = n
    · subst e; omega
    · have := sumN_pos (g := g) (u := u) (n := n) (fun x hx => h x (by omega)) (by omega) hp
      omega
theorem sumN_const (k : Int) : ∀ n : Nat, sumN (fun _ => k) n = k * n
  | 0 => by simp [sumN]
  | n + 1 => by
    have ih := sumN_const k n
    simp only [sumN, ih]
    rw [Int.natCast_add, Int.mul_add]; omega

/-- The nodes of a step. -/
def tn (A : List Arc) (j : Nat) : Nat := (tailS A j).toNat
def hn (A : List Arc) (j : Nat) : Nat := (headS A j).toNat
def okN (n : Nat) (A : List Arc) : Prop := ∀ i, i < A.length → 0 ≤ (at' A i).1 ∧ (at' A i).1 < n ∧ 0 ≤ (at' A i).2.1 ∧ (at' A i).2.1 < n
theorem okN_of {n : Nat} {A : List Arc} (h : okArcs n A) : okN n A := fun i hi => by
  have := okArcs_at h hi
  unfold okArc at this
  omega
theorem tn_is {n : Nat} {A : List Arc} (h : okN n A) {j : Nat} (hj : j < 2 * A.length) : tailS A j = (tn A j : Int) ∧ tn A j < n := by
  have := h (j / 2) (by omega)
  unfold tn tailS
  split <;> omega
theorem hn_is {n : Nat} {A : List Arc} (h : okN n A) {j : Nat} (hj : j < 2 * A.length) : headS A j = (hn A j : Int) ∧ hn A j < n := by
  have := h (j / 2) (by omega)
  unfold hn headS
  split <;> omega
theorem tn_twin (A : List Arc) (j : Nat) : tn A (twin j) = hn A j := by unfold tn hn; rw [tail_twin]
theorem hn_twin (A : List Arc) (j : Nat) : hn A (twin j) = tn A j := by unfold tn hn; rw [head_twin]
theorem twin_twin (j : Nat) : twin (twin j) = j := by unfold twin; split <;> split <;> omega
/-- The cost of a step; its reduced cost. -/
def costS (A : List Arc) (j : Nat) : Int := if j % 2 = 0 then (at' A (j / 2)).2.2.2 else -(at' A (j / 2)).2.2.2
def redS (A : List Arc) (P : List Int) (j : Nat) : Int := costS A j + P.getD (tn A j) 0 - P.getD (hn A j) 0
theorem cost_twin (A : List Arc) (j : Nat) : costS A (twin j) = -costS A j := by
  unfold costS
  rw [twin_half]
  have := twin_mod j
  by_cases e : j % 2 = 0
  · have : ¬ twin j % 2 = 0 := by omega
    simp only [e, this, if_true, if_false]
  · have : twin j % 2 = 0 := by omega
    simp only [e, this, if_true, if_false]; omega
theorem red_twin (A : List Arc) (P : List Int) (j : Nat) : redS A P (twin j) = -redS A P j := by
  unfold redS
  rw [cost_twin, tn_twin, hn_twin]; omega
/-- No step with room has a reduced cost below 0. -/
def Fine (A : List Arc) (F P : List Int) : Prop := ∀ j, j < 2 * A.length → 0 < roomS A F j → 0 ≤ redS A P j
/-- What nodes have too much. -/
def Bal (A : List Arc) (F : List Int) (N : Nat) (X : List Int) : Prop := X.length = N ∧ ∀ x : Nat, x < N → X.getD x 0 = - net x A F

/-! ### Cuts -/
def bareA (a : Arc) : Arc := (a.1, a.2.1, 0, 0)
theorem net_bare (x : Int) : ∀ (l : List Arc) (f : List Int), net x (l.map bareA) f = net x l f
  | a :: l, f :: g => by simp only [List.map_cons, net, bareA, net_bare x l g]
  | [], f => by cases f <;> rfl
  | _ :: _, [] => rfl
theorem cross_bare (c : Int → Bool) : ∀ (l : List Arc) (f : List Int), crossF c (l.map bareA) f = crossF c l f
  | a :: l, f :: g => by simp only [List.map_cons, crossF, bareA, cross_bare c l g]
  | [], f => by cases f <;> rfl
  | _ :: _, [] => rfl
theorem cut_crossN (c : Int → Bool) (n : Nat) (l : List Arc) (f : List Int) (h : okN n l) : cutSum c l f n = crossF c l f := by
  have h1 : okArcs n (l.map bareA) := by
    intro a ha
    obtain ⟨b, hb, rfl⟩ := List.mem_map.1 ha
    obtain ⟨i, hi, rfl⟩ := List.getElem_of_mem hb
    have := h i hi
    rw [show at' l i = l[i] from by simp [at', List.getD, hi]] at this
    unfold okArc bareA
    refine ⟨this.1, this.2.1, this.2.2.1, this.2.2.2, (show (0 : Int) ≤ 0 by decide), (show (0 : Int) ≤ 2147483647 by decide)⟩
  have := cut_cross c n (l.map bareA) f h1
  rw [cross_bare] at this
  rw [← this]
  unfold cutSum
  simp only [net_bare]
theorem cross_nonneg (c : Int → Bool) : ∀ (l : List Arc) (f : List Int), (∀ i, i < l.length → i < f.length → (c (at' l i).1 = true → c (at' l i).2.1 = false → 0 ≤ f.getD i 0) ∧ (c (at' l i).1 = false → c (at' l i).2.1 = true → f.getD i 0 ≤ 0)) → 0 ≤ crossF c l f
  | a :: l, f :: g, h => by
    have ih := cross_nonneg c l g fun i h1 h2 => by
      have := h (i + 1) (by simpa using h1) (by simpa using h2)
      simpa [at'] using this
    have h0 := h 0 (by simp) (by simp)
    simp only [at', List.getD_cons_zero] at h0
    simp only [crossF]
    cases c1 : c a.1 <;> cases c2 : c a.2.1 <;> simp [c1, c2] at h0 ⊢ <;> omega
  | [], f, _ => by cases f <;> simp [crossF]
  | _ :: _, [], _ => by simp [crossF]
theorem cross_all : ∀ (l : List Arc) (f : List Int), crossF (fun _ => true) l f = 0
  | a :: l, f :: g => by
    have := cross_all l g
    simp [crossF, this]
  | [], f => by cases f <;> rfl
  | _ :: _, [] => rfl
theorem net_all {A : List Arc} {N : Nat} (F : List Int) (ha : okN N A) : sumN (fun x => net x A F) N = 0 := by
  have h := cut_crossN (fun _ => true) N A F ha
  rw [cross_all] at h
  unfold cutSum at h
  simpa using h
theorem room_even (A : List Arc) (F : List Int) (i : Nat) : roomS A F (2 * i) = (at' A i).2.2.1 - F.getD i 0 := by
  unfold roomS
  rw [if_pos (by omega), show 2 * i / 2 = i by omega]
theorem room_odd (A : List Arc) (F : List Int) (i : Nat) : roomS A F (2 * i + 1) = F.getD i 0 := by
  unfold roomS
  rw [if_neg (by omega), show (2 * i + 1) / 2 = i by omega]
theorem tn_even (A : List Arc) (i : Nat) : tn A (2 * i) = (at' A i).1.toNat := by
  unfold tn tailS
  rw [if_pos (by omega), show 2 * i / 2 = i by omega]
theorem hn_even (A : List Arc) (i : Nat) : hn A (2 * i) = (at' A i).2.1.toNat := by
  unfold hn headS
  rw [if_pos (by omega), show 2 * i / 2 = i by omega]
theorem tn_odd (A : List Arc) (i : Nat) : tn A (2 * i + 1) = (at' A i).2.1.toNat := by
  unfold tn tailS
  rw [if_neg (by omega), show (2 * i + 1) / 2 = i by omega]
theorem hn_odd (A : List Arc) (i : Nat) : hn A (2 * i + 1) = (at' A i).1.toNat := by
  unfold hn headS
  rw [if_neg (by omega), show (2 * i + 1) / 2 = i by omega]
theorem cost_even (A : List Arc) (i : Nat) : costS A (2 * i) = (at' A i).2.2.2 := by
  unfold costS
  rw [if_pos (by omega), show 2 * i / 2 = i by omega]
theorem twin_even (i : Nat) : twin (2 * i) = 2 * i + 1 := by unfold twin; rw [if_pos (by omega)]
/-- No step with room leads out: not less flows out of the set than into it. -/
theorem cut_room {A : List Arc} {F : List Int} {N : Nat} {c : Nat → Bool} (ha : okN N A) (hw : within A F)
    (hc : ∀ j, j < 2 * A.length → 0 < roomS A F j → c (tn A j) = true → c (hn A j) = true) : 0 ≤ sumN (fun x => if c x = true then net x A F else 0) N := by
  have h := cut_crossN (fun y => c y.toNat) N A F ha
  unfold cutSum at h
  simp only [Int.toNat_natCast] at h
  rw [h]
  refine cross_nonneg _ _ _ fun i hi _ => ?_
  have hb := (within_iff.1 hw).2 i hi
  refine ⟨fun c1 c2 => hb.1, fun c1 c2 => ?_⟩
  rcases Int.lt_or_le 0 (F.getD i 0) with hlt | hge
  · have := hc (2 * i + 1) (by omega) (by rw [room_odd]; exact hlt) (by rw [tn_odd]; exact c2)
    rw [hn_odd] at this
    rw [this] at c1; cases c1
  · exact hge
/-- So where one of the set has too much another has too little. -/
theorem cut_deficit {A : List Arc} {F X : List Int} {N : Nat} {c : Nat → Bool} (ha : okN N A) (hw : within A F) (hX : Bal A F N X)
    (hc : ∀ j, j < 2 * A.length → 0 < roomS A F j → c (tn A j) = true → c (hn A j) = true) {u : Nat} (hu : u < N) (cu : c u = true) (pu : 0 < X.getD u 0) :
    ∃ d, d < N ∧ c d = true ∧ X.getD d 0 < 0 := by
  have h := cut_room ha hw hc
  by_cases hq : ∃ d, d < N ∧ c d = true ∧ X.getD d 0 < 0
  · exact hq
  exfalso
  have h2 : 0 < sumN (fun x => if c x = true then X.getD x 0 else 0) N := by
    refine sumN_pos (u := u) (fun x hx => ?_) hu (by show 0 < if c u = true then X.getD u 0 else 0; rw [if_pos cu]; exact pu)
    show 0 ≤ if c x = true then X.getD x 0 else 0
    split
    · next hcx =>
      rcases Int.lt_or_le (X.getD x 0) 0 with hlt | hge
      · exact absurd ⟨x, hx, hcx, hlt⟩ hq
      · exact hge
    · exact Int.le_refl _
  have h3 : sumN (fun x => (if c x = true then net x A F else 0) + (if c x = true then X.getD x 0 else 0)) N = 0 := by
    refine sumN_zero fun x hx => ?_
    have := hX.2 x hx
    split <;> omega
  rw [sumN_add] at h3
  omega
theorem bal_zero {A : List Arc} {F X : List Int} {N : Nat} (ha : okN N A) (hX : Bal A F N X) (h : ∀ x, x < N → X.getD x 0 ≤ 0) : ∀ x, x < N → X.getD x 0 = 0 := by
  intro u hu
  have h1 := h u hu
  by_cases e : X.getD u 0 = 0
  · exact e
  exfalso
  have h2 : 0 < sumN (fun x => net x A F) N := by
    refine sumN_pos (u := u) (fun x hx => ?_) hu ?_
    · have := h x hx; have := hX.2 x hx; omega
    · have := hX.2 u hu; omega
  rw [net_all F ha] at h2
  omega

/-! ### Sets that grow -/
def addS (S : Nat → Bool) (x : Nat) : Nat → Bool := fun y => S y || decide (y = x)
theorem addS_self (S : Nat → Bool) (x : Nat) : addS S x x = true := by simp [addS]
theorem addS_of {S : Nat → Bool} {x y : Nat} (h : S y = true) : addS S x y = true := by simp [addS, h]
theorem addS_cases {S : Nat → Bool} {x y : Nat} (h : addS S x y = true) : S y = true ∨ y = x := by simpa [addS] using h
def miss (S : Nat → Bool) : Nat → Nat
  | 0 => 0
  | n + 1 => miss S n + if S n = true then 0 else 1
theorem miss_same {S T : Nat → Bool} : ∀ {n : Nat}, (∀ x, x < n → S x = T x) → miss S n = miss T n
  | 0, _ => rfl
  | n + 1, h => by
    have ih := miss_same (S := S) (T := T) (n := n) fun x hx => h x (by omega)
    simp only [miss, ih, h n (by omega)]
theorem miss_add {S : Nat → Bool} {x : Nat} : ∀ {n : Nat}, x < n → S x = false → miss (addS S x) n + 1 = miss S n
  | 0, h, _ => by omega
  | n + 1, hx, hs => by
    simp only [miss]
    by_cases e : x = n
    · subst e
      rw [miss_same (S := addS S x) (T := S) fun y hy => by
        have : y ≠ x := by omega
        simp [addS, this]]
      rw [addS_self, hs]; simp
    · have ih := miss_add (S := S) (x := x) (n := n) (by omega) hs
      have : addS S x n = S n := by
        have : n ≠ x := fun h => e h.symm
        simp [addS, this]
      rw [this]; omega
theorem grow_all {N : Nat} {Q D : (Nat → Bool) → Prop} (h : ∀ S, Q S → D S ∨ ∃ x, x < N ∧ S x = false ∧ Q (addS S x)) : ∀ (S : Nat → Bool), Q S → ∃ S', Q S' ∧ D S' := by
  have key : ∀ (k : Nat) (S : Nat → Bool), miss S N = k → Q S → ∃ S', Q S' ∧ D S' := by
    intro k
    induction k with
    | zero =>
      intro S hm hq
      rcases h S hq with hd | ⟨x, hx, hs, _⟩
      · exact ⟨S, hq, hd⟩
      · have := miss_add hx hs; omega
    | succ k ih =>
      intro S hm hq
      rcases h S hq with hd | ⟨x, hx, hs, hq'⟩
      · exact ⟨S, hq, hd⟩
      · exact ih _ (by have := miss_add hx hs; omega) hq'
  intro S hq
  exact key _ S rfl hq
def wS (w : Nat → Int) (S : Nat → Bool) (n : Nat) : Int := sumN (fun x => if S x = true then w x else 0) n
theorem wS_add {w : Nat → Int} {S : Nat → Bool} {x n : Nat} (hx : x < n) (hs : S x = false) : wS w (addS S x) n = wS w S n + w x := by
  unfold wS
  have h : sumN (fun y => (if S y = true then w y else 0) + (if y = x then w x else 0)) n = sumN (fun y => if S y = true then w y else 0) n + w x := by
    rw [sumN_add, sumN_one (s := x) (g := fun y => if y = x then w x else 0) hx fun y _ hy => if_neg hy]
    simp
  rw [← h]
  refine sumN_congr fun y _ => ?_
  by_cases e : y = x
  · subst e
    rw [addS_self, hs]; simp
  · have : addS S x y = S y := by simp [addS, e]
    rw [this, if_neg e]; omega
theorem wS_le {w : Nat → Int} {S : Nat → Bool} {n : Nat} (h : ∀ x, 0 ≤ w x) : wS w S n ≤ sumN w n := by
  unfold wS
  refine sumN_mono fun x _ => ?_
  have := h x
  split <;> omega

/-- The potential of a node with too much: not far below those with too little. -/
theorem surplus_low {A : List Arc} {F P X : List Int} {N : Nat} {w : Nat → Int} {L : Int} (ha : okN N A) (hw : within A F) (hX : Bal A F N X) (hf : Fine A F P)
    (w0 : ∀ x, 0 ≤ w x) (hc : ∀ j, j < 2 * A.length → costS A j ≤ w (tn A j)) (hd : ∀ d, d < N → X.getD d 0 < 0 → L ≤ P.getD d 0) {u : Nat} (hu : u < N) (pu : 0 < X.getD u 0) :
    L - sumN w N ≤ P.getD u 0 := by
  obtain ⟨S, ⟨h1, h2⟩, h3⟩ := grow_all (N := N) (Q := fun S => (∀ d, d < N → X.getD d 0 < 0 → S d = true) ∧ (∀ x, x < N → S x = true → L - wS w S N ≤ P.getD x 0)) (D := fun S => S u = true)
    (fun S ⟨g1, g2⟩ => by
      by_cases e : S u = true
      · exact .inl e
      right
      by_cases hq : ∃ j, j < 2 * A.length ∧ 0 < roomS A F j ∧ S (tn A j) = false ∧ S (hn A j) = true
      · obtain ⟨j, hj, hr, ht, hh⟩ := hq
        obtain ⟨-, k1⟩ := tn_is ha hj
        obtain ⟨-, k2⟩ := hn_is ha hj
        refine ⟨tn A j, k1, ht, fun d hd1 hd2 => addS_of (g1 d hd1 hd2), fun x hx hS => ?_⟩
        rw [wS_add k1 ht]
        have := w0 (tn A j)
        rcases addS_cases hS with hS | rfl
        · have := g2 x hx hS; omega
        · have k3 := g2 _ k2 hh
          have k4 := hf j hj hr
          have k5 := hc j hj
          unfold redS at k4
          omega
      · exfalso
        obtain ⟨d, hd1, hd2, hd3⟩ := cut_deficit (c := fun x => !S x) ha hw hX (fun j hj hr c1 => by
          cases h : S (hn A j)
          · rfl
          · exact absurd ⟨j, hj, hr, by simpa using c1, h⟩ hq) hu (by simpa using e) pu
        have := g1 d hd1 hd3
        simp [this] at hd2) (fun x => decide (X.getD x 0 < 0)) ⟨fun d _ h => by simpa using h, fun x hx hS => by
          have := hd x hx (by simpa using hS)
          have : 0 ≤ wS w (fun x => decide (X.getD x 0 < 0)) N := sumN_nonneg fun y _ => by have := w0 y; show 0 ≤ ite _ _ _; split <;> omega
          omega⟩
  have := h2 u hu h3
  have := wS_le (S := S) (n := N) w0
  omega

/-- Where the sink's potential is far above the source's no step leads out of a set with the source and without the sink. -/
theorem far_cut {A : List Arc} {F P : List Int} {N s t : Nat} (ha : okN N A) (hf : Fine A F P) (hs : s < N) (ht : t < N) (hst : s ≠ t)
    (hc : ∀ j, j < 2 * A.length → costS A j ≤ 1000) (hp : P.getD s 0 + 1000 * N ≤ P.getD t 0) :
    ∃ S : Nat → Bool, S s = true ∧ S t = false ∧ ∀ j, j < 2 * A.length → 0 < roomS A F j → S (tn A j) = true → S (hn A j) = true := by
  have tot : sumN (fun _ => (1000 : Int)) N = 1000 * N := sumN_const 1000 N
  obtain ⟨S, ⟨h1, h2, h3⟩, h4⟩ := grow_all (N := N) (Q := fun S => S s = true ∧ S t = false ∧ ∀ x, x < N → S x = true → P.getD x 0 ≤ P.getD s 0 + wS (fun _ => 1000) S N - 1000)
    (D := fun S => ∀ j, j < 2 * A.length → 0 < roomS A F j → S (tn A j) = true → S (hn A j) = true)
    (fun S ⟨g1, g2, g3⟩ => by
      by_cases hq : ∃ j, j < 2 * A.length ∧ 0 < roomS A F j ∧ S (tn A j) = true ∧ S (hn A j) = false
      · right
        obtain ⟨j, hj, hr, h5, h6⟩ := hq
        obtain ⟨-, k1⟩ := tn_is ha hj
        obtain ⟨-, k2⟩ := hn_is ha hj
        have k3 := g3 _ k1 h5
        have k4 := hf j hj hr
        have k5 := hc j hj
        unfold redS at k4
        have k6 : wS (fun _ => 1000) (addS S t) N = wS (fun _ => 1000) S N + 1000 := wS_add ht g2
        have k7 : wS (fun _ => 1000) (addS S t) N ≤ sumN (fun _ => 1000) N := wS_le (fun _ => by decide)
        have k8 : hn A j ≠ t := by
          intro e
          rw [e] at k4
          omega
        refine ⟨hn A j, k2, h6, addS_of g1, ?_, fun x hx hS => ?_⟩
        · have : t ≠ hn A j := fun e => k8 e.symm
          simp [addS, g2, this]
        · rw [wS_add k2 h6]
          rcases addS_cases hS with hS | rfl
          · have := g3 x hx hS; omega
          · omega
      · left
        intro j hj hr h5
        cases h6 : S (hn A j)
        · exact absurd ⟨j, hj, hr, h5, h6⟩ hq
        · rfl) (fun x => decide (x = s)) ⟨by simp, by simpa using fun h => hst h.symm, fun x hx hS => by
          obtain rfl : x = s := by simpa using hS
          have : wS (fun _ => (1000 : Int)) (fun y => decide (y = x)) N = 1000 := by
            unfold wS
            rw [sumN_one (s := x) hs fun y _ hy => by simp [hy]]
            simp
          omega⟩
  exact ⟨S, h1, h2, h4⟩
theorem cut_value {A : List Arc} {F : List Int} {N s t : Nat} {v : Int} (ha : okArcs N A) (hs : s < N) (hfl : isFlow N s t A F) {S : Nat → Bool} (h1 : S s = true) (h2 : S t = false)
    (h3 : ∀ j, j < 2 * A.length → 0 < roomS A F j → S (tn A j) = true → S (hn A j) = true) (ho : Opt N s t A v) : v ≤ net s A F := by
  obtain ⟨g, T, g1, -, -, -, g5, -⟩ := ho
  have hw := hfl.1
  have ht : tight (fun y => S y.toNat) A F := by
    rw [tight_iff (within_length hw)]
    intro i hi
    have hb := (within_iff.1 hw).2 i hi
    have k1 := h3 (2 * i) (by omega)
    have k2 := h3 (2 * i + 1) (by omega)
    rw [room_even, tn_even, hn_even] at k1
    rw [room_odd, tn_odd, hn_odd] at k2
    refine ⟨fun c1 c2 => ?_, fun c1 c2 => ?_⟩
    · rcases Int.lt_or_le (F.getD i 0) (at' A i).2.2.1 with hlt | hge
      · have := k1 (by omega) c1
        rw [this] at c2; cases c2
      · omega
    · rcases Int.lt_or_le 0 (F.getD i 0) with hlt | hge
      · have := k2 hlt c2
        rw [this] at c1; cases c1
      · omega
  have e1 := value_eq (c := fun y => S y.toNat) hs ha hfl (by simpa using h1) (by simpa using h2) ht
  have e2 := value_le (c := fun y => S y.toNat) hs ha g1 (by simpa using h1) (by simpa using h2)
  omega
end NetM

namespace NetM

/-- An arc with the digits of its Cap from number d on. -/
def shA (d : Nat) (a : Arc) : Arc := (a.1, a.2.1, a.2.2.1 / 2 ^ d, a.2.2.2)
def Ad (A : List Arc) (d : Nat) : List Arc := A.map (shA d)
theorem Ad_len (A : List Arc) (d : Nat) : (Ad A d).length = A.length := by simp [Ad]
theorem Ad_at (A : List Arc) (d i : Nat) : at' (Ad A d) i = shA d (at' A i) := by
  unfold at' Ad
  rcases Nat.lt_or_ge i A.length with h | h
  · simp [List.getD, h]
  · simp [List.getD, h, shA]
theorem Ad_zero (A : List Arc) : Ad A 0 = A := by
  unfold Ad
  have : shA 0 = id := by funext a; simp [shA]
  rw [this]; simp
theorem Ad_tail (A : List Arc) (d j : Nat) : tailS (Ad A d) j = tailS A j := by unfold tailS; rw [Ad_at]; rfl
theorem Ad_head (A : List Arc) (d j : Nat) : headS (Ad A d) j = headS A j := by unfold headS; rw [Ad_at]; rfl
theorem Ad_tn (A : List Arc) (d j : Nat) : tn (Ad A d) j = tn A j := by unfold tn; rw [Ad_tail]
theorem Ad_hn (A : List Arc) (d j : Nat) : hn (Ad A d) j = hn A j := by unfold hn; rw [Ad_head]
theorem Ad_cost (A : List Arc) (d j : Nat) : costS (Ad A d) j = costS A j := by unfold costS; rw [Ad_at]; rfl
theorem Ad_red (A : List Arc) (P : List Int) (d j : Nat) : redS (Ad A d) P j = redS A P j := by unfold redS; rw [Ad_cost, Ad_tn, Ad_hn]
theorem Ad_okN {n : Nat} {A : List Arc} (h : okN n A) (d : Nat) : okN n (Ad A d) := fun i hi => by
  rw [Ad_at]
  exact h i (by rw [Ad_len] at hi; exact hi)
theorem Ad_net (x : Int) (d : Nat) : ∀ (l : List Arc) (f : List Int), net x (Ad l d) f = net x l f
  | a :: l, f :: g => by
    have := Ad_net x d l g
    unfold Ad at this ⊢
    simp only [List.map_cons, net, shA, this]
  | [], f => by cases f <;> rfl
  | _ :: _, [] => rfl
theorem Ad_from (A : List Arc) (d x : Nat) : fromR (Ad A d) x = fromR A x := by
  unfold fromR
  simp only [Ad_tail, Ad_len]
theorem half_digit (c : Int) (d : Nat) : c / 2 ^ d = 2 * (c / 2 ^ (d + 1)) + c / 2 ^ d % 2 := by
  rw [Int.pow_succ, ← Int.ediv_ediv_of_nonneg (by exact Int.le_of_lt (Int.pow_pos (by decide)))]
  omega

/-- The flow behind 'refine'. -/
def refF (A : List Arc) (P F : List Int) (d : Nat) : List Int := (List.range A.length).map fun i => if redS A P (2 * i) < 0 then (at' A i).2.2.1 / 2 ^ d else 2 * F.getD i 0
theorem refF_len (A : List Arc) (P F : List Int) (d : Nat) : (refF A P F d).length = A.length := by simp [refF]
theorem refF_get {A : List Arc} {P F : List Int} {d i : Nat} (hi : i < A.length) : (refF A P F d).getD i 0 = if redS A P (2 * i) < 0 then (at' A i).2.2.1 / 2 ^ d else 2 * F.getD i 0 := by
  simp [refF, List.getD, hi]
theorem refF_within {A : List Arc} {P F : List Int} {d : Nat} (h : within (Ad A (d + 1)) F) (h0 : ∀ i, i < A.length → 0 ≤ (at' A i).2.2.1) : within (Ad A d) (refF A P F d) := by
  obtain ⟨h1, h2⟩ := within_iff.1 h
  rw [Ad_len] at h1 h2
  refine within_iff.2 ⟨by rw [refF_len, Ad_len], fun i hi => ?_⟩
  rw [Ad_len] at hi
  rw [refF_get hi, Ad_at]
  have h3 := h2 i hi
  rw [Ad_at] at h3
  show 0 ≤ ite _ _ _ ∧ ite _ _ _ ≤ (at' A i).2.2.1 / 2 ^ d
  have h4 : F.getD i 0 ≤ (at' A i).2.2.1 / 2 ^ (d + 1) := h3.2
  have h5 := half_digit (at' A i).2.2.1 d
  have h6 : 0 ≤ (at' A i).2.2.1 / 2 ^ d := Int.ediv_nonneg (h0 i hi) (Int.le_of_lt (Int.pow_pos (by decide)))
  split <;> omega
theorem refF_fine {A : List Arc} {P F : List Int} {d : Nat} (h : Fine (Ad A (d + 1)) F P) : Fine (Ad A d) (refF A P F d) P := by
  intro j hj hr
  rw [Ad_len] at hj
  rw [Ad_red]
  obtain ⟨i, hi⟩ : ∃ i, i = j / 2 := ⟨_, rfl⟩
  have hil : i < A.length := by omega
  have k := half_digit (at' A i).2.2.1 d
  by_cases e : j % 2 = 0
  · obtain rfl : j = 2 * i := by omega
    rw [room_even, Ad_at, refF_get hil] at hr
    rcases Int.lt_or_le (redS A P (2 * i)) 0 with hlt | hge
    · rw [if_pos hlt] at hr
      have : (shA d (at' A i)).2.2.1 = (at' A i).2.2.1 / 2 ^ d := rfl
      omega
    · exact hge
  · obtain rfl : j = 2 * i + 1 := by omega
    have t := red_twin A P (2 * i)
    rw [twin_even] at t
    rw [room_odd, refF_get hil] at hr
    rcases Int.lt_or_le (redS A P (2 * i)) 0 with hlt | hge
    · omega
    · rw [if_neg (by omega)] at hr
      have := h (2 * i + 1) (by rw [Ad_len]; omega) (by rw [room_odd]; omega)
      rw [Ad_red] at this
      exact this

/-- What was let flow on the first i arcs. -/
def preF (A : List Arc) (P F : List Int) (d i : Nat) : List Int := (List.range A.length).map fun k => if k < i then (refF A P F d).getD k 0 - 2 * F.getD k 0 else 0
theorem preF_len (A : List Arc) (P F : List Int) (d i : Nat) : (preF A P F d i).length = A.length := by simp [preF]
theorem preF_get {A : List Arc} {P F : List Int} {d i k : Nat} (hk : k < A.length) : (preF A P F d i).getD k 0 = if k < i then (refF A P F d).getD k 0 - 2 * F.getD k 0 else 0 := by
  simp [preF, List.getD, hk]
theorem preF_succ (A : List Arc) (P F : List Int) (d i : Nat) : preF A P F d (i + 1) = (preF A P F d i).set i ((refF A P F d).getD i 0 - 2 * F.getD i 0) := by
  refine List.ext_getElem (by simp [preF]) fun k h1 h2 => ?_
  rw [List.getElem_set]
  simp only [preF, List.getElem_map, List.getElem_range]
  by_cases e : i = k
  · subst e; simp
  · rw [if_neg e]
    by_cases c : k < i
    · rw [if_pos c, if_pos (by omega)]
    · rw [if_neg c, if_neg (by omega)]
theorem preF_net {A : List Arc} {P F : List Int} {d i : Nat} (hi : i < A.length) (x : Int) :
    net x A (preF A P F d (i + 1)) = net x A (preF A P F d i) + (if (at' A i).1 = x then (refF A P F d).getD i 0 - 2 * F.getD i 0 else 0) - (if (at' A i).2.1 = x then (refF A P F d).getD i 0 - 2 * F.getD i 0 else 0) := by
  rw [preF_succ, net_set i _ (preF_len A P F d i) hi, preF_get hi, if_neg (Nat.lt_irrefl i)]
  simp only [Int.sub_zero]
theorem net_lin {x : Int} : ∀ {l : List Arc} {f e g : List Int}, f.length = l.length → e.length = l.length → g.length = l.length → (∀ i, i < l.length → g.getD i 0 = 2 * f.getD i 0 + e.getD i 0) → net x l g = 2 * net x l f + net x l e
  | [], [], [], [], _, _, _, _ => by simp [net]
  | a :: l, u :: f, v :: e, y :: g, h1, h2, h3, h => by
    have ih := net_lin (x := x) (l := l) (f := f) (e := e) (g := g) (by simpa using h1) (by simpa using h2) (by simpa using h3) fun i hi => by
      have := h (i + 1) (by simpa using hi)
      simpa using this
    have h0 := h 0 (by simp)
    simp only [List.getD_cons_zero] at h0
    subst h0
    simp only [net, ih]
    split <;> split <;> omega
  | [], _ :: _, _, _, h, _, _, _ => by simp at h
  | [], _, _ :: _, _, _, h, _, _ => by simp at h
  | [], _, _, _ :: _, _, _, h, _ => by simp at h
  | _ :: _, [], _, _, h, _, _, _ => by simp at h
  | _ :: _, _, [], _, _, h, _, _ => by simp at h
  | _ :: _, _, _, [], _, _, h, _ => by simp at h
theorem refF_net {A : List Arc} {P F : List Int} {d : Nat} (hl : F.length = A.length) (x : Int) : net x A (refF A P F d) = 2 * net x A F + net x A (preF A P F d A.length) :=
  net_lin hl (preF_len A P F d _) (refF_len A P F d) fun i hi => by
    rw [preF_get hi, if_pos hi]; omega
theorem preF_zero (A : List Arc) (P F : List Int) (d : Nat) (x : Int) : net x A (preF A P F d 0) = 0 := by
  have h : preF A P F d 0 = List.replicate A.length 0 := by
    refine List.ext_getElem (by simp [preF]) fun k h1 h2 => ?_
    simp [preF]
  rw [h]
  generalize A.length = n
  have key : ∀ (l : List Arc) (n : Nat), net x l (List.replicate n 0) = 0 := by
    intro l
    induction l with
    | nil => intro n; cases n <;> rfl
    | cons a l ih =>
      intro n
      cases n with
      | zero => rfl
      | succ n => simp only [List.replicate_succ, net, ih]; split <;> split <;> rfl
  exact key A n
theorem net_le {x : Int} {B : Int} (hB : 0 ≤ B) : ∀ {l : List Arc} {f : List Int}, (∀ i, i < l.length → -B ≤ f.getD i 0 ∧ f.getD i 0 ≤ B) → -((l.length : Int) * B) ≤ net x l f ∧ net x l f ≤ (l.length : Int) * B
  | [], f, _ => by cases f <;> simp [net]
  | a :: l, [], _ => by
    have : 0 ≤ ((a :: l).length : Int) * B := Int.mul_nonneg (by omega) hB
    simp only [net]; omega
  | a :: l, u :: f, h => by
    have ih := net_le (x := x) hB (l := l) (f := f) fun i hi => by
      have := h (i + 1) (by simpa using hi)
      simpa using this
    have h0 := h 0 (by simp)
    simp only [List.getD_cons_zero] at h0
    have e : ((a :: l).length : Int) * B = (l.length : Int) * B + B := by
      rw [List.length_cons, Int.natCast_add, Int.add_mul]; omega
    rw [e]
    simp only [net]
    split <;> split <;> omega
end NetM

namespace NetM

/-- A node and a cost. -/
abbrev NC := Nat × Int
def gH (h : List NC) (i : Nat) : NC := h.getD i (0, 0)
def key (h : List NC) (i : Nat) : Int := (gH h i).2
def HeapN (h : List NC) (n : Nat) : Prop := ∀ k, 0 < k → k < n → key h ((k - 1) / 2) ≤ key h k
def swp (h : List NC) (i j : Nat) : List NC := (h.set i (gH h j)).set j (gH h i)
theorem swp_len (h : List NC) (i j : Nat) : (swp h i j).length = h.length := by simp [swp]
theorem swp_get {h : List NC} {i j : Nat} (hi : i < h.length) (hj : j < h.length) (k : Nat) : gH (swp h i j) k = if k = j then gH h i else if k = i then gH h j else gH h k := by
  unfold swp gH
  by_cases e : k = j
  · subst e; rw [if_pos rfl]
    simp [List.getD, hj]
  · rw [if_neg e]
    simp only [List.getD]
    rw [List.getElem?_set_ne (fun h => e h.symm)]
    by_cases c : k = i
    · subst c; rw [if_pos rfl]; simp [hi]
    · rw [if_neg c, List.getElem?_set_ne (fun h => c h.symm)]
theorem swp_perm {h : List NC} {i j : Nat} (hi : i < h.length) (hj : j < h.length) : (swp h i j).Perm h := by
  unfold swp gH
  have e1 : h.getD j (0, 0) = h[j] := by simp [List.getD, hj]
  have e2 : h.getD i (0, 0) = h[i] := by simp [List.getD, hi]
  rw [e1, e2]
  exact List.set_set_perm hi hj
theorem key_swp {h : List NC} {i j : Nat} (hi : i < h.length) (hj : j < h.length) (k : Nat) : key (swp h i j) k = if k = j then key h i else if k = i then key h j else key h k := by
  unfold key
  rw [swp_get hi hj]
  split
  · rfl
  · split <;> rfl
theorem heap_min {h : List NC} {n : Nat} (hh : HeapN h n) : ∀ k, k < n → key h 0 ≤ key h k := by
  intro k
  induction k using Nat.strongRecOn with
  | _ k ih =>
    intro hk
    by_cases e : k = 0
    · subst e; exact Int.le_refl _
    · have h1 := hh k (by omega) hk
      have h2 := ih ((k - 1) / 2) (by omega) (by omega)
      omega

/-! ### Up -/
def UpI (h : List NC) (j : Nat) : Prop := j < h.length ∧ (∀ k, 0 < k → k < h.length → k ≠ j → key h ((k - 1) / 2) ≤ key h k) ∧
  (0 < j → ∀ c, 0 < c → c < h.length → (c - 1) / 2 = j → key h ((j - 1) / 2) ≤ key h c)
theorem gH_app {h : List NC} {x : NC} {k : Nat} : gH (h ++ [x]) k = if k < h.length then gH h k else if k = h.length then x else (0, 0) := by
  unfold gH
  simp only [List.getD]
  rcases Nat.lt_trichotomy k h.length with c | c | c
  · rw [if_pos c, List.getElem?_append_left c]
  · subst c; simp
  · rw [if_neg (by omega), if_neg (by omega)]
    rw [List.getElem?_eq_none (by simp; omega)]; rfl
theorem UpI.start {h : List NC} (hh : HeapN h h.length) (x : NC) : UpI (h ++ [x]) h.length := by
  refine ⟨by simp, fun k h0 hk hne => ?_, fun h0 c hc hcl hp => ?_⟩
  · have hk' : k < h.length := by simp at hk; omega
    unfold key
    rw [gH_app, gH_app, if_pos hk', if_pos (by omega)]
    exact hh k h0 hk'
  · simp at hcl; omega
theorem UpI.step {h : List NC} {j : Nat} (u : UpI h j) (h0 : 0 < j) (hlt : key h j < key h ((j - 1) / 2)) : UpI (swp h ((j - 1) / 2) j) ((j - 1) / 2) := by
  obtain ⟨u1, u2, u3⟩ := u
  obtain ⟨i, hi⟩ : ∃ i, i = (j - 1) / 2 := ⟨_, rfl⟩
  rw [← hi] at hlt ⊢
  have u3 := u3 h0
  rw [← hi] at u3
  have hil : i < h.length := by omega
  refine ⟨by rw [swp_len]; exact hil, fun k k0 hk hne => ?_, fun i0 c c0 hc hp => ?_⟩
  · rw [swp_len] at hk
    rw [key_swp hil u1, key_swp hil u1]
    by_cases e : k = j
    · subst e
      rw [if_pos rfl, ← hi, if_neg (by omega), if_pos rfl]; omega
    · rw [if_neg e, if_neg hne]
      have k2 := u2 k k0 hk e
      by_cases e1 : (k - 1) / 2 = j
      · rw [if_pos e1]; exact u3 k k0 hk e1
      · rw [if_neg e1]
        by_cases e2 : (k - 1) / 2 = i
        · rw [if_pos e2]; rw [e2] at k2; omega
        · rw [if_neg e2]; exact k2
  · rw [swp_len] at hc
    rw [key_swp hil u1, key_swp hil u1]
    rw [if_neg (by omega), if_neg (by omega)]
    have k1 := u2 i i0 hil (by omega)
    by_cases e : c = j
    · subst e; rw [if_pos rfl]; exact k1
    · rw [if_neg e, if_neg (by omega)]
      have k2 := u2 c c0 hc e
      rw [hp] at k2; omega
theorem UpI.done {h : List NC} {j : Nat} (u : UpI h j) (hc : j = 0 ∨ key h ((j - 1) / 2) ≤ key h j) : HeapN h h.length := by
  intro k k0 hk
  by_cases e : k = j
  · subst e
    rcases hc with rfl | hc
    · omega
    · exact hc
  · exact u.2.1 k k0 hk e

/-! ### Down -/
def DownI (h : List NC) (n i : Nat) : Prop := n + 1 = h.length ∧ (∀ k, 0 < k → k < n → (k - 1) / 2 ≠ i → key h ((k - 1) / 2) ≤ key h k) ∧
  (0 < i → ∀ c, 0 < c → c < n → (c - 1) / 2 = i → key h ((i - 1) / 2) ≤ key h c)
theorem DownI.start {h : List NC} {n : Nat} (hh : HeapN h h.length) (hn : n + 1 = h.length) : DownI (swp h 0 n) n 0 := by
  refine ⟨by rw [swp_len]; exact hn, fun k k0 hk hne => ?_, fun h0 => by omega⟩
  rw [key_swp (by omega) (by omega), key_swp (by omega) (by omega), if_neg (by omega), if_neg hne, if_neg (by omega), if_neg (by omega)]
  exact hh k k0 (by omega)
theorem DownI.step {h : List NC} {n i j : Nat} (d : DownI h n i) (hj : j < n) (hp : (j - 1) / 2 = i) (j0 : 0 < j) (hmin : ∀ c, 0 < c → c < n → (c - 1) / 2 = i → key h j ≤ key h c) (hlt : key h j < key h i) :
    DownI (swp h i j) n j := by
  obtain ⟨d1, d2, d3⟩ := d
  have hil : i < h.length := by omega
  have hjl : j < h.length := by omega
  have hij : i ≠ j := by omega
  refine ⟨by rw [swp_len]; exact d1, fun k k0 hk hne => ?_, fun _ c c0 hc hpc => ?_⟩
  · rw [key_swp hil hjl, key_swp hil hjl, if_neg hne]
    by_cases e : k = j
    · subst e
      rw [if_pos rfl, if_pos hp]; omega
    · rw [if_neg e]
      by_cases e1 : k = i
      · subst e1
        rw [if_pos rfl, if_neg (by omega)]
        exact d3 k0 j j0 hj hp
      · rw [if_neg e1]
        by_cases e2 : (k - 1) / 2 = i
        · rw [if_pos e2]; exact hmin k k0 hk e2
        · rw [if_neg e2]; exact d2 k k0 hk e2
  · rw [key_swp hil hjl, key_swp hil hjl, if_neg (by omega), if_pos hp, if_neg (by omega), if_neg (by omega)]
    have := d2 c c0 hc (by omega)
    rw [hpc] at this; exact this
theorem DownI.done {h : List NC} {n i : Nat} (d : DownI h n i) (hc : ∀ c, 0 < c → c < n → (c - 1) / 2 = i → key h i ≤ key h c) : HeapN h n := by
  intro k k0 hk
  by_cases e : (k - 1) / 2 = i
  · rw [e]; exact hc k k0 hk e
  · exact d.2.1 k k0 hk e
/-- What is left when the last element is taken. -/
theorem heap_take {h : List NC} {n : Nat} (hh : HeapN h n) (hn : n + 1 = h.length) : HeapN (h.take n) (h.take n).length ∧ h = h.take n ++ [gH h n] := by
  have hl : (h.take n).length = n := by simp; omega
  constructor
  · rw [hl]
    intro k k0 hk
    have : ∀ m, m < n → gH (h.take n) m = gH h m := by
      intro m hm
      unfold gH
      simp [List.getD, hm]
    unfold key
    rw [this _ (by omega), this _ hk]
    exact hh k k0 hk
  · have e : gH h n = h[n] := by unfold gH; simp [List.getD, show n < h.length by omega]
    rw [e]
    rw [List.take_append_getElem (by omega)]
    rw [List.take_of_length_le (by omega)]
/-- What a Push leaves. -/
def PushH (h : List NC) (x : NC) (h' : List NC) : Prop := HeapN h' h'.length ∧ h'.Perm (x :: h)
/-- What a Pop takes and leaves. -/
def PopH (h : List NC) (r : NC) (h' : List NC) : Prop := HeapN h' h'.length ∧ h.Perm (r :: h') ∧ ∀ x ∈ h, r.2 ≤ x.2
theorem gH_mem {h : List NC} {x : NC} (hx : x ∈ h) : ∃ k, k < h.length ∧ gH h k = x := by
  obtain ⟨k, hk, rfl⟩ := List.getElem_of_mem hx
  exact ⟨k, hk, by unfold gH; simp [List.getD, hk]⟩
theorem pop_of {h g : List NC} {n : Nat} (hh : HeapN h h.length) (hn : n + 1 = h.length) (hp : g.Perm h) (hg : HeapN g n) (hr : gH g n = gH h 0) : PopH h (gH h 0) (g.take n) := by
  have hgl : n + 1 = g.length := by rw [hp.length_eq]; exact hn
  obtain ⟨h1, h2⟩ := heap_take hg hgl
  refine ⟨h1, ?_, fun x hx => ?_⟩
  · rw [← hr]
    refine hp.symm.trans ?_
    have e2 : (g.take n ++ [gH g n]).Perm (gH g n :: g.take n) := List.perm_append_singleton _ _
    rw [← h2] at e2
    exact e2
  · obtain ⟨k, hk, rfl⟩ := gH_mem hx
    exact heap_min hh k hk
end NetM

namespace NetM

theorem nodup_len : ∀ {n : Nat} {l : List Nat}, l.Nodup → (∀ x ∈ l, x < n) → l.length ≤ n
  | 0, [], _, _ => Nat.le_refl _
  | 0, x :: l, _, h => absurd (h x (by simp)) (by omega)
  | n + 1, l, hn, h => by
    by_cases e : n ∈ l
    · have h1 : (l.erase n).length = l.length - 1 := List.length_erase_of_mem e
      have h2 := nodup_len (n := n) (l := l.erase n) (hn.erase n) fun x hx => by
        have h3 := h x (List.mem_of_mem_erase hx)
        have h4 : x ≠ n := by
          rintro rfl
          exact (hn.mem_erase_iff.1 hx).1 rfl
        omega
      omega
    · have := nodup_len (n := n) hn fun x hx => by
        have h3 := h x hx
        have h4 : x ≠ n := by rintro rfl; exact e hx
        omega
      omega

def inf : Int := 9223372036854775807
/-- What holds of the search. D: the least costs so far, V: the visited nodes, H: the heap. -/
structure SR (A : List Arc) (F P X : List Int) (N : Nat) (D : List Int) (V H : List NC) : Prop where
  dl : D.length = N
  d0 : ∀ x, x < N → 0 ≤ D.getD x 0 ∧ D.getD x 0 ≤ inf
  sur : ∀ x, x < N → 0 < X.getD x 0 → D.getD x 0 = 0
  hh : ∀ e ∈ H, e.1 < N ∧ D.getD e.1 0 ≤ e.2 ∧ e.2 ≤ (V.length : Int) * 1000000000
  nd : H.Nodup
  low : ∀ x, x < N → D.getD x 0 < inf → (x, D.getD x 0) ∈ V ∨ (x, D.getD x 0) ∈ H
  vis : ∀ e ∈ V, e.1 < N ∧ e.2 = D.getD e.1 0 ∧ 0 ≤ X.getD e.1 0 ∧ e.2 ≤ (V.length : Int) * 1000000000
  ord : ∀ e ∈ V, ∀ f ∈ H, e.2 ≤ f.2
  vnd : (V.map (·.1)).Nodup
  vh : ∀ e ∈ V, ∀ f ∈ H, f.1 = e.1 → e.2 < f.2
  tree : ∀ x, x < N → D.getD x 0 < inf → 0 < X.getD x 0 ∨ ∃ j k, j < 2 * A.length ∧ hn A j = x ∧ 0 < roomS A F j ∧ k < V.length ∧ (∀ k', k' < V.length → (gH V k').1 = x → k < k') ∧ (gH V k).1 = tn A j ∧ D.getD x 0 = D.getD (tn A j) 0 + redS A P j
/-- The steps from visited nodes, those from x0 only where 'done' holds, make no node cheaper. -/
def ClS (A : List Arc) (F P D : List Int) (V : List NC) (x0 : Nat) (done : Nat → Prop) : Prop :=
  ∀ e ∈ V, ∀ j, j < 2 * A.length → tn A j = e.1 → 0 < roomS A F j → (e.1 = x0 → done j) → D.getD (hn A j) 0 ≤ e.2 + redS A P j
/-- Reduced costs of steps with room are small. -/
def RedB (A : List Arc) (F P : List Int) : Prop := ∀ j, j < 2 * A.length → 0 < roomS A F j → 0 ≤ redS A P j ∧ redS A P j ≤ 1000000000

theorem SR.vlen {A F P X N D V H} (h : SR A F P X N D V H) : V.length ≤ N := by
  have := nodup_len h.vnd (n := N) fun x hx => by
    obtain ⟨e, he, rfl⟩ := List.mem_map.1 hx
    exact (h.vis e he).1
  simpa using this
theorem SR.perm {A F P X N D V H H'} (h : SR A F P X N D V H) (hp : H'.Perm H) : SR A F P X N D V H' where
  dl := h.dl
  d0 := h.d0
  sur := h.sur
  hh := fun e he => h.hh e (hp.mem_iff.1 he)
  nd := hp.nodup_iff.2 h.nd
  low := fun x hx hd => (h.low x hx hd).imp id hp.mem_iff.2
  vis := h.vis
  ord := fun e he f hf => h.ord e he f (hp.mem_iff.1 hf)
  vnd := h.vnd
  vh := fun e he f hf => h.vh e he f (hp.mem_iff.1 hf)
  tree := h.tree
/-- The heap holds something. -/
theorem SR.some {A F P X N D V H} (h : SR A F P X N D V H) (hc : ClS A F P D V N fun _ => True) (ha : okN N A) (hw : within A F) (hX : Bal A F N X) (hr : RedB A F P) (hN : N ≤ 700) {u : Nat} (hu : u < N) (pu : 0 < X.getD u 0) : H ≠ [] := by
  rintro rfl
  have hv : ∀ x, x < N → D.getD x 0 < inf → (x, D.getD x 0) ∈ V := fun x hx hd => by
    rcases h.low x hx hd with h1 | h1
    · exact h1
    · cases h1
  have hvl := h.vlen
  obtain ⟨d, hd, cd, xd⟩ := cut_deficit (c := fun x => decide (D.getD x 0 < inf)) ha hw hX (fun j hj hroom c1 => by
    obtain ⟨-, k1⟩ := tn_is ha hj
    have c1 := of_decide_eq_true c1
    have m := hv _ k1 c1
    have b := (h.vis _ m).2.2.2
    have g := hc _ m j hj rfl hroom fun _ => trivial
    have r := hr j hj hroom
    have : (V.length : Int) * 1000000000 ≤ 700000000000 := by omega
    simp only at b g
    refine decide_eq_true ?_
    unfold inf; omega) hu (by
      rw [decide_eq_true_eq, h.sur u hu pu]; decide) pu
  have cd := of_decide_eq_true cd
  have := (h.vis _ (hv d hd cd)).2.2.1
  simp only at this
  omega
theorem SR.stale {A F P X N D V H H' r} (h : SR A F P X N D V H) (hp : PopH H r H') (hs : D.getD r.1 0 < r.2) : SR A F P X N D V H' where
  dl := h.dl
  d0 := h.d0
  sur := h.sur
  hh := fun e he => h.hh e (hp.2.1.mem_iff.2 (by simp [he]))
  nd := (List.nodup_cons.1 (hp.2.1.nodup_iff.1 h.nd)).2
  low := fun x hx hd => by
    rcases h.low x hx hd with h1 | h1
    · exact .inl h1
    · rcases List.mem_cons.1 (hp.2.1.mem_iff.1 h1) with h2 | h2
      · subst h2; simp at hs
      · exact .inr h2
  vis := h.vis
  ord := fun e he f hf => h.ord e he f (hp.2.1.mem_iff.2 (by simp [hf]))
  vnd := h.vnd
  vh := fun e he f hf => h.vh e he f (hp.2.1.mem_iff.2 (by simp [hf]))
  tree := h.tree
theorem gV_app {V : List NC} {r : NC} {k : Nat} (hk : k < V.length) : gH (V ++ [r]) k = gH V k := by rw [gH_app, if_pos hk]
theorem gV_last {V : List NC} {r : NC} : gH (V ++ [r]) V.length = r := by rw [gH_app, if_neg (by omega), if_pos rfl]
/-- What is known of the node that was taken at its least cost. -/
theorem SR.fresh {A F P X N D V H H' r} (h : SR A F P X N D V H) (hp : PopH H r H') (hs : ¬ D.getD r.1 0 < r.2) :
    r.1 < N ∧ r.2 = D.getD r.1 0 ∧ r.2 ≤ (V.length : Int) * 1000000000 ∧ (∀ e ∈ V, e.1 ≠ r.1 ∧ e.2 ≤ r.2) ∧ (∀ f ∈ H', r.2 ≤ f.2) ∧ (∀ f ∈ H', f.1 = r.1 → r.2 < f.2) ∧ 0 ≤ r.2 := by
  have hrm : r ∈ H := hp.2.1.mem_iff.2 (by simp)
  obtain ⟨a1, a2, a3⟩ := h.hh r hrm
  have e : r.2 = D.getD r.1 0 := by omega
  have hmin : ∀ f ∈ H', r.2 ≤ f.2 := fun f hf => hp.2.2 f (hp.2.1.mem_iff.2 (by simp [hf]))
  refine ⟨a1, e, a3, fun e' he' => ⟨fun hq => ?_, h.ord e' he' r hrm⟩, hmin, fun f hf hf1 => ?_, by rw [e]; exact (h.d0 _ a1).1⟩
  · have h1 := h.vh e' he' r hrm hq.symm
    have h2 := (h.vis e' he').2.1
    rw [hq] at h2; omega
  · have h1 := hmin f hf
    rcases Int.lt_or_le r.2 f.2 with h2 | h2
    · exact h2
    · exfalso
      have : f = r := Prod.ext hf1 (by omega)
      rw [this] at hf
      exact (List.nodup_cons.1 (hp.2.1.nodup_iff.1 h.nd)).1 hf
theorem SR.visit {A F P X N D V H H' r} (h : SR A F P X N D V H) (hp : PopH H r H') (hs : ¬ D.getD r.1 0 < r.2) (hx : 0 ≤ X.getD r.1 0) : SR A F P X N D (V ++ [r]) H' := by
  obtain ⟨f1, f2, f3, f4, f5, f6, f7⟩ := h.fresh hp hs
  have hl : (V ++ [r]).length = V.length + 1 := by simp
  have hle : (V.length : Int) * 1000000000 ≤ ((V ++ [r]).length : Int) * 1000000000 := by rw [hl]; omega
  refine { dl := h.dl, d0 := h.d0, sur := h.sur, hh := fun e he => ?_, nd := (List.nodup_cons.1 (hp.2.1.nodup_iff.1 h.nd)).2, low := fun x hx hd => ?_, vis := fun e he => ?_, ord := fun e he f hf => ?_, vnd := ?_, vh := fun e he f hf hq => ?_, tree := fun x hx hd => ?_ }
  · obtain ⟨a1, a2, a3⟩ := h.hh e (hp.2.1.mem_iff.2 (by simp [he]))
    exact ⟨a1, a2, Int.le_trans a3 hle⟩
  · rcases h.low x hx hd with h1 | h1
    · exact .inl (List.mem_append_left _ h1)
    · rcases List.mem_cons.1 (hp.2.1.mem_iff.1 h1) with h2 | h2
      · exact .inl (List.mem_append_right _ (by rw [h2]; exact List.mem_singleton_self _))
      · exact .inr h2
  · rcases List.mem_append.1 he with he | he
    · obtain ⟨a1, a2, a3, a4⟩ := h.vis e he
      exact ⟨a1, a2, a3, Int.le_trans a4 hle⟩
    · obtain rfl : e = r := by simpa using he
      exact ⟨f1, f2, hx, Int.le_trans f3 hle⟩
  · rcases List.mem_append.1 he with he | he
    · exact h.ord e he f (hp.2.1.mem_iff.2 (by simp [hf]))
    · obtain rfl : e = r := by simpa using he
      exact f5 f hf
  · rw [List.map_append, List.nodup_append]
    refine ⟨h.vnd, by simp, fun a ha b hb hq => ?_⟩
    obtain ⟨e, he, rfl⟩ := List.mem_map.1 ha
    obtain rfl : b = r.1 := by simpa using hb
    exact (f4 e he).1 hq
  · rcases List.mem_append.1 he with he | he
    · exact h.vh e he f (hp.2.1.mem_iff.2 (by simp [hf])) hq
    · obtain rfl : e = r := by simpa using he
      exact f6 f hf hq
  · rcases h.tree x hx hd with h1 | ⟨j, k, a1, a2, a3, a4, a5, a6, a7⟩
    · exact .inl h1
    · refine .inr ⟨j, k, a1, a2, a3, by omega, fun k' hk' hq => ?_, by rw [gV_app a4]; exact a6, a7⟩
      by_cases c : k' < V.length
      · rw [gV_app c] at hq; exact a5 k' c hq
      · omega
theorem ClS.visit {A F P D V r} {N : Nat} (h : ClS A F P D V N fun _ => True) (hN : r.1 < N) (hl : ∀ e ∈ V, e.1 < N ∧ e.1 ≠ r.1) : ClS A F P D (V ++ [r]) r.1 fun j => j ∈ (fromR A r.1).take 0 := by
  intro e he j hj ht hr hd
  rcases List.mem_append.1 he with he | he
  · exact h e he j hj ht hr fun _ => trivial
  · obtain rfl : e = r := by simpa using he
    have := hd rfl
    simp at this
theorem ClS.all {A F P D V x0} {N : Nat} (h : ClS A F P D V x0 fun j => j ∈ (fromR A x0).take (fromR A x0).length) (ha : okN N A) : ClS A F P D V N fun _ => True := by
  intro e he j hj ht hr _
  refine h e he j hj ht hr fun hx => ?_
  show j ∈ (fromR A x0).take (fromR A x0).length
  rw [List.take_of_length_le (Nat.le_refl _), mem_fromR]
  refine ⟨hj, ?_⟩
  rw [(tn_is ha hj).1, ht, hx]
/-- While the steps of the last visited node are looked at. -/
def Mid (X : List Int) (N : Nat) (D : List Int) (V : List NC) (r : NC) : Prop :=
  0 < V.length ∧ gH V (V.length - 1) = r ∧ r ∈ V ∧ (∀ e ∈ V, e.2 ≤ r.2) ∧ r.2 + 1000000000 ≤ (V.length : Int) * 1000000000 ∧ 0 ≤ r.2 ∧ r.1 < N ∧ 0 ≤ X.getD r.1 0 ∧ r.2 = D.getD r.1 0
theorem SR.mid {A F P X N D V H H' r} (h : SR A F P X N D V H) (hp : PopH H r H') (hs : ¬ D.getD r.1 0 < r.2) (hx : 0 ≤ X.getD r.1 0) : Mid X N D (V ++ [r]) r := by
  obtain ⟨f1, f2, f3, f4, f5, f6, f7⟩ := h.fresh hp hs
  have hl : (V ++ [r]).length = V.length + 1 := by simp
  refine ⟨by omega, by rw [hl]; exact gV_last, by simp, fun e he => ?_, by rw [hl]; omega, f7, f1, hx, f2⟩
  rcases List.mem_append.1 he with he | he
  · exact (f4 e he).2
  · obtain rfl : e = r := by simpa using he
    exact Int.le_refl _
/-- A node gets cheaper. -/
theorem SR.relax {A F P X N D V H H' r j} (h : SR A F P X N D V H) (hm : Mid X N D V r) (ha : okN N A) (hr : RedB A F P) (hN : N ≤ 700) (hj : j < 2 * A.length) (ht : tn A j = r.1) (hroom : 0 < roomS A F j)
    (hlt : r.2 + redS A P j < D.getD (hn A j) 0) (hp : H'.Perm ((hn A j, r.2 + redS A P j) :: H)) :
    SR A F P X N (D.set (hn A j) (r.2 + redS A P j)) V H' ∧ Mid X N (D.set (hn A j) (r.2 + redS A P j)) V r ∧ (∀ x, x < N → (D.set (hn A j) (r.2 + redS A P j)).getD x 0 ≤ D.getD x 0) := by
  obtain ⟨m1, m2, m3, m4, m5, m6, m7, m8, m9⟩ := hm
  obtain ⟨-, kz⟩ := hn_is ha hj
  obtain ⟨z, hz⟩ : ∃ z, z = hn A j := ⟨_, rfl⟩
  obtain ⟨c, hc⟩ : ∃ c, c = r.2 + redS A P j := ⟨_, rfl⟩
  rw [← hz, ← hc] at hlt hp ⊢
  rw [← hz] at kz
  have hrj := hr j hj hroom
  have hzD : z < D.length := by rw [h.dl]; exact kz
  have hvl := h.vlen
  have hset : ∀ x, (D.set z c).getD x 0 = if x = z then c else D.getD x 0 := by
    intro x
    by_cases e : x = z
    · subst e; rw [if_pos rfl, getD_set_same _ hzD]
    · rw [if_neg e, getD_set_ne _ (fun h => e h.symm)]
  have hnv : ∀ e ∈ V, e.1 ≠ z := by
    intro e he hq
    have h1 := m4 e he
    have h2 := (h.vis e he).2.1
    rw [hq] at h2; omega
  have hcb : c ≤ (V.length : Int) * 1000000000 := by omega
  have hci : c < inf := by unfold inf; omega
  refine ⟨?_, ⟨m1, m2, m3, m4, m5, m6, m7, m8, ?_⟩, fun x hx => ?_⟩
  · refine SR.perm (H := (z, c) :: H) ?_ hp
    refine { dl := by rw [List.length_set]; exact h.dl, d0 := fun x hx => ?_, sur := fun x hx hs => ?_, hh := fun e he => ?_, nd := ?_, low := fun x hx hd => ?_, vis := fun e he => ?_, ord := fun e he f hf => ?_, vnd := h.vnd, vh := fun e he f hf hq => ?_, tree := fun x hx hd => ?_ }
    · rw [hset]
      split
      · exact ⟨by omega, by omega⟩
      · exact h.d0 x hx
    · rw [hset]
      split
      · next e => subst e; have := h.sur x hx hs; omega
      · exact h.sur x hx hs
    · rcases List.mem_cons.1 he with rfl | he
      · exact ⟨kz, by rw [hset, if_pos rfl]; exact Int.le_refl _, hcb⟩
      · obtain ⟨a1, a2, a3⟩ := h.hh e he
        refine ⟨a1, ?_, a3⟩
        rw [hset]
        split
        · next q => rw [q] at a2; omega
        · exact a2
    · refine List.nodup_cons.2 ⟨fun hq => ?_, h.nd⟩
      have := (h.hh _ hq).2.1
      simp only at this
      omega
    · rw [hset] at hd ⊢
      by_cases e : x = z
      · subst e; rw [if_pos rfl]; exact .inr (by simp)
      · rw [if_neg e] at hd ⊢
        rcases h.low x hx hd with h1 | h1
        · exact .inl h1
        · exact .inr (List.mem_cons_of_mem _ h1)
    · obtain ⟨a1, a2, a3, a4⟩ := h.vis e he
      refine ⟨a1, ?_, a3, a4⟩
      rw [hset, if_neg (hnv e he)]; exact a2
    · rcases List.mem_cons.1 hf with rfl | hf
      · have := m4 e he
        simp only; omega
      · exact h.ord e he f hf
    · rcases List.mem_cons.1 hf with rfl | hf
      · exact absurd hq.symm (hnv e he)
      · exact h.vh e he f hf hq
    · rw [hset] at hd ⊢
      by_cases e : x = z
      · subst e
        rw [if_pos rfl]
        refine .inr ⟨j, V.length - 1, hj, hz.symm, hroom, by omega, fun k' hk' hq => ?_, by rw [m2, ht], ?_⟩
        · have : gH V k' ∈ V := by unfold gH; simp [List.getD, hk']
          exact absurd hq (hnv _ this)
        · rw [ht, hset, if_neg (hnv r m3), ← m9]; exact hc
      · rw [if_neg e] at hd ⊢
        rcases h.tree x hx hd with h1 | ⟨j', k, a1, a2, a3, a4, a5, a6, a7⟩
        · exact .inl h1
        · refine .inr ⟨j', k, a1, a2, a3, a4, a5, a6, ?_⟩
          have : gH V k ∈ V := by unfold gH; simp [List.getD, a4]
          have h2 := hnv _ this
          rw [a6] at h2
          rw [hset, if_neg h2]; exact a7
  · rw [hset, if_neg (hnv r m3)]; exact m9
  · rw [hset]
    split
    · next e => subst e; omega
    · exact Int.le_refl _
theorem ClS.step {A F P D D' V x0 i} {N : Nat} (h : ClS A F P D V x0 fun j => j ∈ (fromR A x0).take i) (ha : okN N A) (hi : i < (fromR A x0).length) (hD : ∀ x, x < N → D'.getD x 0 ≤ D.getD x 0) {r : NC} (hv : ∀ e ∈ V, e.1 = x0 → e.2 = r.2)
    (hj : 0 < roomS A F ((fromR A x0).getD i 0) → D'.getD (hn A ((fromR A x0).getD i 0)) 0 ≤ r.2 + redS A P ((fromR A x0).getD i 0)) : ClS A F P D' V x0 fun j => j ∈ (fromR A x0).take (i + 1) := by
  intro e he j hj' ht hr hd
  obtain ⟨-, k2⟩ := hn_is ha hj'
  by_cases e0 : e.1 = x0
  · have := hd e0
    rw [List.take_succ_eq_append_getElem hi, List.mem_append] at this
    rcases this with h1 | h1
    · exact Int.le_trans (hD _ k2) (h e he j hj' ht hr fun _ => h1)
    · have h2 : j = (fromR A x0).getD i 0 := by simpa [List.getD, hi] using h1
      rw [hv e he e0, h2]
      exact hj (by rw [← h2]; exact hr)
  · exact Int.le_trans (hD _ k2) (h e he j hj' ht hr fun q => absurd q e0)
/-- The cheapest way is found: V: the visited nodes, the last has too little. -/
structure FR (A : List Arc) (F P X : List Int) (N : Nat) (V : List NC) (D : List Int) (most : Int) : Prop where
  ne : 0 < V.length
  last : (gH V (V.length - 1)).2 = most
  lastX : X.getD (gH V (V.length - 1)).1 0 < 0
  vis : ∀ e ∈ V, e.1 < N ∧ e.2 = D.getD e.1 0 ∧ 0 ≤ e.2 ∧ e.2 ≤ most
  notl : ∀ e ∈ V, e.1 ≠ (gH V (V.length - 1)).1 → 0 ≤ X.getD e.1 0
  nd : (V.map (·.1)).Nodup
  rest : ∀ x, x < N → (∀ e ∈ V, e.1 ≠ x) → most ≤ D.getD x 0
  cl : ∀ x j, x < N → D.getD x 0 < most → j < 2 * A.length → tn A j = x → 0 < roomS A F j → D.getD (hn A j) 0 ≤ D.getD x 0 + redS A P j
  tree : ∀ k, k < V.length → 0 < X.getD (gH V k).1 0 ∨ ∃ j k', j < 2 * A.length ∧ hn A j = (gH V k).1 ∧ 0 < roomS A F j ∧ k' < k ∧ (gH V k').1 = tn A j ∧ D.getD (gH V k).1 0 = D.getD (tn A j) 0 + redS A P j
  mostB : most ≤ 700000000000
theorem SR.found {A F P X N D V H H' r} (h : SR A F P X N D V H) (hc : ClS A F P D V N fun _ => True) (hp : PopH H r H') (hs : ¬ D.getD r.1 0 < r.2) (hx : X.getD r.1 0 < 0) (hN : N ≤ 700) : FR A F P X N (V ++ [r]) D r.2 := by
  obtain ⟨f1, f2, f3, f4, f5, f6, f7⟩ := h.fresh hp hs
  have hl : (V ++ [r]).length = V.length + 1 := by simp
  have hlast : gH (V ++ [r]) ((V ++ [r]).length - 1) = r := by rw [hl]; exact gV_last
  have hvl := h.vlen
  have hrest : ∀ x, x < N → D.getD x 0 < r.2 → (x, D.getD x 0) ∈ V := by
    intro x hx hlt
    have : r.2 < inf := by unfold inf; omega
    rcases h.low x hx (by omega) with h1 | h1
    · exact h1
    · exfalso
      have := hp.2.2 _ h1
      simp only at this
      omega
  refine { ne := by omega, last := by rw [hlast], lastX := by rw [hlast]; exact hx, vis := fun e he => ?_, notl := fun e he hq => ?_, nd := ?_, rest := fun x hx hq => ?_, cl := fun x j hx hlt hj ht hr => ?_, tree := fun k hk => ?_, mostB := by omega }
  · rcases List.mem_append.1 he with he | he
    · obtain ⟨a1, a2, a3, a4⟩ := h.vis e he
      exact ⟨a1, a2, by rw [a2]; exact (h.d0 _ a1).1, (f4 e he).2⟩
    · obtain rfl : e = r := by simpa using he
      exact ⟨f1, f2, f7, Int.le_refl _⟩
  · rw [hlast] at hq
    rcases List.mem_append.1 he with he | he
    · exact (h.vis e he).2.2.1
    · obtain rfl : e = r := by simpa using he
      exact absurd rfl hq
  · rw [List.map_append, List.nodup_append]
    refine ⟨h.vnd, by simp, fun a ha b hb hq => ?_⟩
    obtain ⟨e, he, rfl⟩ := List.mem_map.1 ha
    obtain rfl : b = r.1 := by simpa using hb
    exact (f4 e he).1 hq
  · rcases Int.lt_or_le (D.getD x 0) r.2 with hlt | hge
    · exact absurd rfl (hq _ (List.mem_append_left _ (hrest x hx hlt)))
    · exact hge
  · have := hc _ (hrest x hx hlt) j hj ht hr fun _ => trivial
    exact this
  · rw [hl] at hk
    have hxk : (gH (V ++ [r]) k).1 < N ∧ D.getD (gH (V ++ [r]) k).1 0 < inf := by
      rcases Nat.lt_or_ge k V.length with c | c
      · rw [gV_app c]
        have m : gH V k ∈ V := by unfold gH; simp [List.getD, c]
        obtain ⟨a1, a2, -, a4⟩ := h.vis _ m
        refine ⟨a1, ?_⟩
        rw [← a2]; unfold inf; omega
      · obtain rfl : k = V.length := by omega
        rw [gV_last]
        refine ⟨f1, ?_⟩
        rw [← f2]; unfold inf; omega
    rcases h.tree _ hxk.1 hxk.2 with h1 | ⟨j, i, a1, a2, a3, a4, a5, a6, a7⟩
    · exact .inl h1
    · refine .inr ⟨j, i, a1, a2, a3, ?_, by rw [gV_app a4]; exact a6, a7⟩
      rcases Nat.lt_or_ge k V.length with c | c
      · exact a5 k c (by rw [gV_app c])
      · omega
end NetM

namespace NetM

/-! ### The beginning -/
/-- The nodes below k with too much. -/
def srcN (X : List Int) (k : Nat) : List Nat := (List.range k).filter fun x => decide (0 < X.getD x 0)
def srcs (X : List Int) (k : Nat) : List NC := (srcN X k).map fun x => (x, 0)
def startD (X : List Int) (N k : Nat) : List Int := (List.range N).map fun x => if x < k ∧ 0 < X.getD x 0 then 0 else inf
theorem startD_len (X : List Int) (N k : Nat) : (startD X N k).length = N := by simp [startD]
theorem startD_get {X : List Int} {N k x : Nat} (hx : x < N) : (startD X N k).getD x 0 = if x < k ∧ 0 < X.getD x 0 then 0 else inf := by
  have h : x < (startD X N k).length := by rw [startD_len]; exact hx
  rw [List.getD, List.getElem?_eq_getElem h]
  simp only [startD, List.getElem_map, List.getElem_range, Option.getD_some]
theorem startD_zero (X : List Int) (N : Nat) : startD X N 0 = List.replicate N inf := by
  refine List.ext_getElem (by simp [startD]) fun i h1 h2 => ?_
  simp [startD]
theorem startD_succ {X : List Int} {N k : Nat} : startD X N (k + 1) = if 0 < X.getD k 0 then (startD X N k).set k 0 else startD X N k := by
  refine List.ext_getElem (by split <;> simp [startD]) fun i h1 h2 => ?_
  by_cases c : 0 < X.getD k 0
  · simp only [if_pos c]
    rw [List.getElem_set]
    simp only [startD, List.getElem_map, List.getElem_range]
    by_cases e : k = i
    · subst e; rw [if_pos ⟨by omega, c⟩, if_pos rfl]
    · rw [if_neg e]
      by_cases q : i < k ∧ 0 < X.getD i 0
      · rw [if_pos q, if_pos ⟨by omega, q.2⟩]
      · rw [if_neg q, if_neg (fun h => q ⟨by omega, h.2⟩)]
  · simp only [if_neg c]
    simp only [startD, List.getElem_map, List.getElem_range]
    by_cases q : i < k ∧ 0 < X.getD i 0
    · rw [if_pos q, if_pos ⟨by omega, q.2⟩]
    · rw [if_neg q, if_neg (fun h => q ⟨by
        have : i ≠ k := by rintro rfl; exact c h.2
        omega, h.2⟩)]
theorem srcs_succ (X : List Int) (k : Nat) : srcs X (k + 1) = if 0 < X.getD k 0 then srcs X k ++ [(k, 0)] else srcs X k := by
  unfold srcs srcN
  rw [List.range_succ, List.filter_append, List.map_append]
  by_cases c : 0 < X.getD k 0
  · have e : [k].filter (fun x => decide (0 < X.getD x 0)) = [k] := List.filter_eq_self.2 fun a ha => by
      obtain rfl : a = k := by simpa using ha
      exact decide_eq_true c
    rw [if_pos c, e]; rfl
  · have e : [k].filter (fun x => decide (0 < X.getD x 0)) = [] := List.filter_eq_nil_iff.2 fun a ha => by
      obtain rfl : a = k := by simpa using ha
      simpa using c
    rw [if_neg c, e]; simp
theorem mem_srcN {X : List Int} {k x : Nat} : x ∈ srcN X k ↔ x < k ∧ 0 < X.getD x 0 := by simp [srcN]
theorem SR.start {A : List Arc} {F P X : List Int} {N : Nat} : SR A F P X N (startD X N N) [] (srcs X N) where
  dl := startD_len X N N
  d0 := fun x hx => by rw [startD_get hx]; split <;> exact ⟨by decide, by decide⟩
  sur := fun x hx hp => by rw [startD_get hx, if_pos ⟨hx, hp⟩]
  hh := fun e he => by
    obtain ⟨x, hx, rfl⟩ := List.mem_map.1 he
    have := mem_srcN.1 hx
    refine ⟨this.1, ?_, by simp⟩
    rw [startD_get this.1, if_pos this]; exact Int.le_refl _
  nd := by
    unfold srcs
    exact List.pairwise_map.2 ((List.nodup_range.filter _).imp fun h q => h (Prod.mk.inj q).1)
  low := fun x hx hd => by
    right
    rw [startD_get hx] at hd ⊢
    by_cases c : x < N ∧ 0 < X.getD x 0
    · rw [if_pos c]
      exact List.mem_map.2 ⟨x, mem_srcN.2 c, rfl⟩
    · rw [if_neg c] at hd; exact absurd hd (by decide)
  vis := fun e he => by cases he
  ord := fun e he => by cases he
  vnd := by simp
  vh := fun e he => by cases he
  tree := fun x hx hd => by
    left
    rw [startD_get hx] at hd
    by_cases c : x < N ∧ 0 < X.getD x 0
    · exact c.2
    · rw [if_neg c] at hd; exact absurd hd (by decide)
theorem ClS.start {A F P D} {N : Nat} : ClS A F P D [] N fun _ => True := fun e he => by cases he

/-! ### Lower -/
def lowV (P : List Int) (V : List NC) (most : Int) : List Int := V.foldl (fun P e => P.set e.1 (P.getD e.1 0 - (most - e.2))) P
theorem lowV_len (most : Int) : ∀ (V : List NC) (P : List Int), (lowV P V most).length = P.length
  | [], _ => rfl
  | e :: V, P => by
    have := lowV_len most V (P.set e.1 (P.getD e.1 0 - (most - e.2)))
    unfold lowV at this ⊢
    rw [List.foldl_cons, this]; simp
theorem lowV_snoc (P : List Int) (V : List NC) (most : Int) (e : NC) : lowV P (V ++ [e]) most = (lowV P V most).set e.1 ((lowV P V most).getD e.1 0 - (most - e.2)) := by
  unfold lowV
  rw [List.foldl_append]; rfl
theorem lowV_get (most : Int) (x : Nat) : ∀ (V : List NC) (P : List Int), (V.map (·.1)).Nodup → (∀ e ∈ V, e.1 < P.length) →
    (∃ e ∈ V, e.1 = x ∧ (lowV P V most).getD x 0 = P.getD x 0 - (most - e.2)) ∨ ((∀ e ∈ V, e.1 ≠ x) ∧ (lowV P V most).getD x 0 = P.getD x 0)
  | [], _, _, _ => .inr ⟨fun e he => (by cases he), rfl⟩
  | e :: V, P, hn, hl => by
    rw [List.map_cons, List.nodup_cons] at hn
    have he := hl e (by simp)
    have ih := lowV_get most x V (P.set e.1 (P.getD e.1 0 - (most - e.2))) hn.2 fun e' he' => by
      rw [List.length_set]; exact hl e' (by simp [he'])
    have hu : lowV P (e :: V) most = lowV (P.set e.1 (P.getD e.1 0 - (most - e.2))) V most := rfl
    rw [hu]
    by_cases c : e.1 = x
    · subst c
      left
      refine ⟨e, by simp, rfl, ?_⟩
      rcases ih with ⟨e', he', h1, h2⟩ | ⟨h1, h2⟩
      · exact absurd (List.mem_map.2 ⟨e', he', h1⟩) hn.1
      · rw [h2, getD_set_same _ he]
    · rcases ih with ⟨e', he', h1, h2⟩ | ⟨h1, h2⟩
      · exact .inl ⟨e', by simp [he'], h1, by rw [h2, getD_set_ne _ c]⟩
      · refine .inr ⟨fun e' he' => ?_, by rw [h2, getD_set_ne _ c]⟩
        rcases List.mem_cons.1 he' with rfl | he'
        · exact c
        · exact h1 e' he'

/-! ### What the new potentials are -/
/-- P' behind the search: what is used of it. -/
structure NewP (A : List Arc) (F P X : List Int) (N : Nat) (V : List NC) (P' : List Int) : Prop where
  len : P'.length = N
  fine : Fine A F P'
  le : ∀ x, x < N → P'.getD x 0 ≤ P.getD x 0
  deficit : ∀ x, x < N → X.getD x 0 < 0 → P'.getD x 0 = P.getD x 0
  lastN : 0 < V.length ∧ X.getD (gH V (V.length - 1)).1 0 < 0
  nodes : ∀ k, k < V.length → (gH V k).1 < N
  nd : (V.map (·.1)).Nodup
  tree : ∀ k, k < V.length → 0 < X.getD (gH V k).1 0 ∨ ∃ j k', j < 2 * A.length ∧ hn A j = (gH V k).1 ∧ 0 < roomS A F j ∧ k' < k ∧ (gH V k').1 = tn A j ∧ redS A P' j = 0
  rest : ∀ x, x < N → P'.getD x 0 = P.getD x 0 ∨ ∃ k, k < V.length ∧ (gH V k).1 = x
theorem gV_mem {V : List NC} {k : Nat} (hk : k < V.length) : gH V k ∈ V := by unfold gH; simp [List.getD, hk]
theorem FR.newP {A F P X N V D most} (h : FR A F P X N V D most) (ha : okN N A) (hf : Fine A F P) (hP : P.length = N) : NewP A F P X N V (lowV P V most) := by
  have hl : ∀ e ∈ V, e.1 < P.length := fun e he => by rw [hP]; exact (h.vis e he).1
  have hg : ∀ x, x < N → (lowV P V most).getD x 0 = P.getD x 0 - (if D.getD x 0 < most then most - D.getD x 0 else 0) := by
    intro x hx
    rcases lowV_get most x V P h.nd hl with ⟨e, he, h1, h2⟩ | ⟨h1, h2⟩
    · obtain ⟨-, a2, a3, a4⟩ := h.vis e he
      rw [h1] at a2
      rw [h2, ← a2]
      split <;> omega
    · have := h.rest x hx h1
      rw [h2, if_neg (by omega)]; omega
  have hvis : ∀ k, k < V.length → (gH V k).1 < N ∧ D.getD (gH V k).1 0 ≤ most := fun k hk => by
    obtain ⟨a1, a2, -, a4⟩ := h.vis _ (gV_mem hk)
    exact ⟨a1, by omega⟩
  refine { len := by rw [lowV_len]; exact hP, fine := fun j hj hr => ?_, le := fun x hx => ?_, deficit := fun x hx hd => ?_, lastN := ⟨h.ne, h.lastX⟩, nodes := fun k hk => (hvis k hk).1, nd := h.nd, tree := fun k hk => ?_, rest := fun x hx => ?_ }
  · obtain ⟨-, k1⟩ := tn_is ha hj
    obtain ⟨-, k2⟩ := hn_is ha hj
    have h1 := hf j hj hr
    unfold redS at h1 ⊢
    rw [hg _ k1, hg _ k2]
    by_cases c : D.getD (tn A j) 0 < most
    · have h2 := h.cl _ j k1 c hj rfl hr
      unfold redS at h2
      rw [if_pos c]
      split <;> omega
    · rw [if_neg c]
      split <;> omega
  · rw [hg x hx]; split <;> omega
  · rcases lowV_get most x V P h.nd hl with ⟨e, he, h1, h2⟩ | ⟨h1, h2⟩
    · by_cases c : e.1 = (gH V (V.length - 1)).1
      · have a := (h.vis e he).2.1
        have b := (h.vis _ (gV_mem (k := V.length - 1) (by have := h.ne; omega))).2.1
        rw [h.last] at b
        rw [← c] at b
        rw [h2]; omega
      · have := h.notl e he c
        rw [h1] at this; omega
    · exact h2
  · obtain ⟨k1, k2⟩ := hvis k hk
    rcases h.tree k hk with h1 | ⟨j, k', a1, a2, a3, a4, a5, a6⟩
    · exact .inl h1
    · refine .inr ⟨j, k', a1, a2, a3, a4, a5, ?_⟩
      obtain ⟨q1, q2⟩ := hvis k' (by omega)
      rw [a5] at q1 q2
      unfold redS at a6 ⊢
      rw [a2] at a6 ⊢
      rw [hg _ k1, hg _ q1]
      split <;> split <;> omega
  · rcases lowV_get most x V P h.nd hl with ⟨e, he, h1, -⟩ | ⟨-, h2⟩
    · right
      obtain ⟨k, hk, hq⟩ := gH_mem he
      exact ⟨k, hk, by rw [hq]; exact h1⟩
    · exact .inl h2
/-- No closed set has all nodes with too much and none with too little. -/
theorem NewP.path {A F P X N V P'} (h : NewP A F P X N V P') {S : Nat → Bool} (h1 : ∀ x, x < N → 0 < X.getD x 0 → S x = true) (h2 : ∀ x, x < N → S x = true → 0 ≤ X.getD x 0)
    (h3 : ∀ j, j < 2 * A.length → S (tn A j) = true → 0 < roomS A F j → redS A P' j = 0 → S (hn A j) = true) : False := by
  have key : ∀ k, k < V.length → S (gH V k).1 = true := by
    intro k
    induction k using Nat.strongRecOn with
    | _ k ih =>
      intro hk
      rcases h.tree k hk with c | ⟨j, k', a1, a2, a3, a4, a5, a6⟩
      · exact h1 _ (h.nodes k hk) c
      · rw [← a2]
        refine h3 j a1 ?_ a3 a6
        rw [← a5]; exact ih k' a4 (by omega)
  have hn := h.lastN.1
  have := h2 _ (h.nodes (V.length - 1) (by omega)) (key _ (by omega))
  have := h.lastN.2
  omega
theorem wS_mono {w : Nat → Int} {S T : Nat → Bool} {n : Nat} (h : ∀ x, 0 ≤ w x) (hST : ∀ x, S x = true → T x = true) : wS w S n ≤ wS w T n := by
  unfold wS
  refine sumN_mono fun x _ => ?_
  have := h x
  by_cases c : S x = true
  · rw [if_pos c, if_pos (hST x c)]; exact Int.le_refl _
  · rw [if_neg c]; split <;> omega
/-- The nodes that were visited before the k-th. -/
def visS (V : List NC) (k : Nat) : Nat → Bool := fun y => decide (∃ i, i < k ∧ (gH V i).1 = y)
theorem visS_succ (V : List NC) (k : Nat) : visS V (k + 1) = addS (visS V k) (gH V k).1 := by
  funext y
  show decide (∃ i, i < k + 1 ∧ (gH V i).1 = y) = (decide (∃ i, i < k ∧ (gH V i).1 = y) || decide (y = (gH V k).1))
  by_cases c : ∃ i, i < k ∧ (gH V i).1 = y
  · have h2 : decide (∃ i, i < k ∧ (gH V i).1 = y) = true := decide_eq_true c
    obtain ⟨i, hi, hq⟩ := c
    have h1 : decide (∃ i, i < k + 1 ∧ (gH V i).1 = y) = true := decide_eq_true ⟨i, by omega, hq⟩
    rw [h1, h2]; rfl
  · have h2 : decide (∃ i, i < k ∧ (gH V i).1 = y) = false := decide_eq_false c
    rw [h2, Bool.false_or]
    by_cases e : y = (gH V k).1
    · rw [decide_eq_true e]; exact decide_eq_true ⟨k, by omega, e.symm⟩
    · rw [decide_eq_false e]
      refine decide_eq_false fun ⟨i, hi, hq⟩ => ?_
      by_cases q : i = k
      · subst q; exact e hq.symm
      · exact c ⟨i, by omega, hq⟩
theorem nodup_gH {V : List NC} (h : (V.map (·.1)).Nodup) {i k : Nat} (hi : i < k) (hk : k < V.length) : (gH V i).1 ≠ (gH V k).1 := by
  intro q
  have h1 := List.pairwise_iff_getElem.1 h i k (by simp; omega) (by simpa using hk) hi
  simp only [List.getElem_map] at h1
  apply h1
  have e1 : gH V i = V[i] := by unfold gH; simp [List.getD, show i < V.length by omega]
  have e2 : gH V k = V[k] := by unfold gH; simp [List.getD, hk]
  rw [← e1, ← e2]; exact q
/-- No potential sinks far below those of the nodes with too little. -/
theorem NewP.low {A F P X N V P'} {w : Nat → Int} {L : Int} (h : NewP A F P X N V P') (ha : okN N A) (hw : within A F) (hX : Bal A F N X)
    (w0 : ∀ x, 0 ≤ w x) (hc : ∀ j, j < 2 * A.length → costS A j ≤ w (tn A j)) (hd : ∀ d, d < N → X.getD d 0 < 0 → L ≤ P.getD d 0) (hb : ∀ x, x < N → L - 2 * sumN w N ≤ P.getD x 0) :
    ∀ x, x < N → L - 2 * sumN w N ≤ P'.getD x 0 := by
  have hs : ∀ u, u < N → 0 < X.getD u 0 → L - sumN w N ≤ P'.getD u 0 := fun u hu pu =>
    surplus_low ha hw hX h.fine w0 hc (fun d hd1 hd2 => by rw [h.deficit d hd1 hd2]; exact hd d hd1 hd2) hu pu
  have key : ∀ k, k < V.length → L - sumN w N - wS w (visS V (k + 1)) N ≤ P'.getD (gH V k).1 0 := by
    intro k
    induction k using Nat.strongRecOn with
    | _ k ih =>
      intro hk
      have hkN := h.nodes k hk
      have hnew : visS V k (gH V k).1 = false := decide_eq_false fun ⟨i, hi, hq⟩ => nodup_gH h.nd hi hk hq
      rw [visS_succ, wS_add hkN hnew]
      have hw0 := w0 (gH V k).1
      have hwn : 0 ≤ wS w (visS V k) N := sumN_nonneg fun y _ => by have := w0 y; show 0 ≤ ite _ _ _; split <;> omega
      rcases h.tree k hk with c | ⟨j, k', a1, a2, a3, a4, a5, a6⟩
      · have := hs _ hkN c; omega
      · have h1 := ih k' a4 (by omega)
        have h2 : wS w (visS V (k' + 1)) N ≤ wS w (visS V k) N := wS_mono w0 fun x hx => by
          obtain ⟨i, hi, hq⟩ := of_decide_eq_true hx
          exact decide_eq_true ⟨i, by omega, hq⟩
        have h3 := hc (twin j) (by unfold twin; split <;> omega)
        rw [cost_twin, tn_twin, a2] at h3
        unfold redS at a6
        rw [a2, ← a5] at a6
        omega
  intro x hx
  rcases h.rest x hx with e | ⟨k, hk, rfl⟩
  · rw [e]; exact hb x hx
  · have h1 := key k hk
    have h2 := wS_le (S := visS V (k + 1)) (n := N) w0
    omega
end NetM

namespace NetM

def ActS (A : List Arc) (F P : List Int) (j : Nat) : Prop := 0 < roomS A F j ∧ redS A P j = 0
def Rel (x0 x1 : Int) : Prop := (x0 < 0 → x0 ≤ x1 ∧ x1 ≤ 0) ∧ (0 ≤ x0 → x1 = x0)
theorem Rel.refl (x : Int) : Rel x x := ⟨fun _ => by omega, fun _ => rfl⟩
theorem Rel.trans {x y z : Int} (h : Rel x y) (g : Rel y z) : Rel x z := by
  unfold Rel at *
  by_cases c : x < 0
  · have h1 := h.1 c
    refine ⟨fun _ => ?_, fun c' => by omega⟩
    by_cases d : y < 0
    · have := g.1 d; omega
    · have := g.2 (by omega); omega
  · have h1 := h.2 (by omega)
    subst h1
    refine ⟨fun c' => absurd c' c, fun c' => g.2 c'⟩
/-- What a push does to the surplus. -/
def pushX (A : List Arc) (X : List Int) (j : Nat) (p : Int) : List Int := (X.set (hn A j) (X.getD (hn A j) 0 + p)).set (tn A j) ((X.set (hn A j) (X.getD (hn A j) 0 + p)).getD (tn A j) 0 - p)
theorem getD_set {F : List Int} {i : Nat} (v : Int) (h : i < F.length) (k : Nat) : (F.set i v).getD k 0 = if k = i then v else F.getD k 0 := by
  by_cases e : k = i
  · subst e; rw [if_pos rfl, getD_set_same _ h]
  · rw [if_neg e, getD_set_ne _ (fun h => e h.symm)]
theorem pushX_get {A : List Arc} {X : List Int} {j : Nat} (p : Int) (hh : hn A j < X.length) (ht : tn A j < X.length) (y : Nat) :
    (pushX A X j p).getD y 0 = X.getD y 0 + (if y = hn A j then p else 0) - (if y = tn A j then p else 0) := by
  unfold pushX
  rw [getD_set _ (by simpa using ht), getD_set _ hh, getD_set _ hh]
  by_cases e : y = tn A j
  · subst e
    rw [if_pos rfl, if_pos rfl]
    split
    · next c => rw [← c]
    · omega
  · rw [if_neg e, if_neg e]
    split
    · next c => rw [← c]; omega
    · omega
theorem pushX_len (A : List Arc) (X : List Int) (j : Nat) (p : Int) : (pushX A X j p).length = X.length := by simp [pushX]
theorem bal_push {A : List Arc} {F X : List Int} {N j : Nat} (p : Int) (h : Bal A F N X) (ha : okN N A) (hl : F.length = A.length) (hj : j < 2 * A.length) : Bal A (along F j p) N (pushX A X j p) := by
  obtain ⟨t1, t2⟩ := tn_is ha hj
  obtain ⟨h1, h2⟩ := hn_is ha hj
  refine ⟨by rw [pushX_len]; exact h.1, fun x hx => ?_⟩
  rw [pushX_get p (by rw [h.1]; exact h2) (by rw [h.1]; exact t2), along_net p hl (by omega), h.2 x hx, t1, h1]
  have e1 : ((tn A j : Int) = (x : Int)) ↔ x = tn A j := by omega
  have e2 : ((hn A j : Int) = (x : Int)) ↔ x = hn A j := by omega
  simp only [e1, e2]
  omega
theorem fine_push {A : List Arc} {F P : List Int} {j : Nat} {p : Int} (h : Fine A F P) (hl : F.length = A.length) (hj : j < 2 * A.length) (hz : redS A P j = 0) : Fine A (along F j p) P := by
  intro k hk hr
  by_cases c1 : k = j
  · rw [c1, hz]; exact Int.le_refl _
  · by_cases c2 : k = twin j
    · rw [c2, red_twin, hz]; decide
    · rw [room_other p (by omega) c1 c2] at hr
      exact h k hk hr
/-- What a push of at most 'a' from node x leaves. -/
structure SentC (A : List Arc) (N : Nat) (P : List Int) (x : Nat) (a : Int) (F X : List Int) (T : List Bool) (p : Int) (F' X' : List Int) (T' : List Bool) : Prop where
  p0 : 0 ≤ p
  pa : p ≤ a
  wi : within A F'
  fine : Fine A F' P
  bal : Bal A F' N X'
  tl : T'.length = N
  mono : ∀ y, y ≠ x → getB T y = true → getB T' y = true
  fr : ∀ j, j < 2 * A.length → tn A j ≠ x → getB T (tn A j) = true → F'.getD (j / 2) 0 = F.getD (j / 2) 0
  fx : ∀ y, y < N → y ≠ x → getB T y = true → X'.getD y 0 = X.getD y 0
  rel : ∀ y, y < N → Rel (X.getD y 0) (X'.getD y 0 + if y = x then p else 0)
  zero : p = 0 → F' = F ∧ X' = X ∧ ∀ y, y < N → getB T' y = true → (y = x ∨ getB T y = false) → 0 ≤ X.getD y 0 ∧ ∀ j, j < 2 * A.length → tn A j = y → ActS A F P j → getB T' (hn A j) = true
  tx : p < a → 0 ≤ X.getD x 0 → getB T' x = true
  dp : X.getD x 0 < 0 → 0 < p
theorem SentC.deficit {A : List Arc} {N : Nat} {P F X : List Int} {T : List Bool} {x : Nat} {a : Int} (ha : 0 < a) (wi : within A F) (fine : Fine A F P) (bal : Bal A F N X) (tl : T.length = N) (hx : X.getD x 0 < 0) :
    SentC A N P x a F X T (min a (-X.getD x 0)) F X T where
  p0 := by omega
  pa := by omega
  wi := wi
  fine := fine
  bal := bal
  tl := tl
  mono := fun _ _ h => h
  fr := fun _ _ _ _ => rfl
  fx := fun _ _ _ _ => rfl
  rel := fun y hy => by
    split
    · next e => subst e; exact ⟨fun _ => by omega, fun c => by omega⟩
    · rw [Int.add_zero]; exact Rel.refl _
  zero := fun h => by omega
  tx := fun _ h => by omega
  dp := fun _ => by omega
/-- While the steps of node x are tried; k of them were. -/
structure SendL (A : List Arc) (N : Nat) (P : List Int) (x : Nat) (a : Int) (F X : List Int) (T : List Bool) (k : Nat) (q : Int) (F' X' : List Int) (T' : List Bool) : Prop where
  q0 : 0 ≤ q
  qa : q ≤ a
  wi : within A F'
  fine : Fine A F' P
  bal : Bal A F' N X'
  tl : T'.length = N
  tx : getB T' x = true
  mono : ∀ y, y ≠ x → getB T y = true → getB T' y = true
  fr : ∀ j, j < 2 * A.length → tn A j ≠ x → getB T (tn A j) = true → F'.getD (j / 2) 0 = F.getD (j / 2) 0
  fx : ∀ y, y < N → y ≠ x → getB T y = true → X'.getD y 0 = X.getD y 0
  rel : ∀ y, y < N → Rel (X.getD y 0) (X'.getD y 0 + if y = x then q else 0)
  zero : q = 0 → F' = F ∧ X' = X ∧ (∀ y, y < N → y ≠ x → getB T' y = true → getB T y = false → 0 ≤ X.getD y 0 ∧ ∀ j, j < 2 * A.length → tn A j = y → ActS A F P j → getB T' (hn A j) = true) ∧
    (∀ j, j ∈ (fromR A x).take k → ActS A F P j → getB T' (hn A j) = true)
theorem getB_setv {T : List Bool} {x : Nat} (b : Bool) (hx : x < T.length) (y : Nat) : getB (T.set x b) y = if y = x then b else getB T y := by
  unfold getB
  by_cases e : y = x
  · subst e; rw [if_pos rfl]; simp [List.getD, hx]
  · rw [if_neg e]
    simp only [List.getD]
    rw [List.getElem?_set_ne (fun h => e h.symm)]
theorem SendL.start {A : List Arc} {N : Nat} {P F X : List Int} {T : List Bool} {x : Nat} {a : Int} (ha : 0 < a) (hx : x < N) (wi : within A F) (fine : Fine A F P) (bal : Bal A F N X) (tl : T.length = N) :
    SendL A N P x a F X T 0 0 F X (T.set x true) where
  q0 := Int.le_refl _
  qa := by omega
  wi := wi
  fine := fine
  bal := bal
  tl := by simpa using tl
  tx := by rw [getB_setv _ (by omega), if_pos rfl]
  mono := fun y hy h => by rw [getB_setv _ (by omega), if_neg hy]; exact h
  fr := fun _ _ _ _ => rfl
  fx := fun _ _ _ _ => rfl
  rel := fun y hy => by rw [show (if y = x then (0 : Int) else 0) = 0 by split <;> rfl, Int.add_zero]; exact Rel.refl _
  zero := fun _ => ⟨rfl, rfl, fun y hy hne h1 h2 => (by rw [getB_setv _ (by omega), if_neg hne, h2] at h1; cases h1), fun j hj => by simp at hj⟩
theorem SendL.skip {A N P x a F X T k q F' X' T'} (h : SendL A N P x a F X T k q F' X' T') (ha : 0 < a) (hk : k < (fromR A x).length)
    (hc : ActS A F' P ((fromR A x).getD k 0) → getB T' (hn A ((fromR A x).getD k 0)) = true ∨ ¬ q < a) : SendL A N P x a F X T (k + 1) q F' X' T' := by
  refine { q0 := h.q0, qa := h.qa, wi := h.wi, fine := h.fine, bal := h.bal, tl := h.tl, tx := h.tx, mono := h.mono, fr := h.fr, fx := h.fx, rel := h.rel, zero := fun h0 => ?_ }
  obtain ⟨e1, e2, e3, e4⟩ := h.zero h0
  refine ⟨e1, e2, e3, fun j hj hact => ?_⟩
  rw [List.take_succ_eq_append_getElem hk, List.mem_append] at hj
  rcases hj with hj | hj
  · exact e4 j hj hact
  · have h2 : j = (fromR A x).getD k 0 := by simpa [List.getD, hk] using hj
    subst h2
    rcases hc (by rw [e1]; exact hact) with h3 | h3
    · exact h3
    · omega
/-- One step is sent along. -/
theorem SendL.send {A N P x a F X T k q F1 X1 T1 p F2 X2 T2 i h b} (hL : SendL A N P x a F X T k q F1 X1 T1) (ha : okN N A) (hx : x < N) (hk : k < (fromR A x).length) (hi : i = (fromR A x).getD k 0)
    (hh : h = hn A i) (hact : ActS A F1 P i) (hT : getB T1 h = false) (hb : b ≤ roomS A F1 i) (hb0 : 0 < b) (hba : b ≤ a - q) (hS : SentC A N P h b F1 X1 T1 p F2 X2 T2) :
    SendL A N P x a F X T (k + 1) (q + p) (along F2 i p) (pushX A X2 i p) T2 ∧ roomS A F2 i = roomS A F1 i ∧ roomS A F2 (twin i) = roomS A F1 (twin i) := by
  have him : i ∈ fromR A x := by
    rw [hi]
    have : (fromR A x).getD k 0 = (fromR A x)[k] := by simp [List.getD, hk]
    rw [this]; exact List.getElem_mem hk
  obtain ⟨hi1, hi2⟩ := mem_fromR.1 him
  have hti : tn A i = x := by unfold tn; rw [hi2]; simp
  obtain ⟨-, hhN⟩ := hn_is ha hi1
  rw [← hh] at hhN
  have hne : x ≠ h := by rintro rfl; rw [hL.tx] at hT; cases hT
  have hl2 := within_length hS.wi
  have hl1 := within_length hL.wi
  have hsame : F2.getD (i / 2) 0 = F1.getD (i / 2) 0 := hS.fr i hi1 (by rw [hti]; exact hne) (by rw [hti]; exact hL.tx)
  have hr : roomS A F2 i = roomS A F1 i := by unfold roomS; rw [hsame]
  have hr2 : roomS A F2 (twin i) = roomS A F1 (twin i) := by unfold roomS; rw [twin_half, hsame]
  have hX2 : X2.length = N := hS.bal.1
  have hxg : ∀ y, (pushX A X2 i p).getD y 0 = X2.getD y 0 + (if y = h then p else 0) - (if y = x then p else 0) := fun y => by
    rw [pushX_get p (by rw [← hh, hX2]; exact hhN) (by rw [hti, hX2]; exact hx), hti, ← hh]
  have hp0 := hS.p0
  have hpa := hS.pa
  refine ⟨?_, hr, hr2⟩
  refine { q0 := by have := hL.q0; omega, qa := by omega, wi := along_within hS.wi (by omega) hp0 (by omega), fine := fine_push hS.fine hl2 hi1 hact.2, bal := bal_push p hS.bal ha hl2 hi1, tl := hS.tl, tx := hS.mono x hne hL.tx, mono := fun y hy hTy => ?_, fr := fun j hj hjx hTj => ?_, fx := fun y hy hyx hTy => ?_, rel := fun y hy => ?_, zero := fun h0 => ?_ }
  · have h1 := hL.mono y hy hTy
    refine hS.mono y ?_ h1
    rintro rfl
    rw [h1] at hT; cases hT
  · have h1 := hL.mono _ hjx hTj
    have h2 : tn A j ≠ h := by intro e; rw [e, hT] at h1; cases h1
    have h3 : j / 2 ≠ i / 2 := by
      intro e
      have : j = i ∨ j = twin i := by unfold twin; split <;> omega
      rcases this with rfl | rfl
      · exact hjx hti
      · rw [tn_twin, ← hh] at h2; exact h2 rfl
    rw [along_get F2 i _ p (by omega), if_neg h3, hS.fr j hj h2 h1]
    exact hL.fr j hj hjx hTj
  · have h1 := hL.mono y hyx hTy
    have h2 : y ≠ h := by rintro rfl; rw [hT] at h1; cases h1
    rw [hxg, if_neg h2, if_neg hyx, hS.fx y hy h2 h1, hL.fx y hy hyx hTy]; omega
  · rw [hxg]
    have r1 := hL.rel y hy
    have r2 := hS.rel y hy
    by_cases e : y = x
    · subst e
      rw [if_pos rfl] at r1 ⊢
      rw [if_neg hne, if_pos rfl]
      have := hS.fx y hy hne hL.tx
      rw [this]
      have e2 : X1.getD y 0 + 0 - p + (q + p) = X1.getD y 0 + q := by omega
      rw [e2]; exact r1
    · rw [if_neg e] at r1
      rw [if_neg e, if_neg e]
      have e1 : X1.getD y 0 + 0 = X1.getD y 0 := by omega
      rw [e1] at r1
      have e2 : X2.getD y 0 + (if y = h then p else 0) - 0 + 0 = X2.getD y 0 + if y = h then p else 0 := by omega
      rw [e2]
      exact r1.trans r2
  · have hq0 : q = 0 := by have := hL.q0; omega
    have hp00 : p = 0 := by omega
    obtain ⟨e1, e2, e3, e4⟩ := hL.zero hq0
    obtain ⟨g1, g2, g3⟩ := hS.zero hp00
    rw [e1] at g1 g3
    rw [e2] at g2 g3
    have gl : F2.length = A.length := hl2
    have m12 : ∀ y, getB T1 y = true → getB T2 y = true := fun y hy => by
      refine hS.mono y ?_ hy
      rintro rfl
      rw [hy] at hT; cases hT
    refine ⟨?_, ?_, fun y hy hyx h1 h2 => ?_, fun j hj hact' => ?_⟩
    · rw [hp00, along_zero F2 i (by omega)]; exact g1
    · refine List.ext_getElem (by rw [pushX_len, g2]) fun m h1 h2 => ?_
      have := hxg m
      rw [hp00] at this
      rw [show (pushX A X2 i p)[m] = (pushX A X2 i p).getD m 0 by simp [List.getD, h1], hp00, this, g2]
      rw [show X[m] = X.getD m 0 by simp [List.getD, h2]]
      split <;> split <;> omega
    · by_cases c : getB T1 y = true
      · obtain ⟨k1, k2⟩ := e3 y hy hyx c h2
        exact ⟨k1, fun j hj ht hact' => m12 _ (k2 j hj ht hact')⟩
      · exact g3 y hy h1 (.inr (by simpa using c))
    · rw [List.take_succ_eq_append_getElem hk, List.mem_append] at hj
      rcases hj with hj | hj
      · exact m12 _ (e4 j hj hact')
      · have h2 : j = i := by rw [hi]; simpa [List.getD, hk] using hj
        subst h2
        rw [← hh]
        have hd : 0 ≤ X1.getD h 0 := by
          rcases Int.lt_or_le (X1.getD h 0) 0 with c | c
          · have := hS.dp c; omega
          · exact c
        exact hS.tx (by omega) hd
/-- All steps were tried. -/
theorem SendL.done {A N P x a F X T k q F' X' T'} (h : SendL A N P x a F X T k q F' X' T') (ha : 0 < a) (hx : x < N) (hok : okN N A) (hk : k = (fromR A x).length) (hX : 0 ≤ X.getD x 0) :
    SentC A N P x a F X T q F' X' (T'.set x (decide (q < a))) where
  p0 := h.q0
  pa := h.qa
  wi := h.wi
  fine := h.fine
  bal := h.bal
  tl := by simpa using h.tl
  mono := fun y hy hT => by rw [getB_setv _ (by rw [h.tl]; exact hx), if_neg hy]; exact h.mono y hy hT
  fr := h.fr
  fx := h.fx
  rel := h.rel
  zero := fun h0 => by
    obtain ⟨e1, e2, e3, e4⟩ := h.zero h0
    have hT : ∀ y, getB (T'.set x (decide (q < a))) y = getB T' y := fun y => by
      rw [getB_setv _ (by rw [h.tl]; exact hx)]
      split
      · next e => subst e; rw [h.tx]; exact decide_eq_true (by omega)
      · rfl
    refine ⟨e1, e2, fun y hy h1 h2 => ?_⟩
    rw [hT] at h1
    simp only [hT]
    by_cases c : y = x
    · subst c
      refine ⟨hX, fun j hj ht hact => e4 j ?_ hact⟩
      rw [hk, List.take_of_length_le (Nat.le_refl _), mem_fromR]
      exact ⟨hj, by rw [(tn_is hok hj).1, ht]⟩
    · rcases h2 with h2 | h2
      · exact absurd h2 c
      · exact e3 y hy c h1 h2
  tx := fun hlt _ => by rw [getB_setv _ (by rw [h.tl]; exact hx), if_pos rfl]; exact decide_eq_true hlt
  dp := fun c => by omega

/-! ### How many nodes are not tried -/
theorem cnt_mono : ∀ {S T : List Bool}, S.length = T.length → (∀ y, getB S y = true → getB T y = true) → cnt S ≤ cnt T
  | [], [], _, _ => Nat.le_refl _
  | a :: S, b :: T, hl, h => by
    have ih := cnt_mono (S := S) (T := T) (by simpa using hl) fun y hy => by
      have := h (y + 1) (by simpa [getB] using hy)
      simpa [getB] using this
    have h0 := h 0
    simp only [getB, List.getD_cons_zero] at h0
    unfold cnt at *
    rw [List.count_cons, List.count_cons]
    cases a <;> cases b <;> simp at h0 ⊢ <;> omega
  | [], _ :: _, h, _ => by simp at h
  | _ :: _, [], h, _ => by simp at h
/-- The node that is tried next is one more. -/
theorem untried_lt {N x h : Nat} {T T1 : List Bool} (hT : T.length = N) (hT1 : T1.length = N) (hx : x < N) (hh : h < N) (tx : getB T1 x = true) (mono : ∀ y, y ≠ x → getB T y = true → getB T1 y = true) (th : getB T1 h = false) :
    N - cnt (T1.set h true) < N - cnt (T.set x true) := by
  have h1 : cnt (T.set x true) ≤ cnt T1 := cnt_mono (by simp [hT, hT1]) fun y hy => by
    rw [getB_setv _ (by omega)] at hy
    by_cases c : y = x
    · subst c; exact tx
    · rw [if_neg c] at hy; exact mono y c hy
  have h2 := cnt_set T1 h (by omega) th
  have h3 := cnt_le (T1.set h true)
  simp only [List.length_set] at h3
  omega

/-! ### A round -/
def posX (X : List Int) (N : Nat) : Int := sumN (fun x => max 0 (X.getD x 0)) N
theorem posX_nonneg (X : List Int) (N : Nat) : 0 ≤ posX X N := sumN_nonneg fun x _ => by show 0 ≤ max 0 _; omega
theorem sumN_lt {g k : Nat → Int} {u : Nat} : ∀ {n : Nat}, (∀ x, x < n → g x ≤ k x) → u < n → g u < k u → sumN g n < sumN k n
  | 0, _, h, _ => by omega
  | n + 1, h, hu, hp => by
    have h0 := sumN_mono (g := g) (k := k) (n := n) fun x hx => h x (by omega)
    have h1 := h n (by omega)
    simp only [sumN]
    by_cases e : u = n
    · subst e; omega
    · have := sumN_lt (g := g) (k := k) (u := u) (n := n) (fun x hx => h x (by omega)) (by omega) hp
      omega
structure RoundI (A : List Arc) (N : Nat) (P F0 X0 : List Int) (k : Nat) (F X : List Int) (T : List Bool) : Prop where
  wi : within A F
  fine : Fine A F P
  bal : Bal A F N X
  tl : T.length = N
  rel : ∀ y, y < N → (X0.getD y 0 < 0 → X0.getD y 0 ≤ X.getD y 0 ∧ X.getD y 0 ≤ 0) ∧ (0 ≤ X0.getD y 0 → 0 ≤ X.getD y 0 ∧ X.getD y 0 ≤ X0.getD y 0)
  zero : (F = F0 ∧ X = X0 ∧ (∀ y, y < N → getB T y = true → 0 ≤ X0.getD y 0 ∧ ∀ j, j < 2 * A.length → tn A j = y → ActS A F0 P j → getB T (hn A j) = true) ∧ ∀ y, y < k → 0 < X0.getD y 0 → getB T y = true) ∨ posX X N < posX X0 N
theorem RoundI.start {A : List Arc} {N : Nat} {P F X : List Int} (wi : within A F) (fine : Fine A F P) (bal : Bal A F N X) : RoundI A N P F X 0 F X (List.replicate N false) where
  wi := wi
  fine := fine
  bal := bal
  tl := by simp
  rel := fun y hy => ⟨fun h => by omega, fun h => by omega⟩
  zero := .inl ⟨rfl, rfl, fun y hy h => by simp [getB, List.getD, hy] at h, fun y hy => by omega⟩
theorem RoundI.skip {A N P F0 X0 k F X T} (h : RoundI A N P F0 X0 k F X T) (hk : ¬ 0 < X.getD k 0) : RoundI A N P F0 X0 (k + 1) F X T := by
  refine { wi := h.wi, fine := h.fine, bal := h.bal, tl := h.tl, rel := h.rel, zero := ?_ }
  rcases h.zero with ⟨e1, e2, e3, e4⟩ | hlt
  · refine .inl ⟨e1, e2, e3, fun y hy hp => ?_⟩
    by_cases c : y = k
    · subst c; rw [e2] at hk; exact absurd hp hk
    · exact e4 y (by omega) hp
  · exact .inr hlt
theorem RoundI.send {A N P F0 X0 k F X T p F' X' T'} (h : RoundI A N P F0 X0 k F X T) (hk : k < N) (hp : 0 < X.getD k 0) (hS : SentC A N P k (X.getD k 0) F X T p F' X' T') : RoundI A N P F0 X0 (k + 1) F' X' T' := by
  have hpa := hS.pa
  have hp0 := hS.p0
  have step : ∀ y, y < N → (X.getD y 0 < 0 → X.getD y 0 ≤ X'.getD y 0 ∧ X'.getD y 0 ≤ 0) ∧ (0 ≤ X.getD y 0 → 0 ≤ X'.getD y 0 ∧ X'.getD y 0 ≤ X.getD y 0) ∧ (y = k → X'.getD y 0 = X.getD y 0 - p) := by
    intro y hy
    have r := hS.rel y hy
    unfold Rel at r
    by_cases c : y = k
    · subst c
      rw [if_pos rfl] at r
      have := r.2 (by omega)
      exact ⟨fun _ => by omega, fun _ => by omega, fun _ => by omega⟩
    · rw [if_neg c, Int.add_zero] at r
      refine ⟨r.1, fun h0 => ?_, fun h => absurd h c⟩
      have := r.2 h0; omega
  refine { wi := hS.wi, fine := hS.fine, bal := hS.bal, tl := hS.tl, rel := fun y hy => ?_, zero := ?_ }
  · have r := h.rel y hy
    obtain ⟨s1, s2, -⟩ := step y hy
    refine ⟨fun c => ?_, fun c => ?_⟩
    · have := r.1 c
      by_cases d : X.getD y 0 < 0
      · have := s1 d; omega
      · have := s2 (by omega); omega
    · have := r.2 c
      have := s2 (by omega); omega
  · have hle : ∀ y, y < N → max 0 (X'.getD y 0) ≤ max 0 (X.getD y 0) := fun y hy => by
      obtain ⟨s1, s2, -⟩ := step y hy
      by_cases d : X.getD y 0 < 0
      · have := s1 d; omega
      · have := s2 (by omega); omega
    rcases Int.lt_or_le 0 p with hpos | hz
    · right
      have h1 : posX X' N < posX X N := sumN_lt (u := k) hle hk (by
        have := (step k hk).2.2 rfl
        show max 0 _ < max 0 _
        omega)
      have h2 : posX X N ≤ posX X0 N := by
        refine sumN_mono fun y hy => ?_
        have r := h.rel y hy
        show max 0 _ ≤ max 0 _
        by_cases d : X0.getD y 0 < 0
        · have := r.1 d; omega
        · have := r.2 (by omega); omega
      omega
    · obtain rfl : p = 0 := by omega
      obtain ⟨g1, g2, g3⟩ := hS.zero rfl
      rcases h.zero with ⟨e1, e2, e3, e4⟩ | hlt
      · subst e1 e2
        have hkT : getB T' k = true := hS.tx (by omega) (by omega)
        have up : ∀ y, getB T y = true → getB T' y = true := fun y hy => by
          by_cases c : y = k
          · subst c; exact hkT
          · exact hS.mono y c hy
        refine .inl ⟨g1, g2, fun y hy hT => ?_, fun y hy hq => ?_⟩
        · by_cases c : getB T y = true
          · obtain ⟨k1, k2⟩ := e3 y hy c
            exact ⟨k1, fun j hj ht hact => up _ (k2 j hj ht hact)⟩
          · exact g3 y hy hT (.inr (by simpa using c))
        · by_cases c : y = k
          · subst c; exact hkT
          · exact up y (e4 y (by omega) hq)
      · rw [g2]; exact .inr hlt
/-- A round behind a search sends something. -/
theorem RoundI.done {A N P P' F0 X0 V F X T} (h : RoundI A N P' F0 X0 N F X T) (hN : NewP A F0 P X0 N V P') (ha : okN N A) : posX X N < posX X0 N := by
  rcases h.zero with ⟨e1, e2, e3, e4⟩ | hlt
  · exfalso
    refine hN.path (S := getB T) (fun x hx hp => e4 x hx hp) (fun x hx hT => (e3 x hx hT).1) fun j hj hT hr hz => ?_
    obtain ⟨-, k1⟩ := tn_is ha hj
    exact (e3 _ k1 hT).2 j hj rfl ⟨hr, hz⟩
  · exact hlt
end NetM

namespace NetM

/-- A network whose arc number 'k' leads back from its sink. -/
structure Cir (A : List Arc) (N : Nat) : Prop where
  ok : okN N A
  len : A.length ≤ 2501
  nN : N ≤ 700
  cap : ∀ i, i < A.length → 0 ≤ (at' A i).2.2.1 ∧ (at' A i).2.2.1 < 4294967296
  cst : ∀ j, j < 2 * A.length → -700000 ≤ costS A j ∧ costS A j ≤ 700000
  wt : ∃ w : Nat → Int, (∀ x, 0 ≤ w x) ∧ (∀ j, j < 2 * A.length → costS A j ≤ w (tn A j)) ∧ sumN w N ≤ 2100000
/-- Between two digits: d of them are left. -/
structure DigI (A : List Arc) (N d : Nat) (F P : List Int) : Prop where
  wi : within (Ad A d) F
  zero : ∀ x : Nat, x < N → net x A F = 0
  fine : Fine (Ad A d) F P
  pl : P.length = N
  d32 : d ≤ 32
  pb : ∀ x, x < N → -(((32 : Int) - d) * 4200000) ≤ P.getD x 0 ∧ P.getD x 0 ≤ 0
/-- While a digit is balanced. L: how low potentials were before it. -/
structure BalI (A : List Arc) (N d : Nat) (L : Int) (F X P : List Int) : Prop where
  wi : within (Ad A d) F
  bal : Bal (Ad A d) F N X
  fine : Fine (Ad A d) F P
  pl : P.length = N
  lb : -134400000 ≤ L - 4200000
  pb : ∀ x, x < N → L - 4200000 ≤ P.getD x 0 ∧ P.getD x 0 ≤ 0
  pd : ∀ x, x < N → X.getD x 0 < 0 → L ≤ P.getD x 0
theorem DigI.flen {A N d F P} (h : DigI A N d F P) : F.length = A.length := by have := within_length h.wi; rw [Ad_len] at this; exact this
theorem BalI.flen {A N d L F X P} (h : BalI A N d L F X P) : F.length = A.length := by have := within_length h.wi; rw [Ad_len] at this; exact this
theorem BalI.bal0 {A N d L F X P} (h : BalI A N d L F X P) : X.length = N ∧ ∀ x : Nat, x < N → X.getD x 0 = - net x A F := ⟨h.bal.1, fun x hx => by rw [h.bal.2 x hx, Ad_net]⟩
theorem net_repl (x : Int) : ∀ (l : List Arc) (n : Nat), net x l (List.replicate n 0) = 0
  | [], n => by cases n <;> rfl
  | a :: l, 0 => rfl
  | a :: l, n + 1 => by simp only [List.replicate_succ, net, net_repl x l n]; split <;> split <;> rfl
theorem DigI.start {A N} (h : Cir A N) : DigI A N 32 (List.replicate A.length 0) (List.replicate N 0) where
  wi := within_iff.2 ⟨by rw [Ad_len]; simp, fun i hi => by
    rw [Ad_len] at hi
    have := h.cap i hi
    have e : (List.replicate A.length (0 : Int)).getD i 0 = 0 := by simp [List.getD, hi]
    rw [e, Ad_at]
    refine ⟨Int.le_refl _, ?_⟩
    show 0 ≤ (at' A i).2.2.1 / 2 ^ 32
    omega⟩
  zero := fun x _ => net_repl x A _
  fine := fun j hj hr => by
    rw [Ad_len] at hj
    exfalso
    unfold roomS at hr
    have e : (List.replicate A.length (0 : Int)).getD (j / 2) 0 = 0 := by simp [List.getD, show j / 2 < A.length by omega]
    rw [e, Ad_at] at hr
    have := h.cap (j / 2) (by omega)
    have e2 : (shA 32 (at' A (j / 2))).2.2.1 = 0 := by
      show (at' A (j / 2)).2.2.1 / 2 ^ 32 = 0
      omega
    rw [e2] at hr
    split at hr <;> omega
  pl := by simp
  d32 := Nat.le_refl _
  pb := fun x hx => by simp [List.getD, hx]
/-- Behind 'refine'. -/
theorem DigI.refine {A N d F P X} (h : DigI A N (d + 1) F P) (hc : Cir A N) (hX : X.length = N) (hx : ∀ x : Nat, x < N → X.getD x 0 = - net x A (preF A P F d A.length)) :
    BalI A N d (-(((31 : Int) - d) * 4200000)) (refF A P F d) X P where
  wi := refF_within h.wi fun i hi => (hc.cap i hi).1
  bal := ⟨hX, fun x hxN => by
    rw [hx x hxN, Ad_net, refF_net h.flen, h.zero x hxN]; omega⟩
  fine := refF_fine h.fine
  pl := h.pl
  lb := by have := h.d32; omega
  pb := fun x hxN => by
    have := h.pb x hxN
    omega
  pd := fun x hxN _ => by
    have := h.pb x hxN
    omega
/-- When no node has too much. -/
theorem BalI.done {A N d F X P} (h : BalI A N d (-(((31 : Int) - d) * 4200000)) F X P) (hc : Cir A N) (hd : d < 32) (hX : ∀ x, x < N → ¬ 0 < X.getD x 0) : DigI A N d F P ∧ ∀ x, x < N → X.getD x 0 = 0 := by
  have hz := bal_zero (Ad_okN hc.ok d) h.bal fun x hx => by have := hX x hx; omega
  refine ⟨{ wi := h.wi, zero := fun x hx => ?_, fine := h.fine, pl := h.pl, d32 := by omega, pb := fun x hx => ?_ }, hz⟩
  · have := h.bal.2 x hx
    rw [Ad_net, hz x hx] at this; omega
  · have := h.pb x hx
    omega
theorem BalI.redB {A N d L F X P} (h : BalI A N d L F X P) (hc : Cir A N) : RedB (Ad A d) F P := by
  intro j hj hr
  refine ⟨h.fine j hj hr, ?_⟩
  rw [Ad_len] at hj
  rw [Ad_red]
  obtain ⟨-, k1⟩ := tn_is hc.ok hj
  obtain ⟨-, k2⟩ := hn_is hc.ok hj
  have := hc.cst j hj
  have := h.pb _ k1
  have := h.pb _ k2
  have := h.lb
  unfold redS
  omega
/-- Behind 'approach'. -/
theorem BalI.approach {A N d L F X P V P'} (h : BalI A N d L F X P) (hc : Cir A N) (hN : NewP (Ad A d) F P X N V P') : BalI A N d L F X P' where
  wi := h.wi
  bal := h.bal
  fine := hN.fine
  pl := hN.len
  lb := h.lb
  pb := fun x hx => by
    obtain ⟨w, w0, w1, w2⟩ := hc.wt
    refine ⟨?_, Int.le_trans (hN.le x hx) (h.pb x hx).2⟩
    have := hN.low (w := w) (L := L - 4200000 + 2 * sumN w N) (Ad_okN hc.ok d) h.wi h.bal w0 (fun j hj => by rw [Ad_cost, Ad_tn]; exact w1 j (by rw [Ad_len] at hj; exact hj)) (fun y hy hq => by have := h.pd y hy hq; omega)
      (fun y hy => by have := (h.pb y hy).1; omega) x hx
    omega
  pd := fun x hx hq => by rw [hN.deficit x hx hq]; exact h.pd x hx hq
/-- Behind a round. -/
theorem BalI.round {A N d L F X P F' X' T' V P0} (h : BalI A N d L F X P) (hc : Cir A N) (hN : NewP (Ad A d) F P0 X N V P) (hr : RoundI (Ad A d) N P F X N F' X' T') : BalI A N d L F' X' P ∧ posX X' N < posX X N := by
  refine ⟨{ wi := hr.wi, bal := hr.bal, fine := hr.fine, pl := h.pl, lb := h.lb, pb := h.pb, pd := fun x hx hq => h.pd x hx ?_ }, hr.done hN (Ad_okN hc.ok d)⟩
  have := hr.rel x hx
  by_cases c : X.getD x 0 < 0
  · exact c
  · have := this.2 (by omega); omega

/-! ### The arc back -/
def backA (N s t : Nat) (am : Int) : Arc := ((t : Int), (s : Int), am, -(N : Int) * 1000)
theorem at_app {A : List Arc} {b : Arc} {i : Nat} : at' (A ++ [b]) i = if i < A.length then at' A i else if i = A.length then b else (0, 0, 0, 0) := by
  unfold at'
  simp only [List.getD]
  rcases Nat.lt_trichotomy i A.length with c | c | c
  · rw [if_pos c, List.getElem?_append_left c]
  · subst c; simp
  · rw [if_neg (by omega), if_neg (by omega), List.getElem?_eq_none (by simp; omega)]; rfl
theorem cir_of {N s t : Nat} {A : List Arc} {am : Int} (h1 : okArcs N A) (h2 : okCosts A) (hs : s < N) (ht : t < N) (hN : N ≤ 700) (hA : A.length ≤ 2500) (a0 : 0 ≤ am) (a1 : am < 4294967296) : Cir (A ++ [backA N s t am]) N := by
  have hl : (A ++ [backA N s t am]).length = A.length + 1 := by simp
  have hat : ∀ i, i < A.length → okArc N (at' A i) ∧ okCost (at' A i) := fun i hi => ⟨okArcs_at h1 hi, h2 _ (by unfold at'; simp [List.getD, hi])⟩
  have hcost : ∀ j, j < 2 * (A.length + 1) → (j / 2 < A.length ∧ -1000 ≤ costS (A ++ [backA N s t am]) j ∧ costS (A ++ [backA N s t am]) j ≤ 1000) ∨
      (j / 2 = A.length ∧ -((N : Int) * 1000) ≤ costS (A ++ [backA N s t am]) j ∧ costS (A ++ [backA N s t am]) j ≤ (N : Int) * 1000 ∧ (tn (A ++ [backA N s t am]) j = s ∨ tn (A ++ [backA N s t am]) j = t)) := by
    intro j hj
    unfold costS tn tailS
    rw [at_app]
    by_cases c : j / 2 < A.length
    · left
      rw [if_pos c]
      have := (hat _ c).2
      unfold okCost at this
      refine ⟨c, ?_⟩
      split <;> omega
    · right
      have e : j / 2 = A.length := by omega
      rw [if_neg c, if_pos e]
      refine ⟨e, ?_⟩
      unfold backA
      simp only
      split
      · refine ⟨by omega, by omega, .inr (by simp)⟩
      · refine ⟨by omega, by omega, .inl (by simp)⟩
  refine { ok := fun i hi => ?_, len := by omega, nN := hN, cap := fun i hi => ?_, cst := fun j hj => ?_, wt := ?_ }
  · rw [hl] at hi
    rw [at_app]
    by_cases c : i < A.length
    · rw [if_pos c]
      have := (hat i c).1
      unfold okArc at this
      omega
    · rw [if_neg c, if_pos (by omega)]
      unfold backA
      simp only
      omega
  · rw [hl] at hi
    rw [at_app]
    by_cases c : i < A.length
    · rw [if_pos c]
      have := (hat i c).1
      unfold okArc at this
      omega
    · rw [if_neg c, if_pos (by omega)]
      exact ⟨a0, a1⟩
  · rw [hl] at hj
    rcases hcost j hj with h | h <;> omega
  · refine ⟨fun x => (1000 + if x = s then (N : Int) * 1000 else 0) + if x = t then (N : Int) * 1000 else 0, fun x => (by dsimp only; split <;> split <;> omega), fun j hj => ?_, ?_⟩
    · rw [hl] at hj
      dsimp only
      rcases hcost j hj with h | ⟨-, h3, h4, h5⟩
      · have : 0 ≤ (N : Int) * 1000 := by omega
        split <;> split <;> omega
      · rcases h5 with h5 | h5
        · rw [if_pos h5]; split <;> omega
        · rw [if_pos h5]; split <;> omega
    · rw [sumN_add, sumN_add, sumN_const, sumN_one (s := s) (g := fun x => if x = s then (N : Int) * 1000 else 0) hs fun y _ hy => if_neg hy,
        sumN_one (s := t) (g := fun x => if x = t then (N : Int) * 1000 else 0) ht fun y _ hy => if_neg hy, if_pos rfl, if_pos rfl]
      omega
/-- What the last digit leaves. -/
theorem cir_last {N s t : Nat} {A : List Arc} {am v : Int} {F P : List Int} (h1 : okArcs N A) (h2 : okCosts A) (hs : s < N) (ht : t < N) (hst : s ≠ t) (ho : Opt N s t A v) (hv : am ≤ v)
    (h : DigI (A ++ [backA N s t am]) N 0 F P) : isFlow N s t A (F.take A.length) ∧ net s A (F.take A.length) = am ∧ P.length = N ∧ (∀ i, i < N → -1000000000 ≤ P.getD i 0 ∧ P.getD i 0 ≤ 1000000000) ∧ Pot (fun x => P.getD x.toNat 0) A (F.take A.length) := by
  have hFl := h.flen
  have hwi := h.wi
  have hfi := h.fine
  rw [Ad_zero] at hwi hfi
  have hl : (A ++ [backA N s t am]).length = A.length + 1 := by simp
  rw [hl] at hFl
  obtain ⟨G, hG⟩ : ∃ G, G = F.take A.length := ⟨_, rfl⟩
  have hGl : G.length = A.length := by rw [hG]; simp; omega
  obtain ⟨fb, hfb⟩ : ∃ fb, fb = F.getD A.length 0 := ⟨_, rfl⟩
  have hF : F = G ++ [fb] := by
    rw [hG, hfb]
    have e : F.getD A.length 0 = F[A.length] := by simp [List.getD, show A.length < F.length by omega]
    rw [e, List.take_append_getElem (by omega), List.take_of_length_le (by omega)]
  have hGg : ∀ i, i < A.length → F.getD i 0 = G.getD i 0 := fun i hi => by
    rw [hF]
    simp [List.getD, List.getElem?_append_left (show i < G.length by omega)]
  rw [← hG]
  obtain ⟨w1, w2⟩ := within_iff.1 hwi
  rw [hl] at w2
  have hGw : within A G := within_iff.2 ⟨hGl, fun i hi => by
    have := w2 i (by omega)
    rw [at_app, if_pos hi, hGg i hi] at this
    exact this⟩
  have hb := w2 A.length (by omega)
  rw [at_app, if_neg (by omega), if_pos rfl, ← hfb] at hb
  have hnet : ∀ x : Nat, x < N → net x A G + (if (t : Int) = x then fb else 0) - (if (s : Int) = x then fb else 0) = 0 := fun x hx => by
    have := h.zero x hx
    rw [hF, net_snoc _ _ hGl] at this
    exact this
  have hflow : isFlow N s t A G := ⟨hGw, fun x hx h3 h4 => by
    have := hnet x hx
    rw [if_neg (by omega), if_neg (by omega)] at this; omega⟩
  have hval : net s A G = fb := by
    have := hnet s hs
    rw [if_neg (by omega), if_pos rfl] at this; omega
  have hroom : ∀ j, j < 2 * A.length → roomS (A ++ [backA N s t am]) F j = roomS A G j := fun j hj => by
    unfold roomS
    rw [at_app, if_pos (show j / 2 < A.length by omega), hGg _ (by omega)]
  have hred : ∀ j, j < 2 * A.length → redS (A ++ [backA N s t am]) P j = redS A P j := fun j hj => by
    unfold redS costS tn hn tailS headS
    rw [at_app, if_pos (show j / 2 < A.length by omega)]
  have hfG : Fine A G P := fun j hj hr => by
    rw [← hred j hj]
    exact hfi j (by rw [hl]; omega) (by rw [hroom j hj]; exact hr)
  have hfull : fb = am := by
    have hbm : fb ≤ am := hb.2
    rcases Int.lt_or_le fb am with hlt | hge
    · exfalso
      have k1 := hfi (2 * A.length) (by rw [hl]; omega) (by
        rw [room_even, at_app, if_neg (by omega), if_pos rfl, ← hfb]
        show 0 < am - fb
        omega)
      unfold redS at k1
      rw [cost_even, tn_even, hn_even, at_app, if_neg (by omega), if_pos rfl] at k1
      unfold backA at k1
      simp only [Int.toNat_natCast] at k1
      obtain ⟨S, s1, s2, s3⟩ := far_cut (okN_of h1) hfG hs ht hst (fun j hj => by
        have hk := h2 (at' A (j / 2)) (by unfold at'; simp [List.getD, show j / 2 < A.length by omega])
        unfold okCost at hk
        unfold costS
        split <;> omega) (by omega)
      have := cut_value h1 hs hflow s1 s2 s3 ho
      omega
    · omega
  refine ⟨hflow, by rw [hval]; exact hfull, h.pl, fun i hi => ?_, ?_⟩
  · have := h.pb i hi
    omega
  · rw [pot_iff hGl]
    intro i hi
    have k1 := hfG (2 * i) (by omega)
    have k2 := hfG (2 * i + 1) (by omega)
    have t := red_twin A P (2 * i)
    rw [twin_even] at t
    rw [room_even] at k1
    rw [room_odd] at k2
    have e : rc (fun x => P.getD x.toNat 0) (at' A i) = redS A P (2 * i) := by
      unfold rc redS
      rw [cost_even, tn_even, hn_even]
    rw [e]
    exact ⟨fun c => k1 (by omega), fun c => by have := k2 c; omega⟩
end NetM
