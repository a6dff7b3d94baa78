/- Flows and cuts in networks: sums over arcs and over nodes, weak duality, what a cut that nothing can pass proves. Plain mathematics over integers. -/
namespace NetM

/-- An arc: from, to, capacity, cost. -/
abbrev Arc := Int × Int × Int × Int
/-- What leaves node x minus what comes in. -/
def net (x : Int) : List Arc → List Int → Int
  | a :: l, f :: g => (if a.1 = x then f else 0) - (if a.2.1 = x then f else 0) + net x l g
  | _, _ => 0
/-- The capacity of a cut. -/
def capF (c : Int → Bool) : List Arc → Int
  | a :: l => (if (c a.1 && !c a.2.1) = true then a.2.2.1 else 0) + capF c l
  | [] => 0
/-- What crosses a cut, there minus back. -/
def crossF (c : Int → Bool) : List Arc → List Int → Int
  | a :: l, f :: g => (if c a.1 = true then f else 0) - (if c a.2.1 = true then f else 0) + crossF c l g
  | _, _ => 0
def okArc (n : Nat) (a : Arc) : Prop := 0 ≤ a.1 ∧ a.1 < n ∧ 0 ≤ a.2.1 ∧ a.2.1 < n ∧ 0 ≤ a.2.2.1 ∧ a.2.2.1 ≤ 2147483647
def okArcs (n : Nat) (l : List Arc) : Prop := ∀ a ∈ l, okArc n a
def within : List Arc → List Int → Prop
  | a :: l, f :: g => (0 ≤ f ∧ f ≤ a.2.2.1) ∧ within l g
  | [], [] => True
  | _, _ => False
def sumN (g : Nat → Int) : Nat → Int
  | 0 => 0
  | n + 1 => sumN g n + g n
theorem sumN_add (g h : Nat → Int) (n : Nat) : sumN (fun x => g x + h x) n = sumN g n + sumN h n := by
  induction n with
  | zero => rfl
  | succ n ih => simp only [sumN]; omega
theorem sumN_zero {g : Nat → Int} {n : Nat} (h : ∀ x, x < n → g x = 0) : sumN g n = 0 := by
  induction n with
  | zero => rfl
  | succ n ih => simp only [sumN]; rw [ih fun x hx => h x (by omega), h n (by omega)]; rfl
theorem sumN_one {g : Nat → Int} {n s : Nat} (hs : s < n) (h : ∀ x, x < n → x ≠ s → g x = 0) : sumN g n = g s := by
  induction n with
  | zero => omega
  | succ n ih =>
    simp only [sumN]
    by_cases e : n = s
    · subst e
      rw [sumN_zero fun x hx => h x (by omega) (by omega)]; omega
    · rw [ih (by omega) fun x hx => h x (by omega), h n (by omega) e]; omega
theorem sumN_pick (c : Int → Bool) (a f : Int) (n : Nat) (h0 : 0 ≤ a) (h1 : a < n) :
    sumN (fun x => if c (x : Int) = true then (if a = (x : Int) then f else 0) else 0) n = if c a = true then f else 0 := by
  obtain ⟨k, rfl⟩ : ∃ k : Nat, a = k := ⟨a.toNat, by omega⟩
  rw [sumN_one (s := k) (by omega)]
  · simp
  · intro x _ hx
    have : ¬ ((k : Int) = (x : Int)) := by omega
    simp [this]
def cutSum (c : Int → Bool) (l : List Arc) (f : List Int) (n : Nat) : Int := sumN (fun x => if c (x : Int) = true then net x l f else 0) n
theorem cut_cross (c : Int → Bool) (n : Nat) : ∀ (l : List Arc) (f : List Int), okArcs n l → cutSum c l f n = crossF c l f
  | [], f, _ => by
    unfold cutSum
    rw [sumN_zero]
    · cases f <;> rfl
    · intro x _; cases f <;> simp [net]
  | a :: l, [], _ => by
    unfold cutSum
    rw [sumN_zero]
    · rfl
    · intro x _; simp [net]
  | a :: l, f :: g, h => by
    have ih := cut_cross c n l g fun b hb => h b (List.mem_cons_of_mem _ hb)
    obtain ⟨h1, h2, h3, h4, -⟩ := h a (List.mem_cons_self ..)
    unfold cutSum at ih ⊢
    have e : (fun x : Nat => if c (x : Int) = true then net x (a :: l) (f :: g) else 0) = fun x : Nat =>
        (fun x : Nat => if c (x : Int) = true then (if a.1 = (x : Int) then f else 0) else 0) x + (fun x : Nat =>
          (fun x : Nat => if c (x : Int) = true then (if a.2.1 = (x : Int) then -f else 0) else 0) x + (fun x : Nat => if c (x : Int) = true then net x l g else 0) x) x := by
      funext x
      dsimp only [net]
      by_cases hc : c (x : Int) = true
      · rw [if_pos hc, if_pos hc, if_pos hc, if_pos hc]
        by_cases e2 : a.2.1 = (x : Int)
        · rw [if_pos e2, if_pos e2]; omega
        · rw [if_neg e2, if_neg e2]; omega
      · rw [if_neg hc, if_neg hc, if_neg hc, if_neg hc]; rfl
    rw [e, sumN_add, sumN_add, sumN_pick c _ _ n h1 h2, sumN_pick c _ _ n h3 h4, ih]
    dsimp only [crossF]
    by_cases hc : c a.2.1 = true
    · rw [if_pos hc, if_pos hc]; omega
    · rw [if_neg hc, if_neg hc]; omega
theorem cross_le (c : Int → Bool) : ∀ (l : List Arc) (f : List Int), within l f → crossF c l f ≤ capF c l
  | [], [], _ => Int.le_refl _
  | a :: l, f :: g, h => by
    have ih := cross_le c l g h.2
    have h1 := h.1
    dsimp only [crossF, capF]
    cases c a.1 <;> cases c a.2.1 <;> simp <;> omega
  | [], _ :: _, h => h.elim
  | _ :: _, [], h => h.elim
/-- Nothing more can pass from the cut's side to the other. -/
def tight (c : Int → Bool) : List Arc → List Int → Prop
  | a :: l, f :: g => ((c a.1 = true → c a.2.1 = false → f = a.2.2.1) ∧ (c a.1 = false → c a.2.1 = true → f = 0)) ∧ tight c l g
  | _, _ => True
theorem cross_tight (c : Int → Bool) : ∀ (l : List Arc) (f : List Int), within l f → tight c l f → crossF c l f = capF c l
  | [], [], _, _ => rfl
  | a :: l, f :: g, h, t => by
    have ih := cross_tight c l g h.2 t.2
    have h1 := t.1
    dsimp only [crossF, capF]
    cases h3 : c a.1 <;> cases h4 : c a.2.1 <;> simp [h3, h4] at h1 ⊢ <;> omega
  | [], _ :: _, h, _ => h.elim
  | _ :: _, [], h, _ => h.elim
/-- A flow of a network with n nodes from s to t. -/
def isFlow (n : Nat) (s t : Nat) (l : List Arc) (f : List Int) : Prop := within l f ∧ ∀ x : Nat, x < n → x ≠ s → x ≠ t → net x l f = 0
theorem cutSum_flow {c : Int → Bool} {n s t : Nat} {l : List Arc} {f : List Int} (hs : s < n) (h : isFlow n s t l f) (cs : c s = true) (ct : c t = false) : cutSum c l f n = net s l f := by
  unfold cutSum
  rw [sumN_one hs]
  · rw [if_pos cs]
  · intro x hx hne
    by_cases e : x = t
    · subst e; rw [if_neg (by rw [ct]; exact Bool.false_ne_true)]
    · rw [h.2 x hx hne e]; split <;> rfl
/-- The value of a flow is at most the capacity of a cut. -/
theorem value_le {c : Int → Bool} {n s t : Nat} {l : List Arc} {f : List Int} (hs : s < n) (ha : okArcs n l) (h : isFlow n s t l f) (cs : c s = true) (ct : c t = false) : net s l f ≤ capF c l := by
  rw [← cutSum_flow hs h cs ct, cut_cross c n l f ha]
  exact cross_le c l f h.1
/-- A cut that nothing can pass proves that the flow is greatest. -/
theorem value_eq {c : Int → Bool} {n s t : Nat} {l : List Arc} {f : List Int} (hs : s < n) (ha : okArcs n l) (h : isFlow n s t l f) (cs : c s = true) (ct : c t = false) (ht : tight c l f) : net s l f = capF c l := by
  rw [← cutSum_flow hs h cs ct, cut_cross c n l f ha]
  exact cross_tight c l f h.1 ht
theorem cap_nonneg {n : Nat} (c : Int → Bool) : ∀ (l : List Arc), okArcs n l → 0 ≤ capF c l
  | [], _ => Int.le_refl _
  | a :: l, h => by
    have ih := cap_nonneg c l fun b hb => h b (List.mem_cons_of_mem _ hb)
    have := h a (List.mem_cons_self ..)
    dsimp only [capF]
    unfold okArc at this
    split <;> omega
theorem cap_le {n : Nat} (c : Int → Bool) : ∀ (l : List Arc), okArcs n l → capF c l ≤ (l.length : Int) * 2147483647
  | [], _ => Int.le_refl _
  | a :: l, h => by
    have ih := cap_le c l fun b hb => h b (List.mem_cons_of_mem _ hb)
    have := h a (List.mem_cons_self ..)
    dsimp only [capF]
    unfold okArc at this
    rw [List.length_cons, Int.natCast_add, Int.add_mul]
    split <;> omega
theorem within_length : ∀ {l : List Arc} {f : List Int}, within l f → f.length = l.length
  | [], [], _ => rfl
  | a :: l, f :: g, h => by rw [List.length_cons, List.length_cons, within_length h.2]
  | [], _ :: _, h => h.elim
  | _ :: _, [], h => h.elim
theorem net_bound {x : Int} {n : Nat} : ∀ {l : List Arc} {f : List Int}, okArcs n l → within l f → -((l.length : Int) * 2147483647) ≤ net x l f ∧ net x l f ≤ (l.length : Int) * 2147483647
  | [], [], _, _ => ⟨Int.le_refl _, Int.le_refl _⟩
  | a :: l, f :: g, ha, h => by
    have ih := net_bound (x := x) (fun b hb => ha b (List.mem_cons_of_mem _ hb)) h.2
    have h1 := h.1
    have h2 := ha a (List.mem_cons_self ..)
    unfold okArc at h2
    dsimp only [net]
    rw [List.length_cons, Int.natCast_add, Int.add_mul]
    constructor <;> split <;> split <;> omega
  | [], _ :: _, _, h => h.elim
  | _ :: _, [], _, h => h.elim
/-- Two proved optima are equal. -/
theorem opt_unique {n s t : Nat} {l : List Arc} {f f' : List Int} {c c' : Int → Bool} (hs : s < n) (ha : okArcs n l) (h : isFlow n s t l f) (h' : isFlow n s t l f')
    (cs : c s = true) (ct : c t = false) (cs' : c' s = true) (ct' : c' t = false) (e : net s l f = capF c l) (e' : net s l f' = capF c' l) : net s l f = net s l f' := by
  have h1 := value_le hs ha h cs' ct'
  have h2 := value_le hs ha h' cs ct
  omega

/-! Values by index. -/
def at' (l : List Arc) (i : Nat) : Arc := l.getD i (0, 0, 0, 0)
theorem within_iff : ∀ {l : List Arc} {f : List Int}, within l f ↔ f.length = l.length ∧ ∀ i, i < l.length → 0 ≤ f.getD i 0 ∧ f.getD i 0 ≤ (at' l i).2.2.1
  | [], [] => by simp [within]
  | a :: l, f :: g => by
    simp only [within]
    rw [within_iff (l := l) (f := g)]
    constructor
    · rintro ⟨h1, h2, h3⟩
      refine ⟨by simp [h2], fun i hi => ?_⟩
      cases i with
      | zero => exact h1
      | succ i => exact h3 i (by simpa using hi)
    · rintro ⟨h1, h2⟩
      exact ⟨h2 0 (by simp), by simpa using h1, fun i hi => h2 (i + 1) (by simpa using hi)⟩
  | [], _ :: _ => by simp [within]
  | _ :: _, [] => by simp [within]
theorem tight_iff {c : Int → Bool} : ∀ {l : List Arc} {f : List Int}, f.length = l.length →
    (tight c l f ↔ ∀ i, i < l.length → (c (at' l i).1 = true → c (at' l i).2.1 = false → f.getD i 0 = (at' l i).2.2.1) ∧ (c (at' l i).1 = false → c (at' l i).2.1 = true → f.getD i 0 = 0))
  | [], [], _ => by simp [tight]
  | a :: l, f :: g, hl => by
    simp only [tight]
    rw [tight_iff (l := l) (f := g) (by simpa using hl)]
    constructor
    · rintro ⟨h1, h3⟩ i hi
      cases i with
      | zero => exact h1
      | succ i => exact h3 i (by simpa using hi)
    · intro h2
      exact ⟨h2 0 (by simp), fun i hi => h2 (i + 1) (by simpa using hi)⟩
  | [], _ :: _, h => by simp at h
  | _ :: _, [], h => by simp at h
/-- One flow is changed. -/
theorem net_set {x : Int} : ∀ {l : List Arc} {f : List Int} (i : Nat) (v : Int), f.length = l.length → i < l.length →
    net x l (f.set i v) = net x l f + (if (at' l i).1 = x then v - f.getD i 0 else 0) - (if (at' l i).2.1 = x then v - f.getD i 0 else 0)
  | [], _, i, v, _, hi => by simp at hi
  | _ :: _, [], i, v, h, _ => by simp at h
  | a :: l, f :: g, 0, v, hl, _ => by
    simp only [List.set_cons_zero, net, at', List.getD_cons_zero]
    split <;> split <;> omega
  | a :: l, f :: g, i + 1, v, hl, hi => by
    have ih := net_set (x := x) (l := l) (f := g) i v (by simpa using hl) (by simpa using hi)
    simp only [List.set_cons_succ, net, at', List.getD_cons_succ] at ih ⊢
    rw [ih]; omega
theorem net_snoc {x : Int} : ∀ {l : List Arc} {f : List Int} (a : Arc) (v : Int), f.length = l.length → net x (l ++ [a]) (f ++ [v]) = net x l f + (if a.1 = x then v else 0) - (if a.2.1 = x then v else 0)
  | [], [], a, v, _ => by simp only [List.nil_append, net]; split <;> split <;> omega
  | b :: l, f :: g, a, v, hl => by
    have ih := net_snoc (x := x) (l := l) (f := g) a v (by simpa using hl)
    simp only [List.cons_append, net, ih]; omega
  | [], _ :: _, _, _, h => by simp at h
  | _ :: _, [], _, _, h => by simp at h
theorem cap_snoc {c : Int → Bool} : ∀ {l : List Arc} (a : Arc), capF c (l ++ [a]) = capF c l + (if (c a.1 && !c a.2.1) = true then a.2.2.1 else 0)
  | [], a => by simp only [List.nil_append, capF]; omega
  | b :: l, a => by simp only [List.cons_append, capF, cap_snoc (l := l) a]; omega
theorem cap_append {c : Int → Bool} : ∀ {l m : List Arc}, capF c (l ++ m) = capF c l + capF c m
  | [], m => by simp [capF]
  | b :: l, m => by simp only [List.cons_append, capF, cap_append (l := l) (m := m)]; omega
end NetM
