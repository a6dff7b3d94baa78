/- What the laws say of networks: one capacity changed, one arc left out, all arcs turned, all cuts counted. Plain mathematics. -/
import Derived.Test.YtdihmbbkmbnomaaNb
namespace NetM

/-- What an arc adds to a cut. -/
def adds (c : Int → Bool) (a : Arc) : Int := if (c a.1 && !c a.2.1) = true then a.2.2.1 else 0
theorem adds_bound {c : Int → Bool} {n : Nat} {a : Arc} (h : okArc n a) : 0 ≤ adds c a ∧ adds c a ≤ a.2.2.1 := by
  unfold okArc at h; unfold adds; split <;> omega
theorem cap_cons {c : Int → Bool} {a : Arc} {l : List Arc} : capF c (a :: l) = adds c a + capF c l := rfl
theorem cap_set {c : Int → Bool} : ∀ {l : List Arc} {i : Nat} (b : Arc), i < l.length → capF c (l.set i b) = capF c l - adds c (at' l i) + adds c b
  | [], i, b, h => by simp at h
  | a :: l, 0, b, _ => by rw [List.set_cons_zero, cap_cons, cap_cons]; simp only [at', List.getD_cons_zero]; omega
  | a :: l, i + 1, b, h => by
    rw [List.set_cons_succ, cap_cons, cap_cons, cap_set b (by simpa using h)]
    simp only [at', List.getD_cons_succ]; omega
theorem cap_out {c : Int → Bool} : ∀ {l : List Arc} {i : Nat}, i < l.length → capF c (l.take i ++ l.drop (i + 1)) = capF c l - adds c (at' l i)
  | [], i, h => by simp at h
  | a :: l, 0, _ => by rw [List.take_zero, List.nil_append, List.drop_succ_cons, List.drop_zero, cap_cons]; simp only [at', List.getD_cons_zero]; omega
  | a :: l, i + 1, h => by
    rw [List.take_succ_cons, List.drop_succ_cons, List.cons_append, cap_cons, cap_cons, cap_out (by simpa using h)]
    simp only [at', List.getD_cons_succ]; omega
/-- A proved optimum. -/
def Opt (n s t : Nat) (l : List Arc) (v : Int) : Prop := ∃ (f : List Int) (S : List Bool), isFlow n s t l f ∧ S.length = n ∧ cutOf S s = true ∧ cutOf S t = false ∧ net s l f = v ∧ capF (cutOf S) l = v
theorem Opt.le {n s t : Nat} {l m : List Arc} {v w : Int} (h : Opt n s t l v) (g : Opt n s t m w) (hs : s < n) (ha : okArcs n l) {d : Int} (hd : ∀ c, capF c l ≤ capF c m + d) : v ≤ w + d := by
  obtain ⟨f, S, h1, -, -, -, h4, -⟩ := h
  obtain ⟨g1, T, -, -, g2, g3, -, g5⟩ := g
  have := value_le hs ha h1 g2 g3
  have := hd (cutOf T)
  omega
theorem Opt.unique {n s t : Nat} {l : List Arc} {v w : Int} (h : Opt n s t l v) (g : Opt n s t l w) (hs : s < n) (ha : okArcs n l) : v = w := by
  have h1 := h.le g hs ha (d := 0) fun c => by omega
  have h2 := g.le h hs ha (d := 0) fun c => by omega
  omega
theorem okArcs_at {n : Nat} {l : List Arc} (h : okArcs n l) {i : Nat} (hi : i < l.length) : okArc n (at' l i) := by
  refine h _ ?_
  unfold at'; simp [List.getD, hi]
/-- One more unit of capacity. -/
theorem Opt.more {n s t : Nat} {l : List Arc} {v w : Int} {i : Nat} (h : Opt n s t l v) (hi : i < l.length) (hs : s < n) (ha : okArcs n l) (hc : (at' l i).2.2.1 < 2147483647)
    (g : Opt n s t (l.set i ((at' l i).1, (at' l i).2.1, (at' l i).2.2.1 + 1, (at' l i).2.2.2)) w) : v ≤ w ∧ w ≤ v + 1 := by
  have hok := okArcs_at ha hi
  have ha' : okArcs n (l.set i ((at' l i).1, (at' l i).2.1, (at' l i).2.2.1 + 1, (at' l i).2.2.2)) := by
    intro a hm
    rcases List.mem_or_eq_of_mem_set hm with hm | rfl
    · exact ha a hm
    · unfold okArc at hok ⊢; dsimp only; omega
  have key : ∀ c, capF c (l.set i ((at' l i).1, (at' l i).2.1, (at' l i).2.2.1 + 1, (at' l i).2.2.2)) = capF c l + if (c (at' l i).1 && !c (at' l i).2.1) = true then 1 else 0 := by
    intro c
    rw [cap_set _ hi]; unfold adds; dsimp only; split <;> omega
  have h1 := h.le g hs ha (d := 0) fun c => by rw [key]; split <;> omega
  have h2 := g.le h hs ha' (d := 1) fun c => by rw [key]; split <;> omega
  omega
/-- An arc less. -/
theorem Opt.less {n s t : Nat} {l : List Arc} {v u : Int} {i : Nat} (h : Opt n s t l v) (hi : i < l.length) (hs : s < n) (ha : okArcs n l)
    (g : Opt n s t (l.take i ++ l.drop (i + 1)) u) : u ≤ v ∧ v ≤ u + (at' l i).2.2.1 := by
  have hok := okArcs_at ha hi
  have ha' : okArcs n (l.take i ++ l.drop (i + 1)) := by
    intro a hm
    rcases List.mem_append.1 hm with hm | hm
    · exact ha a (List.mem_of_mem_take hm)
    · exact ha a (List.mem_of_mem_drop hm)
  have h1 := g.le h hs ha' (d := 0) fun c => by rw [cap_out hi]; have := (adds_bound (c := c) hok); omega
  have h2 := h.le g hs ha (d := (at' l i).2.2.1) fun c => by rw [cap_out hi]; have := (adds_bound (c := c) hok); omega
  omega
/-- All arcs turned. -/
def turn (a : Arc) : Arc := (a.2.1, a.1, a.2.2.1, 0)
theorem cap_turn (c : Int → Bool) : ∀ l : List Arc, capF c ((l.map turn).reverse) = capF (fun x => !c x) l
  | [] => rfl
  | a :: l => by
    rw [List.map_cons, List.reverse_cons, cap_append, cap_turn c l, cap_cons, cap_cons]
    have e : capF c [] = 0 := rfl
    rw [e]
    generalize capF (fun x => !c x) l = X
    unfold adds turn
    dsimp only
    by_cases h1 : c a.1 = true <;> by_cases h2 : c a.2.1 = true <;> simp [h1, h2] <;> omega
theorem Opt.turn {n s t : Nat} {l : List Arc} {v w : Int} (h : Opt n s t l v) (g : Opt n t s ((l.map turn).reverse) w) (hs : s < n) (ht : t < n) (ha : okArcs n l) : v = w := by
  obtain ⟨f, S, h1, -, h2, h3, h4, h5⟩ := h
  obtain ⟨f', T, g1, -, g2, g3, g4, g5⟩ := g
  have ha' : okArcs n ((l.map NetM.turn).reverse) := by
    intro a hm
    rw [List.mem_reverse, List.mem_map] at hm
    obtain ⟨b, hb, rfl⟩ := hm
    have := ha b hb
    unfold okArc at this ⊢; unfold NetM.turn; dsimp only; omega
  have e1 := value_le (c := fun x => !cutOf T x) hs ha h1 (by simp [g3]) (by simp [g2])
  rw [← cap_turn, h4, g5] at e1
  have e2 := value_le (c := fun x => !cutOf S x) ht ha' g1 (by simp [h3]) (by simp [h2])
  rw [cap_turn, g4] at e2
  simp only [Bool.not_not] at e2
  rw [show (fun x => cutOf S x) = cutOf S from rfl, h5] at e2
  omega
/-- Each list of n bits is that of a number below 2^n. -/
theorem bits_num : ∀ S : List Bool, ∃ k, k < 2 ^ S.length ∧ ∀ i, i < S.length → k.testBit i = getB S i
  | [] => ⟨0, by decide, fun i h => by simp at h⟩
  | b :: S => by
    obtain ⟨k, hk, h⟩ := bits_num S
    refine ⟨2 * k + b.toNat, ?_, fun i hi => ?_⟩
    · rw [List.length_cons, Nat.pow_succ]; cases b <;> simp <;> omega
    · cases i with
      | zero => rw [Nat.testBit_zero]; cases b <;> simp [getB] <;> omega
      | succ i =>
        rw [Nat.testBit_succ]
        have e : (2 * k + b.toNat) / 2 = k := by cases b <;> simp <;> omega
        rw [e, h i (by simpa using hi)]; rfl
end NetM
