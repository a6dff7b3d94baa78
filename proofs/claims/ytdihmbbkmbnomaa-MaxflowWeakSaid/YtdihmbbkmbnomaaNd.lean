/- Growing a flow along shortest ways (Dinic): steps, their rooms, distances, what one push does, why a push from the source sends something. Plain mathematics. -/
import Derived.Test.YtdihmbbkmbnomaaNc
namespace NetM

/-- Steps 2 i and 2 i + 1 lead along arc i and back. -/
def tailS (A : List Arc) (j : Nat) : Int := if j % 2 = 0 then (at' A (j / 2)).1 else (at' A (j / 2)).2.1
def headS (A : List Arc) (j : Nat) : Int := if j % 2 = 0 then (at' A (j / 2)).2.1 else (at' A (j / 2)).1
def roomS (A : List Arc) (F : List Int) (j : Nat) : Int := if j % 2 = 0 then (at' A (j / 2)).2.2.1 - F.getD (j / 2) 0 else F.getD (j / 2) 0
/-- The steps from node x, in their order. -/
def fromR (A : List Arc) (x : Nat) : List Nat := (List.range (2 * A.length)).filter fun j => decide (tailS A j = (x : Int))
theorem mem_fromR {A : List Arc} {x j : Nat} : j ∈ fromR A x ↔ j < 2 * A.length ∧ tailS A j = (x : Int) := by
  unfold fromR; simp [List.mem_filter]
def twin (j : Nat) : Nat := if j % 2 = 0 then j + 1 else j - 1
theorem twin_half (j : Nat) : twin j / 2 = j / 2 := by unfold twin; split <;> omega
theorem twin_lt {j m : Nat} (h : j < 2 * m) : twin j < 2 * m := by unfold twin; split <;> omega
theorem twin_ne (j : Nat) : twin j ≠ j := by unfold twin; split <;> omega
theorem twin_mod (j : Nat) : twin j % 2 = 0 ↔ ¬ j % 2 = 0 := by unfold twin; split <;> omega
/-- Flow 'p' is sent along step j. -/
def along (F : List Int) (j : Nat) (p : Int) : List Int := F.set (j / 2) (if j % 2 = 0 then F.getD (j / 2) 0 + p else F.getD (j / 2) 0 - p)
theorem along_len (F : List Int) (j : Nat) (p : Int) : (along F j p).length = F.length := by unfold along; simp
theorem along_get (F : List Int) (j k : Nat) (p : Int) (hj : j / 2 < F.length) : (along F j p).getD k 0 = if k = j / 2 then (if j % 2 = 0 then F.getD (j / 2) 0 + p else F.getD (j / 2) 0 - p) else F.getD k 0 := by
  unfold along
  by_cases e : k = j / 2
  · subst e; rw [if_pos rfl, getD_set_same _ hj]
  · rw [if_neg e, getD_set_ne _ (fun h => e h.symm)]
theorem along_zero (F : List Int) (j : Nat) (hj : j / 2 < F.length) : along F j 0 = F := by
  unfold along
  have : (if j % 2 = 0 then F.getD (j / 2) 0 + 0 else F.getD (j / 2) 0 - 0) = F.getD (j / 2) 0 := by split <;> omega
  rw [this]
  refine List.ext_getElem (by simp) fun i h1 h2 => ?_
  rw [List.getElem_set]
  split
  · next h => subst h; simp [List.getD, hj]
  · rfl
theorem room_self {A : List Arc} {F : List Int} {j : Nat} (p : Int) (hj : j / 2 < F.length) : roomS A (along F j p) j = roomS A F j - p := by
  unfold roomS
  rw [along_get F j _ p hj, if_pos rfl]
  by_cases e : j % 2 = 0 <;> simp only [e, if_true, if_false] <;> omega
theorem room_twin {A : List Arc} {F : List Int} {j : Nat} (p : Int) (hj : j / 2 < F.length) : roomS A (along F j p) (twin j) = roomS A F (twin j) + p := by
  unfold roomS
  rw [twin_half, along_get F j _ p hj, if_pos rfl]
  by_cases e : j % 2 = 0
  · have : ¬ twin j % 2 = 0 := by have := twin_mod j; omega
    simp only [e, this, if_true, if_false]
  · have : twin j % 2 = 0 := by have := twin_mod j; omega
    simp only [e, this, if_true, if_false]; omega
theorem room_other {A : List Arc} {F : List Int} {j k : Nat} (p : Int) (hj : j / 2 < F.length) (h1 : k ≠ j) (h2 : k ≠ twin j) : roomS A (along F j p) k = roomS A F k := by
  have : k / 2 ≠ j / 2 := by
    intro e
    unfold twin at h2
    split at h2 <;> omega
  unfold roomS
  rw [along_get F j _ p hj, if_neg this]
theorem along_net {A : List Arc} {F : List Int} {j : Nat} (p : Int) (hl : F.length = A.length) (hj : j / 2 < A.length) (y : Int) :
    net y A (along F j p) = net y A F + (if tailS A j = y then p else 0) - (if headS A j = y then p else 0) := by
  unfold along
  rw [net_set _ _ hl hj]
  unfold tailS headS
  by_cases e : j % 2 = 0
  · simp only [e, if_true]
    split <;> split <;> omega
  · simp only [e, if_false]
    split <;> split <;> omega
theorem room_bound {A : List Arc} {F : List Int} {j : Nat} {n : Nat} (ha : okArcs n A) (h : within A F) (hj : j < 2 * A.length) : 0 ≤ roomS A F j ∧ roomS A F j ≤ 2147483647 := by
  have h1 := (within_iff.1 h).2 (j / 2) (by omega)
  have h2 := okArcs_at ha (i := j / 2) (by omega)
  unfold okArc at h2
  unfold roomS
  split <;> omega
theorem room_sum {A : List Arc} {F : List Int} {j : Nat} : roomS A F j + roomS A F (twin j) = (at' A (j / 2)).2.2.1 := by
  unfold roomS
  rw [twin_half]
  have := twin_mod j
  by_cases e : j % 2 = 0
  · have : ¬ twin j % 2 = 0 := by omega
    simp only [e, this, if_true, if_false]; omega
  · have : twin j % 2 = 0 := by omega
    simp only [e, this, if_true, if_false]; omega
theorem along_within {A : List Arc} {F : List Int} {j : Nat} {p : Int} (h : within A F) (hj : j / 2 < A.length) (h0 : 0 ≤ p) (h1 : p ≤ roomS A F j) : within A (along F j p) := by
  have hl := within_length h
  refine within_iff.2 ⟨by rw [along_len]; exact hl, fun i hi => ?_⟩
  rw [along_get F j i p (by omega)]
  have hi' := (within_iff.1 h).2 i hi
  by_cases e : i = j / 2
  · subst e
    rw [if_pos rfl]
    unfold roomS at h1
    by_cases c : j % 2 = 0
    · simp only [c, if_true] at h1 ⊢; omega
    · simp only [c, if_false] at h1 ⊢; omega
  · rw [if_neg e]; exact hi'
theorem step_nodes {A : List Arc} {n j : Nat} (ha : okArcs n A) (hj : j < 2 * A.length) : ∃ x y : Nat, tailS A j = (x : Int) ∧ headS A j = (y : Int) ∧ x < n ∧ y < n := by
  have h2 := okArcs_at ha (i := j / 2) (by omega)
  unfold okArc at h2
  unfold tailS headS
  split
  · exact ⟨(at' A (j / 2)).1.toNat, (at' A (j / 2)).2.1.toNat, by omega, by omega, by omega, by omega⟩
  · exact ⟨(at' A (j / 2)).2.1.toNat, (at' A (j / 2)).1.toNat, by omega, by omega, by omega, by omega⟩
theorem tail_twin {A : List Arc} {j : Nat} : tailS A (twin j) = headS A j := by
  unfold tailS headS
  rw [twin_half]
  have := twin_mod j
  by_cases e : j % 2 = 0
  · have : ¬ twin j % 2 = 0 := by omega
    simp only [e, this, if_true, if_false]
  · have : twin j % 2 = 0 := by omega
    simp only [e, this, if_true, if_false]
theorem head_twin {A : List Arc} {j : Nat} : headS A (twin j) = tailS A j := by
  unfold tailS headS
  rw [twin_half]
  have := twin_mod j
  by_cases e : j % 2 = 0
  · have : ¬ twin j % 2 = 0 := by omega
    simp only [e, this, if_true, if_false]
  · have : twin j % 2 = 0 := by omega
    simp only [e, this, if_true, if_false]

/-- The distance of a node. -/
def dl (D : List Int) (x : Nat) : Int := D.getD x 0
/-- The steps of a node that may still lead to the sink. -/
def ul (U : List (List Nat)) (x : Nat) : List Nat := U.getD x []
/-- Each step that is not tried any more leads to no greater flow in this round. -/
def Tried (A : List Arc) (N t : Nat) (D : List Int) (F : List Int) (U : List (List Nat)) : Prop :=
  U.length = N ∧ ∀ x, x < N → ∃ pre, fromR A x = pre ++ ul U x ∧ ∀ j ∈ pre, ∀ y : Nat, headS A j = (y : Int) → dl D y ≠ dl D x + 1 ∨ roomS A F j ≤ 0 ∨ (y ≠ t ∧ ul U y = [])
theorem Tried.start {A : List Arc} {N t : Nat} {D F : List Int} {U : List (List Nat)} (hl : U.length = N) (h : ∀ x, x < N → ul U x = fromR A x) : Tried A N t D F U :=
  ⟨hl, fun x hx => ⟨[], by rw [h x hx]; rfl, fun j hj => absurd hj (by simp)⟩⟩
theorem Tried.mem {A : List Arc} {N t : Nat} {D F : List Int} {U : List (List Nat)} (h : Tried A N t D F U) {x i : Nat} {rest : List Nat} (hx : x < N) (hu : ul U x = i :: rest) : i < 2 * A.length ∧ tailS A i = (x : Int) := by
  obtain ⟨pre, e, -⟩ := h.2 x hx
  refine mem_fromR.1 ?_
  rw [e, hu]; simp
theorem ul_set {U : List (List Nat)} {x y : Nat} {r : List Nat} (hx : x < U.length) : ul (U.set x r) y = if y = x then r else ul U y := by
  unfold ul
  by_cases e : y = x
  · subst e; simp [List.getD, hx]
  · rw [if_neg e]; simp only [List.getD]; rw [List.getElem?_set_ne (fun h => e h.symm)]
/-- What is left of a node's steps gets shorter by one. -/
theorem Tried.pop {A : List Arc} {N t : Nat} {D F : List Int} {U : List (List Nat)} (h : Tried A N t D F U) {x i : Nat} {rest : List Nat} (hx : x < N) (hu : ul U x = i :: rest)
    (hd : ∀ y : Nat, headS A i = (y : Int) → dl D y ≠ dl D x + 1 ∨ roomS A F i ≤ 0 ∨ (y ≠ t ∧ ul U y = [])) : Tried A N t D F (U.set x rest) := by
  have hxU : x < U.length := by rw [h.1]; exact hx
  refine ⟨by rw [List.length_set]; exact h.1, fun z hz => ?_⟩
  obtain ⟨pre, e, k⟩ := h.2 z hz
  have key : ∀ y : Nat, ul U y = [] → ul (U.set x rest) y = [] := by
    intro y hy
    rw [ul_set hxU]
    by_cases c : y = x
    · subst c; rw [hu] at hy; cases hy
    · rw [if_neg c]; exact hy
  have mono : ∀ (zz : Nat) (j : Nat) (y : Nat), (dl D y ≠ dl D zz + 1 ∨ roomS A F j ≤ 0 ∨ (y ≠ t ∧ ul U y = [])) → (dl D y ≠ dl D zz + 1 ∨ roomS A F j ≤ 0 ∨ (y ≠ t ∧ ul (U.set x rest) y = [])) := by
    intro zz j y hh
    rcases hh with h1 | h1 | ⟨h1, h2⟩
    · exact .inl h1
    · exact .inr (.inl h1)
    · exact .inr (.inr ⟨h1, key y h2⟩)
  by_cases c : z = x
  · subst c
    refine ⟨pre ++ [i], ?_, fun j hj y hy => ?_⟩
    · rw [ul_set hxU, if_pos rfl, e, hu]; simp
    · rcases List.mem_append.1 hj with hj | hj
      · exact mono _ _ _ (k j hj y hy)
      · obtain rfl : j = i := by simpa using hj
        exact mono _ _ _ (hd y hy)
  · refine ⟨pre, ?_, fun j hj y hy => mono _ _ _ (k j hj y hy)⟩
    rw [ul_set hxU, if_neg c]; exact e
/-- Flow is sent along a step that leads one farther. -/
theorem Tried.along {A : List Arc} {N t : Nat} {D F : List Int} {U : List (List Nat)} (h : Tried A N t D F U) {i x y : Nat} {p : Int} (h0 : 0 ≤ p) (hi : i / 2 < F.length) (hx : tailS A i = (x : Int)) (hy : headS A i = (y : Int)) (hd : dl D y = dl D x + 1) :
    Tried A N t D (along F i p) U := by
  refine ⟨h.1, fun z hz => ?_⟩
  obtain ⟨pre, e, k⟩ := h.2 z hz
  refine ⟨pre, e, fun j hj v hv => ?_⟩
  have hzt : tailS A j = (z : Int) := (mem_fromR.1 (by rw [e]; exact List.mem_append_left _ hj)).2
  have k1 := k j hj v hv
  by_cases c1 : j = i
  · subst c1
    rw [room_self p hi]
    rcases k1 with h1 | h1 | h1
    · exact .inl h1
    · exact .inr (.inl (by omega))
    · exact .inr (.inr h1)
  · by_cases c2 : j = twin i
    · subst c2
      rw [tail_twin, hy] at hzt
      rw [head_twin, hx] at hv
      left
      have e1 : z = y := by omega
      have e2 : v = x := by omega
      rw [e1, e2]; omega
    · rw [room_other p hi c1 c2]; exact k1

/-- What a push of at most 'a' from node x leaves: p is sent, the flow is F', the steps left are U'. -/
def Sent (A : List Arc) (N t : Nat) (D : List Int) (x : Nat) (F : List Int) (U : List (List Nat)) (p : Int) (F' : List Int) (U' : List (List Nat)) : Prop :=
  0 ≤ p ∧ within A F' ∧ (∀ y : Int, net y A F' = net y A F + (if y = (x : Int) then p else 0) - (if y = (t : Int) then p else 0)) ∧ Tried A N t D F' U' ∧ (p = 0 → F' = F) ∧
  (∀ y, y < N → dl D y < dl D x → ul U' y = ul U y) ∧ (∀ k, k < A.length → F'.getD k 0 ≠ F.getD k 0 → dl D x ≤ dl D (at' A k).1.toNat ∧ dl D x ≤ dl D (at' A k).2.1.toNat)
/-- .. and all that can be sent. -/
def Pushed (A : List Arc) (N t : Nat) (D : List Int) (x : Nat) (a : Int) (F : List Int) (U : List (List Nat)) (p : Int) (F' : List Int) (U' : List (List Nat)) : Prop :=
  Sent A N t D x F U p F' U' ∧ p ≤ a ∧ (p < a → x ≠ t ∧ ul U' x = [])
theorem Pushed.sink {A : List Arc} {N t : Nat} {D F : List Int} {U : List (List Nat)} {a : Int} (h0 : 0 ≤ a) (hw : within A F) (hT : Tried A N t D F U) : Pushed A N t D t a F U a F U :=
  ⟨⟨h0, hw, fun y => by split <;> omega, hT, fun _ => rfl, fun _ _ _ => rfl, fun _ _ h => absurd rfl h⟩, Int.le_refl _, fun h => absurd h (by omega)⟩
theorem Sent.start {A : List Arc} {N t : Nat} {D F : List Int} {U : List (List Nat)} {x : Nat} (hw : within A F) (hT : Tried A N t D F U) : Sent A N t D x F U 0 F U :=
  ⟨Int.le_refl _, hw, fun y => by split <;> split <;> omega, hT, fun _ => rfl, fun _ _ _ => rfl, fun _ _ h => absurd rfl h⟩
theorem Sent.done {A : List Arc} {N t : Nat} {D F F' : List Int} {U U' : List (List Nat)} {x : Nat} {a p : Int} (h : Sent A N t D x F U p F' U') (hle : p ≤ a) (hx : x ≠ t) (hu : p < a → ul U' x = []) : Pushed A N t D x a F U p F' U' :=
  ⟨h, hle, fun hp => ⟨hx, hu hp⟩⟩
/-- A step that leads not one farther, or that has no room left, is let go. -/
theorem Sent.drop {A : List Arc} {N t : Nat} {D F F1 : List Int} {U U1 : List (List Nat)} {x i : Nat} {rest : List Nat} {q : Int} (h : Sent A N t D x F U q F1 U1) (hx : x < N) (hu : ul U1 x = i :: rest)
    (hd : ∀ y : Nat, headS A i = (y : Int) → dl D y ≠ dl D x + 1 ∨ roomS A F1 i ≤ 0 ∨ (y ≠ t ∧ ul U1 y = [])) : Sent A N t D x F U q F1 (U1.set x rest) := by
  obtain ⟨h1, h2, h3, h4, h5, h6, h7⟩ := h
  refine ⟨h1, h2, h3, h4.pop hx hu hd, h5, fun y hy hlt => ?_, h7⟩
  rw [ul_set (by rw [h4.1]; exact hx), if_neg (by rintro rfl; omega)]
  exact h6 y hy hlt
/-- What lies behind a step is pushed to. -/
theorem Sent.step {A : List Arc} {N t : Nat} {D F F1 F2 : List Int} {U U1 U2 : List (List Nat)} {x y i : Nat} {rest : List Nat} {q p b : Int} (h : Sent A N t D x F U q F1 U1) (_ha : okArcs N A) (hx : x < N) (hu : ul U1 x = i :: rest)
    (hy : headS A i = (y : Int)) (hd : dl D y = dl D x + 1) (hb : b ≤ roomS A F1 i) (hp : Pushed A N t D y b F1 U1 p F2 U2) :
    Sent A N t D x F U (q + p) (along F2 i p) U2 ∧ ul U2 x = i :: rest ∧ roomS A F2 i = roomS A F1 i ∧ roomS A F2 (twin i) = roomS A F1 (twin i) ∧
    (p < roomS A F1 i → p < b → y ≠ t ∧ ul U2 y = []) := by
  obtain ⟨h1, h2, h3, h4, h5, h6, h7⟩ := h
  obtain ⟨⟨g1, g2, g3, g4, g5, g6, g7⟩, g8, g9⟩ := hp
  obtain ⟨hi, hti⟩ := h4.mem hx hu
  have hl2 := within_length g2
  have hl1 := within_length h2
  have hi2 : i / 2 < A.length := by omega
  have hsame : F2.getD (i / 2) 0 = F1.getD (i / 2) 0 := by
    by_cases c : F2.getD (i / 2) 0 = F1.getD (i / 2) 0
    · exact c
    · have k := g7 (i / 2) hi2 c
      exfalso
      unfold tailS at hti; unfold headS at hy
      by_cases e : i % 2 = 0
      · simp only [e, if_true] at hti hy
        rw [hti, hy, Int.toNat_natCast, Int.toNat_natCast] at k; omega
      · simp only [e, if_false] at hti hy
        rw [hti, hy, Int.toNat_natCast, Int.toNat_natCast] at k; omega
  have hr : roomS A F2 i = roomS A F1 i := by unfold roomS; rw [hsame]
  have hr2 : roomS A F2 (twin i) = roomS A F1 (twin i) := by unfold roomS; rw [twin_half, hsame]
  refine ⟨⟨by omega, along_within g2 hi2 g1 (by omega), fun z => ?_, g4.along g1 (by omega) hti hy hd, fun h0 => ?_, fun z hz hlt => ?_, fun k hk hc => ?_⟩, ?_, hr, hr2, fun _ hpb => g9 hpb⟩
  · rw [along_net p hl2 hi2 z, g3 z, h3 z, hti, hy]
    have : (x : Int) ≠ (y : Int) := by
      intro e
      have : x = y := by omega
      subst this; omega
    repeat' split
    all_goals omega
  · have e1 : p = 0 := by omega
    have e2 : q = 0 := by omega
    subst e1
    rw [along_zero F2 i (by omega), g5 rfl, h5 e2]
  · rw [g6 z hz (by omega), h6 z hz hlt]
  · rw [along_get F2 i k p (by omega)] at hc
    by_cases c : k = i / 2
    · subst c
      unfold tailS at hti; unfold headS at hy
      by_cases e : i % 2 = 0
      · simp only [e, if_true] at hti hy
        rw [hti, hy, Int.toNat_natCast, Int.toNat_natCast]; omega
      · simp only [e, if_false] at hti hy
        rw [hti, hy, Int.toNat_natCast, Int.toNat_natCast]; omega
    · rw [if_neg c] at hc
      by_cases c2 : F2.getD k 0 = F1.getD k 0
      · exact h7 k hk (by rw [← c2]; exact hc)
      · have := g7 k hk c2
        omega
  · rw [g6 x hx (by omega)]; exact hu

/-- The distances of a round. -/
def Lev (A : List Arc) (F : List Int) (N s : Nat) (D : List Int) : Prop :=
  D.length = N ∧ dl D s = 0 ∧ (∀ x, x < N → -1 ≤ dl D x ∧ dl D x ≤ 700) ∧
  (∀ j, j < 2 * A.length → ∀ x y : Nat, tailS A j = (x : Int) → headS A j = (y : Int) → dl D x ≠ -1 → 0 < roomS A F j → dl D y ≠ -1) ∧
  (∀ y, y < N → dl D y ≠ -1 → y ≠ s → ∃ j x : Nat, j < 2 * A.length ∧ tailS A j = (x : Int) ∧ headS A j = (y : Int) ∧ 0 < roomS A F j ∧ x < N ∧ 0 ≤ dl D x ∧ dl D y = dl D x + 1)
/-- If the sink has a distance a push from the source sends something. -/
theorem push_some {A : List Arc} {N s t : Nat} {D F F' : List Int} {U U' : List (List Nat)} {a p : Int} (hL : Lev A F N s D) (hs : s < N) (ht : t < N) (hst : s ≠ t) (hr : dl D t ≠ -1) (ha : 0 < a) (h : Pushed A N t D s a F U p F' U') : 0 < p := by
  obtain ⟨⟨h1, -, -, h4, h5, -, -⟩, h8, h9⟩ := h
  rcases Int.lt_or_le 0 p with hp | hp
  · exact hp
  exfalso
  have e0 : p = 0 := by omega
  have hF := h5 e0
  subst hF
  have key : ∀ n : Nat, ∀ y, y < N → dl D y = (n : Int) → (y = t ∨ ul U' y ≠ []) → ul U' s ≠ [] := by
    intro n
    induction n with
    | zero =>
      intro y hy hd hq
      by_cases c : y = s
      · subst c
        rcases hq with rfl | hq
        · exact absurd rfl hst
        · exact hq
      · obtain ⟨j, x, -, -, -, -, -, k1, k2⟩ := hL.2.2.2.2 y hy (by omega) c
        omega
    | succ n ih =>
      intro y hy hd hq
      by_cases c : y = s
      · subst c
        rcases hq with rfl | hq
        · exact absurd rfl hst
        · exact hq
      · obtain ⟨j, x, g1, g2, g3, g4, g5, g6, g7⟩ := hL.2.2.2.2 y hy (by omega) c
        refine ih x g5 (by omega) ?_
        by_cases cx : ul U' x = []
        · exfalso
          obtain ⟨pre, e, k⟩ := h4.2 x g5
          have hj : j ∈ pre := by
            have := mem_fromR.2 ⟨g1, g2⟩
            rw [e, cx] at this
            simpa using this
          rcases k j hj y g3 with k1 | k1 | ⟨k1, k2⟩
          · omega
          · omega
          · rcases hq with hq | hq
            · exact k1 hq
            · exact hq k2
        · exact .inr cx
  have hb := hL.2.2.1 t ht
  exact key (dl D t).toNat t ht (by omega) (.inl rfl) (h9 (by omega)).2
/-- If the sink has no distance the flow is greatest. -/
theorem lev_tight {A : List Arc} {N s : Nat} {D F : List Int} (hL : Lev A F N s D) (ha : okArcs N A) (hw : within A F) : tight (cutOf (D.map fun d => decide (d ≠ -1))) A F := by
  have hl := within_length hw
  have hg : ∀ y : Nat, y < N → cutOf (D.map fun d => decide (d ≠ -1)) (y : Int) = decide (dl D y ≠ -1) := by
    intro y hy
    have : y < D.length := by rw [hL.1]; exact hy
    simp [cutOf, getB, dl, List.getD, this]
  rw [tight_iff hl]
  intro i hi
  obtain ⟨x, y, h1, h2, hx, hy⟩ := step_nodes (j := 2 * i) ha (by omega)
  have e1 : (2 * i) % 2 = 0 := by omega
  have e2 : (2 * i) / 2 = i := by omega
  have e3 : (2 * i + 1) % 2 = 1 := by omega
  have e4 : (2 * i + 1) / 2 = i := by omega
  have k1 := hL.2.2.2.1 (2 * i) (by omega) x y h1 h2
  have k2 := hL.2.2.2.1 (2 * i + 1) (by omega) y x (by unfold tailS; unfold headS at h2; simp only [e1, e2, e3, e4] at h2 ⊢; simpa using h2) (by unfold headS; unfold tailS at h1; simp only [e1, e2, e3, e4] at h1 ⊢; simpa using h1)
  have hb := (within_iff.1 hw).2 i hi
  unfold roomS at k1 k2
  unfold tailS at h1; unfold headS at h2
  simp only [e1, e2, if_true] at h1 h2 k1
  simp only [e3, e4] at k2
  rw [h1, h2, hg x hx, hg y hy]
  constructor
  · intro c1 c2
    have c1 := of_decide_eq_true c1
    have c2 := of_decide_eq_false c2
    rcases Int.lt_or_le (F.getD i 0) (at' A i).2.2.1 with hlt | hge
    · exact absurd (k1 c1 (by omega)) c2
    · omega
  · intro c1 c2
    have c1 := of_decide_eq_false c1
    have c2 := of_decide_eq_true c2
    rcases Int.lt_or_le 0 (F.getD i 0) with hlt | hge
    · exact absurd (k2 c2 (by simpa using hlt)) c1
    · omega
end NetM
