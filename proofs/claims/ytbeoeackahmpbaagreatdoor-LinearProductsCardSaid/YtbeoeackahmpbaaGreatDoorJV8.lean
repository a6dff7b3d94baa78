/- Sums of products fit. | Package linear: Apply. Made by gen/lsolve.py. | Package linear: Mul. Made by gen/lmulp.py. -/
import Derived.Test.YtbeoeackahmpbaaGreatDoorJV5
import Derived.Test.YtbeoeackahmpbaaGreatDoorJV3
import Derived.Test.YtbeoeackahmpbaaGreatDoorJV7

namespace Go.Proofs.YtbeoeackahmpbaaGreatDoor
open Go.RowKit NatM Go.Proofs.YtbeoeackahmpbaaGreatDoor.Api LinM

/-- A quotient of a whole number of at most N and one of at most D. -/
def DBd (N D : Nat) (q : Rat) : Prop := ∃ (z : Int) (d : Nat), 0 < d ∧ d ≤ D ∧ z.natAbs ≤ N ∧ q = (z : Rat) / (d : Rat)
theorem sgq_self (z : Int) : sgq (decide (z < 0)) z.natAbs = z := by
  unfold sgq
  by_cases c : z < 0
  · rw [decide_eq_true c]; simp; omega
  · rw [decide_eq_false c]; simp; omega
theorem DBd.fit {N D : Nat} {q : Rat} (h : DBd N D q) (hN : N < pw 128) (hD : D < pw 128) : Fit q := by
  obtain ⟨z, d, h1, h2, h3, rfl⟩ := h
  have e : (z : Rat) / (d : Rat) = qv (decide (z < 0), z.natAbs, d) := by
    show _ = mkRat (sgq (decide (z < 0)) z.natAbs) d
    rw [sgq_self, Rat.mkRat_eq_div]
  rw [e]
  exact fit_red (okF_iff.2 ⟨by dsimp only; omega, by dsimp only; omega, by dsimp only; omega⟩)
theorem DBd.up {N D N' D' : Nat} {q : Rat} (h : DBd N D q) (hN : N ≤ N') (hD : D ≤ D') : DBd N' D' q := by
  obtain ⟨z, d, h1, h2, h3, e⟩ := h
  exact ⟨z, d, h1, by omega, by omega, e⟩
theorem nat_ne {d : Nat} (h : 0 < d) : (d : Rat) ≠ 0 := fun e => by
  have := Rat.natCast_eq_zero_iff.1 e
  omega
theorem DBd.mul {N D M E : Nat} {x y : Rat} (hx : DBd N D x) (hy : DBd M E y) : DBd (N * M) (D * E) (x * y) := by
  obtain ⟨z, d, h1, h2, h3, rfl⟩ := hx
  obtain ⟨u, e, k1, k2, k3, rfl⟩ := hy
  refine ⟨z * u, d * e, Nat.mul_pos h1 k1, Nat.mul_le_mul h2 k2, by rw [Int.natAbs_mul]; exact Nat.mul_le_mul h3 k3, ?_⟩
  have n1 := nat_ne h1
  have n2 := nat_ne k1
  rw [Rat.intCast_mul, Rat.natCast_mul]
  grind
theorem DBd.add {N D M E : Nat} {x y : Rat} (hx : DBd N D x) (hy : DBd M E y) : DBd (N * E + M * D) (D * E) (x + y) := by
  obtain ⟨z, d, h1, h2, h3, rfl⟩ := hx
  obtain ⟨u, e, k1, k2, k3, rfl⟩ := hy
  refine ⟨z * e + u * d, d * e, Nat.mul_pos h1 k1, Nat.mul_le_mul h2 k2, ?_, ?_⟩
  · refine Nat.le_trans (Int.natAbs_add_le _ _) (Nat.add_le_add ?_ ?_)
    · rw [Int.natAbs_mul, Int.natAbs_natCast]; exact Nat.mul_le_mul h3 k2
    · rw [Int.natAbs_mul, Int.natAbs_natCast]; exact Nat.mul_le_mul k3 h2
  · have n1 := nat_ne h1
    have n2 := nat_ne k1
    rw [Rat.intCast_add, Rat.intCast_mul, Rat.intCast_mul, Rat.natCast_mul, Rat.intCast_natCast, Rat.intCast_natCast]
    grind
theorem dbd_self (q : Rat) : DBd (2 ^ nb q.num.natAbs) (2 ^ dbits q) q :=
  ⟨q.num, q.den, q.den_pos, den_le q, Nat.le_of_lt (lt_nb _), by have := frac_self q; unfold frac at this; rw [sgq_self, Rat.mkRat_eq_div] at this; exact this.symm⟩
section
variable (x y : Nat → Rat)
def nbP (k : Nat) : Nat := nb (x k).num.natAbs + nb (y k).num.natAbs
def dbP (k : Nat) : Nat := dbits (x k) + dbits (y k)
theorem dbd_prod (k : Nat) : DBd (2 ^ nbP x y k) (2 ^ dbP x y k) (x k * y k) := by
  unfold nbP dbP
  rw [Nat.pow_add, Nat.pow_add]
  exact (dbd_self _).mul (dbd_self _)
theorem dbd_sum {A : Nat} : ∀ k, (∀ i, i < k → nbP x y i ≤ A) → DBd (k * 2 ^ (A + sumK (dbP x y) k)) (2 ^ sumK (dbP x y) k) (LinM.sumQ (fun j => x j * y j) k)
  | 0, _ => ⟨0, 1, by decide, by show 1 ≤ 2 ^ 0; decide, Nat.zero_le _, by show (0 : Rat) = _; grind⟩
  | k + 1, h => by
    have ih := dbd_sum k fun i hi => h i (by omega)
    have h1 := (dbd_prod x y k).up (Nat.pow_le_pow_right (by decide) (h k (by omega))) (Nat.le_refl _)
    refine (ih.add h1).up ?_ ?_
    · have e1 : k * 2 ^ (A + sumK (dbP x y) k) * 2 ^ dbP x y k = k * 2 ^ (A + sumK (dbP x y) (k + 1)) := by
        rw [Nat.mul_assoc, ← Nat.pow_add, Nat.add_assoc]; rfl
      have e2 : 2 ^ A * 2 ^ sumK (dbP x y) k ≤ 2 ^ (A + sumK (dbP x y) (k + 1)) := by
        rw [← Nat.pow_add]
        exact Nat.pow_le_pow_right (by decide) (by show A + sumK (dbP x y) k ≤ A + (sumK (dbP x y) k + dbP x y k); omega)
      rw [e1, Nat.succ_mul]
      exact Nat.add_le_add_left e2 _
    · rw [← Nat.pow_add]; exact Nat.le_refl _
theorem wt_split (m : Nat) : wtR (fun j => can (x j)) m + wtR (fun j => can (y j)) m = sumK (nbP x y) m + sumK (dbP x y) m := by
  have e : ∀ z : Nat → Rat, wtR (fun j => can (z j)) m = sumK (fun j => nb (z j).num.natAbs) m + sumK (fun j => dbits (z j)) m := fun z => by
    unfold wtR; rw [← sumK_add]; exact sumK_congr fun j _ => wtF_can _
  rw [e, e]
  have e1 : sumK (nbP x y) m = sumK (fun j => nb (x j).num.natAbs) m + sumK (fun j => nb (y j).num.natAbs) m := by rw [← sumK_add]; rfl
  have e2 : sumK (dbP x y) m = sumK (fun j => dbits (x j)) m + sumK (fun j => dbits (y j)) m := by rw [← sumK_add]; rfl
  omega
variable {x y} {m x0 : Nat}
theorem fit_sum (hw : wtR (fun j => can (x j)) m + wtR (fun j => can (y j)) m ≤ x0) (hx : x0 ≤ 3800) (hm : m ≤ 24) {k : Nat} (hk : k ≤ m) : Fit (LinM.sumQ (fun j => x j * y j) k) := by
  rw [wt_split] at hw
  have h1 := dbd_sum x y (A := sumK (nbP x y) m) k fun i hi => sumK_one (by omega)
  have h2 : sumK (dbP x y) k ≤ sumK (dbP x y) m := sumK_part hk
  refine h1.fit (pw_two128 (k := 5 + x0) (show k * 2 ^ (sumK (nbP x y) m + sumK (dbP x y) k) ≤ 2 ^ (5 + x0) from ?_) (by omega)) (pw_two128 (k := x0) (show 2 ^ sumK (dbP x y) k ≤ 2 ^ x0 from Nat.pow_le_pow_right (by decide) (by omega)) (by omega))
  rw [Nat.pow_add 2 5 x0]
  exact Nat.mul_le_mul (show k ≤ 2 ^ 5 by omega) (Nat.pow_le_pow_right (show 0 < 2 by decide) (show sumK (nbP x y) m + sumK (dbP x y) k ≤ x0 by omega))
theorem fit_prod (hw : wtR (fun j => can (x j)) m + wtR (fun j => can (y j)) m ≤ x0) (hx : x0 ≤ 3800) {k : Nat} (hk : k < m) : Fit (x k * y k) := by
  rw [wt_split] at hw
  have h1 : nbP x y k ≤ sumK (nbP x y) m := sumK_one hk
  have h2 : dbP x y k ≤ sumK (dbP x y) m := sumK_one hk
  exact (dbd_prod x y k).fit (pw_two128 (k := x0) (show 2 ^ nbP x y k ≤ 2 ^ x0 from Nat.pow_le_pow_right (by decide) (by omega)) (by omega)) (pw_two128 (k := x0) (show 2 ^ dbP x y k ≤ 2 ^ x0 from Nat.pow_le_pow_right (by decide) (by omega)) (by omega))
/-- The sum of the products, as the program reckons it. -/
theorem dot_can (hfx : ∀ j, j < m → Fit (x j)) (hfy : ∀ j, j < m → Fit (y j)) (hw : wtR (fun j => can (x j)) m + wtR (fun j => can (y j)) m ≤ x0) (hx : x0 ≤ 3800) (hm : m ≤ 24) :
    dotT (fun j => can (x j)) (fun j => can (y j)) m = can (LinM.sumQ (fun j => x j * y j) m) := by
  have key : ∀ k, k ≤ m → sumF (false, 0, 1) ((List.range k).map (mulR (fun j => can (x j)) (fun j => can (y j)))) = (can (LinM.sumQ (fun j => x j * y j) k), 0) := by
    intro k
    induction k with
    | zero => intro _; show ((false, 0, 1), 0) = (can 0, 0); rw [can0]
    | succ k ih =>
      intro hk
      rw [List.range_succ, List.map_append, sumF_append, ih (by omega), if_pos rfl]
      have e : mulR (fun j => can (x j)) (fun j => can (y j)) k = can (x k * y k) := by
        unfold mulR
        dsimp only
        rw [mul_can (hfx k (by omega)) (hfy k (by omega)) (fit_prod hw hx (by omega))]
      show sumF (can _) [mulR (fun j => can (x j)) (fun j => can (y j)) k] = _
      rw [e, sumF_step0 (add_can (fit_sum hw hx hm (by omega)) (fit_prod hw hx (by omega)) (fit_sum hw hx hm (k := k + 1) hk))]
      rfl
  unfold dotT
  rw [key m (Nat.le_refl m)]
end
end Go.Proofs.YtbeoeackahmpbaaGreatDoor

namespace Go.Proofs.YtbeoeackahmpbaaGreatDoor
open Go.RowKit NatM Go.Proofs.YtbeoeackahmpbaaGreatDoor.Api LinM

/-- The products of rows and a vector. -/
def mulV (A : Mat) (b : Nat → Rat) (c : Nat) : Nat → Rat := fun i => LinM.sumQ (fun j => A i j * b j) c
theorem dots {A : Mat} {b : Nat → Rat} {n c : Nat} (hA : ∀ i j, i < n → j < c → Fit (A i j)) (hb : ∀ j, j < c → Fit (b j)) (hc : c ≤ 24) (hw : wtM (fun i j => can (A i j)) (fun _ => c) n + wtR (fun j => can (b j)) c ≤ 3800) {i : Nat} (hi : i < n) :
    dotT (fun j => can (A i j)) (fun j => can (b j)) c = can (mulV A b c i) :=
  dot_can (x0 := 3800) (fun j hj => hA i j hi hj) hb (by have := wtM_row (fun i j => can (A i j)) (fun _ => c) hi; omega) (Nat.le_refl _) hc
/-- What Apply returns where all is allowed. -/
def AppP (w : World) (n c : Nat) (A : Mat) (b : Nat → Rat) (e : Ending) (w' : World) : Prop :=
  ∃ g, e = .returned (.tuple #[.slice (some ⟨g, 0, none⟩) n n, .int .i64 0]) ∧ FBlk w' g n (fun i => can (mulV A b c i)) ∧ w.heap.size ≤ g ∧ Add w w'
set_option maxRecDepth 100000 in
set_option maxHeartbeats 4000000 in
theorem applyN_ok {w : World} {va vb : Value} {n c q : Nat} {m : Nat → Nat} {X : Nat → Nat → Tri} {y : Nat → Tri} (h : MatP false w va n m X) (hv : RowP false w vb q y) (hT : Tab w) (hb : shapeOk X m n = true) (hc : m 0 = c) (hy : vecOk y q c = true)
    (hw : wtM (fun i j => can (qm X i j)) (fun _ => c) n + wtR (fun j => can (qr y j)) c ≤ 3800) :
    Calls Tryz.prog 28 #[va, vb] w (AppP w n c (qm X) (qr y)) := by
  obtain ⟨hn, hc1, hX⟩ := shapeOk_iff.1 hb
  rw [hc] at hX hc1
  obtain ⟨rfl, hyo⟩ := vecOk_iff.1 hy
  have CS := Lib.hid (shapeN (n, q, true) h (Lib.hid (by unfold shN; rw [if_pos hb, hc])))
  have CV := Lib.hid (fun w' (ha : Add w w') => isVectorN true (hv.add ha) (show q ≤ 9223372036854775807 by omega) (Lib.hid hy))
  have HX := Lib.hid hX
  have HY := Lib.hid hyo
  have HT := Lib.hid hT
  have HW := Lib.hid hw
  have HA := Lib.hid (And.intro h hv)
  obtain ⟨ao, ca, rfl, -⟩ := h.isSlice
  obtain ⟨bo, cb, rfl, -, -, -⟩ := hv
  clear h hT hb hy hX hw hyo hc
  go_enter Tryz.func28, Tryz.ntmps28
  go_wp2_with fail
  refine CS.out.mono ?_
  rintro e w1 ⟨rfl, h1⟩
  go_wp2_with fail
  refine (CV.out w1 h1).mono ?_
  rintro e wr ⟨rfl, h2⟩
  have HT1 := Lib.hid (Add.trans h1 h2)
  have C1 : Hid (∀ w', Add wr w' → Calls Tryz.prog 45 #[.slice ao n ca] w' (RetM w' n m (redX X))) := Lib.hid fun w' ha => reducedN (HA.out.1.add (Add.trans HT1.out ha)) (HT.out.mono (Add.trans HT1.out ha)) (by omega) (fun i hi => by rw [(HX.out i hi).1]; omega)
  have C2 : Hid (∀ w' g, w'.heap[g]? = some (.cells #[.slice bo q cb] 23 (0, 0)) → Add wr w' → Calls Tryz.prog 45 #[.slice (some ⟨g, 0, none⟩) 1 1] w' (RetM w' 1 (fun _ => q) (redX fun _ => y))) := Lib.hid fun w' g hg ha => reducedN (one_row hg (HA.out.2.add (Add.trans HT1.out ha))) (HT.out.mono (Add.trans HT1.out ha)) (by omega) (fun i hi => by omega)
  clear CS CV h1 h2
  go_upto_region 4 with fail
  refine wp_region_held_drew (S := fun _ => True) (by kernel_rfl) trivial (fun hHeld => ?_)
  refine wpAnyH_take (i := 0) (v := ?_) (by simp only [List.getElem?_toArray, List.getElem?_cons_zero]; rfl) (by kernel_rfl) (by kernel_rfl) (by kernel_rfl) (by intro _ _ _ h; exact h) (Or.inl ⟨by rfl, ?_⟩) (by assumption) ?_
  rotate_left
  · intro w0 hSw
    try dsimp only at hSw
    go_simp
    try with_reducible rfl
  try simp only [Act.put, List.setIfInBounds_toArray, List.set_cons_zero, List.set_cons_succ]
  refine wpAnyH_take (i := 2) (v := ?_) (by simp only [List.getElem?_toArray, List.getElem?_cons_zero, List.getElem?_cons_succ]; rfl) (by kernel_rfl) (by kernel_rfl) (by kernel_rfl) (by intro _ _ _ h; exact h) (Or.inl ⟨by rfl, ?_⟩) (by assumption) ?_
  rotate_left
  · intro w0 hSw
    try dsimp only at hSw
    go_simp
    try with_reducible rfl
  try simp only [Act.put, List.setIfInBounds_toArray, List.set_cons_zero, List.set_cons_succ]
  refine wpAnyH_ready (rs := [1, 3]) (by kernel_rfl) (by simp) ?_
  refine AllReadyH.cons (o := _) (by simp only [List.getElem?_toArray, List.getElem?_cons_zero, List.getElem?_cons_succ]; rfl) (fun K hK => ?_) ?_
  · skip
    go_simp
    refine (C1.out _ (Below.drew (Below.refl _ _))).mono ?_
    rintro e z1 ⟨G1, gs1, rfl, hE1, hq1⟩
    have t2 := Add.trans (Below.drew (Below.refl _ _) : Add wr (World.drew wr)) hq1
    have HE1 := Lib.hid hE1
    clear hE1 hq1
    refine hK.out _ _ trivial (fun hHeld => ?_)
    clear hK K
    try simp only [Act.put, List.setIfInBounds_toArray, List.set_cons_zero, List.set_cons_succ]
    refine wpAnyH_ready (rs := [3]) (by kernel_rfl) (by simp) ?_
    refine AllReadyH.cons (o := _) (by simp only [List.getElem?_toArray, List.getElem?_cons_zero, List.getElem?_cons_succ]; rfl) (fun K hK => ?_) ?_
    · skip
      go_simp
      refine hK.out _ _ trivial (fun hHeld => ?_)
      clear hK K
      try simp only [Act.put, List.setIfInBounds_toArray, List.set_cons_zero, List.set_cons_succ]
      refine wpAnyH_ready (rs := [4]) (by kernel_rfl) (by simp) ?_
      refine AllReadyH.cons (o := _) (by simp only [List.getElem?_toArray, List.getElem?_cons_zero, List.getElem?_cons_succ]; rfl) (fun K hK => ?_) ?_
      · skip
        go_simp
        refine (C2.out _ _ (heap_alloc_new _ _) (Add.trans t2 (add_new _ _))).mono ?_
        rintro e z2 ⟨G2, gs2, rfl, hE2, hq2⟩
        have t3 := Add.trans (Add.trans t2 (add_new _ _)) hq2
        have HE3 := Lib.hid (HE1.out.add (Add.trans (add_new _ _) hq2))
        have c9 : z2.cell? ⟨G2, 0, none⟩ = some (.slice (some ⟨gs2 0, 0, none⟩) q q) := (by have := hE2.head.cell (show 0 < 1 by omega); exact this)
        have HE2 := Lib.hid hE2
        clear hE2 hq2 HE1
        refine hK.out _ _ trivial (fun hHeld => ?_)
        clear hK K
        try simp only [Act.put, List.setIfInBounds_toArray, List.set_cons_zero, List.set_cons_succ]
        refine wpAnyH_more (S' := fun W : World => W.cell? ⟨G2, 0, none⟩ = some (.slice (some ⟨gs2 0, 0, none⟩) q q)) (fun _ _ => trivial) c9 (fun hHeld => ?_)
        refine wpAnyH_take (i := 5) (v := ?_) (by simp only [List.getElem?_toArray, List.getElem?_cons_zero, List.getElem?_cons_succ]; rfl) (by kernel_rfl) (by kernel_rfl) (by kernel_rfl) (by intro _ _ _ h; exact h) (Or.inl ⟨by rfl, ?_⟩) (by assumption) ?_
        rotate_left
        · intro w0 hSw
          try dsimp only at hSw
          go_simp
          try with_reducible rfl
        try simp only [Act.put, List.setIfInBounds_toArray, List.set_cons_zero, List.set_cons_succ]
        refine wpAnyH_take (i := 6) (v := ?_) (by simp only [List.getElem?_toArray, List.getElem?_cons_zero, List.getElem?_cons_succ]; rfl) (by kernel_rfl) (by kernel_rfl) (by kernel_rfl) (by intro _ _ _ h; exact h) (Or.inl ⟨by rfl, ?_⟩) (by assumption) ?_
        rotate_left
        · intro w0 hSw
          try dsimp only at hSw
          go_simp
          try with_reducible rfl
        try simp only [Act.put, List.setIfInBounds_toArray, List.set_cons_zero, List.set_cons_succ]
        refine wpAnyH_take (i := 7) (v := ?_) (by simp only [List.getElem?_toArray, List.getElem?_cons_zero, List.getElem?_cons_succ]; rfl) (by kernel_rfl) (by kernel_rfl) (by kernel_rfl) (by intro _ _ _ h; exact h) (Or.inl ⟨by rfl, ?_⟩) (by assumption) ?_
        rotate_left
        · intro w0 hSw
          try dsimp only at hSw
          go_simp
          try with_reducible rfl
        try simp only [Act.put, List.setIfInBounds_toArray, List.set_cons_zero]
        refine wpAnyH_take (i := 8) (v := ?_) (by simp only [List.getElem?_toArray, List.getElem?_cons_zero, List.getElem?_cons_succ]; rfl) (by kernel_rfl) (by kernel_rfl) (by kernel_rfl) (by intro _ _ _ h; exact h) (Or.inl ⟨by rfl, ?_⟩) (by assumption) ?_
        rotate_left
        · intro w0 hSw
          try dsimp only at hSw
          go_simp
          try with_reducible rfl
        try simp only [Act.put, List.setIfInBounds_toArray, List.set_cons_zero, List.set_cons_succ]
        refine wpAnyH_done (by kernel_rfl) ?_ _
        clear c9 C1 C2 hHeld
        have hM := red_mat HE3.out (by omega) (by omega) (fun i hi => (HX.out i hi).1) (fun i j hi hj => (HX.out i hi).2 j hj)
        have hR := red_row HE2.out (by omega) HY.out
        have hF : ∀ i j, i < n → j < q → Fit (qm X i j) := fun i j hi hj => fit_red ((HX.out i hi).2 j (by rw [(HX.out i hi).1]; exact hj))
        have hFy : ∀ j, j < q → Fit (qr y j) := fun j hj => fit_red (HY.out j hj)
        obtain ⟨gb, hgb⟩ : ∃ g, g = gs2 0 := ⟨_, rfl⟩
        rw [← hgb] at hR ⊢
        have T3 := Add.trans HT1.out t3
        have CW1 := Lib.hid (weightN hM (fun i j hi hj => (hF i j hi hj).sm) (by omega) (fun i hi => by omega))
        have CW2 := Lib.hid (fun (w' : World) (g : Nat) (hg : w'.heap[g]? = some (.cells #[.slice (some ⟨gb, 0, none⟩) q q] 23 (0, 0))) (ha : Add z2 w') => weightN (one_row hg (hR.add ha)) (fun i j hi hj => (hFy j hj).sm) (by omega) (fun i hi => by omega))
        have CP := Lib.hid (fun (w' : World) (ha : Add z2 w') => productsN (hM.add ha) (hR.add ha) (fun i j hi hj => (hF i j hi hj).sm) (fun j hj => (hFy j hj).sm) (HT.out.mono (Add.trans T3 ha)) (by omega) (by omega))
        have HD : Hid (∀ i, i < n → dotT (fun j => can (qm X i j)) (fun j => can (qr y j)) q = can (mulV (qm X) (qr y) q i)) := Lib.hid fun i hi => dots hF hFy (by omega) HW.out hi
        have HT3 := Lib.hid T3
        clear hM hR hF hFy hgb T3 t2 t3 HE2 HE3
        go_wp2_with fail
        refine CW1.out.mono ?_
        rintro e w3 ⟨rfl, h3⟩
        have hw2 := HW.out
        go_wp2_with fail
        refine (CW2.out _ _ (heap_alloc_new w3 _) (Add.trans h3 (add_new _ _))).mono ?_
        rintro e w4 ⟨rfl, h4⟩
        rw [wtM_one]
        have T4 := Add.trans (Add.trans h3 (add_new w3 (.cells #[.slice (some ⟨gb, 0, none⟩) q q] 23))) h4
        clear h3 h4 CW1 CW2
        go_wp2_with fail
        refine (CP.out w4 T4).mono ?_
        rintro e w5 ⟨g5, rfl, hB5, hg5, h5⟩
        have T5 := Add.trans HT3.out (Add.trans T4 h5)
        have HF : Hid (AppP w n q (qm X) (qr y) (.returned (.tuple #[.slice (some ⟨g5, 0, none⟩) n n, .int .i64 0])) w5) := Lib.hid ⟨g5, rfl, hB5.congr fun i hi => HD.out i hi, Nat.le_trans (Add.trans HT3.out T4).size hg5, T5⟩
        clear CP hB5 hg5 h5 T4 T5 HT3 HD
        go_wp2_with fail
        go_ret2
        exact HF.out
      exact AllReadyH.nil
    exact AllReadyH.nil
  refine AllReadyH.cons (o := _) (by simp only [List.getElem?_toArray, List.getElem?_cons_zero, List.getElem?_cons_succ]; rfl) (fun K hK => ?_) ?_
  · skip
    go_simp
    refine hK.out _ _ trivial (fun hHeld => ?_)
    clear hK K
    try simp only [Act.put, List.setIfInBounds_toArray, List.set_cons_zero, List.set_cons_succ]
    refine wpAnyH_ready (rs := [1]) (by kernel_rfl) (by simp) ?_
    refine AllReadyH.cons (o := _) (by simp only [List.getElem?_toArray, List.getElem?_cons_zero, List.getElem?_cons_succ]; rfl) (fun K hK => ?_) ?_
    · skip
      go_simp
      refine (C1.out _ (Add.trans (Below.drew (Below.refl _ _)) (add_new _ _))).mono ?_
      rintro e z1 ⟨G1, gs1, rfl, hE1, hq1⟩
      have t2 := Add.trans (Add.trans (Below.drew (Below.refl _ _) : Add wr (World.drew wr)) (add_new _ (.cells #[.slice bo q cb] 23))) hq1
      have hblk : z1.heap[wr.heap.size]? = some (.cells #[.slice bo q cb] 23 (0, 0)) := (by have := heap_alloc_new (World.drew wr) (.cells #[.slice bo q cb] 23); exact (hq1.block _ (by simp)).trans this)
      have HE1 := Lib.hid hE1
      clear hE1 hq1
      refine hK.out _ _ trivial (fun hHeld => ?_)
      clear hK K
      try simp only [Act.put, List.setIfInBounds_toArray, List.set_cons_zero, List.set_cons_succ]
      refine wpAnyH_ready (rs := [4]) (by kernel_rfl) (by simp) ?_
      refine AllReadyH.cons (o := _) (by simp only [List.getElem?_toArray, List.getElem?_cons_zero, List.getElem?_cons_succ]; rfl) (fun K hK => ?_) ?_
      · skip
        go_simp
        refine (C2.out _ _ hblk (t2)).mono ?_
        rintro e z2 ⟨G2, gs2, rfl, hE2, hq2⟩
        have t3 := Add.trans (t2) hq2
        have HE3 := Lib.hid (HE1.out.add (hq2))
        have c9 : z2.cell? ⟨G2, 0, none⟩ = some (.slice (some ⟨gs2 0, 0, none⟩) q q) := (by have := hE2.head.cell (show 0 < 1 by omega); exact this)
        have HE2 := Lib.hid hE2
        clear hE2 hq2 HE1
        refine hK.out _ _ trivial (fun hHeld => ?_)
        clear hK K
        try simp only [Act.put, List.setIfInBounds_toArray, List.set_cons_zero, List.set_cons_succ]
        refine wpAnyH_more (S' := fun W : World => W.cell? ⟨G2, 0, none⟩ = some (.slice (some ⟨gs2 0, 0, none⟩) q q)) (fun _ _ => trivial) c9 (fun hHeld => ?_)
        refine wpAnyH_take (i := 5) (v := ?_) (by simp only [List.getElem?_toArray, List.getElem?_cons_zero, List.getElem?_cons_succ]; rfl) (by kernel_rfl) (by kernel_rfl) (by kernel_rfl) (by intro _ _ _ h; exact h) (Or.inl ⟨by rfl, ?_⟩) (by assumption) ?_
        rotate_left
        · intro w0 hSw
          try dsimp only at hSw
          go_simp
          try with_reducible rfl
        try simp only [Act.put, List.setIfInBounds_toArray, List.set_cons_zero, List.set_cons_succ]
        refine wpAnyH_take (i := 6) (v := ?_) (by simp only [List.getElem?_toArray, List.getElem?_cons_zero, List.getElem?_cons_succ]; rfl) (by kernel_rfl) (by kernel_rfl) (by kernel_rfl) (by intro _ _ _ h; exact h) (Or.inl ⟨by rfl, ?_⟩) (by assumption) ?_
        rotate_left
        · intro w0 hSw
          try dsimp only at hSw
          go_simp
          try with_reducible rfl
        try simp only [Act.put, List.setIfInBounds_toArray, List.set_cons_zero, List.set_cons_succ]
        refine wpAnyH_take (i := 7) (v := ?_) (by simp only [List.getElem?_toArray, List.getElem?_cons_zero, List.getElem?_cons_succ]; rfl) (by kernel_rfl) (by kernel_rfl) (by kernel_rfl) (by intro _ _ _ h; exact h) (Or.inl ⟨by rfl, ?_⟩) (by assumption) ?_
        rotate_left
        · intro w0 hSw
          try dsimp only at hSw
          go_simp
          try with_reducible rfl
        try simp only [Act.put, List.setIfInBounds_toArray, List.set_cons_zero]
        refine wpAnyH_take (i := 8) (v := ?_) (by simp only [List.getElem?_toArray, List.getElem?_cons_zero, List.getElem?_cons_succ]; rfl) (by kernel_rfl) (by kernel_rfl) (by kernel_rfl) (by intro _ _ _ h; exact h) (Or.inl ⟨by rfl, ?_⟩) (by assumption) ?_
        rotate_left
        · intro w0 hSw
          try dsimp only at hSw
          go_simp
          try with_reducible rfl
        try simp only [Act.put, List.setIfInBounds_toArray, List.set_cons_zero, List.set_cons_succ]
        refine wpAnyH_done (by kernel_rfl) ?_ _
        clear c9 C1 C2 hHeld
        have hM := red_mat HE3.out (by omega) (by omega) (fun i hi => (HX.out i hi).1) (fun i j hi hj => (HX.out i hi).2 j hj)
        have hR := red_row HE2.out (by omega) HY.out
        have hF : ∀ i j, i < n → j < q → Fit (qm X i j) := fun i j hi hj => fit_red ((HX.out i hi).2 j (by rw [(HX.out i hi).1]; exact hj))
        have hFy : ∀ j, j < q → Fit (qr y j) := fun j hj => fit_red (HY.out j hj)
        obtain ⟨gb, hgb⟩ : ∃ g, g = gs2 0 := ⟨_, rfl⟩
        rw [← hgb] at hR ⊢
        have T3 := Add.trans HT1.out t3
        have CW1 := Lib.hid (weightN hM (fun i j hi hj => (hF i j hi hj).sm) (by omega) (fun i hi => by omega))
        have CW2 := Lib.hid (fun (w' : World) (g : Nat) (hg : w'.heap[g]? = some (.cells #[.slice (some ⟨gb, 0, none⟩) q q] 23 (0, 0))) (ha : Add z2 w') => weightN (one_row hg (hR.add ha)) (fun i j hi hj => (hFy j hj).sm) (by omega) (fun i hi => by omega))
        have CP := Lib.hid (fun (w' : World) (ha : Add z2 w') => productsN (hM.add ha) (hR.add ha) (fun i j hi hj => (hF i j hi hj).sm) (fun j hj => (hFy j hj).sm) (HT.out.mono (Add.trans T3 ha)) (by omega) (by omega))
        have HD : Hid (∀ i, i < n → dotT (fun j => can (qm X i j)) (fun j => can (qr y j)) q = can (mulV (qm X) (qr y) q i)) := Lib.hid fun i hi => dots hF hFy (by omega) HW.out hi
        have HT3 := Lib.hid T3
        clear hM hR hF hFy hgb T3 t2 t3 HE2 HE3
        go_wp2_with fail
        refine CW1.out.mono ?_
        rintro e w3 ⟨rfl, h3⟩
        have hw2 := HW.out
        go_wp2_with fail
        refine (CW2.out _ _ (heap_alloc_new w3 _) (Add.trans h3 (add_new _ _))).mono ?_
        rintro e w4 ⟨rfl, h4⟩
        rw [wtM_one]
        have T4 := Add.trans (Add.trans h3 (add_new w3 (.cells #[.slice (some ⟨gb, 0, none⟩) q q] 23))) h4
        clear h3 h4 CW1 CW2
        go_wp2_with fail
        refine (CP.out w4 T4).mono ?_
        rintro e w5 ⟨g5, rfl, hB5, hg5, h5⟩
        have T5 := Add.trans HT3.out (Add.trans T4 h5)
        have HF : Hid (AppP w n q (qm X) (qr y) (.returned (.tuple #[.slice (some ⟨g5, 0, none⟩) n n, .int .i64 0])) w5) := Lib.hid ⟨g5, rfl, hB5.congr fun i hi => HD.out i hi, Nat.le_trans (Add.trans HT3.out T4).size hg5, T5⟩
        clear CP hB5 hg5 h5 T4 T5 HT3 HD
        go_wp2_with fail
        go_ret2
        exact HF.out
      exact AllReadyH.nil
    exact AllReadyH.nil
  exact AllReadyH.nil
end Go.Proofs.YtbeoeackahmpbaaGreatDoor

namespace Go.Proofs.YtbeoeackahmpbaaGreatDoor
open Go.RowKit NatM Go.Proofs.YtbeoeackahmpbaaGreatDoor.Api LinM

theorem hb_alloc (w : World) (n : Nat) : HB (w.alloc (.cells (madeCells #[Value.slice none 0 0] n) 23)) w.heap.size n (fun _ => .slice none 0 0) := by
  refine ⟨_, heap_alloc_new w _, by simp [madeCells], fun i hi => ⟨?_, none, 0, 0, rfl⟩⟩
  rw [madeCells_get hi]
  show some (#[Value.slice none 0 0][i % 1]!) = _
  rw [Nat.mod_one]; rfl
theorem run_mkM (w : World) {n : Nat} (hn : n ≤ 1000) : (Instr.makeSlice 22 (.int .i64 (n : Nat)) (.int .i64 (n : Nat))).run Tryz.prog w = .ok (.slice (some ⟨w.heap.size, 0, none⟩) n n) (w.alloc (.cells (madeCells #[Value.slice none 0 0] n) 23)) := by
  obtain ⟨i1, hi1, hy0, hy1, hy2⟩ := info_parts infoFracs
  have := run_make (P := Tryz.prog) w 22 23 i1 (.slice none 0 0) Tryz.underlying22 hi1 hy0 .i64 .i64 (n : Int) (n : Int) (by omega) (by omega) (by rw [hy2]; omega) (by omega)
  rw [hy1] at this
  simpa [Value.cells] using this
/-- The product's elements. -/
def mulM (A B : Mat) (c : Nat) : Mat := fun i l => LinM.sumQ (fun k => A i k * B k l) c
theorem sumK_up {f g : Nat → Nat} {n : Nat} (h : ∀ i, i < n → f i ≤ g i) : sumK f n ≤ sumK g n := by
  induction n with
  | zero => exact Nat.le_refl _
  | succ n ih =>
    have := ih fun i hi => h i (by omega)
    have := h n (by omega)
    show sumK f n + f n ≤ sumK g n + g n
    omega
theorem wt_col (B : Mat) (c p : Nat) {l : Nat} (hl : l < p) : wtR (fun k => can (B k l)) c ≤ wtM (fun i j => can (B i j)) (fun _ => p) c :=
  sumK_up fun k _ => sumK_one (f := fun j => wtF (can (B k j))) hl
theorem dots2 {A B : Mat} {n c p : Nat} (hA : ∀ i j, i < n → j < c → Fit (A i j)) (hB : ∀ i j, i < c → j < p → Fit (B i j)) (hc : c ≤ 24) (hw : wtM (fun i j => can (A i j)) (fun _ => c) n + wtM (fun i j => can (B i j)) (fun _ => p) c ≤ 3800) {i l : Nat} (hi : i < n) (hl : l < p) :
    dotT (fun k => can (B k l)) (fun k => can (A i k)) c = can (mulM A B c i l) := by
  rw [dot_can (x := fun k => B k l) (y := fun k => A i k) (x0 := 3800) (fun j hj => hB j l hj hl) (fun j hj => hA i j hi hj) (by
    have h1 := wtM_row (fun i j => can (A i j)) (fun _ => c) hi
    have h2 := wt_col B c p hl
    omega) (Nat.le_refl _) hc]
  unfold mulM
  exact congrArg can (LinM.sumQ_congr fun k _ => Rat.mul_comm _ _)
theorem AM.chgG {w w' : World} {base G n Gm : Nat} {hv : Nat → Value} {len : Nat → Nat} {X : Nat → Nat → Tri} (h : AM w base G n hv len X) (hc : Chg (fun b => b = Gm) w w') (hne : G ≠ Gm) (hr : ∀ i, i < n → (hv i).ownBlock ≠ some Gm) : AM w' base G n hv len X :=
  ⟨h.head.chg hc hne, fun i hi => (h.rows i hi).chg hc fun g hg e => hr i hi (by rw [hg, e]), h.sep, h.low⟩
/-- What Mul returns where all is allowed. -/
def MulP (w : World) (n c p : Nat) (A B : Mat) (e : Ending) (w' : World) : Prop :=
  ∃ G gs, e = .returned (.tuple #[.slice (some ⟨G, 0, none⟩) n n, .int .i64 0]) ∧ EM w' w.heap.size G n n gs (fun _ => p) (fun i l => can (mulM A B c i l)) ∧ Add w w'
set_option maxRecDepth 100000 in
set_option maxHeartbeats 4000000 in
theorem mulN_ok {w : World} {va vb : Value} {n c p : Nat} {ma mb : Nat → Nat} {X Y : Nat → Nat → Tri} (h : MatP false w va n ma X) (hv : MatP false w vb c mb Y) (hT : Tab w) (hb : shapeOk X ma n = true) (hc : ma 0 = c) (hy : shapeOk Y mb c = true) (hp : mb 0 = p)
    (hw : wtM (fun i j => can (qm X i j)) (fun _ => c) n + wtM (fun i j => can (qm Y i j)) (fun _ => p) c ≤ 3800) :
    Calls Tryz.prog 26 #[va, vb] w (MulP w n c p (qm X) (qm Y)) := by
  obtain ⟨hn, hc1, hX⟩ := shapeOk_iff.1 hb
  rw [hc] at hX hc1
  obtain ⟨-, hp1, hY⟩ := shapeOk_iff.1 hy
  rw [hp] at hY hp1
  have CS := Lib.hid (shapeN (n, c, true) h (Lib.hid (by unfold shN; rw [if_pos hb, hc])))
  have CS2 := Lib.hid (fun w' (ha : Add w w') => shapeN (c, p, true) (hv.add ha) (Lib.hid (by unfold shN; rw [if_pos hy, hp])))
  have C1 := Lib.hid (fun w' (ha : Add w w') => reducedN (h.add ha) (hT.mono ha) (by omega) (fun i hi => by rw [(hX i hi).1]; omega))
  have C2 := Lib.hid (fun w' (ha : Add w w') => reducedN (hv.add ha) (hT.mono ha) (by omega) (fun i hi => by rw [(hY i hi).1]; omega))
  have HX := Lib.hid hX
  have HY := Lib.hid hY
  have HT := Lib.hid hT
  have HW := Lib.hid hw
  obtain ⟨ao, ca, rfl, -⟩ := h.isSlice
  obtain ⟨bo, cb, rfl, -⟩ := hv.isSlice
  clear h hv hT hb hy hX hY hw hc hp
  go_enter Tryz.func26, Tryz.ntmps26
  go_wp2_with fail
  refine CS.out.mono ?_
  rintro e w1 ⟨rfl, h1⟩
  go_wp2_with fail
  refine (CS2.out w1 h1).mono ?_
  rintro e w2 ⟨rfl, h2⟩
  replace h2 := Add.trans h1 h2
  clear h1 CS CS2
  go_wp2_with fail
  refine (C1.out w2 h2).mono ?_
  rintro e w3 ⟨Ga, ga, rfl, hEa, h3⟩
  replace h3 := Add.trans h2 h3
  have hMa := red_mat hEa (by omega) (by omega) (fun i hi => (HX.out i hi).1) (fun i j hi hj => (HX.out i hi).2 j hj)
  have HMa := Lib.hid hMa
  clear hEa h2 hMa C1
  go_wp2_with fail
  refine (C2.out w3 h3).mono ?_
  rintro e w4 ⟨Gb, gb, rfl, hEb, h4⟩
  have hMa := HMa.out.add h4
  have hMb := red_mat hEb (by omega) (by omega) (fun i hi => (HY.out i hi).1) (fun i j hi hj => (HY.out i hi).2 j hj)
  replace h4 := Add.trans h3 h4
  have hF : ∀ i j, i < n → j < c → Fit (qm X i j) := fun i j hi hj => fit_red ((HX.out i hi).2 j (by rw [(HX.out i hi).1]; exact hj))
  have hFb : ∀ i j, i < c → j < p → Fit (qm Y i j) := fun i j hi hj => fit_red ((HY.out i hi).2 j (by rw [(HY.out i hi).1]; exact hj))
  have CW1 := Lib.hid (weightN hMa (fun i j hi hj => (hF i j hi hj).sm) (by omega) (fun i hi => by omega))
  have CW2 := Lib.hid (fun w' (ha : Add w4 w') => weightN (hMb.add ha) (fun i j hi hj => (hFb i j hi hj).sm) (by omega) (fun i hi => by omega))
  have HM := Lib.hid (And.intro hMa hMb)
  have HF := Lib.hid (And.intro hF hFb)
  have H4 := Lib.hid h4
  clear hMa hMb hF hFb hEb h3 h4 HMa C2
  go_wp2_with fail
  refine CW1.out.mono ?_
  rintro e w5 ⟨rfl, h5⟩
  go_wp2_with fail
  refine (CW2.out w5 h5).mono ?_
  rintro e wo ⟨rfl, h6⟩
  have hw2 := HW.out
  have HT6 := Lib.hid (Add.trans H4.out (Add.trans h5 h6))
  have HM6 := Lib.hid (And.intro (HM.out.1.add (Add.trans h5 h6)) (HM.out.2.add (Add.trans h5 h6)))
  have CTR : Hid (∀ w', Add wo w' → Calls Tryz.prog 48 #[.slice (some ⟨Gb, 0, none⟩) c c] w' (RetAM w' p (fun _ => c) (fun j i => can (qm Y i j)))) := Lib.hid fun w' ha => transposedN (HM6.out.2.add ha) (by omega) (by omega) (by omega)
  have HMK : Hid (∀ w', (Instr.makeSlice 22 (.int .i64 (n : Nat)) (.int .i64 (n : Nat))).run Tryz.prog w' = .ok (.slice (some ⟨w'.heap.size, 0, none⟩) n n) (w'.alloc (.cells (madeCells #[Value.slice none 0 0] n) 23))) := Lib.hid fun w' => run_mkM w' (by omega)
  clear h5 h6 CW1 CW2 HM H4
  go_upto_region 8 with fail
  refine wp_region_held_drew (S := fun _ => True) (by kernel_rfl) trivial (fun hHeld => ?_)
  refine wpAnyH_take (i := 0) (v := ?_) (by simp only [List.getElem?_toArray, List.getElem?_cons_zero]; rfl) (by kernel_rfl) (by kernel_rfl) (by kernel_rfl) (by intro _ _ _ h; exact h) (Or.inl ⟨by rfl, ?_⟩) (by assumption) ?_
  rotate_left
  · intro w0 hSw
    try dsimp only at hSw
    go_simp
    try with_reducible rfl
  try simp only [Act.put, List.setIfInBounds_toArray, List.set_cons_zero, List.set_cons_succ]
  refine wpAnyH_take (i := 2) (v := ?_) (by simp only [List.getElem?_toArray, List.getElem?_cons_zero, List.getElem?_cons_succ]; rfl) (by kernel_rfl) (by kernel_rfl) (by kernel_rfl) (by intro _ _ _ h; exact h) (Or.inl ⟨by rfl, ?_⟩) (by assumption) ?_
  rotate_left
  · intro w0 hSw
    try dsimp only at hSw
    go_simp
    try with_reducible rfl
  try simp only [Act.put, List.setIfInBounds_toArray, List.set_cons_zero, List.set_cons_succ]
  refine wpAnyH_take (i := 3) (v := ?_) (by simp only [List.getElem?_toArray, List.getElem?_cons_zero, List.getElem?_cons_succ]; rfl) (by kernel_rfl) (by kernel_rfl) (by kernel_rfl) (by intro _ _ _ h; exact h) (Or.inl ⟨by rfl, ?_⟩) (by assumption) ?_
  rotate_left
  · intro w0 hSw
    try dsimp only at hSw
    go_simp
    try with_reducible rfl
  try simp only [Act.put, List.setIfInBounds_toArray, List.set_cons_zero, List.set_cons_succ]
  refine wpAnyH_ready (rs := [1, 4]) (by kernel_rfl) (by simp) ?_
  refine AllReadyH.cons (o := _) (by simp only [List.getElem?_toArray, List.getElem?_cons_zero, List.getElem?_cons_succ]; rfl) (fun K hK => ?_) ?_
  · skip
    go_simp
    refine (CTR.out _ (Below.drew (Below.refl _ _))).mono ?_
    rintro e z1 ⟨G1, hv1, rfl, hA1, hq1⟩
    have t2 := Add.trans (Below.drew (Below.refl _ _) : Add wo (World.drew wo)) hq1
    have HA1 := Lib.hid hA1
    clear hA1 hq1
    refine hK.out _ _ trivial (fun hHeld => ?_)
    clear hK K
    try simp only [Act.put, List.setIfInBounds_toArray, List.set_cons_zero, List.set_cons_succ]
    refine wpAnyH_take (i := 5) (v := ?_) (by simp only [List.getElem?_toArray, List.getElem?_cons_zero, List.getElem?_cons_succ]; rfl) (by kernel_rfl) (by kernel_rfl) (by kernel_rfl) (by intro _ _ _ h; exact h) (Or.inl ⟨by rfl, ?_⟩) (by assumption) ?_
    rotate_left
    · intro w0 hSw
      try dsimp only at hSw
      go_simp
      try with_reducible rfl
    try simp only [Act.put, List.setIfInBounds_toArray, List.set_cons_zero, List.set_cons_succ]
    refine wpAnyH_ready (rs := [4]) (by kernel_rfl) (by simp) ?_
    refine AllReadyH.cons (o := _) (by simp only [List.getElem?_toArray, List.getElem?_cons_zero, List.getElem?_cons_succ]; rfl) (fun K hK => ?_) ?_
    · skip
      go_simp
      rw [HMK.out]
      go_simp
      refine hK.out _ _ trivial (fun hHeld => ?_)
      clear hK K
      try simp only [Act.put, List.setIfInBounds_toArray, List.set_cons_zero, List.set_cons_succ]
      refine wpAnyH_take (i := 6) (v := ?_) (by simp only [List.getElem?_toArray, List.getElem?_cons_zero, List.getElem?_cons_succ]; rfl) (by kernel_rfl) (by kernel_rfl) (by kernel_rfl) (by intro _ _ _ h; exact h) (Or.inl ⟨by rfl, ?_⟩) (by assumption) ?_
      rotate_left
      · intro w0 hSw
        try dsimp only at hSw
        go_simp
        try with_reducible rfl
      try simp only [Act.put, List.setIfInBounds_toArray, List.set_cons_zero, List.set_cons_succ]
      refine wpAnyH_done (by kernel_rfl) ?_ _
      obtain ⟨W9, hW9⟩ : ∃ W9, W9 = z1.alloc (.cells (madeCells #[Value.slice none 0 0] n) 23) := ⟨_, rfl⟩
      have hB9 : HB W9 z1.heap.size n (fun _ => .slice none 0 0) := by rw [hW9]; exact hb_alloc z1 n
      have hA9 : AM W9 wo.heap.size G1 p hv1 (fun _ => c) (fun j i => can (qm Y i j)) := by rw [hW9]; exact (HA1.out.base (by simp)).add (add_new _ _)
      have t9 : Add wo W9 := by rw [hW9]; exact Add.trans t2 (add_new _ _)
      obtain ⟨Gm, hGm⟩ : ∃ g, g = z1.heap.size := ⟨_, rfl⟩
      have hGm2 : wo.heap.size ≤ Gm := by rw [hGm]; exact t2.size
      have hne : G1 ≠ Gm := by have := HA1.out.head.lt; rw [hGm]; omega
      rw [← hW9, ← hGm]
      rw [← hGm] at hB9
      clear hW9 hGm HA1 t2 hHeld CTR
      have T9 := Add.trans HT6.out t9
      have hE9 := EM.start (base := w.heap.size) (fun _ => 0) (fun _ => p) (fun i l => can (mulM (qm X) (qm Y) c i l)) hB9 (Nat.le_trans HT6.out.size hGm2)
      have HROW : Hid (∀ i, i < p → (hv1 i).ownBlock ≠ some Gm) := Lib.hid fun i hi => (hA9.rows i hi).ne hB9
      have HNE := Lib.hid (And.intro hne hGm2)
      have HD : Hid (∀ i l, i < n → l < p → dotT (fun k => can (qm Y k l)) (fun k => can (qm X i k)) c = can (mulM (qm X) (qm Y) c i l)) := Lib.hid fun i l hi hl => dots2 HF.out.1 HF.out.2 (by omega) HW.out hi hl
      clear hB9 T9 hGm2 HMK hne
      go_wp2_with fail
      go_loopw [56] (fun i wk => ∃ (k : Nat) (gs : Nat → Nat), k ≤ n ∧ i = .int .i64 (k : Nat) ∧ EM wk w.heap.size Gm n k gs (fun _ => p) (fun i l => can (mulM (qm X) (qm Y) c i l)) ∧ AM wk wo.heap.size G1 p hv1 (fun _ => c) (fun j i => can (qm Y i j)) ∧ Add wo wk) (fun i _ => n - (intOf i).toNat)
      case atStart => exact ⟨0, _, Nat.zero_le _, rfl, hE9, hA9, t9⟩
      case round =>
        clear hE9 hA9 t9
        obtain ⟨k, gs, hk, rfl, hE, hA, T⟩ := hrel
        by_cases h0 : k = n
        · have HFF : Hid (MulP w n c p (qm X) (qm Y) (.returned (.tuple #[.slice (some ⟨Gm, 0, none⟩) n n, .int .i64 0])) wr) := Lib.hid ⟨Gm, gs, rfl, by rw [← h0]; rw [← h0] at hE; exact hE, Add.trans HT6.out T⟩
          clear hE hA T
          subst h0
          go_wp2_with fail
          go_ret2
          exact HFF.out
        · have hlt : k < n := by omega
          obtain ⟨b, off, ar, cr, e, hm63, hcell0, hrow0⟩ := HM6.out.1.row hlt
          simp only [Option.some.injEq, Addr.mk.injEq, and_true] at e
          obtain ⟨rfl, rfl⟩ := e
          rw [Nat.zero_add] at hcell0
          rename World => wk
          have hcell := cell_addL hcell0 T
          have CP := Lib.hid (productsN (hA.mat (by unfold maxLen; omega)) (hrow0.add T) (fun i j hi hj => (HF.out.2 j i hj hi).sm) (fun j hj => (HF.out.1 k j hlt hj).sm) (HT.out.mono (Add.trans HT6.out T)) (by omega) (by omega))
          have HE := Lib.hid (And.intro hE (And.intro hA T))
          have hGl := hE.head.lt
          clear hE hA T hrow0 hcell0 h0 hm63
          go_wp2_with fail
          refine CP.out.mono ?_
          rintro e w8 ⟨g8, rfl, hB8, hg8, h8⟩
          obtain ⟨hE, hA, T⟩ := HE.out
          have hh8 := hE.head.add h8
          have d1 := hh8.cell hlt
          rw [if_neg (by omega)] at d1
          have d2 := hh8.free k
          have d3 := hh8.lt
          have hB9 : FBlk w8 g8 p (fun l => can (mulM (qm X) (qm Y) c k l)) := hB8.congr fun l hl => HD.out k l hlt hl
          have hE2 := (hE.push hlt h8 hB9 hg8 (Nat.le_trans (Add.trans HT6.out T).size hg8)).congr (X' := fun i l => can (mulM (qm X) (qm Y) c i l)) (fun i l _ _ => by
            by_cases e : i = k
            · rw [if_pos e, e]
            · rw [if_neg e])
          have T8 : Add wo (w8.setCell ⟨Gm, k, none⟩ (.slice (some ⟨g8, 0, none⟩) p p)) := (Add.trans T h8).setCell HNE.out.2 _
          have hA2 := (hA.add h8).chgG (hh8.chgS (S := fun b => b = Gm) rfl hlt (.slice (some ⟨g8, 0, none⟩) p p)) HNE.out.1 HROW.out
          have HN := Lib.hid (And.intro hE2 (And.intro hA2 T8))
          clear hE hA hA2 T hh8 hB8 hB9 hE2 T8 h8 hg8 HE CP
          go_wp2_with fail
          go_roundw
          case rel => exact ⟨k + 1, _, by omega, by go_num, HN.out.1, HN.out.2.1, HN.out.2.2⟩
          case measure => simp [intOf]; omega
    exact AllReadyH.nil
  refine AllReadyH.cons (o := _) (by simp only [List.getElem?_toArray, List.getElem?_cons_zero, List.getElem?_cons_succ]; rfl) (fun K hK => ?_) ?_
  · skip
    go_simp
    rw [HMK.out]
    go_simp
    refine hK.out _ _ trivial (fun hHeld => ?_)
    clear hK K
    try simp only [Act.put, List.setIfInBounds_toArray, List.set_cons_zero, List.set_cons_succ]
    refine wpAnyH_ready (rs := [1]) (by kernel_rfl) (by simp) ?_
    refine AllReadyH.cons (o := _) (by simp only [List.getElem?_toArray, List.getElem?_cons_zero, List.getElem?_cons_succ]; rfl) (fun K hK => ?_) ?_
    · skip
      go_simp
      refine (CTR.out _ (Add.trans (Below.drew (Below.refl _ _)) (add_new _ _))).mono ?_
      rintro e z1 ⟨G1, hv1, rfl, hA1, hq1⟩
      have t2 := Add.trans (Add.trans (Below.drew (Below.refl _ _) : Add wo (World.drew wo)) (add_new _ (.cells (madeCells #[Value.slice none 0 0] n) 23))) hq1
      have hBm := (hb_alloc (World.drew wo) n).add hq1
      have HA1 := Lib.hid hA1
      clear hA1 hq1
      refine hK.out _ _ trivial (fun hHeld => ?_)
      clear hK K
      try simp only [Act.put, List.setIfInBounds_toArray, List.set_cons_zero, List.set_cons_succ]
      refine wpAnyH_take (i := 5) (v := ?_) (by simp only [List.getElem?_toArray, List.getElem?_cons_zero, List.getElem?_cons_succ]; rfl) (by kernel_rfl) (by kernel_rfl) (by kernel_rfl) (by intro _ _ _ h; exact h) (Or.inl ⟨by rfl, ?_⟩) (by assumption) ?_
      rotate_left
      · intro w0 hSw
        try dsimp only at hSw
        go_simp
        try with_reducible rfl
      try simp only [Act.put, List.setIfInBounds_toArray, List.set_cons_zero, List.set_cons_succ]
      refine wpAnyH_take (i := 6) (v := ?_) (by simp only [List.getElem?_toArray, List.getElem?_cons_zero, List.getElem?_cons_succ]; rfl) (by kernel_rfl) (by kernel_rfl) (by kernel_rfl) (by intro _ _ _ h; exact h) (Or.inl ⟨by rfl, ?_⟩) (by assumption) ?_
      rotate_left
      · intro w0 hSw
        try dsimp only at hSw
        go_simp
        try with_reducible rfl
      try simp only [Act.put, List.setIfInBounds_toArray, List.set_cons_zero, List.set_cons_succ]
      refine wpAnyH_done (by kernel_rfl) ?_ _
      obtain ⟨W9, hW9⟩ : ∃ W9, W9 = z1 := ⟨_, rfl⟩
      have hB9 : HB W9 wo.heap.size n (fun _ => .slice none 0 0) := by rw [hW9]; exact hBm
      have hA9 : AM W9 wo.heap.size G1 p hv1 (fun _ => c) (fun j i => can (qm Y i j)) := by rw [hW9]; exact HA1.out.base (by simp)
      have t9 : Add wo W9 := by rw [hW9]; exact t2
      obtain ⟨Gm, hGm⟩ : ∃ g, g = wo.heap.size := ⟨_, rfl⟩
      have hGm2 : wo.heap.size ≤ Gm := by omega
      have hne : G1 ≠ Gm := by have := HA1.out.low; rw [hGm]; simp at this; omega
      rw [← hW9, ← hGm]
      rw [← hGm] at hB9
      clear hW9 hGm HA1 t2 hHeld CTR
      clear hBm
      have T9 := Add.trans HT6.out t9
      have hE9 := EM.start (base := w.heap.size) (fun _ => 0) (fun _ => p) (fun i l => can (mulM (qm X) (qm Y) c i l)) hB9 (Nat.le_trans HT6.out.size hGm2)
      have HROW : Hid (∀ i, i < p → (hv1 i).ownBlock ≠ some Gm) := Lib.hid fun i hi => (hA9.rows i hi).ne hB9
      have HNE := Lib.hid (And.intro hne hGm2)
      have HD : Hid (∀ i l, i < n → l < p → dotT (fun k => can (qm Y k l)) (fun k => can (qm X i k)) c = can (mulM (qm X) (qm Y) c i l)) := Lib.hid fun i l hi hl => dots2 HF.out.1 HF.out.2 (by omega) HW.out hi hl
      clear hB9 T9 hGm2 HMK hne
      go_wp2_with fail
      go_loopw [56] (fun i wk => ∃ (k : Nat) (gs : Nat → Nat), k ≤ n ∧ i = .int .i64 (k : Nat) ∧ EM wk w.heap.size Gm n k gs (fun _ => p) (fun i l => can (mulM (qm X) (qm Y) c i l)) ∧ AM wk wo.heap.size G1 p hv1 (fun _ => c) (fun j i => can (qm Y i j)) ∧ Add wo wk) (fun i _ => n - (intOf i).toNat)
      case atStart => exact ⟨0, _, Nat.zero_le _, rfl, hE9, hA9, t9⟩
      case round =>
        clear hE9 hA9 t9
        obtain ⟨k, gs, hk, rfl, hE, hA, T⟩ := hrel
        by_cases h0 : k = n
        · have HFF : Hid (MulP w n c p (qm X) (qm Y) (.returned (.tuple #[.slice (some ⟨Gm, 0, none⟩) n n, .int .i64 0])) wr) := Lib.hid ⟨Gm, gs, rfl, by rw [← h0]; rw [← h0] at hE; exact hE, Add.trans HT6.out T⟩
          clear hE hA T
          subst h0
          go_wp2_with fail
          go_ret2
          exact HFF.out
        · have hlt : k < n := by omega
          obtain ⟨b, off, ar, cr, e, hm63, hcell0, hrow0⟩ := HM6.out.1.row hlt
          simp only [Option.some.injEq, Addr.mk.injEq, and_true] at e
          obtain ⟨rfl, rfl⟩ := e
          rw [Nat.zero_add] at hcell0
          rename World => wk
          have hcell := cell_addL hcell0 T
          have CP := Lib.hid (productsN (hA.mat (by unfold maxLen; omega)) (hrow0.add T) (fun i j hi hj => (HF.out.2 j i hj hi).sm) (fun j hj => (HF.out.1 k j hlt hj).sm) (HT.out.mono (Add.trans HT6.out T)) (by omega) (by omega))
          have HE := Lib.hid (And.intro hE (And.intro hA T))
          have hGl := hE.head.lt
          clear hE hA T hrow0 hcell0 h0 hm63
          go_wp2_with fail
          refine CP.out.mono ?_
          rintro e w8 ⟨g8, rfl, hB8, hg8, h8⟩
          obtain ⟨hE, hA, T⟩ := HE.out
          have hh8 := hE.head.add h8
          have d1 := hh8.cell hlt
          rw [if_neg (by omega)] at d1
          have d2 := hh8.free k
          have d3 := hh8.lt
          have hB9 : FBlk w8 g8 p (fun l => can (mulM (qm X) (qm Y) c k l)) := hB8.congr fun l hl => HD.out k l hlt hl
          have hE2 := (hE.push hlt h8 hB9 hg8 (Nat.le_trans (Add.trans HT6.out T).size hg8)).congr (X' := fun i l => can (mulM (qm X) (qm Y) c i l)) (fun i l _ _ => by
            by_cases e : i = k
            · rw [if_pos e, e]
            · rw [if_neg e])
          have T8 : Add wo (w8.setCell ⟨Gm, k, none⟩ (.slice (some ⟨g8, 0, none⟩) p p)) := (Add.trans T h8).setCell HNE.out.2 _
          have hA2 := (hA.add h8).chgG (hh8.chgS (S := fun b => b = Gm) rfl hlt (.slice (some ⟨g8, 0, none⟩) p p)) HNE.out.1 HROW.out
          have HN := Lib.hid (And.intro hE2 (And.intro hA2 T8))
          clear hE hA hA2 T hh8 hB8 hB9 hE2 T8 h8 hg8 HE CP
          go_wp2_with fail
          go_roundw
          case rel => exact ⟨k + 1, _, by omega, by go_num, HN.out.1, HN.out.2.1, HN.out.2.2⟩
          case measure => simp [intOf]; omega
    exact AllReadyH.nil
  exact AllReadyH.nil
end Go.Proofs.YtbeoeackahmpbaaGreatDoor
