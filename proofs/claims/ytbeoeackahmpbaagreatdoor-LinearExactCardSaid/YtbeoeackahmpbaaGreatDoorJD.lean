namespace LinM
def sumQ (f : Nat → Rat) : Nat → Rat
 | 0 => 0
 | n + 1 => sumQ f n + f n
theorem sumQ_congr {f g : Nat → Rat} {n : Nat} (h : ∀ i, i < n → f i = g i) : sumQ f n = sumQ g n := by
 induction n with
 | zero => rfl
 | succ n ih => simp only [sumQ]; rw [ih fun i hi => h i (by omega), h n (by omega)]
theorem sumQ_add (f g : Nat → Rat) (n : Nat) : sumQ (fun i => f i + g i) n = sumQ f n + sumQ g n := by
 induction n with
 | zero => simp only [sumQ]; grind
 | succ n ih => simp only [sumQ]; rw [ih]; grind
theorem sumQ_mul (c : Rat) (f : Nat → Rat) (n : Nat) : sumQ (fun i => c * f i) n = c * sumQ f n := by
 induction n with
 | zero => simp only [sumQ]; grind
 | succ n ih => simp only [sumQ]; rw [ih]; grind
theorem sumQ_zero {f : Nat → Rat} {n : Nat} (h : ∀ i, i < n → f i = 0) : sumQ f n = 0 := by
 induction n with
 | zero => rfl
 | succ n ih => simp only [sumQ]; rw [ih fun i hi => h i (by omega), h n (by omega)]; grind
theorem sumQ_one {f : Nat → Rat} {n k : Nat} (hk : k < n) (h : ∀ i, i < n → i ≠ k → f i = 0) : sumQ f n = f k := by
 induction n with
 | zero => omega
 | succ n ih =>
  simp only [sumQ]
  by_cases e : n = k
  · subst e; rw [sumQ_zero fun i hi => h i (by omega) (by omega)]; grind
  · rw [ih (by omega) fun i hi => h i (by omega), h n (by omega) e]; grind
theorem sumQ_swap (f : Nat → Nat → Rat) (n m : Nat) : sumQ (fun i => sumQ (fun j => f i j) m) n = sumQ (fun j => sumQ (fun i => f i j) n) m := by
 induction n with
 | zero => simp only [sumQ]; exact (sumQ_zero fun _ _ => rfl).symm
 | succ n ih => simp only [sumQ]; rw [ih, ← sumQ_add]
theorem sumQ_neg (f : Nat → Rat) (n : Nat) : sumQ (fun i => -f i) n = -sumQ f n := by
 induction n with
 | zero => simp only [sumQ]; grind
 | succ n ih => simp only [sumQ]; rw [ih]; grind
def up (j k : Nat) : Nat := if k < j then k else k + 1
theorem sumQ_up (F : Nat → Rat) (n j : Nat) (hj : j ≤ n) : sumQ (fun k => F (up j k)) n = sumQ (fun l => if l = j then 0 else F l) (n + 1) := by
 induction n with
 | zero =>
  have : j = 0 := by omega
  subst this; simp only [sumQ, if_true]; grind
 | succ n ih =>
  by_cases e : j = n + 1
  · subst e
    simp only [sumQ, if_true]
    rw [if_neg (show ¬ n = n + 1 by omega)]
    have h1 : sumQ (fun k => F (up (n + 1) k)) n = sumQ (fun l => if l = n + 1 then 0 else F l) n := sumQ_congr fun i hi => by
     unfold up; rw [if_pos (by omega), if_neg (by omega)]
    rw [h1]
    have h2 : up (n + 1) n = n := by unfold up; rw [if_pos (by omega)]
    rw [h2]; grind
  · have h1 := ih (by omega)
    simp only [sumQ] at h1 ⊢
    rw [h1, if_neg (show n + 1 ≠ j by omega)]
    have h2 : up j n = n + 1 := by unfold up; rw [if_neg (by omega)]
    rw [h2]
abbrev Mat := Nat → Nat → Rat
def skip (j : Nat) (M : Mat) : Mat := fun i k => M i (up j k)
def sg (n : Nat) : Rat := if n % 2 = 0 then 1 else -1
theorem sg_succ (n : Nat) : sg (n + 1) = -sg n := by
 unfold sg
 by_cases h : n % 2 = 0
 · rw [if_pos h, if_neg (by omega)]
 · rw [if_neg h, if_pos (by omega)]; grind
theorem sg_two (n : Nat) : sg (n + 2) = sg n := by rw [sg_succ, sg_succ]; grind
theorem sg_sq (n : Nat) : sg n * sg n = 1 := by unfold sg; split <;> grind
theorem sg_add (m n : Nat) : sg (m + n) = sg m * sg n := by
 induction n with
 | zero => simp [sg]
 | succ n ih => rw [← Nat.add_assoc, sg_succ, sg_succ, ih]; grind
def det : Nat → Mat → Rat
 | 0, _ => 1
 | n + 1, M => sumQ (fun j => sg (n + j) * M n j * det n (skip j M)) (n + 1)
theorem det_congr : ∀ (n : Nat) {M M' : Mat}, (∀ i k, i < n → k < n → M i k = M' i k) → det n M = det n M'
 | 0, _, _, _ => rfl
 | n + 1, M, M', h => by
  simp only [det]
  refine sumQ_congr fun j hj => ?_
  rw [h n j (by omega) hj, det_congr n (M := skip j M) (M' := skip j M') fun i k hi hk => by
   unfold skip
   exact h i _ (by omega) (by unfold up; split <;> omega)]
def setR (M : Mat) (r : Nat) (u : Nat → Rat) : Mat := fun i k => if i = r then u k else M i k
theorem skip_setR (M : Mat) (r j : Nat) (u : Nat → Rat) : skip j (setR M r u) = setR (skip j M) r (fun k => u (up j k)) := by
 funext i k; unfold skip setR; rfl
theorem det_lin : ∀ (n : Nat) (M : Mat) (r : Nat) (a b : Rat) (u v : Nat → Rat), r < n → det n (setR M r fun k => a * u k + b * v k) = a * det n (setR M r u) + b * det n (setR M r v)
 | 0, _, _, _, _, _, _, h => by omega
 | n + 1, M, r, a, b, u, v, h => by
  simp only [det]
  rw [← sumQ_mul, ← sumQ_mul, ← sumQ_add]
  refine sumQ_congr fun j hj => ?_
  simp only [skip_setR]
  by_cases e : r = n
  · subst e
    have hs : ∀ (w : Nat → Rat), det r (setR (skip j M) r w) = det r (skip j M) := fun w => det_congr r fun i k hi _ => by unfold setR; rw [if_neg (by omega)]
    rw [hs, hs, hs]
    have hr : ∀ (w : Nat → Rat), setR M r w r j = w j := fun w => by unfold setR; rw [if_pos rfl]
    rw [hr, hr, hr]; grind
  · rw [det_lin n (skip j M) r a b (fun k => u (up j k)) (fun k => v (up j k)) (by omega)]
    have hr : ∀ (w : Nat → Rat), setR M r w n j = M n j := fun w => by unfold setR; rw [if_neg (fun h => e h.symm)]
    rw [hr, hr, hr]; grind
theorem det_zero_row (n : Nat) (M : Mat) (r : Nat) (h : r < n) : det n (setR M r fun _ => 0) = 0 := by
 have := det_lin n M r 0 0 (fun _ => 0) (fun _ => 0) h
 have e : (fun k : Nat => (0 : Rat) * (fun _ => 0) k + 0 * (fun _ => 0) k) = fun _ => 0 := by funext k; grind
 rw [e] at this
 grind
theorem det_mul_row (n : Nat) (M : Mat) (r : Nat) (a : Rat) (u : Nat → Rat) (h : r < n) : det n (setR M r fun k => a * u k) = a * det n (setR M r u) := by
 have := det_lin n M r a 0 u u h
 have e : (fun k : Nat => a * u k + 0 * u k) = fun k => a * u k := by funext k; grind
 rw [e] at this
 grind
theorem det_add_row (n : Nat) (M : Mat) (r : Nat) (u v : Nat → Rat) (h : r < n) : det n (setR M r fun k => u k + v k) = det n (setR M r u) + det n (setR M r v) := by
 have := det_lin n M r 1 1 u v h
 have e : (fun k : Nat => 1 * u k + 1 * v k) = fun k => u k + v k := by funext k; grind
 rw [e] at this
 grind
theorem skip_comm (M : Mat) {j l : Nat} (h : j < l) : skip (l - 1) (skip j M) = skip j (skip l M) := by
 funext i k
 unfold skip up
 congr 1
 repeat' split
 all_goals omega
def less2 (n : Nat) (M : Mat) (j l : Nat) : Rat := if l < j then det n (skip l (skip j M)) else det n (skip j (skip l M))
theorem less2_comm (n : Nat) (M : Mat) {j l : Nat} (h : j ≠ l) : less2 n M j l = less2 n M l j := by
 unfold less2
 by_cases c : l < j
 · rw [if_pos c, if_neg (by omega)]
 · rw [if_neg c, if_pos (by omega)]
def sg2 (j l : Nat) : Rat := if l < j then -sg (j + l) else sg (j + l)
theorem sg2_comm {j l : Nat} (h : j ≠ l) : sg2 j l = -sg2 l j := by
 unfold sg2
 by_cases c : l < j
 · rw [if_pos c, if_neg (by omega), Nat.add_comm]
 · rw [if_neg c, if_pos (by omega), Nat.add_comm]; grind
theorem det_two (n : Nat) (M : Mat) : det (n + 2) M = sumQ (fun j => sumQ (fun l => if l = j then 0 else sg2 j l * (M (n + 1) j * M n l * less2 n M j l)) (n + 2)) (n + 2) := by
 show sumQ (fun j => sg (n + 1 + j) * M (n + 1) j * det (n + 1) (skip j M)) (n + 2) = _
 refine sumQ_congr fun j hj => ?_
 show sg (n + 1 + j) * M (n + 1) j * sumQ (fun k => sg (n + k) * skip j M n k * det n (skip k (skip j M))) (n + 1) = _
 rw [← sumQ_mul]
 have key : ∀ k, k < n + 1 → sg (n + 1 + j) * M (n + 1) j * (sg (n + k) * skip j M n k * det n (skip k (skip j M))) = (fun l => sg2 j l * (M (n + 1) j * M n l * less2 n M j l)) (up j k) := by
  intro k hk
  show _ = sg2 j (up j k) * (M (n + 1) j * M n (up j k) * less2 n M j (up j k))
  have e1 : skip j M n k = M n (up j k) := rfl
  rw [e1]
  by_cases c : k < j
  · have e2 : up j k = k := by unfold up; rw [if_pos c]
    rw [e2]
    unfold less2 sg2
    rw [if_pos c, if_pos c]
    have e3 : sg (n + 1 + j) = -(sg n * sg j) := by rw [Nat.add_right_comm, sg_succ, sg_add]
    have e4 := sg_sq n
    rw [e3, sg_add n k, sg_add j k]
    grind
  · have e2 : up j k = k + 1 := by unfold up; rw [if_neg c]
    rw [e2]
    unfold less2 sg2
    rw [if_neg (by omega), if_neg (by omega)]
    have e5 := skip_comm M (show j < k + 1 by omega)
    rw [Nat.add_sub_cancel] at e5
    have e3 : sg (n + 1 + j) = -(sg n * sg j) := by rw [Nat.add_right_comm, sg_succ, sg_add]
    have e4 := sg_sq n
    rw [e5, e3, sg_add n k, ← Nat.add_assoc, sg_succ, sg_add j k]
    grind
 rw [sumQ_congr key]
 exact sumQ_up (fun l => sg2 j l * (M (n + 1) j * M n l * less2 n M j l)) (n + 1) j (by omega)
theorem det_swap_last (n : Nat) (M M' : Mat) (h : ∀ i k, i < n → M' i k = M i k) (h1 : ∀ k, M' n k = M (n + 1) k) (h2 : ∀ k, M' (n + 1) k = M n k) : det (n + 2) M' = -det (n + 2) M := by
 rw [det_two, det_two, sumQ_swap, ← sumQ_neg]
 refine sumQ_congr fun l hl => ?_
 rw [← sumQ_neg]
 refine sumQ_congr fun j hj => ?_
 by_cases e : l = j
 · rw [if_pos e, if_pos e.symm]; grind
 · rw [if_neg e, if_neg (fun h => e h.symm), h1 l, h2 j, sg2_comm (fun h => e h.symm)]
   have e2 : less2 n M' j l = less2 n M l j := by
    rw [less2_comm n M' (fun h => e h.symm)]
    unfold less2
    split
    · exact det_congr n fun i k hi _ => by unfold skip; exact h i _ hi
    · exact det_congr n fun i k hi _ => by unfold skip; exact h i _ hi
   rw [e2]; grind
theorem det_equal : ∀ (n : Nat) (M : Mat) (r s : Nat), r < s → s < n → (∀ k, M r k = M s k) → det n M = 0
 | 0, _, _, _, _, h, _ => by omega
 | 1, _, _, _, h1, h2, _ => by omega
 | n + 2, M, r, s, h1, h2, h3 => by
  have low : ∀ (M : Mat) (r s : Nat), r < s → s < n + 1 → (∀ k, M r k = M s k) → det (n + 2) M = 0 := by
   intro M r s g1 g2 g3
   show sumQ (fun j => sg (n + 1 + j) * M (n + 1) j * det (n + 1) (skip j M)) (n + 2) = 0
   refine sumQ_zero fun j hj => ?_
   rw [det_equal (n + 1) (skip j M) r s g1 g2 fun k => by unfold skip; exact g3 _]; grind
  by_cases e : s < n + 1
  · exact low M r s h1 e h3
  · have es : s = n + 1 := by omega
    subst es
    have hsw := det_swap_last n M (fun i k => if i = n then M (n + 1) k else if i = n + 1 then M n k else M i k) (fun i k hi => by rw [if_neg (by omega), if_neg (by omega)]) (fun k => by rw [if_pos rfl]) (fun k => by rw [if_neg (by omega), if_pos rfl])
    by_cases er : r = n
    · subst er
      have : det (r + 2) (fun i k => if i = r then M (r + 1) k else if i = r + 1 then M r k else M i k) = det (r + 2) M := det_congr _ fun i k _ _ => by
       by_cases c1 : i = r
       · subst c1; rw [if_pos rfl]; exact (h3 k).symm
       · rw [if_neg c1]
         by_cases c2 : i = r + 1
         · subst c2; rw [if_pos rfl]; exact h3 k
         · rw [if_neg c2]
      rw [this] at hsw
      grind
    · have := low (fun i k => if i = n then M (n + 1) k else if i = n + 1 then M n k else M i k) r n (by omega) (by omega) (fun k => by
       rw [if_neg er, if_neg (by omega), if_pos rfl]; exact h3 k)
      rw [this] at hsw
      grind
theorem det_row_op (n : Nat) (M : Mat) (r s : Nat) (c : Rat) (hr : r < n) (hs : s < n) (hne : r ≠ s) : det n (setR M r fun k => M r k + c * M s k) = det n M := by
 rw [det_add_row n M r _ _ hr, det_mul_row n M r c _ hr]
 have e1 : setR M r (M r) = M := by
  funext i k
  unfold setR
  by_cases h : i = r
  · rw [if_pos h, h]
  · rw [if_neg h]
 have e2 : det n (setR M r (M s)) = 0 := by
  have hrow : ∀ k, setR M r (M s) r k = setR M r (M s) s k := fun k => by unfold setR; rw [if_pos rfl, if_neg (fun h => hne h.symm)]
  rcases Nat.lt_or_gt_of_ne hne with h | h
  · exact det_equal n _ r s h hs hrow
  · exact det_equal n _ s r h hr fun k => (hrow k).symm
 rw [e1, e2]; grind
theorem det_swap (n : Nat) (M : Mat) (r s : Nat) (hr : r < n) (hs : s < n) (hne : r ≠ s) : det n (setR (setR M r (M s)) s (M r)) = -det n M := by
 have h0 : det n (setR (setR M r fun k => M r k + M s k) s fun k => M r k + M s k) = 0 := by
  have hrow : ∀ k, setR (setR M r fun k => M r k + M s k) s (fun k => M r k + M s k) r k = setR (setR M r fun k => M r k + M s k) s (fun k => M r k + M s k) s k := fun k => by
   unfold setR; rw [if_neg hne, if_pos rfl, if_pos rfl]
  rcases Nat.lt_or_gt_of_ne hne with h | h
  · exact det_equal n _ r s h hs hrow
  · exact det_equal n _ s r h hr fun k => (hrow k).symm
 have com : ∀ u v, setR (setR M r u) s v = setR (setR M s v) r u := fun u v => by
  funext i k; unfold setR
  by_cases c1 : i = s
  · subst c1; rw [if_pos rfl, if_neg (fun h => hne h.symm), if_pos rfl]
  · rw [if_neg c1]
    by_cases c2 : i = r
    · rw [if_pos c2, if_pos c2]
    · rw [if_neg c2, if_neg c2, if_neg c1]
 rw [det_add_row n _ s _ _ hs] at h0
 rw [com _ (M r), com _ (M s), det_add_row n _ r _ _ hr, det_add_row n _ r _ _ hr] at h0
 have z : ∀ u, det n (setR (setR M s u) r u) = 0 := fun u => by
  have hrow : ∀ k, setR (setR M s u) r u r k = setR (setR M s u) r u s k := fun k => by unfold setR; rw [if_pos rfl, if_neg (fun h => hne h.symm), if_pos rfl]
  rcases Nat.lt_or_gt_of_ne hne with h | h
  · exact det_equal n _ r s h hs hrow
  · exact det_equal n _ s r h hr fun k => (hrow k).symm
 rw [z (M r), z (M s)] at h0
 have e1 : setR (setR M s (M s)) r (M r) = M := by
  funext i k; unfold setR
  by_cases c1 : i = r
  · rw [if_pos c1, c1]
  · rw [if_neg c1]
    by_cases c2 : i = s
    · rw [if_pos c2, c2]
    · rw [if_neg c2]
 rw [e1] at h0
 rw [com]
 grind
end LinM
namespace LinM
structure Alt (n : Nat) (F : Mat → Rat) : Prop where
 lin : ∀ (M : Mat) (r : Nat) (a b : Rat) (u v : Nat → Rat), r < n → F (setR M r fun k => a * u k + b * v k) = a * F (setR M r u) + b * F (setR M r v)
 eq : ∀ (M : Mat) (r s : Nat), r < s → s < n → (∀ k, M r k = M s k) → F M = 0
 ext : ∀ M M' : Mat, (∀ i k, i < n → k < n → M i k = M' i k) → F M = F M'
theorem det_alt (n : Nat) : Alt n (det n) := ⟨fun M r a b u v h => det_lin n M r a b u v h, fun M r s h1 h2 h3 => det_equal n M r s h1 h2 h3, fun _ _ h => det_congr n h⟩
theorem setR_self (M : Mat) (r : Nat) : setR M r (M r) = M := by
 funext i k
 dsimp only [setR]
 by_cases h : i = r
 · rw [if_pos h, h]
 · rw [if_neg h]
section
variable {n : Nat} {F : Mat → Rat}
theorem Alt.mul (h : Alt n F) (M : Mat) (r : Nat) (a : Rat) (u : Nat → Rat) (hr : r < n) : F (setR M r fun k => a * u k) = a * F (setR M r u) := by
 have := h.lin M r a 0 u u hr
 have e : (fun k : Nat => a * u k + 0 * u k) = fun k => a * u k := by funext k; grind
 rw [e] at this
 grind
theorem Alt.add (h : Alt n F) (M : Mat) (r : Nat) (u v : Nat → Rat) (hr : r < n) : F (setR M r fun k => u k + v k) = F (setR M r u) + F (setR M r v) := by
 have := h.lin M r 1 1 u v hr
 have e : (fun k : Nat => 1 * u k + 1 * v k) = fun k => u k + v k := by funext k; grind
 rw [e] at this
 grind
theorem Alt.eq' (h : Alt n F) (M : Mat) (r s : Nat) (hr : r < n) (hs : s < n) (hne : r ≠ s) (hrow : ∀ k, M r k = M s k) : F M = 0 := by
 rcases Nat.lt_or_gt_of_ne hne with c | c
 · exact h.eq M r s c hs hrow
 · exact h.eq M s r c hr fun k => (hrow k).symm
theorem Alt.op (h : Alt n F) (M : Mat) (r s : Nat) (c : Rat) (hr : r < n) (hs : s < n) (hne : r ≠ s) : F (setR M r fun k => M r k + c * M s k) = F M := by
 rw [h.add M r _ _ hr, h.mul M r c _ hr, setR_self, h.eq' (setR M r (M s)) r s hr hs hne fun k => by unfold setR; rw [if_pos rfl, if_neg (fun h => hne h.symm)]]
 grind
theorem setR_com (M : Mat) {r s : Nat} (hne : r ≠ s) (u v : Nat → Rat) : setR (setR M r u) s v = setR (setR M s v) r u := by
 funext i k; unfold setR
 by_cases c1 : i = s
 · subst c1; rw [if_pos rfl, if_neg (fun h => hne h.symm), if_pos rfl]
 · rw [if_neg c1]
   by_cases c2 : i = r
   · rw [if_pos c2, if_pos c2]
   · rw [if_neg c2, if_neg c2, if_neg c1]
theorem Alt.swap (h : Alt n F) (M : Mat) (r s : Nat) (hr : r < n) (hs : s < n) (hne : r ≠ s) : F (setR (setR M r (M s)) s (M r)) = -F M := by
 have h0 := h.eq' (setR (setR M r fun k => M r k + M s k) s fun k => M r k + M s k) r s hr hs hne fun k => by unfold setR; rw [if_neg hne, if_pos rfl, if_pos rfl]
 rw [h.add _ s _ _ hs] at h0
 rw [setR_com M hne _ (M r), setR_com M hne _ (M s), h.add _ r _ _ hr, h.add _ r _ _ hr] at h0
 have z : ∀ u, F (setR (setR M s u) r u) = 0 := fun u => h.eq' _ r s hr hs hne fun k => by unfold setR; rw [if_pos rfl, if_neg (fun h => hne h.symm), if_pos rfl]
 rw [z (M r), z (M s), setR_self, setR_self] at h0
 rw [setR_com M hne]
 grind
theorem Alt.sum (h : Alt n F) (M : Mat) (r : Nat) (hr : r < n) (c : Nat → Rat) (u : Nat → Nat → Rat) (m : Nat) : F (setR M r fun k => sumQ (fun j => c j * u j k) m) = sumQ (fun j => c j * F (setR M r (u j))) m := by
 induction m with
 | zero =>
  have e : (fun k : Nat => sumQ (fun j => c j * u j k) 0) = fun k => 0 * M r k := by funext k; simp only [sumQ]; grind
  rw [e, h.mul M r 0 _ hr]; simp only [sumQ]; grind
 | succ m ih =>
  have e : (fun k : Nat => sumQ (fun j => c j * u j k) (m + 1)) = fun k => 1 * (fun k => sumQ (fun j => c j * u j k) m) k + c m * u m k := by funext k; simp only [sumQ]; grind
  rw [e, h.lin M r 1 (c m) _ _ hr, ih]; simp only [sumQ]; grind
end
def idM : Mat := fun i k => if i = k then 1 else 0
def unit (j : Nat) : Nat → Rat := fun k => if k = j then 1 else 0
def down (j k : Nat) : Nat := if k < j then k else k - 1
def emb (n j : Nat) (P : Mat) : Mat := fun i k => if i = n then unit j k else if k = j then 0 else P i (down j k)
theorem emb_setR (n j : Nat) (P : Mat) (r : Nat) (u : Nat → Rat) (hr : r < n) : emb n j (setR P r u) = setR (emb n j P) r fun k => if k = j then 0 else u (down j k) := by
 funext i k; dsimp only [emb, setR]
 by_cases c1 : i = n
 · rw [if_pos c1, if_neg (by omega), if_pos c1]
 · rw [if_neg c1]
   by_cases c2 : k = j
   · rw [if_pos c2]
     by_cases c3 : i = r
     · rw [if_pos c3, if_pos c2]
     · rw [if_neg c3, if_neg c1, if_pos c2]
   · rw [if_neg c2]
     by_cases c3 : i = r
     · rw [if_pos c3, if_pos c3, if_neg c2]
     · rw [if_neg c3, if_neg c3, if_neg c1, if_neg c2]
theorem Alt.emb {n : Nat} {F : Mat → Rat} (h : Alt (n + 1) F) {j : Nat} (hj : j ≤ n) : Alt n fun P => F (LinM.emb n j P) := by
 refine ⟨fun M r a b u v hr => ?_, fun M r s h1 h2 h3 => ?_, fun M M' hM => ?_⟩
 · rw [emb_setR n j M r _ hr, emb_setR n j M r _ hr, emb_setR n j M r _ hr]
   have e : (fun k => if k = j then (0 : Rat) else a * u (down j k) + b * v (down j k)) = fun k => a * (if k = j then 0 else u (down j k)) + b * (if k = j then 0 else v (down j k)) := by
    funext k; split <;> grind
   rw [e, h.lin _ r a b _ _ (by omega)]
 · refine h.eq _ r s h1 (by omega) fun k => ?_
   dsimp only [LinM.emb]
   rw [if_neg (show ¬ r = n by omega), if_neg (show ¬ s = n by omega), h3]
 · refine h.ext _ _ fun i k hi hk => ?_
   dsimp only [LinM.emb]
   by_cases c1 : i = n
   · rw [if_pos c1, if_pos c1]
   · rw [if_neg c1, if_neg c1]
     by_cases c2 : k = j
     · rw [if_pos c2, if_pos c2]
     · rw [if_neg c2, if_neg c2, hM i (down j k) (by omega) (by unfold down; split <;> omega)]
theorem emb_id {n : Nat} {F : Mat → Rat} (h : Alt (n + 1) F) : ∀ (d j : Nat), j + d = n → F (emb n j idM) = sg (n + j) * F idM
 | 0, j, hd => by
  have : j = n := by omega
  subst this
  have e : F (emb j j idM) = F idM := h.ext _ _ fun i k hi hk => by
   dsimp only [LinM.emb, idM, unit, down]
   by_cases c1 : i = j
   · rw [if_pos c1, c1]
     by_cases c2 : k = j
     · rw [if_pos c2, if_pos c2.symm]
     · rw [if_neg c2, if_neg (fun h => c2 h.symm)]
   · rw [if_neg c1]
     by_cases c2 : k = j
     · rw [if_pos c2, if_neg (show ¬ i = k by omega)]
     · rw [if_neg c2, if_pos (show k < j by omega)]
  rw [e]
  have : sg (j + j) = 1 := by unfold sg; rw [if_pos (by omega)]
  rw [this]; grind
 | d + 1, j, hd => by
  have ih := emb_id h d (j + 1) (by omega)
  have hs := h.swap (emb n j idM) j n (by omega) (by omega) (by omega)
  have e : F (setR (setR (emb n j idM) j (emb n j idM n)) n (emb n j idM j)) = F (emb n (j + 1) idM) := h.ext _ _ fun i k hi hk => by
   dsimp only [setR, LinM.emb, idM, unit, down]
   by_cases c1 : i = n
   · rw [if_pos c1, if_neg (show ¬ j = n by omega), if_pos c1]
     by_cases c2 : k = j + 1
     · rw [if_pos c2, if_neg (show ¬ k = j by omega), if_neg (show ¬ k < j by omega), if_pos (by omega)]
     · rw [if_neg c2]
       by_cases c3 : k = j
       · rw [if_pos c3]
       · rw [if_neg c3, if_neg]; split <;> omega
   · rw [if_neg c1]
     by_cases c2 : i = j
     · rw [if_pos c2, if_pos rfl, if_neg c1]
       by_cases c3 : k = j
       · rw [if_pos c3, if_neg (show ¬ k = j + 1 by omega), if_pos (show k < j + 1 by omega), if_pos (by omega)]
       · rw [if_neg c3]
         by_cases c4 : k = j + 1
         · rw [if_pos c4]
         · rw [if_neg c4, if_neg]; split <;> omega
     · rw [if_neg c2, if_neg c1, if_neg c1]
       by_cases c3 : k = j
       · rw [if_pos c3, if_neg (show ¬ k = j + 1 by omega), if_pos (show k < j + 1 by omega), if_neg (by omega)]
       · rw [if_neg c3]
         by_cases c4 : k = j + 1
         · rw [if_pos c4, if_neg]; split <;> omega
         · rw [if_neg c4]
           have : (if k < j then k else k - 1) = if k < j + 1 then k else k - 1 := by split <;> split <;> omega
           rw [this]
  rw [e, ih] at hs
  have : sg (n + (j + 1)) = -sg (n + j) := by rw [← Nat.add_assoc, sg_succ]
  rw [this] at hs
  grind
theorem clear_col {n : Nat} {F : Mat → Rat} (h : Alt (n + 1) F) (M : Mat) (j : Nat) (hl : ∀ k, M n k = unit j k) : ∀ m, m ≤ n → F (fun i k => if i < m then (if k = j then 0 else M i k) else M i k) = F M
 | 0, _ => by congr 1
 | m + 1, hm => by
  rw [← clear_col h M j hl m (by omega)]
  rw [← h.op (fun i k => if i < m then (if k = j then 0 else M i k) else M i k) m n (-(M m j)) (by omega) (by omega) (by omega)]
  congr 1
  funext i k
  dsimp only [setR]
  by_cases c1 : i = m
  · rw [c1, if_pos rfl, if_pos (show m < m + 1 by omega), if_neg (show ¬ m < m by omega), if_neg (show ¬ n < m by omega), hl]
    unfold unit
    by_cases c2 : k = j
    · rw [if_pos c2, if_pos c2, c2]; grind
    · rw [if_neg c2, if_neg c2]; grind
  · rw [if_neg c1]
    by_cases c2 : i < m
    · rw [if_pos c2, if_pos (show i < m + 1 by omega)]
    · rw [if_neg c2, if_neg (show ¬ i < m + 1 by omega)]
theorem down_up (j k : Nat) : down j (up j k) = k := by unfold down up; repeat' split
                                                        all_goals omega
theorem up_down {j k : Nat} (h : k ≠ j) : up j (down j k) = k := by unfold down up; repeat' split
                                                                    all_goals omega
theorem Alt.unique : ∀ (n : Nat) {F : Mat → Rat}, Alt n F → ∀ M, F M = det n M * F idM
 | 0, F, h, M => by
  show F M = 1 * F idM
  rw [h.ext M idM fun i k hi _ => by omega]; grind
 | n + 1, F, h, M => by
  have e0 : F M = F (setR M n fun k => sumQ (fun j => M n j * unit j k) (n + 1)) := h.ext _ _ fun i k hi hk => by
   dsimp only [setR]
   by_cases c : i = n
   · rw [if_pos c, c, sumQ_one (k := k) hk fun l _ hne => by unfold unit; rw [if_neg (fun h => hne h.symm)]; grind]
     unfold unit; rw [if_pos rfl]; grind
   · rw [if_neg c]
  rw [e0, h.sum M n (by omega)]
  show _ = sumQ (fun j => sg (n + j) * M n j * det n (skip j M)) (n + 1) * F idM
  rw [show ∀ x y : Rat, x * y = y * x from fun x y => by grind, ← sumQ_mul]
  refine sumQ_congr fun j hj => ?_
  have e1 : F (setR M n (unit j)) = F (LinM.emb n j (skip j M)) := by
   rw [← clear_col h (setR M n (unit j)) j (fun k => by unfold setR; rw [if_pos rfl]) n (Nat.le_refl n)]
   refine h.ext _ _ fun i k hi hk => ?_
   dsimp only [LinM.emb, skip, setR]
   by_cases c1 : i = n
   · subst c1; rw [if_neg (by omega), if_pos rfl, if_pos rfl]
   · rw [if_pos (by omega), if_neg c1]
     by_cases c2 : k = j
     · rw [if_pos c2, if_neg c1, if_pos c2]
     · rw [if_neg c2, if_neg c1, if_neg c2, up_down c2]
  rw [e1, Alt.unique n (h.emb (show j ≤ n by omega)) (skip j M), emb_id h (n - j) j (by omega)]
  grind
def mulM (m : Nat) (A B : Mat) : Mat := fun i k => sumQ (fun l => A i l * B l k) m
theorem det_mul (n : Nat) (A B : Mat) : det n (mulM n A B) = det n A * det n B := by
 have hF : Alt n fun A => det n (mulM n A B) := by
  refine ⟨fun M r a b u v hr => ?_, fun M r s h1 h2 h3 => ?_, fun M M' hM => ?_⟩
  · have e : ∀ w : Nat → Rat, mulM n (setR M r w) B = setR (mulM n M B) r fun k => sumQ (fun l => w l * B l k) n := fun w => by
     funext i k; unfold mulM setR
     by_cases c : i = r
     · rw [if_pos c]; exact sumQ_congr fun l _ => by rw [if_pos c]
     · rw [if_neg c]; exact sumQ_congr fun l _ => by rw [if_neg c]
    rw [e, e, e]
    have e2 : (fun k => sumQ (fun l => (a * u l + b * v l) * B l k) n) = fun k => a * (fun k => sumQ (fun l => u l * B l k) n) k + b * (fun k => sumQ (fun l => v l * B l k) n) k := by
     funext k
     dsimp only
     rw [← sumQ_mul, ← sumQ_mul, ← sumQ_add]
     exact sumQ_congr fun l _ => by grind
    rw [e2, det_lin n _ r a b _ _ hr]
  · exact det_equal n _ r s h1 h2 fun k => sumQ_congr fun l _ => by rw [h3]
  · exact det_congr n fun i k hi hk => sumQ_congr fun l hl => by rw [hM i l hi hl]
 have := hF.unique n A
 rw [this]
 congr 1
 refine det_congr n fun i k hi hk => ?_
 dsimp only [mulM, idM]
 rw [sumQ_one (k := i) hi fun l _ hne => by rw [if_neg (fun h => hne h.symm)]; grind, if_pos rfl]; grind
theorem det_id (n : Nat) : det n idM = 1 := by
 induction n with
 | zero => rfl
 | succ n ih =>
  simp only [det]
  rw [sumQ_one (k := n) (by omega) fun j hj hne => by unfold idM; rw [if_neg (fun h => hne h.symm)]; grind]
  have e1 : sg (n + n) = 1 := by unfold sg; rw [if_pos (by omega)]
  have e2 : det n (skip n idM) = det n idM := det_congr n fun i k hi hk => by unfold skip up; rw [if_pos hk]
  rw [e1, e2, ih]; unfold idM; rw [if_pos rfl]; grind
theorem det_last (n : Nat) (M : Mat) (h : ∀ k, k < n → M n k = 0) : det (n + 1) M = M n n * det n M := by
 simp only [det]
 rw [sumQ_one (k := n) (by omega) fun j hj hne => by rw [h j (by omega)]; grind]
 have e1 : sg (n + n) = 1 := by unfold sg; rw [if_pos (by omega)]
 have e2 : det n (skip n M) = det n M := det_congr n fun i k hi hk => by unfold skip up; rw [if_pos hk]
 rw [e1, e2]; grind
theorem det_unit_col (n r : Nat) (hr : r < n) (M : Mat) (h : ∀ i k, i < n → k < n → k ≠ r → M i k = if i = k then 1 else 0) : det n M = M r r := by
 have e : ∀ m, m ≤ n → det n (fun i k => if k = r ∧ i ≠ r ∧ i < m then 0 else M i k) = det n M := by
  intro m
  induction m with
  | zero => intro _; exact det_congr n fun i k _ _ => by rw [if_neg (by omega)]
  | succ m ih =>
   intro hm
   rw [← ih (by omega)]
   by_cases c : m = r
   · subst c
     refine det_congr n fun i k _ _ => ?_
     by_cases c2 : k = m ∧ i ≠ m ∧ i < m
     · rw [if_pos (by omega), if_pos c2]
     · rw [if_neg (by omega), if_neg c2]
   · by_cases hz : M r r = 0
     · -- row r is zero
       have z : ∀ X : Mat, (∀ k, k < n → X r k = 0) → det n X = 0 := fun X hX => by
        have : det n X = det n (setR X r fun _ => 0) := det_congr n fun i k _ hk => by
         dsimp only [setR]
         by_cases c : i = r
         · rw [if_pos c, c, hX k hk]
         · rw [if_neg c]
        rw [this, det_zero_row n X r hr]
       have hrow : ∀ k, k < n → M r k = 0 := fun k hk => by
        by_cases c2 : k = r
        · rw [c2, hz]
        · rw [h r k hr hk c2, if_neg (fun h => c2 h.symm)]
       rw [z _ fun k hk => by rw [if_neg (by omega)]; exact hrow k hk, z _ fun k hk => by rw [if_neg (by omega)]; exact hrow k hk]
     · have hop := det_row_op n (fun i k => if k = r ∧ i ≠ r ∧ i < m then 0 else M i k) m r (-(M m r / M r r)) (by omega) hr c
       rw [← hop]
       refine det_congr n fun i k hi hk => ?_
       dsimp only [setR]
       by_cases c1 : i = m
       · subst c1
         rw [if_pos rfl]
         by_cases c2 : k = r
         · subst c2
           rw [if_pos (by omega), if_neg (by omega), if_neg (by omega)]
           grind
         · rw [if_neg (by omega), if_neg (by omega), if_neg (by omega), h r k hr hk c2, if_neg (fun h => c2 h.symm)]
           grind
       · rw [if_neg c1]
         by_cases c2 : k = r ∧ i ≠ r ∧ i < m
         · rw [if_pos (by omega), if_pos c2]
         · rw [if_neg (by omega), if_neg c2]
 rw [← e n (Nat.le_refl n)]
 have e2 : det n (fun i k => if k = r ∧ i ≠ r ∧ i < n then 0 else M i k) = det n (setR idM r fun k => M r r * idM r k) := det_congr n fun i k hi hk => by
  dsimp only [setR]
  by_cases c1 : i = r
  · subst c1
    rw [if_neg (by omega), if_pos rfl]
    by_cases c2 : k = i
    · subst c2; unfold idM; rw [if_pos rfl]; grind
    · rw [h i k hi hk c2]; unfold idM; rw [if_neg (fun h => c2 h.symm)]; grind
  · rw [if_neg c1]
    by_cases c2 : k = r
    · rw [if_pos ⟨c2, c1, hi⟩]; unfold idM; rw [if_neg (by omega)]
    · rw [if_neg (by omega), h i k hi hk c2]; rfl
 rw [e2, det_mul_row n idM r (M r r) (idM r) hr, setR_self, det_id]; grind
end LinM
namespace LinM
def qabs (x : Rat) : Rat := if x < 0 then -x else x
theorem qabs_nonneg (x : Rat) : 0 ≤ qabs x := by unfold qabs; split <;> grind
theorem qabs_add (x y : Rat) : qabs (x + y) ≤ qabs x + qabs y := by unfold qabs; split <;> split <;> split <;> grind
theorem qabs_mul (x y : Rat) : qabs (x * y) = qabs x * qabs y := by
 have hx : (x < 0 ∧ qabs x = -x) ∨ (0 ≤ x ∧ qabs x = x) := by unfold qabs; split <;> grind
 have hy : (y < 0 ∧ qabs y = -y) ∨ (0 ≤ y ∧ qabs y = y) := by unfold qabs; split <;> grind
 rcases hx with ⟨h1, e1⟩ | ⟨h1, e1⟩ <;> rcases hy with ⟨h2, e2⟩ | ⟨h2, e2⟩ <;> rw [e1, e2]
 · have : 0 ≤ (-x) * (-y) := Rat.mul_nonneg (by grind) (by grind)
   unfold qabs; rw [if_neg (by grind)]; grind
 · have : 0 ≤ (-x) * y := Rat.mul_nonneg (by grind) h2
   unfold qabs; split <;> grind
 · have : 0 ≤ x * (-y) := Rat.mul_nonneg h1 (by grind)
   unfold qabs; split <;> grind
 · have : 0 ≤ x * y := Rat.mul_nonneg h1 h2
   unfold qabs; rw [if_neg (by grind)]
theorem qabs_sg (n : Nat) : qabs (sg n) = 1 := by unfold qabs sg; split <;> split <;> grind
def prodQ (e : Nat → Rat) : Nat → Rat
 | 0 => 1
 | n + 1 => prodQ e n * e n
theorem prodQ_nonneg {e : Nat → Rat} {n : Nat} (h : ∀ i, i < n → 0 ≤ e i) : 0 ≤ prodQ e n := by
 induction n with
 | zero => show (0 : Rat) ≤ 1; decide
 | succ n ih => exact Rat.mul_nonneg (ih fun i hi => h i (by omega)) (h n (by omega))
def fac : Nat → Rat
 | 0 => 1
 | n + 1 => fac n * (n + 1 : Nat)
theorem sumQ_abs_le {f : Nat → Rat} {b : Rat} : ∀ n : Nat, (∀ i, i < n → qabs (f i) ≤ b) → qabs (sumQ f n) ≤ (n : Nat) * b
 | 0, _ => by simp only [sumQ]; unfold qabs; split <;> grind
 | n + 1, h => by
  have ih := sumQ_abs_le n fun i hi => h i (by omega)
  have h1 := qabs_add (sumQ f n) (f n)
  have h2 := h n (by omega)
  simp only [sumQ]
  have e : ((n + 1 : Nat) : Rat) * b = (n : Nat) * b + b := by rw [Rat.natCast_add]; grind
  rw [e]; grind
theorem det_bound : ∀ (n : Nat) (M : Mat) (e : Nat → Rat), (∀ i, i < n → 0 ≤ e i) → (∀ i k, i < n → k < n → qabs (M i k) ≤ e i) → qabs (det n M) ≤ fac n * prodQ e n
 | 0, _, _, _, _ => by show qabs 1 ≤ 1 * 1; unfold qabs; split <;> grind
 | n + 1, M, e, h0, h => by
  simp only [det]
  have hb : ∀ j, j < n + 1 → qabs (sg (n + j) * M n j * det n (skip j M)) ≤ e n * (fac n * prodQ e n) := fun j hj => by
   have ih := det_bound n (skip j M) e (fun i hi => h0 i (by omega)) fun i k hi hk => by
    unfold skip; exact h i _ (by omega) (by unfold up; split <;> omega)
   rw [qabs_mul, qabs_mul, qabs_sg]
   have h1 := h n j (by omega) hj
   have h2 : qabs (M n j) * qabs (det n (skip j M)) ≤ e n * qabs (det n (skip j M)) := Rat.mul_le_mul_of_nonneg_right h1 (qabs_nonneg _)
   have h3 : e n * qabs (det n (skip j M)) ≤ e n * (fac n * prodQ e n) := Rat.mul_le_mul_of_nonneg_left ih (h0 n (by omega))
   grind
  have := sumQ_abs_le (n + 1) hb
  show _ ≤ fac n * (n + 1 : Nat) * (prodQ e n * e n)
  grind
def Whole (x : Rat) : Prop := ∃ z : Int, x = z
theorem Whole.add {x y : Rat} (hx : Whole x) (hy : Whole y) : Whole (x + y) := by
 obtain ⟨a, rfl⟩ := hx; obtain ⟨b, rfl⟩ := hy; exact ⟨a + b, by rw [Rat.intCast_add]⟩
theorem Whole.mul {x y : Rat} (hx : Whole x) (hy : Whole y) : Whole (x * y) := by
 obtain ⟨a, rfl⟩ := hx; obtain ⟨b, rfl⟩ := hy; exact ⟨a * b, by rw [Rat.intCast_mul]⟩
theorem Whole.neg {x : Rat} (hx : Whole x) : Whole (-x) := by
 obtain ⟨a, rfl⟩ := hx; exact ⟨-a, by rw [Rat.intCast_neg]⟩
theorem whole_sg (n : Nat) : Whole (sg n) := by
 unfold sg; split
 · exact ⟨1, rfl⟩
 · exact ⟨-1, rfl⟩
theorem whole_sum {f : Nat → Rat} : ∀ n : Nat, (∀ i, i < n → Whole (f i)) → Whole (sumQ f n)
 | 0, _ => ⟨0, rfl⟩
 | n + 1, h => (whole_sum n fun i hi => h i (by omega)).add (h n (by omega))
theorem det_whole : ∀ (n : Nat) (M : Mat), (∀ i k, i < n → k < n → Whole (M i k)) → Whole (det n M)
 | 0, _, _ => ⟨1, rfl⟩
 | n + 1, M, h => by
  simp only [det]
  exact whole_sum _ fun j hj => ((whole_sg _).mul (h n j (by omega) hj)).mul (det_whole n _ fun i k hi hk => by unfold skip; exact h i _ (by omega) (by unfold up; split <;> omega))
def Bar (k : Nat) (c : Nat → Nat) (W : Mat) (p : Rat) (X : Mat) : Prop :=
 p ≠ 0 ∧ p = det k (fun r l => W r (c l)) ∧
 (∀ i, i < k → (∃ a : Nat → Rat, ∀ j, X i j = sumQ (fun r => a r * W r j) k) ∧ ∀ l, l < k → X i (c l) = if i = l then p else 0) ∧
 (∀ i, k ≤ i → (∃ a : Nat → Rat, ∀ j, X i j = p * W i j + sumQ (fun r => a r * W r j) k) ∧ ∀ l, l < k → X i (c l) = 0)
theorem Bar.start (c : Nat → Nat) (W : Mat) : Bar 0 c W 1 W :=
 ⟨by decide, rfl, fun i h => by omega, fun i _ => ⟨⟨fun _ => 0, fun j => by simp only [sumQ]; grind⟩, fun l h => by omega⟩⟩
theorem Bar.low {k : Nat} {c : Nat → Nat} {W : Mat} {p : Rat} {X : Mat} (h : Bar k c W p X) {i : Nat} (hi : k ≤ i) (j : Nat) : X i j = det (k + 1) (fun r l => W (if r = k then i else r) (if l = k then j else c l)) := by
 obtain ⟨h1, h2, -, h4⟩ := h
 obtain ⟨⟨a, ha⟩, hz⟩ := h4 i hi
 let M : Mat := fun r l => W (if r = k then i else r) (if l = k then j else c l)
 have e1 : det (k + 1) (setR M k fun l => X i (if l = k then j else c l)) = p * det (k + 1) M := by
  have e : (fun l => X i (if l = k then j else c l)) = fun l => p * M k l + 1 * sumQ (fun r => a r * M r l) k := by
   funext l
   have hm : ∀ r, r < k → M r l = W r (if l = k then j else c l) := fun r hr => by show W (if r = k then i else r) _ = _; rw [if_neg (by omega)]
   have hs : sumQ (fun r => a r * W r (if l = k then j else c l)) k = sumQ (fun r => a r * M r l) k := sumQ_congr fun r hr => by rw [hm r hr]
   have hk : M k l = W i (if l = k then j else c l) := by show W (if k = k then i else k) _ = _; rw [if_pos rfl]
   rw [ha, hs, hk, Rat.one_mul]
  rw [e, det_lin (k + 1) M k p 1 (M k) _ (by omega), setR_self, (det_alt (k + 1)).sum M k (by omega) a M k, sumQ_zero fun r hr => by
   rw [det_equal (k + 1) _ r k hr (by omega) fun l => by unfold setR; rw [if_neg (by omega), if_pos rfl]]; grind]
  grind
 have e2 : det (k + 1) (setR M k fun l => X i (if l = k then j else c l)) = X i j * p := by
  rw [det_last k _ fun l hl => by dsimp only [setR]; rw [if_pos rfl, if_neg (show ¬ l = k by omega)]; exact hz l hl]
  congr 1
  · dsimp only [setR]; rw [if_pos rfl, if_pos rfl]
  · rw [h2]
    exact det_congr k fun r l hr hl => by
     dsimp only [setR]
     rw [if_neg (show ¬ r = k by omega)]
     show W (if r = k then i else r) (if l = k then j else c l) = _
     rw [if_neg (by omega), if_neg (by omega)]
 have e3 : X i j * p = p * det (k + 1) M := e2.symm.trans e1
 show X i j = det (k + 1) M
 grind
theorem det_scale : ∀ (n m : Nat) (M : Mat) (p : Rat), m ≤ n → det n (fun i k => if i < m then p * M i k else M i k) = p ^ m * det n M
 | n, 0, M, p, _ => by
  rw [det_congr n (M' := M) fun i k _ _ => by rw [if_neg (by omega)]]; grind
 | n, m + 1, M, p, h => by
  have ih := det_scale n m M p (by omega)
  have e : det n (fun i k => if i < m + 1 then p * M i k else M i k) = det n (setR (fun i k => if i < m then p * M i k else M i k) m fun k => p * M m k) := det_congr n fun i k _ _ => by
   dsimp only [setR]
   by_cases c : i = m
   · rw [if_pos c, if_pos (show i < m + 1 by omega), c]
   · rw [if_neg c]
     by_cases c2 : i < m
     · rw [if_pos c2, if_pos (show i < m + 1 by omega)]
     · rw [if_neg c2, if_neg (show ¬ i < m + 1 by omega)]
  have e2 : setR (fun i k => if i < m then p * M i k else M i k) m (M m) = fun i k => if i < m then p * M i k else M i k := by
   funext i k
   dsimp only [setR]
   by_cases c : i = m
   · rw [if_pos c, c, if_neg (show ¬ m < m by omega)]
   · rw [if_neg c]
  rw [e, det_mul_row n _ m p _ (by omega), e2, ih]; grind
theorem Bar.high {k : Nat} {c : Nat → Nat} {W : Mat} {p : Rat} {X : Mat} (h : Bar k c W p X) {i : Nat} (hi : i < k) (j : Nat) : X i j = det k (fun r l => W r (if l = i then j else c l)) := by
 obtain ⟨h1, h2, h3, -⟩ := h
 have hex : ∃ A : Mat, ∀ r, r < k → ∀ j, X r j = sumQ (fun s => A r s * W s j) k := by
  refine ⟨fun r => if hr : r < k then (h3 r hr).1.choose else fun _ => 0, fun r hr j => ?_⟩
  dsimp only
  rw [dif_pos hr]
  exact (h3 r hr).1.choose_spec j
 obtain ⟨A, hA⟩ := hex
 -- on the pivots' columns
 have e1 : det k A * p = p ^ k := by
  have : det k (mulM k A fun r l => W r (c l)) = p ^ k := by
   rw [det_congr k (M' := fun i k' => if i < k then p * idM i k' else idM i k') fun r l hr hl => by
    rw [if_pos hr]
    show sumQ (fun s => A r s * W s (c l)) k = _
    rw [← hA r hr, (h3 r hr).2 l hl]
    unfold idM
    split <;> grind]
   rw [det_scale k k idM p (Nat.le_refl k), det_id]; grind
  rw [det_mul, ← h2] at this
  exact this
 have e2 : det k A * det k (fun r l => W r (if l = i then j else c l)) = p ^ k * (X i j / p) := by
  rw [← det_mul]
  rw [det_congr k (M' := fun r l => if r < k then p * (fun r l => if l = i then X r j / p else idM r l) r l else (fun r l => if l = i then X r j / p else idM r l) r l) fun r l hr hl => by
   rw [if_pos hr]
   show sumQ (fun s => A r s * W s (if l = i then j else c l)) k = _
   rw [← hA r hr]
   by_cases e : l = i
   · dsimp only; rw [if_pos e, if_pos e]; grind
   · dsimp only
     rw [if_neg e, if_neg e, (h3 r hr).2 l hl]
     unfold idM
     split <;> grind]
  rw [det_scale k k _ p (Nat.le_refl k)]
  congr 1
  rw [det_unit_col k i hi _ fun r l hr hl hne => by rw [if_neg hne]; rfl]
  rw [if_pos rfl]
 have hpk : p ^ k ≠ 0 := by
  have : ∀ m : Nat, p ^ m ≠ 0 := by
   intro m
   induction m with
   | zero => rw [Rat.pow_zero]; decide
   | succ m ih => rw [Rat.pow_succ]; intro h; rcases Rat.mul_eq_zero.1 h with h | h; exact ih h; exact h1 h
  exact this k
 have hd : det k A ≠ 0 := by intro h0; rw [h0] at e1; apply hpk; grind
 have e3 : det k A * det k (fun r l => W r (if l = i then j else c l)) = det k A * X i j := by
  rw [e2, ← e1]
  have : X i j / p * p = X i j := by grind
  grind
 grind
end LinM
namespace LinM
theorem alg1 (p a b c d S : Rat) (hp : p ≠ 0) : (a * b - c * (p * d + S)) / p = a / p * b + -c / p * S + -c * d := by grind
theorem alg2 (p a b c d S S' : Rat) (hp : p ≠ 0) : (a * (p * b + S') - c * (p * d + S)) / p = a * b + (a / p * S' + -c / p * S + -c * d) := by grind
theorem alg3 (p a b c W V : Rat) : (a * b - c * W) / p * V = a / p * (b * V) + -c / p * (W * V) := by grind
theorem alg4 (a b p : Rat) : (a * b - b * a) / p = 0 := by grind
theorem alg5 (a p : Rat) (h : p ≠ 0) : (a * p - 0 * a) / p = a := by grind
theorem alg6 (x y p : Rat) : (x * 0 - y * 0) / p = 0 := by grind
def stepX (k j : Nat) (p : Rat) (X : Mat) : Mat := fun i l => if i = k then X k l else (X k j * X i l - X i j * X k l) / p
def colS (k j : Nat) (c : Nat → Nat) : Nat → Nat := fun l => if l = k then j else c l
theorem Bar.step {k : Nat} {c : Nat → Nat} {W : Mat} {p : Rat} {X : Mat} (h : Bar k c W p X) {j : Nat} (hj : X k j ≠ 0) : Bar (k + 1) (colS k j c) W (X k j) (stepX k j p X) := by
 have hlow := h.low (Nat.le_refl k) j
 obtain ⟨h1, h2, h3, h4⟩ := h
 obtain ⟨⟨ak, hak⟩, hzk⟩ := h4 k (Nat.le_refl k)
 refine ⟨hj, ?_, fun i hi => ?_, fun i hi => ?_⟩
 · rw [hlow]
   exact det_congr (k + 1) fun r l hr hl => by
    have e1 : (if r = k then k else r) = r := by split <;> omega
    rw [e1]; rfl
 · by_cases e : i = k
   · subst e
     refine ⟨⟨fun r => if r = i then p else ak r, fun l => ?_⟩, fun l hl => ?_⟩
     · unfold stepX
       rw [if_pos rfl, hak]
       simp only [sumQ, if_true]
       rw [sumQ_congr (f := fun r => (if r = i then p else ak r) * W r l) (g := fun r => ak r * W r l) fun r hr => by rw [if_neg (by omega)]]
       grind
     · unfold stepX colS
       rw [if_pos rfl]
       by_cases e2 : l = i
       · rw [if_pos e2, if_pos e2.symm]
       · rw [if_neg e2, if_neg (fun h => e2 h.symm)]; exact hzk l (by omega)
   · obtain ⟨⟨a, ha⟩, hz⟩ := h3 i (by omega)
     refine ⟨⟨fun r => if r = k then -X i j else (X k j * a r - X i j * ak r) / p, fun l => ?_⟩, fun l hl => ?_⟩
     · unfold stepX
       rw [if_neg e]
       simp only [sumQ, if_true]
       rw [sumQ_congr (f := fun r => (if r = k then -X i j else (X k j * a r - X i j * ak r) / p) * W r l) (g := fun r => (X k j / p) * (a r * W r l) + (-(X i j) / p) * (ak r * W r l)) fun r hr => by rw [if_neg (by omega)]; exact alg3 ..]
       rw [sumQ_add, sumQ_mul, sumQ_mul, ← ha, hak l]
       exact alg1 _ _ _ _ _ _ h1
     · unfold stepX colS
       rw [if_neg e]
       by_cases e2 : l = k
       · rw [if_pos e2, if_neg (show ¬ i = l by omega)]; exact alg4 ..
       · rw [if_neg e2, hz l (by omega), hzk l (by omega)]
         by_cases e3 : i = l
         · rw [if_pos e3, if_pos e3, Rat.mul_zero, Rat.sub_eq_add_neg, Rat.neg_zero, Rat.add_zero, Rat.mul_div_cancel h1]
         · rw [if_neg e3, if_neg e3]; exact alg6 ..
 · have e : ¬ i = k := by omega
   obtain ⟨⟨a, ha⟩, hz⟩ := h4 i (by omega)
   refine ⟨⟨fun r => if r = k then -X i j else (X k j * a r - X i j * ak r) / p, fun l => ?_⟩, fun l hl => ?_⟩
   · unfold stepX
     rw [if_neg e]
     simp only [sumQ, if_true]
     rw [sumQ_congr (f := fun r => (if r = k then -X i j else (X k j * a r - X i j * ak r) / p) * W r l) (g := fun r => (X k j / p) * (a r * W r l) + (-(X i j) / p) * (ak r * W r l)) fun r hr => by rw [if_neg (by omega)]; exact alg3 ..]
     rw [sumQ_add, sumQ_mul, sumQ_mul, ha l, hak l]
     exact alg2 _ _ _ _ _ _ _ h1
   · unfold stepX colS
     rw [if_neg e]
     by_cases e2 : l = k
     · rw [if_pos e2]; exact alg4 ..
     · rw [if_neg e2, hz l (by omega), hzk l (by omega)]; exact alg6 ..
def sw (r s i : Nat) : Nat := if i = r then s else if i = s then r else i
theorem sw_low {r s i k : Nat} (hr : k ≤ r) (hs : k ≤ s) (hi : i < k) : sw r s i = i := by
 unfold sw; rw [if_neg (by omega), if_neg (by omega)]
theorem sw_ge {r s i k : Nat} (hr : k ≤ r) (hs : k ≤ s) (hi : k ≤ i) : k ≤ sw r s i := by
 unfold sw; split
 · exact hs
 · split
   · exact hr
   · exact hi
def swapR (r s : Nat) (M : Mat) : Mat := fun i => M (sw r s i)
theorem Bar.swap {k : Nat} {c : Nat → Nat} {W : Mat} {p : Rat} {X : Mat} (h : Bar k c W p X) {r s : Nat} (hr : k ≤ r) (hs : k ≤ s) : Bar k c (swapR r s W) p (swapR r s X) := by
 obtain ⟨h1, h2, h3, h4⟩ := h
 have el : ∀ (a : Nat → Rat) l, sumQ (fun r' => a r' * swapR r s W r' l) k = sumQ (fun r' => a r' * W r' l) k := fun a l => sumQ_congr fun i hi => by unfold swapR; rw [sw_low hr hs hi]
 refine ⟨h1, ?_, fun i hi => ?_, fun i hi => ?_⟩
 · rw [h2]; exact det_congr k fun i l hi _ => by unfold swapR; rw [sw_low hr hs hi]
 · obtain ⟨⟨a, ha⟩, hz⟩ := h3 i hi
   refine ⟨⟨a, fun l => ?_⟩, fun l hl => ?_⟩
   · rw [el]; unfold swapR; rw [sw_low hr hs hi]; exact ha l
   · unfold swapR; rw [sw_low hr hs hi]; exact hz l hl
 · obtain ⟨⟨a, ha⟩, hz⟩ := h4 (sw r s i) (sw_ge hr hs hi)
   refine ⟨⟨a, fun l => ?_⟩, fun l hl => ?_⟩
   · rw [el]; unfold swapR; exact ha l
   · unfold swapR; exact hz l hl
theorem prodQ_le {e : Nat → Rat} {m n : Nat} (hmn : m ≤ n) (h : ∀ i, i < n → 1 ≤ e i) : prodQ e m ≤ prodQ e n := by
 induction n with
 | zero => have : m = 0 := by omega
           subst this; exact Rat.le_refl
 | succ n ih =>
  by_cases c : m = n + 1
  · subst c; exact Rat.le_refl
  · have h1 := ih (by omega) fun i hi => h i (by omega)
    have h2 : prodQ e n * 1 ≤ prodQ e n * e n := Rat.mul_le_mul_of_nonneg_left (h n (by omega)) (prodQ_nonneg fun i hi => by have := h i (by omega); grind)
    show prodQ e m ≤ prodQ e n * e n
    grind
theorem prodQ_more {e : Nat → Rat} {k i n : Nat} (hk : k ≤ i) (hi : i < n) (h : ∀ i, i < n → 1 ≤ e i) : prodQ e k * e i ≤ prodQ e n := by
 have h1 := prodQ_le hk (fun a ha => h a (by omega) : ∀ a, a < i → 1 ≤ e a)
 have h2 : prodQ e k * e i ≤ prodQ e i * e i := Rat.mul_le_mul_of_nonneg_right h1 (by have := h i hi; grind)
 have h3 := prodQ_le (show i + 1 ≤ n by omega) h
 exact Rat.le_trans h2 h3
theorem fac_pos (n : Nat) : 1 ≤ fac n := by
 induction n with
 | zero => show (1 : Rat) ≤ 1; exact Rat.le_refl
 | succ n ih =>
  show 1 ≤ fac n * (n + 1 : Nat)
  have h1 : (1 : Rat) ≤ ((n + 1 : Nat) : Rat) := by
   have : ((1 : Nat) : Rat) ≤ ((n + 1 : Nat) : Rat) := Rat.natCast_le_natCast.2 (by omega)
   simpa using this
  have h2 : fac n * 1 ≤ fac n * ((n + 1 : Nat) : Rat) := Rat.mul_le_mul_of_nonneg_left h1 (by grind)
  grind
theorem fac_le {m n : Nat} (h : m ≤ n) : fac m ≤ fac n := by
 induction n with
 | zero => have : m = 0 := by omega
           subst this; exact Rat.le_refl
 | succ n ih =>
  by_cases c : m = n + 1
  · subst c; exact Rat.le_refl
  · have h0 := ih (by omega)
    have h1 : (1 : Rat) ≤ ((n + 1 : Nat) : Rat) := by
     have : ((1 : Nat) : Rat) ≤ ((n + 1 : Nat) : Rat) := Rat.natCast_le_natCast.2 (by omega)
     simpa using this
    have hp := fac_pos n
    have h2 : fac n * 1 ≤ fac n * ((n + 1 : Nat) : Rat) := Rat.mul_le_mul_of_nonneg_left h1 (by grind)
    show fac m ≤ fac n * ((n + 1 : Nat) : Rat)
    grind
theorem Bar.size {k n : Nat} {c : Nat → Nat} {W : Mat} {p : Rat} {X : Mat} {C : Nat} {e : Nat → Rat} (h : Bar k c W p X) (hk : k ≤ n) (hc : ∀ l, l < k → c l < C) (hW : ∀ i j, i < n → j < C → Whole (W i j) ∧ qabs (W i j) ≤ e i) (he : ∀ i, i < n → 1 ≤ e i) :
 (Whole p ∧ qabs p ≤ fac n * prodQ e n) ∧ ∀ i j, i < n → j < C → Whole (X i j) ∧ qabs (X i j) ≤ fac n * prodQ e n := by
 have hP : 0 ≤ prodQ e n := prodQ_nonneg fun i hi => by have := he i hi; grind
 have small : ∀ M : Mat, (∀ r l, r < k → l < k → Whole (M r l) ∧ qabs (M r l) ≤ e r) → Whole (det k M) ∧ qabs (det k M) ≤ fac n * prodQ e n := fun M hM => by
  refine ⟨det_whole k M fun r l hr hl => (hM r l hr hl).1, ?_⟩
  have h1 := det_bound k M e (fun i hi => by have := he i (by omega); grind) fun r l hr hl => (hM r l hr hl).2
  have h2 : fac k * prodQ e k ≤ fac n * prodQ e k := Rat.mul_le_mul_of_nonneg_right (fac_le hk) (prodQ_nonneg fun i hi => by have := he i (by omega); grind)
  have h3 : fac n * prodQ e k ≤ fac n * prodQ e n := Rat.mul_le_mul_of_nonneg_left (prodQ_le hk he) (by have := fac_pos n; grind)
  exact Rat.le_trans h1 (Rat.le_trans h2 h3)
 refine ⟨by rw [h.2.1]; exact small _ fun r l hr hl => hW r _ (by omega) (hc l hl), fun i j hi hj => ?_⟩
 by_cases hik : i < k
 · rw [h.high hik j]
   exact small _ fun r l hr hl => hW r _ (by omega) (by split; exact hj; exact hc l hl)
 · rw [h.low (by omega) j]
   have hM : ∀ r l, r < k + 1 → l < k + 1 → Whole (W (if r = k then i else r) (if l = k then j else c l)) ∧ qabs (W (if r = k then i else r) (if l = k then j else c l)) ≤ (fun r => e (if r = k then i else r)) r := fun r l hr hl =>
    hW _ _ (by split <;> omega) (by split; exact hj; exact hc l (by omega))
   refine ⟨det_whole (k + 1) _ fun r l hr hl => (hM r l hr hl).1, ?_⟩
   have h1 := det_bound (k + 1) _ (fun r => e (if r = k then i else r)) (fun r hr => by have := he (if r = k then i else r) (by split <;> omega); grind) fun r l hr hl => (hM r l hr hl).2
   have h2 : prodQ (fun r => e (if r = k then i else r)) (k + 1) = prodQ e k * e i := by
    show prodQ _ k * e (if k = k then i else k) = _
    rw [if_pos rfl]
    congr 1
    have : ∀ m, m ≤ k → prodQ (fun r => e (if r = k then i else r)) m = prodQ e m := by
     intro m
     induction m with
     | zero => intro _; rfl
     | succ m ih => intro hm; show _ * e (if m = k then i else m) = _ * e m; rw [ih (by omega), if_neg (show ¬ m = k by omega)]
    exact this k (Nat.le_refl k)
   rw [h2] at h1
   have h3 : fac (k + 1) * (prodQ e k * e i) ≤ fac n * (prodQ e k * e i) := Rat.mul_le_mul_of_nonneg_right (fac_le (by omega)) (Rat.mul_nonneg (prodQ_nonneg fun a ha => by have := he a (by omega); grind) (by have := he i hi; grind))
   have h4 : fac n * (prodQ e k * e i) ≤ fac n * prodQ e n := Rat.mul_le_mul_of_nonneg_left (prodQ_more (by omega) hi he) (by have := fac_pos n; grind)
   exact Rat.le_trans h1 (Rat.le_trans h3 h4)
theorem comb_zero {k : Nat} {B : Mat} (hd : det k B ≠ 0) {b : Nat → Rat} (h : ∀ l, l < k → sumQ (fun s => b s * B s l) k = 0) : ∀ s, s < k → b s = 0 := by
 intro s hs
 have h1 : det k (setR B s fun l => sumQ (fun r => b r * B r l) k) = b s * det k B := by
  rw [(det_alt k).sum B s hs b B k, sumQ_one (k := s) hs fun r hr hne => by
   rw [(det_alt k).eq' (setR B s (B r)) r s hr hs hne fun l => by unfold setR; rw [if_neg hne, if_pos rfl]]; grind, setR_self]
 have h2 : det k (setR B s fun l => sumQ (fun r => b r * B r l) k) = 0 := by
  rw [det_congr k (M' := setR B s fun _ => 0) fun i l hi hl => by
   unfold setR
   by_cases e : i = s
   · rw [if_pos e, if_pos e]; exact h l hl
   · rw [if_neg e, if_neg e], det_zero_row k B s hs]
 rw [h2] at h1
 rcases Rat.mul_eq_zero.1 h1.symm with h | h
 · exact h
 · exact absurd h hd
theorem alg7 (w a b : Rat) : w * (a * b) = w * a * b := by grind
theorem alg8 (x y z : Rat) : (x - y) * z = x * z + -(y * z) := by grind
theorem alg9 (p w : Rat) : p * w = p * 1 * w := by grind
theorem alg10 (p w : Rat) : p * 0 * w = 0 := by grind
theorem sumQ_mulR (f : Nat → Rat) (c : Rat) (n : Nat) : sumQ (fun i => f i * c) n = sumQ f n * c := by
 rw [Rat.mul_comm, ← sumQ_mul]; exact sumQ_congr fun i _ => Rat.mul_comm _ _
theorem sumQ_sub (f g : Nat → Rat) (n : Nat) : sumQ (fun i => f i + -g i) n = sumQ f n - sumQ g n := by
 rw [sumQ_add, sumQ_neg, Rat.sub_eq_add_neg]
theorem Bar.back {k : Nat} {c : Nat → Nat} {W : Mat} {p : Rat} {X : Mat} (h : Bar k c W p X) {i : Nat} (hi : i < k) (j : Nat) : p * W i j = sumQ (fun r => W i (c r) * X r j) k := by
 obtain ⟨h1, h2, h3, -⟩ := h
 have hex : ∃ A : Mat, ∀ r, r < k → ∀ j, X r j = sumQ (fun s => A r s * W s j) k := by
  refine ⟨fun r => if hr : r < k then (h3 r hr).1.choose else fun _ => 0, fun r hr j => ?_⟩
  dsimp only
  rw [dif_pos hr]
  exact (h3 r hr).1.choose_spec j
 obtain ⟨A, hA⟩ := hex
 have hv : ∀ l, p * W i l - sumQ (fun r => W i (c r) * X r l) k = sumQ (fun s => (p * (if s = i then 1 else 0) - sumQ (fun r => W i (c r) * A r s) k) * W s l) k := by
  intro l
  have e1 : sumQ (fun r => W i (c r) * X r l) k = sumQ (fun s => sumQ (fun r => W i (c r) * A r s) k * W s l) k := by
   have e0 : sumQ (fun r => W i (c r) * X r l) k = sumQ (fun r => sumQ (fun s => W i (c r) * A r s * W s l) k) k := sumQ_congr fun r hr => by
    rw [hA r hr, ← sumQ_mul]; exact sumQ_congr fun s _ => alg7 ..
   rw [e0, sumQ_swap]
   exact sumQ_congr fun s _ => sumQ_mulR _ _ _
  have e2 : p * W i l = sumQ (fun s => p * (if s = i then 1 else 0) * W s l) k := by
   rw [sumQ_one (k := i) hi fun s _ hne => by rw [if_neg hne]; exact alg10 .., if_pos rfl]; exact alg9 ..
  rw [e1, e2, ← sumQ_sub]
  exact sumQ_congr fun s _ => (alg8 ..).symm
 have hz := comb_zero (k := k) (B := fun r l => W r (c l)) (by rw [← h2]; exact h1) (b := fun s => p * (if s = i then 1 else 0) - sumQ (fun r => W i (c r) * A r s) k) fun l hl => by
  rw [← hv (c l), sumQ_one (k := l) hl fun r hr hne => by rw [(h3 r hr).2 l hl, if_neg hne, Rat.mul_zero], (h3 l hl).2 l hl, if_pos rfl, Rat.mul_comm, Rat.sub_self]
 have hz2 : sumQ (fun s => (p * (if s = i then 1 else 0) - sumQ (fun r => W i (c r) * A r s) k) * W s j) k = 0 := sumQ_zero fun s hs => by
  rw [hz s hs, Rat.zero_mul]
 have h9 := (hv j).trans hz2
 generalize p * W i j = x at h9 ⊢
 generalize sumQ (fun r => W i (c r) * X r j) k = y at h9 ⊢
 clear hv hz hA h1 h2 h3 hz2
 grind
end LinM
namespace LinM
theorem prodQ_congr {e e' : Nat → Rat} {n : Nat} (h : ∀ i, i < n → e i = e' i) : prodQ e n = prodQ e' n := by
 induction n with
 | zero => rfl
 | succ n ih => show prodQ e n * e n = prodQ e' n * e' n; rw [ih fun i hi => h i (by omega), h n (by omega)]
theorem prodQ_set (e : Nat → Rat) {r n : Nat} (x : Rat) (hr : r < n) : prodQ (fun i => if i = r then x else e i) n * e r = prodQ e n * x := by
 induction n with
 | zero => omega
 | succ n ih =>
  show prodQ _ n * (if n = r then x else e n) * e r = prodQ e n * e n * x
  by_cases c : n = r
  · subst c
    rw [if_pos rfl, prodQ_congr (e' := e) fun i hi => by rw [if_neg (by omega)]]; grind
  · have := ih (by omega)
    rw [if_neg c]; grind
theorem prodQ_swap {e : Nat → Rat} {r s n : Nat} (hr : r < n) (hs : s < n) (h0 : ∀ i, i < n → e i ≠ 0) : prodQ (fun i => e (sw r s i)) n = prodQ e n := by
 by_cases c : r = s
 · subst c
   exact prodQ_congr fun i _ => by unfold sw; split <;> simp_all
 · have h1 := prodQ_set e (e s) hr
   have h2 := prodQ_set (fun i => if i = r then e s else e i) (e r) hs
   have e1 : prodQ (fun i => e (sw r s i)) n = prodQ (fun i => if i = s then e r else (if i = r then e s else e i)) n := prodQ_congr fun i _ => by
    unfold sw
    by_cases c1 : i = r
    · rw [if_pos c1, if_neg (fun q => c (by rw [← c1, q])), if_pos c1]
    · rw [if_neg c1]
      by_cases c2 : i = s
      · rw [if_pos c2, if_pos c2]
      · rw [if_neg c2, if_neg c2, if_neg c1]
   rw [e1]
   rw [if_neg (fun q => c q.symm)] at h2
   have z1 := h0 r hr
   have z2 := h0 s hs
   generalize prodQ (fun i => if i = s then e r else (if i = r then e s else e i)) n = P at h2 ⊢
   generalize prodQ (fun i => if i = r then e s else e i) n = Q at h1 h2
   have h3 : P * e s * e r = prodQ e n * e s * e r := by rw [h2]; grind
   have h4 : P * (e s * e r) = prodQ e n * (e s * e r) := by grind
   have h5 : e s * e r ≠ 0 := fun h => (Rat.mul_eq_zero.1 h).elim z2 z1
   grind
structure Elim (A : Mat) (n C : Nat) (B : Rat) (j k : Nat) (p s : Rat) (X : Mat) (c : Nat → Nat) (W : Mat) : Prop where
 bar : Bar k c W p X
 kn : k ≤ n
 kj : k ≤ j
 cj : ∀ l, l < k → c l < j
 inc : ∀ l l', l < l' → l' < k → c l < c l'
 zero : ∀ i l, k ≤ i → i < n → l < j → X i l = 0
 s0 : s ≠ 0
 det : ∀ d : Nat → Nat, det n (fun r l => W r (d l)) = s * det n (fun r l => A r (d l))
 rows : ∀ i, i < n → ∃ i', i' < n ∧ ∃ f : Rat, f ≠ 0 ∧ ∀ l, A i l = f * W i' l
 rows' : ∀ i, i < n → ∃ i', i' < n ∧ ∃ f : Rat, f ≠ 0 ∧ ∀ l, W i l = f * A i' l
 size : ∃ e : Nat → Rat, (∀ i l, i < n → l < C → Whole (W i l) ∧ qabs (W i l) ≤ e i) ∧ (∀ i, i < n → 1 ≤ e i) ∧ prodQ e n ≤ B
theorem prodQ_mul (f g : Nat → Rat) (n : Nat) : prodQ (fun i => f i * g i) n = prodQ f n * prodQ g n := by
 induction n with
 | zero => show (1 : Rat) = 1 * 1; grind
 | succ n ih => show prodQ _ n * (f n * g n) = prodQ f n * f n * (prodQ g n * g n); rw [ih]; grind
theorem prodQ_ne {f : Nat → Rat} {n : Nat} (h : ∀ i, i < n → f i ≠ 0) : prodQ f n ≠ 0 := by
 induction n with
 | zero => show (1 : Rat) ≠ 0; decide
 | succ n ih =>
  intro e
  rcases Rat.mul_eq_zero.1 (show prodQ f n * f n = 0 from e) with e | e
  · exact ih (fun i hi => h i (by omega)) e
  · exact h n (by omega) e
theorem det_rows (n : Nat) (M : Mat) (f : Nat → Rat) : ∀ m, m ≤ n → det n (fun i l => if i < m then f i * M i l else M i l) = prodQ f m * det n M
 | 0, _ => by
  rw [det_congr n (M' := M) fun i k _ _ => by rw [if_neg (by omega)]]
  show _ = 1 * _; grind
 | m + 1, h => by
  have ih := det_rows n M f m (by omega)
  have e : det n (fun i l => if i < m + 1 then f i * M i l else M i l) = det n (setR (fun i l => if i < m then f i * M i l else M i l) m fun l => f m * M m l) := det_congr n fun i l _ _ => by
   dsimp only [setR]
   by_cases c : i = m
   · rw [if_pos c, if_pos (by omega), c]
   · rw [if_neg c]
     by_cases c2 : i < m
     · rw [if_pos c2, if_pos (by omega)]
     · rw [if_neg c2, if_neg (by omega)]
  have e2 : setR (fun i l => if i < m then f i * M i l else M i l) m (M m) = fun i l => if i < m then f i * M i l else M i l := by
   funext i l
   dsimp only [setR]
   by_cases c : i = m
   · rw [if_pos c, c, if_neg (by omega)]
   · rw [if_neg c]
  rw [e, det_mul_row n _ m (f m) _ (by omega), e2, ih]
  show _ = prodQ f m * f m * _; grind
theorem det_rows_all (n : Nat) (M : Mat) (f : Nat → Rat) : det n (fun i l => f i * M i l) = prodQ f n * det n M := by
 rw [← det_rows n M f n (Nat.le_refl n)]
 exact det_congr n fun i l hi _ => by rw [if_pos hi]
theorem Elim.start {A W : Mat} {n C : Nat} {B : Rat} {f e : Nat → Rat} (hf : ∀ i, i < n → f i ≠ 0) (hW : ∀ i l, W i l = f i * A i l) (hs : ∀ i l, i < n → l < C → Whole (W i l) ∧ qabs (W i l) ≤ e i) (he : ∀ i, i < n → 1 ≤ e i) (hB : prodQ e n ≤ B) :
 Elim A n C B 0 0 1 (prodQ f n) W (fun l => l) W where
 bar := Bar.start _ _
 kn := Nat.zero_le _
 kj := Nat.le_refl _
 cj := fun l h => by omega
 inc := fun l l' _ h => by omega
 zero := fun i l _ _ h => by omega
 s0 := prodQ_ne hf
 det := fun d => by
  rw [← det_rows_all]
  exact det_congr n fun i l _ _ => hW i (d l)
 rows := fun i hi => ⟨i, hi, 1 / f i, by have := hf i hi; grind, fun l => by rw [hW]; have := hf i hi; grind⟩
 rows' := fun i hi => ⟨i, hi, f i, hf i hi, fun l => hW i l⟩
 size := ⟨e, hs, he, hB⟩
theorem swapR_det {n r s : Nat} (hr : r < n) (hs : s < n) (hne : r ≠ s) (M : Mat) : det n (fun i l => M (sw r s i) l) = -det n M := by
 rw [← det_swap n M r s hr hs hne]
 exact det_congr n fun i l _ _ => by
  dsimp only [setR]
  unfold sw
  by_cases c2 : i = s
  · rw [if_pos c2]
    by_cases c1 : i = r
    · exact absurd (c1.symm.trans c2) hne
    · rw [if_neg c1]; simp [c2]
  · rw [if_neg c2]
    by_cases c1 : i = r
    · rw [if_pos c1]; simp only [c1, if_true]; rw [if_neg hne]
    · rw [if_neg c1]; simp [c1, c2]
theorem sw_lt {r s i n : Nat} (hr : r < n) (hs : s < n) (hi : i < n) : sw r s i < n := by unfold sw; split; exact hs; split; exact hr; exact hi
theorem sw_sw (r s i : Nat) : sw r s (sw r s i) = i := by unfold sw; split <;> split <;> (try split) <;> omega
theorem Elim.swap {A : Mat} {n C : Nat} {B : Rat} {j k : Nat} {p s : Rat} {X : Mat} {c : Nat → Nat} {W : Mat} (h : Elim A n C B j k p s X c W) {i : Nat} (hi : k < i) (hin : i < n) :
 Elim A n C B j k p (-s) (swapR i k X) c (swapR i k W) where
 bar := h.bar.swap (by omega) (Nat.le_refl k)
 kn := h.kn
 kj := h.kj
 cj := h.cj
 inc := h.inc
 zero := fun a l ha han hl => h.zero _ l (sw_ge (by omega) (Nat.le_refl k) ha) (sw_lt hin (by omega) han) hl
 s0 := by have := h.s0; grind
 det := fun d => by
  have h1 := swapR_det hin (show k < n by omega) (by omega) (fun r l => W r (d l))
  have h2 := h.det d
  show LinM.det n (fun r l => W (sw i k r) (d l)) = _
  rw [h1, h2]; grind
 rows := fun a ha => by
  obtain ⟨i', h1, f, h2, h3⟩ := h.rows a ha
  exact ⟨sw i k i', sw_lt hin (by omega) h1, f, h2, fun l => by show _ = f * W (sw i k (sw i k i')) l; rw [sw_sw]; exact h3 l⟩
 rows' := fun a ha => by
  obtain ⟨i', h1, f, h2, h3⟩ := h.rows' (sw i k a) (sw_lt hin (by omega) ha)
  exact ⟨i', h1, f, h2, h3⟩
 size := by
  obtain ⟨e, h1, h2, h3⟩ := h.size
  refine ⟨fun a => e (sw i k a), fun a l ha hl => h1 _ l (sw_lt hin (by omega) ha) hl, fun a ha => h2 _ (sw_lt hin (by omega) ha), ?_⟩
  rw [prodQ_swap hin (by omega) fun a ha => by have := h2 a ha; grind]
  exact h3
theorem Elim.step {A : Mat} {n C : Nat} {B : Rat} {j k : Nat} {p s : Rat} {X : Mat} {c : Nat → Nat} {W : Mat} (h : Elim A n C B j k p s X c W) (hk : k < n) (hj : X k j ≠ 0) :
 Elim A n C B (j + 1) (k + 1) (X k j) s (stepX k j p X) (colS k j c) W where
 bar := h.bar.step hj
 kn := by omega
 kj := by have := h.kj; omega
 cj := fun l hl => by
  unfold colS
  split
  · omega
  · have := h.cj l (by omega); omega
 inc := fun l l' h1 h2 => by
  unfold colS
  by_cases e : l' = k
  · rw [if_pos e, if_neg (by omega)]; exact h.cj l (by omega)
  · rw [if_neg e, if_neg (by omega)]; exact h.inc l l' h1 (by omega)
 zero := fun i l hi hin hl => by
  unfold stepX
  rw [if_neg (by omega)]
  by_cases e : l = j
  · rw [e]; exact alg4 ..
  · rw [h.zero i l (by omega) hin (by omega), h.zero k l (Nat.le_refl k) hk (by omega)]; exact alg6 ..
 s0 := h.s0
 det := h.det
 rows := h.rows
 rows' := h.rows'
 size := h.size
theorem Elim.skip {A : Mat} {n C : Nat} {B : Rat} {j k : Nat} {p s : Rat} {X : Mat} {c : Nat → Nat} {W : Mat} (h : Elim A n C B j k p s X c W) (hj : ∀ i, k ≤ i → i < n → X i j = 0) :
 Elim A n C B (j + 1) k p s X c W :=
 { h with
  kj := by have := h.kj; omega
  cj := fun l hl => by have := h.cj l hl; omega
  zero := fun i l hi hin hl => by
   by_cases e : l = j
   · rw [e]; exact hj i hi hin
   · exact h.zero i l hi hin (by omega) }
theorem Elim.small {A : Mat} {n C : Nat} {B : Rat} {j k : Nat} {p s : Rat} {X : Mat} {c : Nat → Nat} {W : Mat} (h : Elim A n C B j k p s X c W) (hj : j ≤ C) :
 (Whole p ∧ qabs p ≤ fac n * B) ∧ ∀ i l, i < n → l < C → Whole (X i l) ∧ qabs (X i l) ≤ fac n * B := by
 obtain ⟨e, h1, h2, h3⟩ := h.size
 have hb : fac n * prodQ e n ≤ fac n * B := Rat.mul_le_mul_of_nonneg_left h3 (by have := fac_pos n; grind)
 have := h.bar.size (n := n) (C := C) (e := e) h.kn (fun l hl => by have := h.cj l hl; omega) h1 h2
 exact ⟨⟨this.1.1, Rat.le_trans this.1.2 hb⟩, fun i l hi hl => ⟨(this.2 i l hi hl).1, Rat.le_trans (this.2 i l hi hl).2 hb⟩⟩
theorem inc_id {c : Nat → Nat} {n : Nat} (h : ∀ l l', l < l' → l' < n → c l < c l') (hc : ∀ l, l < n → c l < n) : ∀ l, l < n → c l = l := by
 have low : ∀ l, l < n → l ≤ c l := by
  intro l
  induction l with
  | zero => intro _; omega
  | succ l ih => intro hl; have := ih (by omega); have := h l (l + 1) (by omega) hl; omega
 have high : ∀ d l, l + d + 1 = n → c l + d + 1 ≤ n := by
  intro d
  induction d with
  | zero => intro l hl; have := hc l (by omega); omega
  | succ d ih => intro l hl; have := ih (l + 1) (by omega); have := h l (l + 1) (by omega) (by omega); omega
 intro l hl
 have := low l hl
 have := high (n - l - 1) l (by omega)
 omega
theorem Elim.full {A : Mat} {n C : Nat} {B : Rat} {p s : Rat} {X : Mat} {c : Nat → Nat} {W : Mat} (h : Elim A n C B n n p s X c W) :
 p = s * LinM.det n A ∧ ∀ i l, i < n → p * A i l = sumQ (fun r => A i r * X r l) n := by
 have hc := inc_id h.inc h.cj
 refine ⟨?_, fun i l hi => ?_⟩
 · rw [h.bar.2.1, ← h.det fun l => l]
   exact det_congr n fun r l _ hl => by rw [hc l hl]
 · obtain ⟨i', h1, f, h2, h3⟩ := h.rows i hi
   have hb := h.bar.back h1 l
   rw [h3 l]
   have e : sumQ (fun r => A i r * X r l) n = f * sumQ (fun r => W i' (c r) * X r l) n := by
    rw [← sumQ_mul]
    exact sumQ_congr fun r hr => by rw [h3 r, hc r hr]; grind
   rw [e, ← hb]; grind
theorem Elim.less {A : Mat} {n C : Nat} {B : Rat} {k : Nat} {p s : Rat} {X : Mat} {c : Nat → Nat} {W : Mat} (h : Elim A n C B n k p s X c W) (hk : k < n) : LinM.det n A = 0 := by
 obtain ⟨⟨a, ha⟩, -⟩ := h.bar.2.2.2 k (Nat.le_refl k)
 have hp := h.bar.1
 have h1 : LinM.det n (setR W k fun l => p * W k l + 1 * sumQ (fun r => a r * W r l) k) = p * LinM.det n W := by
  rw [det_lin n W k p 1 (W k) _ hk, setR_self, (det_alt n).sum W k hk a W k, sumQ_zero fun r hr => by
   rw [det_equal n _ r k hr hk fun l => by unfold setR; rw [if_neg (by omega), if_pos rfl]]; grind]
  grind
 have h2 : LinM.det n (setR W k fun l => p * W k l + 1 * sumQ (fun r => a r * W r l) k) = 0 := by
  rw [det_congr n (M' := setR W k fun _ => 0) fun i l hi hl => by
   unfold setR
   by_cases e : i = k
   · rw [if_pos e, if_pos e]
     show p * W k l + 1 * sumQ (fun r => a r * W r l) k = 0
     rw [Rat.one_mul, ← ha l]; exact h.zero k l (Nat.le_refl k) hk hl
   · rw [if_neg e, if_neg e], det_zero_row n W k hk]
 rw [h2] at h1
 have h3 : LinM.det n W = 0 := by
  rcases Rat.mul_eq_zero.1 h1.symm with h | h
  · exact absurd h hp
  · exact h
 have h4 := h.det fun l => l
 rw [show (fun r l => W r l) = W from rfl, h3] at h4
 rcases Rat.mul_eq_zero.1 h4.symm with e | e
 · exact absurd e h.s0
 · exact e
end LinM
namespace LinM
def detC (n : Nat) (A : Mat) (i l : Nat) : Rat := det n (fun r c => A r (if c = i then l else c))
def solQ (n : Nat) (A : Mat) (i l : Nat) : Rat := detC n A i l / det n A
theorem Elim.cramer {A : Mat} {n C : Nat} {B : Rat} {p s : Rat} {X : Mat} {c : Nat → Nat} {W : Mat} (h : Elim A n C B n n p s X c W) {i : Nat} (hi : i < n) (l : Nat) : X i l = s * detC n A i l := by
 have hc := inc_id h.inc h.cj
 rw [h.bar.high hi l]
 unfold detC
 rw [← h.det fun q => if q = i then l else q]
 exact det_congr n fun r q _ hq => by
  show W r (if q = i then l else c q) = W r (if q = i then l else q)
  by_cases e : q = i
  · rw [if_pos e, if_pos e]
  · rw [if_neg e, if_neg e, hc q hq]
theorem Elim.det0 {A : Mat} {n C : Nat} {B : Rat} {p s : Rat} {X : Mat} {c : Nat → Nat} {W : Mat} (h : Elim A n C B n n p s X c W) : LinM.det n A ≠ 0 := by
 intro e
 have := h.full.1
 rw [e] at this
 exact h.bar.1 (by rw [this]; grind)
theorem Elim.sol {A : Mat} {n C : Nat} {B : Rat} {p s : Rat} {X : Mat} {c : Nat → Nat} {W : Mat} (h : Elim A n C B n n p s X c W) {i : Nat} (hi : i < n) (l : Nat) : X i l / p = solQ n A i l := by
 have h1 := h.full.1
 have h2 := h.cramer hi l
 have h3 := h.det0
 have h4 := h.s0
 unfold solQ
 rw [h2, h1]
 generalize LinM.det n A = D at h3 ⊢
 generalize detC n A i l = E
 grind
theorem Elim.solves {A : Mat} {n C : Nat} {B : Rat} {p s : Rat} {X : Mat} {c : Nat → Nat} {W : Mat} (h : Elim A n C B n n p s X c W) {i : Nat} (hi : i < n) (l : Nat) : A i l = sumQ (fun r => A i r * solQ n A r l) n := by
 have h1 := h.full.2 i l hi
 have h2 := h.bar.1
 have e : p * sumQ (fun r => A i r * solQ n A r l) n = sumQ (fun r => A i r * X r l) n := by
  rw [← sumQ_mul]
  exact sumQ_congr fun r hr => by
   rw [← h.sol hr l]
   generalize X r l = Y
   generalize A i r = Z
   grind
 rw [← e] at h1
 generalize sumQ (fun r => A i r * solQ n A r l) n = S at h1
 generalize A i l = Z at h1
 grind
end LinM
