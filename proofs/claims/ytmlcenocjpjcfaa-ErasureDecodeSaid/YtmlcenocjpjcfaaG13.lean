/- Plain facts on sums of multiples of rows; a row of bytes as a string. -/
import Derived.Test.YtmlcenocjpjcfaaG10
import Derived.Laws.BytesArg
namespace Go.Proofs.Ytmlcenocjpjcfaa
open Go.RowKit GfM

/-- Combining is linear in the factors, element by element. -/
theorem addTo_mix {A B R : List Nat} {c d x : Nat} (hA : Bys A) (hB : Bys B) (hR : Bys R) (hc : c < 256) (hd : d < 256) (hx : x < 256) (l1 : A.length = B.length) (l2 : A.length = R.length) :
    addTo (addTo A x B) (c ^^^ gm x d) R = addTo (addTo A c R) x (addTo B d R) := by
  induction A generalizing B R with
  | nil =>
    have h1 : B = [] := List.eq_nil_of_length_eq_zero (by simpa using l1.symm)
    have h2 : R = [] := List.eq_nil_of_length_eq_zero (by simpa using l2.symm)
    subst h1 h2; rfl
  | cons a A ih =>
    cases B with
    | nil => simp at l1
    | cons b B => cases R with
      | nil => simp at l2
      | cons r R =>
        have ha : a < 256 := hA a (by simp)
        have hb : b < 256 := hB b (by simp)
        have hr : r < 256 := hR r (by simp)
        simp only [addTo]
        rw [ih (fun y hy => hA y (by simp [hy])) (fun y hy => hB y (by simp [hy])) (fun y hy => hR y (by simp [hy])) (by simpa using l1) (by simpa using l2)]
        congr 1
        rw [gm_xor_l r hc (gm_lt hx), gm_xor_r, gm_assoc hx hd hr, xor4]
theorem getD_addTo' {A B : List Nat} {x i : Nat} (h : i < A.length) (h2 : i < B.length) : (addTo A x B).getD i 0 = A.getD i 0 ^^^ gm x (B.getD i 0) := by
  induction i generalizing A B with
  | zero =>
    cases A with
    | nil => simp at h
    | cons a A => cases B with
      | nil => simp at h2
      | cons b B => rfl
  | succ i ih =>
    cases A with
    | nil => simp at h
    | cons a A => cases B with
      | nil => simp at h2
      | cons b B => simp only [addTo, List.getD_cons_succ]; exact ih (by simpa using h) (by simpa using h2)
theorem bys_rep (L : Nat) : Bys (List.replicate L 0) := fun x hx => by rw [List.eq_of_mem_replicate hx]; decide
theorem addTo_rep (L x : Nat) : addTo (List.replicate L 0) x (List.replicate L 0) = List.replicate L 0 := by
  induction L with
  | zero => rfl
  | succ L ih => simp only [List.replicate_succ, addTo, ih, gm_zero_r, Nat.xor_self]
theorem comb_mix {L x : Nat} {cs ds : List Nat} {rs : List (List Nat)} (hc : Bys cs) (hd : Bys ds) (hx : x < 256) (hl : cs.length = ds.length) (hr : ∀ k, k < cs.length → (rs.getD k []).length = L ∧ Bys (rs.getD k [])) (k : Nat) (hk : k ≤ cs.length) :
    comb L (addTo cs x ds) rs k = addTo (comb L cs rs k) x (comb L ds rs k) := by
  induction k with
  | zero => exact (addTo_rep L x).symm
  | succ k ih =>
    rw [comb, comb, comb, ih (by omega), getD_addTo' (by omega) (by omega)]
    exact addTo_mix (bys_comb L rs hc k) (bys_comb L rs hd k) (hr k (by omega)).2 (hc.get k) (hd.get k) hx (by rw [length_comb, length_comb]) (by rw [length_comb, (hr k (by omega)).1])
/-- The first k elements of S, and zeros behind. -/
def fillTo (S : List Nat) (n k : Nat) : List Nat := S.take k ++ List.replicate (n - k) 0
theorem fillTo_zero (S : List Nat) (n : Nat) : fillTo S n 0 = List.replicate n 0 := by simp [fillTo]
theorem fillTo_all {S : List Nat} {n : Nat} (h : S.length = n) : fillTo S n n = S := by
  unfold fillTo; rw [Nat.sub_self, ← h, List.take_length]; simp
theorem fillTo_step {S : List Nat} {n k : Nat} (h : S.length = n) (hk : k < n) : (fillTo S n k).set k (S.getD k 0) = fillTo S n (k + 1) := by
  unfold fillTo
  have e : n - k = (n - (k + 1)) + 1 := by omega
  rw [e, List.replicate_succ, List.set_append_right _ _ (by rw [List.length_take]; omega), List.length_take, Nat.min_eq_left (by omega), Nat.sub_self, List.set_cons_zero, List.take_succ_eq_append_getElem (by omega), List.append_assoc]
  simp [List.getD, h, hk]
theorem length_fillTo {S : List Nat} {n k : Nat} (h : S.length = n) (hk : k ≤ n) : (fillTo S n k).length = n := by
  unfold fillTo; rw [List.length_append, List.length_take, List.length_replicate]; omega

/-- The bytes as a string. -/
def strOf (bs : List Nat) : ByteArray := strOfNums (bs.map fun n : Nat => (n : Int))
theorem Own.conv {w w' : World} {base g n : Nat} {bs : List Nat} (h : Own w base g n bs) (ha : Add w w') : (convert 32 9 (.slice (some ⟨g, 0, none⟩) n n)).run Try.prog w' = .ok (.string (strOf bs)) w' := by
  have hl := h.length
  have h' := h.below ha
  refine run_convert_bytes_arg (P := Try.prog) w' 32 5 Try.underlying32 Try.underlying5 g 0 n n (bs.map fun n : Nat => (n : Int)) (by rw [List.length_map, hl]) (fun i hi => ?_) 9 Try.underlying9
  rw [Nat.zero_add, h'.cell i hi]
  simp [List.getD, hl, hi]
end Go.Proofs.Ytmlcenocjpjcfaa
