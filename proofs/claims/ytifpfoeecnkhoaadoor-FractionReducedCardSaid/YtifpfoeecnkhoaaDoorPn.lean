/- Plain facts on lists of 32-bit limbs: products limb by limb, and shifts up and down by any number of binary digits. No program is read here. -/
import Derived.Test.YtifpfoeecnkhoaaDoorPm
namespace NatM

/-! Products -/
/-- Row i of a product, after j limbs of the second number. -/
def MulIn (zs0 ys zs : List Nat) (i x j c : Nat) : Prop :=
  zs.length = zs0.length ∧ val (zs.take (i + j)) + pw (i + j) * c = val (zs0.take (i + j)) + pw i * (x * val (ys.take j)) ∧ ∀ k, i + j ≤ k → zs.getD k 0 = zs0.getD k 0

theorem mulIn_zero (zs0 ys : List Nat) (i x : Nat) : MulIn zs0 ys zs0 i x 0 0 := by
  refine ⟨rfl, ?_, fun _ _ => rfl⟩
  simp [val]

theorem getD_set_ne (zs : List Nat) (k j s : Nat) (h : k ≠ j) : (zs.set k s).getD j 0 = zs.getD j 0 := by
  simp [List.getD, h]

theorem mulIn_step {zs0 ys zs : List Nat} {i x j c s c' : Nat} (h : MulIn zs0 ys zs i x j c) (hk : i + j < zs0.length) (e : s + 4294967296 * c' = x * ys.getD j 0 + zs.getD (i + j) 0 + c) : MulIn zs0 ys (zs.set (i + j) s) i x (j + 1) c' := by
  obtain ⟨hl, hv, ha⟩ := h
  refine ⟨by simpa using hl, ?_, ?_⟩
  · have ea : zs.getD (i + j) 0 = zs0.getD (i + j) 0 := ha _ (Nat.le_refl _)
    rw [← Nat.add_assoc, val_take_succ, val_take_succ, val_take_succ, take_set_lt, getD_set_self _ _ _ (by omega), pw_succ]
    rw [ea] at e
    have e1 : pw (i + j) * (s + 4294967296 * c') = pw (i + j) * (x * ys.getD j 0 + zs0.getD (i + j) 0 + c) := by rw [e]
    have e2 : pw (i + j) * (4294967296 * c') = 4294967296 * pw (i + j) * c' := by rw [← Nat.mul_assoc, Nat.mul_comm (pw (i + j))]
    have e3 : pw i * (x * (val (ys.take j) + pw j * ys.getD j 0)) = pw i * (x * val (ys.take j)) + pw (i + j) * (x * ys.getD j 0) := by
      rw [pw_add, Nat.mul_add, Nat.mul_add]
      congr 1
      simp only [Nat.mul_assoc, Nat.mul_left_comm]
    rw [e3]
    simp only [Nat.mul_add] at e1
    omega
  · intro k hk'
    rw [getD_set_ne _ _ _ _ (by omega)]
    exact ha k (by omega)

/-- A product after i rows. -/
def MulAt (xs ys zs : List Nat) (i : Nat) : Prop :=
  zs.length = xs.length + ys.length ∧ val (zs.take (i + ys.length)) = val (xs.take i) * val ys ∧ ∀ k, i + ys.length ≤ k → zs.getD k 0 = 0

theorem getD_replicate (n k : Nat) : (List.replicate n 0).getD k 0 = 0 := by
  simp only [List.getD, List.getElem?_replicate]; split <;> rfl

theorem mulAt_zero (xs ys : List Nat) : MulAt xs ys (List.replicate (xs.length + ys.length) 0) 0 := by
  refine ⟨by simp, ?_, fun k _ => getD_replicate _ _⟩
  rw [List.take_replicate, val_replicate]; simp [val]

theorem mulAt_step {xs ys zs zs' : List Nat} {i c : Nat} (h : MulAt xs ys zs i) (hi : i < xs.length) (g : MulIn zs ys zs' i (xs.getD i 0) ys.length c) : MulAt xs ys (zs'.set (i + ys.length) c) (i + 1) := by
  obtain ⟨hl, hv, ha⟩ := h
  obtain ⟨gl, gv, ga⟩ := g
  refine ⟨by simp [gl, hl], ?_, ?_⟩
  · rw [show i + 1 + ys.length = (i + ys.length) + 1 from by omega, val_take_succ, val_take_succ, take_set_lt, getD_set_self _ _ _ (by omega)]
    rw [List.take_length] at gv
    rw [gv, hv, Nat.add_mul, Nat.mul_assoc]
  · intro k hk
    rw [getD_set_ne _ _ _ _ (by omega), ga k (by omega)]
    exact ha k (by omega)

theorem mulAt_done {xs ys zs : List Nat} (h : MulAt xs ys zs xs.length) : val zs = val xs * val ys := by
  obtain ⟨hl, hv, _⟩ := h
  rw [List.take_length, ← hl, List.take_length] at hv
  exact hv

theorem mul_fits {x y z c : Nat} (hx : x < 4294967296) (hy : y < 4294967296) (hz : z < 4294967296) (hc : c < 4294967296) : x * y + z + c < 18446744073709551616 ∧ (x * y + z + c) / 4294967296 < 4294967296 := by
  have h1 : x * y ≤ 4294967295 * 4294967295 := Nat.mul_le_mul (by omega) (by omega)
  omega

/-! Shifts up -/
/-- The state of a shift up by 32 skip + t digits after i limbs. -/
def UpAt (xs zs : List Nat) (skip t i : Nat) : Prop :=
  val (zs.take (i + skip + 1)) = pw skip * (2 ^ t * val (xs.take i)) ∧ (zs.getD (i + skip) 0 < 2 ^ t) ∧ ∀ k, i + skip < k → zs.getD k 0 = 0

theorem upAt_zero (xs : List Nat) (skip t n : Nat) : UpAt xs (List.replicate n 0) skip t 0 := by
  refine ⟨?_, ?_, fun k _ => getD_replicate _ _⟩
  · rw [List.take_replicate, val_replicate]; simp [val]
  · rw [getD_replicate]; exact Nat.pow_pos (by decide)

theorem upAt_step {xs zs : List Nat} {skip t i : Nat} (h : UpAt xs zs skip t i) (hz : i + skip + 1 < zs.length) (_ht : t < 32) (hx : xs.getD i 0 < 4294967296) :
    UpAt xs ((zs.set (i + skip) (zs.getD (i + skip) 0 + (xs.getD i 0 * 2 ^ t) % 4294967296)).set (i + skip + 1) (xs.getD i 0 * 2 ^ t / 4294967296)) skip t (i + 1) := by
  obtain ⟨hv, hlow, ha⟩ := h
  have e : (i + 1 + skip) = i + skip + 1 := by omega
  refine ⟨?_, ?_, ?_⟩
  · rw [e, val_take_succ, take_set_lt, getD_set_self _ _ _ (by simpa using hz)]
    rw [val_take_succ, take_set_lt, getD_set_self _ _ _ (by omega)]
    rw [val_take_succ] at hv
    rw [val_take_succ, pw_succ]
    have e1 : pw (i + skip) * (xs.getD i 0 * 2 ^ t) = pw skip * (2 ^ t * (pw i * xs.getD i 0)) := by
      rw [pw_add]; simp only [Nat.mul_assoc, Nat.mul_comm]
    have e2 : pw (i + skip) * (xs.getD i 0 * 2 ^ t) = pw (i + skip) * (xs.getD i 0 * 2 ^ t % 4294967296) + 4294967296 * pw (i + skip) * (xs.getD i 0 * 2 ^ t / 4294967296) := by
      have := Nat.mod_add_div (xs.getD i 0 * 2 ^ t) 4294967296
      conv => lhs; rw [← this]
      rw [Nat.mul_add, ← Nat.mul_assoc, Nat.mul_comm (pw (i + skip)) 4294967296]
    rw [Nat.mul_add (2 ^ t), Nat.mul_add (pw skip), ← hv, ← e1, e2, Nat.mul_add]
    omega
  · rw [e, getD_set_self _ _ _ (by simpa using hz)]
    have h2 : 0 < 2 ^ t := Nat.pow_pos (by decide)
    exact Nat.div_lt_of_lt_mul (Nat.mul_lt_mul_of_pos_right hx h2)
  · intro k hk
    rw [getD_set_ne _ _ _ _ (by omega), getD_set_ne _ _ _ _ (by omega)]
    exact ha k (by omega)

theorem upAt_done {xs zs : List Nat} {skip t : Nat} (h : UpAt xs zs skip t xs.length) (hl : zs.length = xs.length + skip + 1) : val zs = val xs * 2 ^ (32 * skip + t) := by
  obtain ⟨hv, _⟩ := h
  rw [← hl, List.take_length, List.take_length] at hv
  rw [hv, Nat.pow_add, Nat.pow_mul]
  show pw skip * _ = val xs * (pw skip * 2 ^ t)
  simp only [Nat.mul_left_comm, Nat.mul_comm]

/-- Joining two disjoint parts of a limb bit by bit is adding them. -/
theorem or_low {a x t : Nat} (ha : a < 2 ^ t) (ht : t < 32) : (a ||| (x * 2 ^ t) % 4294967296) = a + (x * 2 ^ t) % 4294967296 := by
  have e : (x * 2 ^ t) % 4294967296 = (x % 2 ^ (32 - t)) * 2 ^ t := by
    have : (4294967296 : Nat) = 2 ^ (32 - t) * 2 ^ t := by rw [← Nat.pow_add, show 32 - t + t = 32 from by omega]
    rw [this, Nat.mul_mod_mul_right]
  rw [e, Nat.or_comm, ← Nat.shiftLeft_eq, ← Nat.shiftLeft_add_eq_or_of_lt ha, Nat.add_comm]

theorem low_fits {a x t : Nat} (ha : a < 2 ^ t) (ht : t < 32) : a + (x * 2 ^ t) % 4294967296 < 4294967296 := by
  have e : (x * 2 ^ t) % 4294967296 = (x % 2 ^ (32 - t)) * 2 ^ t := by
    have : (4294967296 : Nat) = 2 ^ (32 - t) * 2 ^ t := by rw [← Nat.pow_add, show 32 - t + t = 32 from by omega]
    rw [this, Nat.mul_mod_mul_right]
  have h1 : x % 2 ^ (32 - t) + 1 ≤ 2 ^ (32 - t) := Nat.mod_lt _ (Nat.pow_pos (by decide))
  have h2 : (x % 2 ^ (32 - t) + 1) * 2 ^ t ≤ 2 ^ (32 - t) * 2 ^ t := Nat.mul_le_mul_right _ h1
  have : (4294967296 : Nat) = 2 ^ (32 - t) * 2 ^ t := by rw [← Nat.pow_add, show 32 - t + t = 32 from by omega]
  rw [e]
  rw [Nat.add_mul] at h2
  omega

/-! Shifts down -/
/-- The limbs of a list moved down by t digits. -/
def shr (t : Nat) : List Nat → List Nat
  | [] => []
  | x :: xs => (x + 4294967296 * xs.headD 0) / 2 ^ t % 4294967296 :: shr t xs

theorem length_shr (t : Nat) (xs : List Nat) : (shr t xs).length = xs.length := by
  induction xs with
  | nil => rfl
  | cons x xs ih => simp [shr, ih]

theorem shr_limbs (t : Nat) (xs : List Nat) : Limbs (shr t xs) := by
  induction xs with
  | nil => exact Limbs.nil
  | cons x xs ih => exact Limbs.cons (Nat.mod_lt _ (by decide)) ih

theorem headD_mod (xs : List Nat) : ∃ q, val xs = xs.headD 0 + 4294967296 * q := by
  cases xs with
  | nil => exact ⟨0, rfl⟩
  | cons x xs => exact ⟨val xs, rfl⟩

theorem val_shr {t : Nat} {xs : List Nat} (ht : t < 32) (h : Limbs xs) : val (shr t xs) = val xs / 2 ^ t := by
  induction xs with
  | nil => simp [shr, val]
  | cons x xs ih =>
    obtain ⟨q, hq⟩ := headD_mod xs
    have hx := h.head
    have hB : (4294967296 : Nat) = 2 ^ t * 2 ^ (32 - t) := by rw [← Nat.pow_add, show t + (32 - t) = 32 from by omega]
    have hp : 0 < 2 ^ t := Nat.pow_pos (by decide)
    simp only [shr, val, ih h.tail]
    generalize xs.headD 0 = y at hq ⊢
    generalize val xs = W at hq ⊢
    have d1 : (x + 4294967296 * y) / 2 ^ t = x / 2 ^ t + 2 ^ (32 - t) * y := by
      rw [hB, Nat.mul_assoc, Nat.add_mul_div_left _ _ hp]
    have d2 : (x + 4294967296 * W) / 2 ^ t = x / 2 ^ t + 2 ^ (32 - t) * W := by
      rw [hB, Nat.mul_assoc, Nat.add_mul_div_left _ _ hp]
    rw [d1, d2]
    -- W = 2^t * (W / 2^t) + W % 2^t, and y ends as W does
    have m1 : y % 2 ^ t = W % 2 ^ t := by
      rw [hq, hB, Nat.mul_assoc, Nat.add_mul_mod_self_left]
    have small : x / 2 ^ t + 2 ^ (32 - t) * (y % 2 ^ t) < 4294967296 := by
      have a1 : x / 2 ^ t < 2 ^ (32 - t) := Nat.div_lt_of_lt_mul (by rw [← hB]; exact hx)
      have a2 : y % 2 ^ t + 1 ≤ 2 ^ t := Nat.mod_lt _ hp
      have a3 : 2 ^ (32 - t) * (y % 2 ^ t + 1) ≤ 2 ^ (32 - t) * 2 ^ t := Nat.mul_le_mul_left _ a2
      rw [Nat.mul_comm (2 ^ (32 - t)) (2 ^ t), ← hB, Nat.mul_add] at a3
      omega
    have e1 : (x / 2 ^ t + 2 ^ (32 - t) * y) % 4294967296 = x / 2 ^ t + 2 ^ (32 - t) * (y % 2 ^ t) := by
      conv => lhs; rw [← Nat.mod_add_div y (2 ^ t)]
      rw [Nat.mul_add, ← Nat.mul_assoc, Nat.mul_comm (2 ^ (32 - t)) (2 ^ t), ← hB, ← Nat.add_assoc, Nat.add_mul_mod_self_left]
      exact Nat.mod_eq_of_lt small
    rw [e1, m1]
    have e2 : 2 ^ (32 - t) * W = 2 ^ (32 - t) * (W % 2 ^ t) + 4294967296 * (W / 2 ^ t) := by
      conv => lhs; rw [← Nat.mod_add_div W (2 ^ t)]
      rw [Nat.mul_add, ← Nat.mul_assoc, Nat.mul_comm (2 ^ (32 - t)) (2 ^ t), ← hB]
    omega

theorem shr_getD (t : Nat) (xs : List Nat) (i : Nat) (h : i < xs.length) : (shr t xs).getD i 0 = (xs.getD i 0 + 4294967296 * xs.getD (i + 1) 0) / 2 ^ t % 4294967296 := by
  induction xs generalizing i with
  | nil => simp at h
  | cons x xs ih =>
    cases i with
    | zero => cases xs <;> simp [shr]
    | succ i =>
      have := ih i (by simpa using h)
      simpa [shr] using this

theorem val_drop_div {xs : List Nat} (h : Limbs xs) (k : Nat) (hk : k ≤ xs.length) : val (xs.drop k) = val xs / pw k := by
  have h1 := val_take_drop xs k hk
  have h2 : val (xs.take k) < pw k := by
    have := val_lt (h.take k)
    rwa [List.length_take, Nat.min_eq_left hk] at this
  rw [h1, Nat.add_mul_div_left _ _ (pw_pos k), Nat.div_eq_of_lt h2, Nat.zero_add]

/-- The limbs of a shift down by 32 skip + t digits. -/
theorem val_down {xs : List Nat} {skip t : Nat} (h : Limbs xs) (hk : skip ≤ xs.length) (ht : t < 32) : val (shr t (xs.drop skip)) = val xs / 2 ^ (32 * skip + t) := by
  rw [val_shr ht (h.drop _), val_drop_div h _ hk, Nat.div_div_eq_div_mul, Nat.pow_add, Nat.pow_mul]
  rfl

/-! Division by one limb, from the top -/
/-- The state of the division of the first m limbs of zs0 by d when the limbs from k on are done. -/
def DivAt (zs0 zs : List Nat) (m d k r : Nat) : Prop :=
  zs.length = zs0.length ∧ r < d ∧ val ((zs0.take m).drop k) = d * val ((zs.take m).drop k) + r ∧ (∀ i, i < k → zs.getD i 0 = zs0.getD i 0) ∧ zs.drop m = zs0.drop m

theorem divAt_top (zs : List Nat) (m d : Nat) (hd : 0 < d) : DivAt zs zs m d m 0 := by
  refine ⟨rfl, hd, ?_, fun _ _ => rfl, rfl⟩
  rw [List.drop_of_length_le (List.length_take_le _ _)]
  simp [val]

theorem drop_take_cons (zs : List Nat) (m j : Nat) (hj : j < m) (hm : m ≤ zs.length) : (zs.take m).drop j = zs.getD j 0 :: (zs.take m).drop (j + 1) := by
  have hl : j < (zs.take m).length := by rw [List.length_take]; omega
  rw [List.drop_eq_getElem_cons hl]
  congr 1
  rw [List.getElem_take]
  simp [List.getD, (by omega : j < zs.length)]

theorem take_drop_set (zs : List Nat) (m j q : Nat) : ((zs.set j q).take m).drop (j + 1) = (zs.take m).drop (j + 1) := by
  rw [List.take_set, List.drop_set]
  rw [if_pos (by omega)]

theorem divAt_step {zs0 zs : List Nat} {m d j r q r' : Nat} (h : DivAt zs0 zs m d (j + 1) r) (hj : j < m) (hm : m ≤ zs0.length) (hr : r' < d) (e : r * 4294967296 + zs0.getD j 0 = d * q + r') : DivAt zs0 (zs.set j q) m d j r' := by
  obtain ⟨hl, _, hv, ha, ht⟩ := h
  refine ⟨by simpa using hl, hr, ?_, ?_, ?_⟩
  · rw [drop_take_cons zs0 m j hj hm, drop_take_cons (zs.set j q) m j hj (by simpa [hl] using hm), take_drop_set, getD_set_self _ _ _ (by omega)]
    simp only [val]
    rw [hv, Nat.mul_add, Nat.mul_add]
    have e2 : d * (4294967296 * val (List.drop (j + 1) (List.take m zs))) = 4294967296 * (d * val (List.drop (j + 1) (List.take m zs))) := by rw [Nat.mul_left_comm]
    omega
  · intro i hi
    rw [getD_set_ne _ _ _ _ (by omega)]
    exact ha i (by omega)
  · rw [List.drop_set, if_pos hj]; exact ht

theorem divAt_done {zs0 zs : List Nat} {m d r : Nat} (h : DivAt zs0 zs m d 0 r) : val (zs.take m) = val (zs0.take m) / d ∧ r = val (zs0.take m) % d := by
  obtain ⟨_, hr, hv, _, _⟩ := h
  simp only [List.drop_zero] at hv
  rw [hv]
  have hd : 0 < d := by omega
  constructor
  · rw [Nat.mul_add_div hd, Nat.div_eq_of_lt hr, Nat.add_zero]
  · rw [Nat.mul_add_mod, Nat.mod_eq_of_lt hr]

end NatM
