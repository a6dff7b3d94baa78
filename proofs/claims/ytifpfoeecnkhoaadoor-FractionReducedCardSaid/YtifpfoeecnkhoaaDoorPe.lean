/- Lehmer's leaps: quotients guessed from the leading digits. -/
import Derived.Test.YtifpfoeecnkhoaaDoorPm
namespace NatM

def sg (e : Bool) : Int := if e then 1 else -1
theorem sg_not (e : Bool) : sg (!e) = - sg e := by cases e <;> rfl

/-- Where Euclid's algorithm stands: p, q, r, t are the factors' sizes, x, y what the leading digits give, U, V the true numbers. -/
structure Leap (A B X0 Y0 : Nat) (e : Bool) (p q r t x y U V : Nat) : Prop where
  size : X0 = t * x + q * y
  rt : r ≤ t
  tp : 0 < t
  pq : p ≤ q ∨ (p = 1 ∧ q = 0 ∧ r = 0 ∧ t = 1)
  ord : y ≤ x
  hx : (x : Int) = sg e * (p * X0 - q * Y0)
  hy : (y : Int) = sg e * (t * Y0 - r * X0)
  hU : (U : Int) = sg e * (p * A - q * B)
  hV : (V : Int) = sg e * (t * B - r * A)
  gcd : Nat.gcd U V = Nat.gcd A B
  le : V ≤ B

theorem Leap.start {A B X0 Y0 : Nat} (h : Y0 ≤ X0) : Leap A B X0 Y0 true 1 0 0 1 X0 Y0 A B :=
  ⟨by omega, by omega, by omega, .inr ⟨rfl, rfl, rfl, rfl⟩, h, by simp [sg], by simp [sg], by simp [sg], by simp [sg], rfl, Nat.le_refl _⟩

theorem Leap.size' {A B X0 Y0 : Nat} {e : Bool} {p q r t x y U V : Nat} (h : Leap A B X0 Y0 e p q r t x y U V) : X0 = (q + x / y * t) * y + t * (x % y) := by
  have h1 := Nat.div_add_mod x y
  have h2 := h.size
  obtain ⟨k, hk⟩ : ∃ k, k = x / y := ⟨_, rfl⟩
  obtain ⟨m, hm⟩ : ∃ m, m = x % y := ⟨_, rfl⟩
  rw [← hk, ← hm] at h1 ⊢
  subst h1
  grind

theorem Leap.fac {A B X0 Y0 : Nat} {e : Bool} {p q r t x y U V : Nat} (h : Leap A B X0 Y0 e p q r t x y U V) (hy0 : 0 < y) :
    p + x / y * r ≤ q + x / y * t ∧ 1 ≤ x / y ∧ t ≤ q + x / y * t := by
  have hk : 1 ≤ x / y := (Nat.le_div_iff_mul_le hy0).2 (by have := h.ord; omega)
  have h1 : x / y * r ≤ x / y * t := Nat.mul_le_mul_left _ h.rt
  have h2 : 1 * t ≤ x / y * t := Nat.mul_le_mul_right _ hk
  refine ⟨?_, hk, by omega⟩
  rcases h.pq with g | ⟨rfl, rfl, rfl, rfl⟩
  · omega
  · omega

/-- No factor is too great to be computed. -/
theorem Leap.bound {A B X0 Y0 : Nat} {e : Bool} {p q r t x y U V : Nat} (h : Leap A B X0 Y0 e p q r t x y U V) (hy0 : 0 < y) :
    q + x / y * t ≤ X0 := by
  have h1 := h.size'
  have h2 : (q + x / y * t) * 1 ≤ (q + x / y * t) * y := Nat.mul_le_mul_left _ hy0
  omega

theorem Leap.step {A B X0 Y0 : Nat} {e : Bool} {p q r t x y U V S α β : Nat} (h : Leap A B X0 Y0 e p q r t x y U V) (hA : A = X0 * S + α) (hB : B = Y0 * S + β) (hα : α < S) (hβ : β < S) (hy0 : 0 < y)
    (c1 : q + x / y * t ≤ x % y) (c2 : t + (q + x / y * t) ≤ y - x % y) :
    ∃ V', V' < V ∧ Leap A B X0 Y0 (!e) r t (p + x / y * r) (q + x / y * t) y (x % y) V V' := by
  have hs := h.size'
  have hf := h.fac hy0
  have hm : x % y < y := Nat.mod_lt _ hy0
  have hdm := Nat.div_add_mod x y
  obtain ⟨k, hk⟩ : ∃ k, k = x / y := ⟨_, rfl⟩
  obtain ⟨m, hme⟩ : ∃ m, m = x % y := ⟨_, rfl⟩
  rw [← hk, ← hme] at hs c1 c2 hdm ⊢
  rw [← hk] at hf
  rw [← hme] at hm
  obtain ⟨r', hr'⟩ : ∃ r', r' = p + k * r := ⟨_, rfl⟩
  obtain ⟨t', ht'⟩ : ∃ t', t' = q + k * t := ⟨_, rfl⟩
  rw [← ht'] at hs c1 c2
  rw [← hr', ← ht'] at hf ⊢
  have ir : (r' : Int) = p + k * r := by rw [hr']; simp
  have it : (t' : Int) = q + k * t := by rw [ht']; simp
  have im : (m : Int) = x - k * y := by
    have : (y : Int) * k + m = x := by exact_mod_cast hdm
    rw [← this]; grind
  have hm' : (m : Int) = sg (!e) * (t' * Y0 - r' * X0) := by
    rw [sg_not, im, ir, it, h.hx, h.hy]; grind
  -- what is left of U
  obtain ⟨W, hW⟩ : ∃ W : Int, W = U - k * V := ⟨_, rfl⟩
  have hW' : W = sg (!e) * (t' * B - r' * A) := by
    rw [sg_not, hW, ir, it, h.hU, h.hV]; grind
  have iA : (A : Int) = X0 * S + α := by rw [hA]; simp
  have iB : (B : Int) = Y0 * S + β := by rw [hB]; simp
  have hWm : W = m * S + sg (!e) * (t' * β - r' * α) := by
    rw [hW', hm', iA, iB]; grind
  have hVy : (V : Int) = y * S + sg e * (t * β - r * α) := by
    rw [h.hV, h.hy, iA, iB]; grind
  have tβ : t' * β ≤ t' * S := Nat.mul_le_mul_left _ (by omega)
  have rα : r' * α ≤ t' * S := Nat.le_trans (Nat.mul_le_mul_right _ hf.1) (Nat.mul_le_mul_left _ (by omega))
  have mS : t' * S ≤ m * S := Nat.mul_le_mul_right _ c1
  have W0 : 0 ≤ W := by
    rw [hWm]
    have a1 : (t' : Int) * β ≤ t' * S := by exact_mod_cast tβ
    have a2 : (r' : Int) * α ≤ t' * S := by exact_mod_cast rα
    have a3 : (t' : Int) * S ≤ m * S := by exact_mod_cast mS
    have a4 : (0 : Int) ≤ (t' : Int) * β := by exact_mod_cast Nat.zero_le (t' * β)
    have a5 : (0 : Int) ≤ (r' : Int) * α := by exact_mod_cast Nat.zero_le (r' * α)
    cases e <;> simp only [sg, Bool.not_true, Bool.not_false, if_true, if_false, Bool.false_eq_true] <;> omega
  have hlt : W < V := by
    rw [hWm, hVy]
    have b1 : (t + t') * S ≤ (y - m) * S := Nat.mul_le_mul_right _ c2
    have b2 : (y - m) * S = y * S - m * S := Nat.sub_mul _ _ _
    have b3 : m * S ≤ y * S := Nat.mul_le_mul_right _ (by omega)
    have b4 : (t + t') * β < (t + t') * S := Nat.mul_lt_mul_of_pos_left hβ (by have := h.tp; omega)
    have b5 : (r + r') * α ≤ (t + t') * α := Nat.mul_le_mul_right _ (by have := h.rt; omega)
    have b6 : (t + t') * α < (t + t') * S := Nat.mul_lt_mul_of_pos_left hα (by have := h.tp; omega)
    rw [Nat.add_mul] at b1 b4 b5 b6
    rw [Nat.add_mul] at b4 b5 b6
    have c1 : (t : Int) * S + t' * S + m * S ≤ y * S := by exact_mod_cast (by omega : t * S + t' * S + m * S ≤ y * S)
    have c4 : (t : Int) * β + t' * β < t * S + t' * S := by exact_mod_cast b4
    have c5 : (r : Int) * α + r' * α < t * S + t' * S := by exact_mod_cast (by omega : r * α + r' * α < t * S + t' * S)
    have d1 : (0 : Int) ≤ (t : Int) * β := by exact_mod_cast Nat.zero_le (t * β)
    have d2 : (0 : Int) ≤ (t' : Int) * β := by exact_mod_cast Nat.zero_le (t' * β)
    have d3 : (0 : Int) ≤ (r : Int) * α := by exact_mod_cast Nat.zero_le (r * α)
    have d4 : (0 : Int) ≤ (r' : Int) * α := by exact_mod_cast Nat.zero_le (r' * α)
    cases e <;> simp only [sg, Bool.not_true, Bool.not_false, if_true, if_false, Bool.false_eq_true] <;> omega
  obtain ⟨V', rfl⟩ : ∃ V' : Nat, W = V' := ⟨W.toNat, by omega⟩
  have hUV : U = V' + k * V := by
    have : (U : Int) = V' + k * V := by omega
    exact_mod_cast this
  refine ⟨V', by omega, ?_⟩
  refine ⟨hs, hf.1, by have := h.tp; omega, .inl h.rt, by omega, ?_, hm', ?_, hW', ?_, by have := h.le; omega⟩
  · rw [sg_not, h.hy]; grind
  · rw [sg_not, h.hV]; grind
  · rw [← h.gcd, hUV, Nat.gcd_comm V V', Nat.gcd_add_mul_right_left]

/-- The factors of a leap that was taken are short. -/
theorem Leap.short {A B X0 Y0 : Nat} {e : Bool} {p q r t x y U V : Nat} (h : Leap A B X0 Y0 e p q r t x y U V) (hX : X0 < 2 ^ 62) (h1 : t ≤ y) : t < 2147483648 := by
  rcases Nat.lt_or_ge t 2147483648 with g | g
  · exact g
  · have h2 : 2147483648 * 2147483648 ≤ t * x := Nat.mul_le_mul g (by have := h.ord; omega)
    have := h.size
    omega
end NatM
