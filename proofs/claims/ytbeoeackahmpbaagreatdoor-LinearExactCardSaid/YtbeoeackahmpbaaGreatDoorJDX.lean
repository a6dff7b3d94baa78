import Derived.Test.YtbeoeackahmpbaaGreatDoorJV5
import Derived.Test.YtbeoeackahmpbaaGreatDoorJV3
import Derived.Test.YtbeoeackahmpbaaGreatDoorJD
import Derived.Test.YtbeoeackahmpbaaGreatDoorJV6
namespace Go.Proofs.YtbeoeackahmpbaaGreatDoor
open Go.RowKit NatM Go.Proofs.YtbeoeackahmpbaaGreatDoor.Api LinM
def DBd (N D : Nat) (q : Rat) : Prop := ∃ (z : Int) (d : Nat), 0 < d ∧ d ≤ D ∧ z.natAbs ≤ N ∧ q = (z : Rat) / (d : Rat)
theorem sgq_self (z : Int) : sgq (decide (z < 0)) z.natAbs = z := by
 unfold sgq
 by_cases c : z < 0
 · rw [decide_eq_true c]; simp; omega
 · rw [decide_eq_false c]; simp; omega
theorem DBd.fit {N D : Nat} {q : Rat} (h : DBd N D q) (hN : N < pw 128) (hD : D < pw 128) : Fit q := by
 obtain ⟨z, d, h1, h2, h3, rfl⟩ := h
 have e : (z : Rat) / (d : Rat) = qv (decide (z < 0), z.natAbs, d) := by
  show _ = mkRat (sgq (decide (z < 0)) z.natAbs) d
  rw [sgq_self, Rat.mkRat_eq_div]
 rw [e]
 exact fit_red (okF_iff.2 ⟨by dsimp only; omega, by dsimp only; omega, by dsimp only; omega⟩)
theorem DBd.up {N D N' D' : Nat} {q : Rat} (h : DBd N D q) (hN : N ≤ N') (hD : D ≤ D') : DBd N' D' q := by
 obtain ⟨z, d, h1, h2, h3, e⟩ := h
 exact ⟨z, d, h1, by omega, by omega, e⟩
theorem nat_ne {d : Nat} (h : 0 < d) : (d : Rat) ≠ 0 := fun e => by
 have := Rat.natCast_eq_zero_iff.1 e
 omega
theorem DBd.mul {N D M E : Nat} {x y : Rat} (hx : DBd N D x) (hy : DBd M E y) : DBd (N * M) (D * E) (x * y) := by
 obtain ⟨z, d, h1, h2, h3, rfl⟩ := hx
 obtain ⟨u, e, k1, k2, k3, rfl⟩ := hy
 refine ⟨z * u, d * e, Nat.mul_pos h1 k1, Nat.mul_le_mul h2 k2, by rw [Int.natAbs_mul]; exact Nat.mul_le_mul h3 k3, ?_⟩
 have n1 := nat_ne h1
 have n2 := nat_ne k1
 rw [Rat.intCast_mul, Rat.natCast_mul]
 grind
theorem DBd.add {N D M E : Nat} {x y : Rat} (hx : DBd N D x) (hy : DBd M E y) : DBd (N * E + M * D) (D * E) (x + y) := by
 obtain ⟨z, d, h1, h2, h3, rfl⟩ := hx
 obtain ⟨u, e, k1, k2, k3, rfl⟩ := hy
 refine ⟨z * e + u * d, d * e, Nat.mul_pos h1 k1, Nat.mul_le_mul h2 k2, ?_, ?_⟩
 · refine Nat.le_trans (Int.natAbs_add_le _ _) (Nat.add_le_add ?_ ?_)
   · rw [Int.natAbs_mul, Int.natAbs_natCast]; exact Nat.mul_le_mul h3 k2
   · rw [Int.natAbs_mul, Int.natAbs_natCast]; exact Nat.mul_le_mul k3 h2
 · have n1 := nat_ne h1
   have n2 := nat_ne k1
   rw [Rat.intCast_add, Rat.intCast_mul, Rat.intCast_mul, Rat.natCast_mul, Rat.intCast_natCast, Rat.intCast_natCast]
   grind
section
variable (x y : Nat → Rat)
def nbP (k : Nat) : Nat := nb (x k).num.natAbs + nb (y k).num.natAbs
def dbP (k : Nat) : Nat := dbits (x k) + dbits (y k)
variable {x y} {m x0 : Nat}
end
end Go.Proofs.YtbeoeackahmpbaaGreatDoor
namespace LinM
structure RefE (A : Mat) (n C : Nat) (B : Rat) (j k : Nat) (p s : Rat) (X : Mat) (c : Nat → Nat) (W : Mat) (f : Nat → Rat) (u d : Rat) : Prop where
 el : Elim A n C B j k p s X c W
 f0 : ∀ i, i < n → f i ≠ 0
 fk : ∀ i, i < k → f i = 1
 u0 : u ≠ 0
 du : d * u = p
 su : s = u * prodQ f n
 size : ∃ e : Nat → Rat, (∀ i l, i < n → l < C → Whole (W i l) ∧ qabs (W i l) ≤ e i) ∧ (∀ i, i < n → 1 ≤ e i) ∧ prodQ e n ≤ B ∧ (∀ i, i < n → Whole (f i) ∧ qabs (f i) ≤ e i) ∧ Whole u ∧ qabs u ≤ prodQ e k
def refT (p : Rat) (X : Mat) (f : Nat → Rat) : Mat := fun i l => X i l / (p * f i)
theorem qabs_neg (x : Rat) : qabs (-x) = qabs x := by unfold qabs; split <;> split <;> grind
theorem qabs_one : qabs 1 = 1 := by unfold qabs; rw [if_neg (by decide)]
section
variable {A : Mat} {n C : Nat} {B : Rat} {j k : Nat} {p s : Rat} {X : Mat} {c : Nat → Nat} {W : Mat} {f : Nat → Rat} {u d : Rat}
theorem RefE.start {e : Nat → Rat} (h : Elim A n C B 0 0 1 (prodQ f n) W (fun l => l) W) (hf : ∀ i, i < n → f i ≠ 0) (hs : ∀ i l, i < n → l < C → Whole (W i l) ∧ qabs (W i l) ≤ e i) (he : ∀ i, i < n → 1 ≤ e i) (hB : prodQ e n ≤ B) (hfe : ∀ i, i < n → Whole (f i) ∧ qabs (f i) ≤ e i) :
 RefE A n C B 0 0 1 (prodQ f n) W (fun l => l) W f 1 1 :=
 ⟨h, hf, fun i hi => by omega, by decide, Rat.one_mul 1, (Rat.one_mul _).symm, e, hs, he, hB, hfe, ⟨1, rfl⟩, by rw [qabs_one]; exact Rat.le_refl⟩
theorem RefE.swap (h : RefE A n C B j k p s X c W f u d) {i : Nat} (hi : k < i) (hin : i < n) :
 RefE A n C B j k p (-s) (swapR i k X) c (swapR i k W) (fun a => f (sw i k a)) (-u) (-d) where
 el := h.el.swap hi hin
 f0 := fun a ha => h.f0 _ (sw_lt hin (by omega) ha)
 fk := fun a ha => by rw [sw_low (k := k) (by omega) (Nat.le_refl k) ha]; exact h.fk a ha
 u0 := by have := h.u0; grind
 du := by have := h.du; grind
 su := by
  rw [prodQ_swap hin (by omega) h.f0]
  have := h.su; grind
 size := by
  obtain ⟨e, h1, h2, h3, h4, h5, h6⟩ := h.size
  refine ⟨fun a => e (sw i k a), fun a l ha hl => h1 _ l (sw_lt hin (by omega) ha) hl, fun a ha => h2 _ (sw_lt hin (by omega) ha), ?_, fun a ha => h4 _ (sw_lt hin (by omega) ha), h5.neg, ?_⟩
  · rw [prodQ_swap hin (by omega) fun a ha => by have := h2 a ha; grind]
    exact h3
  · rw [qabs_neg, prodQ_congr (e' := e) fun a ha => by rw [sw_low (k := k) (by omega) (Nat.le_refl k) ha]]
    exact h6
theorem RefE.skip (h : RefE A n C B j k p s X c W f u d) (hj : ∀ i, k ≤ i → i < n → X i j = 0) : RefE A n C B (j + 1) k p s X c W f u d :=
 ⟨h.el.skip hj, h.f0, h.fk, h.u0, h.du, h.su, h.size⟩
theorem RefE.rest (h : RefE A n C B j n p s X c W f u d) : ∀ q, RefE A n C B (j + q) n p s X c W f u d
 | 0 => h
 | q + 1 => (RefE.rest h q).skip fun i h1 h2 => by omega
def setF (f : Nat → Rat) (k : Nat) : Nat → Rat := fun i => if i = k then 1 else f i
theorem alg20 {d u p x q : Rat} (hp : p ≠ 0) (hq : q ≠ 0) (h : d * u = p) : d * (x / (p * q)) * (u * q) = x := by
 have e : d * (x / (p * q)) * (u * q) = d * u * x / p := by grind
 rw [e, h]; grind
theorem RefE.step (h : RefE A n C B j k p s X c W f u d) (hk : k < n) (hj : X k j ≠ 0) :
 RefE A n C B (j + 1) (k + 1) (X k j) s (stepX k j p X) (colS k j c) W (setF f k) (u * f k) (d * refT p X f k j) where
 el := h.el.step hk hj
 f0 := fun i hi => by
  unfold setF
  split
  · decide
  · exact h.f0 i hi
 fk := fun i hi => by
  unfold setF
  split
  · rfl
  · exact h.fk i (by omega)
 u0 := fun e => by
  rcases Rat.mul_eq_zero.1 e with e | e
  · exact h.u0 e
  · exact h.f0 k hk e
 du := alg20 h.el.bar.1 (h.f0 k hk) h.du
 su := by
  have h1 := prodQ_set f 1 hk
  have h2 := h.su
  have h3 := h.f0 k hk
  show s = u * f k * prodQ (fun i => if i = k then 1 else f i) n
  rw [h2]
  generalize prodQ (fun i => if i = k then 1 else f i) n = P at h1 ⊢
  generalize prodQ f n = Q at h1 ⊢
  grind
 size := by
  obtain ⟨e, h1, h2, h3, h4, h5, h6⟩ := h.size
  refine ⟨e, h1, h2, h3, fun i hi => ?_, h5.mul (h4 k hk).1, ?_⟩
  · unfold setF
    split
    · exact ⟨⟨1, rfl⟩, by rw [qabs_one]; exact h2 i hi⟩
    · exact h4 i hi
  · rw [qabs_mul]
    show _ ≤ prodQ e k * e k
    have a1 : qabs u * qabs (f k) ≤ prodQ e k * qabs (f k) := Rat.mul_le_mul_of_nonneg_right h6 (qabs_nonneg _)
    have a2 : prodQ e k * qabs (f k) ≤ prodQ e k * e k := Rat.mul_le_mul_of_nonneg_left (h4 k hk).2 (prodQ_nonneg fun i hi => by have := h2 i (by omega); grind)
    exact Rat.le_trans a1 a2
theorem RefE.row (h : RefE A n C B j k p s X c W f u d) (hk : k < n) (hj : X k j ≠ 0) (l : Nat) : refT p X f k l / refT p X f k j = refT (X k j) (stepX k j p X) (setF f k) k l := by
 have h1 := h.el.bar.1
 have h2 := h.f0 k hk
 unfold refT stepX setF
 rw [if_pos rfl, if_pos rfl]
 generalize X k j = x at hj ⊢
 generalize X k l = y
 generalize f k = q at h2 ⊢
 grind
theorem alg21 {p q x a b y : Rat} (hp : p ≠ 0) (hq : q ≠ 0) (hx : x ≠ 0) : a / (p * q) + -(b / (p * q) * (y / (x * 1))) = (x * a - b * y) / p / (x * q) := by grind
theorem RefE.others (h : RefE A n C B j k p s X c W f u d) (hj : X k j ≠ 0) {i : Nat} (hi : i < n) (he : i ≠ k) (l : Nat) :
 refT p X f i l + -(refT p X f i j * refT (X k j) (stepX k j p X) (setF f k) k l) = refT (X k j) (stepX k j p X) (setF f k) i l := by
 have h1 := h.el.bar.1
 have h2 := h.f0 i hi
 unfold refT stepX setF
 rw [if_pos rfl, if_pos rfl, if_neg he, if_neg he]
 exact alg21 h1 h2 hj
theorem RefE.small (h : RefE A n C B j k p s X c W f u d) (hj : j ≤ C) : (∀ i l, i < n → l < C → Whole (X i l) ∧ qabs (X i l) ≤ fac n * B) ∧ (∀ i, i < n → Whole (p * f i) ∧ qabs (p * f i) ≤ fac n * B) ∧ (Whole p ∧ qabs p ≤ fac n * B) ∧ Whole u ∧ qabs u ≤ fac n * B := by
 obtain ⟨s1, s2⟩ := h.el.small hj
 obtain ⟨e, h1, h2, h3, h4, h5, h6⟩ := h.size
 have hkn := h.el.kn
 have hP : ∀ m, m ≤ n → 0 ≤ prodQ e m := fun m hm => prodQ_nonneg fun i hi => by have := h2 i (by omega); grind
 have hf := fac_pos n
 have hb : fac n * prodQ e n ≤ fac n * B := Rat.mul_le_mul_of_nonneg_left h3 (by grind)
 refine ⟨s2, fun i hi => ?_, s1, h5, ?_⟩
 · by_cases ck : i < k
   · rw [h.fk i ck, Rat.mul_one]; exact s1
   · refine ⟨s1.1.mul (h4 i hi).1, ?_⟩
     have hp := h.el.bar.2.1
     have hdb := det_bound k (fun r l => W r (c l)) e (fun i hi => by have := h2 i (by omega); grind) fun r l hr hl => (h1 r _ (by omega) (by have := h.el.cj l hl; omega)).2
     rw [← hp] at hdb
     rw [qabs_mul]
     have a1 : qabs p * qabs (f i) ≤ fac k * prodQ e k * qabs (f i) := Rat.mul_le_mul_of_nonneg_right hdb (qabs_nonneg _)
     have a2 : fac k * prodQ e k * qabs (f i) ≤ fac k * prodQ e k * e i := Rat.mul_le_mul_of_nonneg_left (h4 i hi).2 (Rat.mul_nonneg (by have := fac_pos k; grind) (hP k hkn))
     have a3 : fac k * (prodQ e k * e i) ≤ fac k * prodQ e n := Rat.mul_le_mul_of_nonneg_left (prodQ_more (by omega) hi h2) (by have := fac_pos k; grind)
     have a4 : fac k * prodQ e n ≤ fac n * prodQ e n := Rat.mul_le_mul_of_nonneg_right (fac_le hkn) (hP n (Nat.le_refl n))
     have a5 : fac k * prodQ e k * e i = fac k * (prodQ e k * e i) := by grind
     rw [a5] at a2
     exact Rat.le_trans a1 (Rat.le_trans a2 (Rat.le_trans a3 (Rat.le_trans a4 hb)))
 · have a1 := prodQ_le hkn h2
   have a2 : 1 * prodQ e n ≤ fac n * prodQ e n := Rat.mul_le_mul_of_nonneg_right hf (hP n (Nat.le_refl n))
   rw [Rat.one_mul] at a2
   exact Rat.le_trans h6 (Rat.le_trans a1 (Rat.le_trans a2 hb))
theorem prodQ_one {f : Nat → Rat} {n : Nat} (h : ∀ i, i < n → f i = 1) : prodQ f n = 1 := by
 induction n with
 | zero => rfl
 | succ n ih => show prodQ f n * f n = 1; rw [ih fun i hi => h i (by omega), h n (by omega)]; exact Rat.one_mul 1
end
theorem RefE.full {A : Mat} {n C : Nat} {B : Rat} {p s : Rat} {X : Mat} {c : Nat → Nat} {W : Mat} {f : Nat → Rat} {u d : Rat} (h : RefE A n C B n n p s X c W f u d) : d = det n A := by
 have h1 := h.su
 rw [prodQ_one h.fk] at h1
 have h2 := h.el.full.1
 have h3 := h.du
 have h4 := h.u0
 rw [← h3, h1] at h2
 generalize det n A = D at h2 ⊢
 grind
theorem RefE.sol {A : Mat} {n C : Nat} {B : Rat} {p s : Rat} {X : Mat} {c : Nat → Nat} {W : Mat} {f : Nat → Rat} {u d : Rat} (h : RefE A n C B n n p s X c W f u d) {i : Nat} (hi : i < n) (l : Nat) : refT p X f i l = X i l / p := by
 unfold refT
 rw [h.fk i hi, Rat.mul_one]
end LinM
namespace Go.Proofs.YtbeoeackahmpbaaGreatDoor
open Go.RowKit NatM Go.Proofs.YtbeoeackahmpbaaGreatDoor.Api LinM
theorem ref_start (A : Mat) (n m x : Nat) (hw : wtM (fun i j => can (A i j)) (fun _ => m) n ≤ x) :
 RefE A n m ((2 ^ x : Nat) : Rat) 0 0 1 ((scN A m n : Nat) : Rat) (fun i l => ((wf (A i) m : Nat) : Rat) * A i l) (fun l => l) (fun i l => ((wf (A i) m : Nat) : Rat) * A i l) (fun i => ((wf (A i) m : Nat) : Rat)) 1 1 := by
 have h := elim_start A n m x hw
 rw [scN_prod] at h ⊢
 refine RefE.start (e := fun i => ((2 ^ wtR (fun j => can (A i j)) m : Nat) : Rat)) h (fun i _ e => ?_) (fun i l _ hl => (whole_wb (A i) m l hl).whole) (fun i _ => ?_) ?_ fun i _ => ?_
 · have h1 := wf_pos (A i) m
   have h2 := (Rat.natCast_le_natCast (a := wf (A i) m) (b := 0)).1 (by rw [e]; exact Rat.le_refl)
   omega
 · have := (Rat.natCast_le_natCast (a := 1) (b := 2 ^ wtR (fun j => can (A i j)) m)).2 (Nat.one_le_two_pow)
   simpa using this
 · rw [prod_two]
   exact Rat.natCast_le_natCast.2 (Nat.pow_le_pow_right (by decide) hw)
 · exact ((wb_nat _).up (wf_wt (A i) (Nat.le_refl m))).whole
theorem refT_start (A : Mat) (m i l : Nat) : refT 1 (fun i l => ((wf (A i) m : Nat) : Rat) * A i l) (fun i => ((wf (A i) m : Nat) : Rat)) i l = A i l := by
 have h : ((wf (A i) m : Nat) : Rat) ≠ 0 := nat_ne (wf_pos (A i) m)
 show ((wf (A i) m : Nat) : Rat) * A i l / (1 * ((wf (A i) m : Nat) : Rat)) = A i l
 generalize ((wf (A i) m : Nat) : Rat) = q at h ⊢
 generalize A i l = a
 grind
section
variable {A : Mat} {n C x : Nat} {j k : Nat} {p s : Rat} {X : Mat} {c : Nat → Nat} {W : Mat} {f : Nat → Rat} {u d : Rat}
theorem RefE.wb (h : RefE A n C ((2 ^ x : Nat) : Rat) j k p s X c W f u d) (hn : n ≤ 24) (hj : j ≤ C) :
 (∀ i l, i < n → l < C → WB (2 ^ (80 + x)) (X i l)) ∧ (∀ i, i < n → WB (2 ^ (80 + x)) (p * f i)) ∧ WB (2 ^ (80 + x)) p ∧ WB (2 ^ (80 + x)) u := by
 have hb : fac n * ((2 ^ x : Nat) : Rat) ≤ ((2 ^ (80 + x) : Nat) : Rat) := by
  have h1 := fac24 n hn
  have h2 : fac n * ((2 ^ x : Nat) : Rat) ≤ ((2 ^ 80 : Nat) : Rat) * ((2 ^ x : Nat) : Rat) := Rat.mul_le_mul_of_nonneg_right h1 (by
   have := (Rat.natCast_le_natCast (a := 0) (b := 2 ^ x)).2 (Nat.zero_le _)
   simpa using this)
  rw [← Rat.natCast_mul, ← Nat.pow_add] at h2
  exact h2
 obtain ⟨h1, h2, h3, h4⟩ := LinM.RefE.small h hj
 exact ⟨fun i l hi hl => wb_of (h1 i l hi hl).1 (Rat.le_trans (h1 i l hi hl).2 hb), fun i hi => wb_of (h2 i hi).1 (Rat.le_trans (h2 i hi).2 hb), wb_of h3.1 (Rat.le_trans h3.2 hb), wb_of h4.1 (Rat.le_trans h4.2 hb)⟩
theorem RefE.den0 (h : RefE A n C ((2 ^ x : Nat) : Rat) j k p s X c W f u d) {i : Nat} (hi : i < n) : p * f i ≠ 0 := fun e => by
 rcases Rat.mul_eq_zero.1 e with e | e
 · exact h.el.bar.1 e
 · exact h.f0 i hi e
theorem pw_x {x N : Nat} (hx : x ≤ 1930) (hN : N ≤ 2 ^ (80 + x)) : N < pw 128 := pw_two128 hN (by omega)
theorem pw_x2 {x N : Nat} (hx : x ≤ 1930) (hN : N ≤ 2 ^ (80 + x) * 2 ^ (80 + x)) : N < pw 128 := by
 rw [← Nat.pow_add] at hN
 exact pw_two128 hN (by omega)
theorem RefE.fit (h : RefE A n C ((2 ^ x : Nat) : Rat) j k p s X c W f u d) (hn : n ≤ 24) (hj : j ≤ C) (hx : x ≤ 1930) {i l : Nat} (hi : i < n) (hl : l < C) : Fit (refT p X f i l) := by
 obtain ⟨h1, h2, -⟩ := RefE.wb h hn hj
 exact wb_div (h1 i l hi hl) (h2 i hi) (RefE.den0 h hi) (pw_x hx (Nat.le_refl _)) (pw_x hx (Nat.le_refl _))
theorem RefE.fitD (h : RefE A n C ((2 ^ x : Nat) : Rat) j k p s X c W f u d) (hn : n ≤ 24) (hj : j ≤ C) (hx : x ≤ 1930) : Fit d := by
 obtain ⟨-, -, h3, h4⟩ := RefE.wb h hn hj
 have e : d = p / u := by
  have h1 := h.du
  have h2 := h.u0
  rw [← h1]; grind
 rw [e]
 exact wb_div h3 h4 h.u0 (pw_x hx (Nat.le_refl _)) (pw_x hx (Nat.le_refl _))
theorem Fit.neg {q : Rat} (h : Fit q) : Fit (-q) := ⟨by rw [Rat.neg_num, Int.natAbs_neg]; exact h.1, by rw [Rat.neg_den]; exact h.2⟩
theorem alg30 {a x y p q : Rat} : a / (p * q) * (y / (x * 1)) = a * y / (p * q * x) := by grind
theorem RefE.fitM (h : RefE A n C ((2 ^ x : Nat) : Rat) j k p s X c W f u d) (hn : n ≤ 24) (hj : j < C) (hx : x ≤ 1930) (hk : k < n) (h0 : X k j ≠ 0) {i l : Nat} (hi : i < n) (hl : l < C) :
 Fit (refT p X f i j * refT (X k j) (stepX k j p X) (setF f k) k l) := by
 obtain ⟨h1, h2, -⟩ := RefE.wb h hn (Nat.le_of_lt hj)
 have e : refT p X f i j * refT (X k j) (stepX k j p X) (setF f k) k l = (X i j * X k l) / (p * f i * X k j) := by
  unfold refT stepX setF
  rw [if_pos rfl, if_pos rfl]
  exact alg30
 rw [e]
 refine wb_div ((h1 i j hi hj).mul (h1 k l hk hl)) ((h2 i hi).mul (h1 k j hk hj)) (fun e => ?_) (pw_x2 hx (Nat.le_refl _)) (pw_x2 hx (Nat.le_refl _))
 rcases Rat.mul_eq_zero.1 e with e | e
 · exact RefE.den0 h hi e
 · exact h0 e
theorem RefE.zero (h : RefE A n C ((2 ^ x : Nat) : Rat) j k p s X c W f u d) {i l : Nat} (hi : i < n) : refT p X f i l = 0 ↔ X i l = 0 := by
 have h1 := RefE.den0 h hi
 unfold refT
 generalize p * f i = q at h1
 generalize X i l = a
 constructor
 · intro e; grind
 · intro e; rw [e]; grind
end
end Go.Proofs.YtbeoeackahmpbaaGreatDoor
