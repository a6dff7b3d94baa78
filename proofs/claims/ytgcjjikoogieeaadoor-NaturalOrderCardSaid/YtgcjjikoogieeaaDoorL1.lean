/- The law of the order: the walk of NaturalOrder, for all lists of limbs. -/
import Derived.Test.YtgcjjikoogieeaaDoorW9
namespace Go.Proofs.YtgcjjikoogieeaaDoor
open Go.RowKit NatM

/-- What every law answers. -/
def LawP (w : World) (e : Ending) (w' : World) : Prop := e = .returned (.bool true) ∧ Add w w'

def CmpIs (w : World) (X : Int) (e : Ending) (w' : World) : Prop := e = .returned (.int .i64 X) ∧ Add w w'
theorem cmp_is (X : Int) (va vb : Value) (xs ys : List Nat) (w : World) (ha : Reads w va xs) (hb : Reads w vb ys) (h : cmpI (val xs) (val ys) = X) :
    Calls Tryd.prog 27 #[va, vb] w (CmpIs w X) :=
  (cmp_any va vb xs ys w ha hb).mono fun e w' ⟨h1, q, h2⟩ => ⟨by rw [h1, h], by rw [h2]; exact below_drewN (Below.refl _ _) q⟩
def SameIs (w : World) (b : Bool) (e : Ending) (w' : World) : Prop := e = .returned (.bool b) ∧ Add w w'
theorem same_is (b : Bool) (va vb : Value) (xs ys : List Nat) (w : World) (ha : Reads w va xs) (hb : Reads w vb ys) (h : decide (xs = ys) = b) :
    Calls Tryd.prog 20 #[va, vb] w (SameIs w b) :=
  (same_any va vb xs ys b w ha hb h).mono fun e w' ⟨h1, q, h2⟩ => ⟨h1, by rw [h2]; exact below_drewN (Below.refl _ _) q⟩

/-- A number in a world, whatever its list. -/
theorem three_cells (w : World) (va vb vc : Value) : ∀ i, i < 3 → (w.alloc (.cells #[va, vb, vc] 23)).cell? ⟨w.heap.size, i, none⟩ = some (([va, vb, vc] : List Value).getD i (.slice none 0 0)) := by
  intro i hi
  rw [World.cell?_alloc_new]
  have : i = 0 ∨ i = 1 ∨ i = 2 := by omega
  rcases this with rfl | rfl | rfl <;> rfl
theorem three_slices {va vb vc : Value} (ha : IsSlice va) (hb : IsSlice vb) (hc : IsSlice vc) : ∀ i, i < 3 → IsSlice (([va, vb, vc] : List Value).getD i (.slice none 0 0)) := by
  intro i hi
  have : i = 0 ∨ i = 1 ∨ i = 2 := by omega
  rcases this with rfl | rfl | rfl
  · exact ha
  · exact hb
  · exact hc
theorem small60 {xs : List Nat} (hx : Limbs xs) (h : xs.length ≤ 60) : val xs < pw 60 := by
  have h1 := val_lt hx
  have h2 : pw xs.length ≤ pw 60 := pw_le h
  omega
theorem pw60_add {a b : Nat} (ha : a < pw 60) (hb : b < pw 60) : a + b < pw 512 := by
  have h1 : pw 61 = 4294967296 * pw 60 := pw_succ 60
  have h2 : pw 61 ≤ pw 512 := pw_le (by omega)
  omega

set_option maxRecDepth 100000 in
theorem order_long (va vb vc : Value) (xs ys zs : List Nat) (w : World) (ha : Reads w va xs) (hb : Reads w vb ys) (hc : Reads w vc zs) (hl : 60 < xs.length ∨ 60 < ys.length ∨ 60 < zs.length) :
    Calls Tryd.prog 10 #[va, vb, vc] w (LawP w) := by
  have hL : ([va, vb, vc] : List Value).any (fun v => decide (60 < lenV v)) = true := by
    simp only [List.any_cons, List.any_nil, Bool.or_false, Bool.or_eq_true, decide_eq_true_eq, ha.lenV, hb.lenV, hc.lenV]
    exact hl
  have s1 := ha.isSlice; have s2 := hb.isSlice; have s3 := hc.isSlice
  clear ha hb hc
  obtain ⟨a1, n1, k1, rfl, -⟩ := id s1
  obtain ⟨a2, n2, k2, rfl, -⟩ := id s2
  obtain ⟨a3, n3, k3, rfl, -⟩ := id s3
  have HLONG := Lib.hid (long_is true w.heap.size 3 _ (w.alloc (.cells #[.slice a1 n1 k1, .slice a2 n2 k2, .slice a3 n3 k3] 23)) rfl (by omega) (three_cells w _ _ _) (three_slices s1 s2 s3) hL)
  clear hL hl s1 s2 s3
  go_enter Tryd.func10, Tryd.ntmps10
  go_wp2_with fail
  refine HLONG.out.mono ?_
  rintro e w' ⟨rfl, rfl⟩
  go_wp2_with fail
  refine (awake_any _).mono ?_
  rintro e w' ⟨rfl, hadd⟩
  go_wp2_with fail
  go_ret
  exact ⟨rfl, Add.trans ((Below.refl _ _).alloc (Nat.le_refl _) _) hadd⟩

def SubIs (w : World) (E : Int) (e : Ending) (w' : World) : Prop := ∃ v, e = .returned (.tuple #[v, .int .i64 E]) ∧ Add w w'
theorem sub_is (E : Int) (va vb : Value) (xs ys : List Nat) (w : World) (ha : Reads w va xs) (hb : Reads w vb ys) (hs : xs.length ≤ 1000000) (hA : val xs < pw 512) (hB : val ys < pw 512) (hE : (if val xs < val ys then 4 else 0) = E) :
    Calls Tryd.prog 16 #[va, vb] w (SubIs w E) := by
  by_cases h : val xs < val ys
  · rw [if_pos h] at hE
    subst hE
    exact (sub_neg va vb xs ys w ha hb hA hB h).mono fun e w' ⟨h1, h2⟩ => ⟨_, h1, h2⟩
  · rw [if_neg h] at hE
    subst hE
    exact (sub_ok va vb xs ys w ha hb hs hA hB (by omega)).mono fun e w' ⟨v, h1, _, h2⟩ => ⟨v, h1, h2⟩

/-- The thirteen ways in which three numbers may lie. -/
theorem order_cases (A B C : Nat) : ∃ (X Y Z E W : Int) (b : Bool), Hid (cmpI A B = X ∧ cmpI B C = Y ∧ cmpI A C = Z ∧ (if A < B then 4 else 0) = E ∧ cmpI B A = W ∧ decide (A = B) = b ∧ cmpI (A + C) (B + C) = X) ∧
    ((X = -1 ∧ Y = -1 ∧ Z = -1 ∧ E = 4 ∧ W = 1 ∧ b = false) ∨ (X = -1 ∧ Y = 0 ∧ Z = -1 ∧ E = 4 ∧ W = 1 ∧ b = false) ∨ (X = -1 ∧ Y = 1 ∧ Z = -1 ∧ E = 4 ∧ W = 1 ∧ b = false) ∨ (X = -1 ∧ Y = 1 ∧ Z = 0 ∧ E = 4 ∧ W = 1 ∧ b = false) ∨ (X = -1 ∧ Y = 1 ∧ Z = 1 ∧ E = 4 ∧ W = 1 ∧ b = false) ∨
     (X = 0 ∧ Y = -1 ∧ Z = -1 ∧ E = 0 ∧ W = 0 ∧ b = true) ∨ (X = 0 ∧ Y = 0 ∧ Z = 0 ∧ E = 0 ∧ W = 0 ∧ b = true) ∨ (X = 0 ∧ Y = 1 ∧ Z = 1 ∧ E = 0 ∧ W = 0 ∧ b = true) ∨
     (X = 1 ∧ Y = 1 ∧ Z = 1 ∧ E = 0 ∧ W = -1 ∧ b = false) ∨ (X = 1 ∧ Y = 0 ∧ Z = 1 ∧ E = 0 ∧ W = -1 ∧ b = false) ∨ (X = 1 ∧ Y = -1 ∧ Z = 1 ∧ E = 0 ∧ W = -1 ∧ b = false) ∨ (X = 1 ∧ Y = -1 ∧ Z = 0 ∧ E = 0 ∧ W = -1 ∧ b = false) ∨ (X = 1 ∧ Y = -1 ∧ Z = -1 ∧ E = 0 ∧ W = -1 ∧ b = false)) := by
  rcases Nat.lt_trichotomy A B with h | h | h
  · have q : cmpI (A + C) (B + C) = cmpI A B := by rw [cmpI_lt h, cmpI_lt (by omega)]
    refine ⟨_, _, _, _, _, _, Lib.hid ⟨rfl, rfl, rfl, rfl, rfl, rfl, q⟩, ?_⟩
    rw [cmpI_lt h, if_pos h, cmpI_gt h, decide_eq_false (by omega : ¬ A = B)]
    rcases Nat.lt_trichotomy B C with g | g | g
    · rw [cmpI_lt g, cmpI_lt (by omega : A < C)]; simp
    · rw [cmpI_eq g, cmpI_lt (by omega : A < C)]; simp
    · rw [cmpI_gt g]
      rcases Nat.lt_trichotomy A C with k | k | k
      · rw [cmpI_lt k]; simp
      · rw [cmpI_eq k]; simp
      · rw [cmpI_gt k]; simp
  · have q : cmpI (A + C) (B + C) = cmpI A B := by rw [cmpI_eq h, cmpI_eq (by omega)]
    refine ⟨_, _, _, _, _, _, Lib.hid ⟨rfl, rfl, rfl, rfl, rfl, rfl, q⟩, ?_⟩
    rw [cmpI_eq h, if_neg (by omega : ¬ A < B), cmpI_eq h.symm, decide_eq_true h]
    rcases Nat.lt_trichotomy B C with g | g | g
    · rw [cmpI_lt g, cmpI_lt (by omega : A < C)]; simp
    · rw [cmpI_eq g, cmpI_eq (by omega : A = C)]; simp
    · rw [cmpI_gt g, cmpI_gt (by omega : C < A)]; simp
  · have q : cmpI (A + C) (B + C) = cmpI A B := by rw [cmpI_gt h, cmpI_gt (by omega)]
    refine ⟨_, _, _, _, _, _, Lib.hid ⟨rfl, rfl, rfl, rfl, rfl, rfl, q⟩, ?_⟩
    rw [cmpI_gt h, if_neg (by omega : ¬ A < B), cmpI_lt h, decide_eq_false (by omega : ¬ A = B)]
    rcases Nat.lt_trichotomy B C with g | g | g
    · rw [cmpI_lt g]
      rcases Nat.lt_trichotomy A C with k | k | k
      · rw [cmpI_lt k]; simp
      · rw [cmpI_eq k]; simp
      · rw [cmpI_gt k]; simp
    · rw [cmpI_eq g, cmpI_gt (by omega : C < A)]; simp
    · rw [cmpI_gt g, cmpI_gt (by omega : C < A)]; simp

theorem trim_same {xs ys : List Nat} (hx : Limbs xs) (hy : Limbs ys) : decide (trim xs = trim ys) = decide (val xs = val ys) := by
  rw [decide_eq_decide]
  constructor
  · intro h
    have := congrArg val h
    rwa [val_trim, val_trim] at this
  · intro h
    exact canon_inj (hx.take _) (hy.take _) (Canon.trim _) (Canon.trim _) (by rw [val_trim, val_trim, h])

set_option maxRecDepth 100000 in
set_option maxHeartbeats 8000000 in
theorem order_short (va vb vc : Value) (xs ys zs : List Nat) (w : World) (ha : Reads w va xs) (hb : Reads w vb ys) (hc : Reads w vc zs) (la : xs.length ≤ 60) (lb : ys.length ≤ 60) (lc : zs.length ≤ 60) :
    Calls Tryd.prog 10 #[va, vb, vc] w (LawP w) := by
  have hL : ([va, vb, vc] : List Value).any (fun v => decide (60 < lenV v)) = false := by
    simp only [List.any_cons, List.any_nil, Bool.or_false, Bool.or_eq_false_iff, decide_eq_false_iff_not, ha.lenV, hb.lenV, hc.lenV]
    omega
  have s1 := ha.isSlice; have s2 := hb.isSlice; have s3 := hc.isSlice
  obtain ⟨a1, n1, k1, rfl, -⟩ := id s1
  obtain ⟨a2, n2, k2, rfl, -⟩ := id s2
  obtain ⟨a3, n3, k3, rfl, -⟩ := id s3
  have HLONG := Lib.hid (long_is false w.heap.size 3 _ (w.alloc (.cells #[.slice a1 n1 k1, .slice a2 n2 k2, .slice a3 n3 k3] 23)) rfl (by omega) (three_cells w _ _ _) (three_slices s1 s2 s3) hL)
  have hadd0 : Add w (w.alloc (.cells #[.slice a1 n1 k1, .slice a2 n2 k2, .slice a3 n3 k3] 23)) := (Below.refl _ _).alloc (Nat.le_refl _) _
  have a0 := ha.mono hadd0
  have b0 := hb.mono hadd0
  have c0 := hc.mono hadd0
  have sa := small60 ha.limbs la
  have sb := small60 hb.limbs lb
  have sc := small60 hc.limbs lc
  have hts := trim_same ha.limbs hb.limbs
  obtain ⟨X, Y, Z, E, W, b, H, hcases⟩ := order_cases (val xs) (val ys) (val zs)
  have HAA : Hid (cmpI (val xs) (val xs) = 0) := Lib.hid (cmpI_eq rfl)
  have HTS := Lib.hid hts
  have HP1 : Hid (val xs < pw 512) := Lib.hid (by have := pw60_add sa sb; omega)
  have HP2 : Hid (val ys < pw 512) := Lib.hid (by have := pw60_add sb sa; omega)
  have HP3 : Hid (val xs + val zs < pw 512) := Lib.hid (pw60_add sa sc)
  have HP4 : Hid (val ys + val zs < pw 512) := Lib.hid (pw60_add sb sc)
  have ma : xs.length ≤ 1000000 := by omega
  have mb : ys.length ≤ 1000000 := by omega
  have mc : zs.length ≤ 1000000 := by omega
  clear hL sa sb sc hts ha hb hc s1 s2 s3 la lb lc
  rcases hcases with ⟨rfl, rfl, rfl, rfl, rfl, rfl⟩ | ⟨rfl, rfl, rfl, rfl, rfl, rfl⟩ | ⟨rfl, rfl, rfl, rfl, rfl, rfl⟩ | ⟨rfl, rfl, rfl, rfl, rfl, rfl⟩ | ⟨rfl, rfl, rfl, rfl, rfl, rfl⟩ | ⟨rfl, rfl, rfl, rfl, rfl, rfl⟩ | ⟨rfl, rfl, rfl, rfl, rfl, rfl⟩ | ⟨rfl, rfl, rfl, rfl, rfl, rfl⟩ | ⟨rfl, rfl, rfl, rfl, rfl, rfl⟩ | ⟨rfl, rfl, rfl, rfl, rfl, rfl⟩ | ⟨rfl, rfl, rfl, rfl, rfl, rfl⟩ | ⟨rfl, rfl, rfl, rfl, rfl, rfl⟩ | ⟨rfl, rfl, rfl, rfl, rfl, rfl⟩
  all_goals
    go_enter Tryd.func10, Tryd.ntmps10
    go_wp2_with fail
    refine HLONG.out.mono ?_
    rintro e w' ⟨rfl, rfl⟩
    go_wp2_with fail
    refine (cmp_is _ _ _ _ _ _ a0 b0 H.out.1).mono ?_
    rintro e w1 ⟨rfl, h1⟩
    have a1 := a0.mono h1; have b1 := b0.mono h1; have c1 := c0.mono h1
    clear a0 b0 c0
    go_wp2_with fail
    refine (cmp_is _ _ _ _ _ _ b1 c1 H.out.2.1).mono ?_
    rintro e w2 ⟨rfl, h2⟩
    have a2 := a1.mono h2; have b2 := b1.mono h2; have c2 := c1.mono h2
    clear a1 b1 c1
    go_wp2_with fail
    refine (cmp_is _ _ _ _ _ _ a2 c2 H.out.2.2.1).mono ?_
    rintro e w3 ⟨rfl, h3⟩
    have a3 := a2.mono h3; have b3 := b2.mono h3; have c3 := c2.mono h3
    clear a2 b2 c2
    go_wp2_with fail
    refine (cmp_is _ _ _ _ _ _ b3 a3 H.out.2.2.2.2.1).mono ?_
    rintro e w4 ⟨rfl, h4⟩
    have a4 := a3.mono h4; have b4 := b3.mono h4; have c4 := c3.mono h4
    clear a3 b3 c3
    go_wp2_with fail
    refine (cmp_is 0 _ _ _ _ _ a4 a4 HAA.out).mono ?_
    rintro e w5 ⟨rfl, h5⟩
    have a5 := a4.mono h5; have b5 := b4.mono h5; have c5 := c4.mono h5
    clear a4 b4 c4
    go_wp2_with fail
    refine (sub_is _ _ _ _ _ _ a5 b5 ma HP1.out HP2.out H.out.2.2.2.1).mono ?_
    rintro e w6 ⟨vd, rfl, h6⟩
    have a6 := a5.mono h6; have b6 := b5.mono h6; have c6 := c5.mono h6
    clear a5 b5 c5
    go_wp2_with fail
    refine (add_ok _ _ _ _ _ a6 c6 ma mc HP3.out).mono ?_
    rintro e w7 ⟨vs, rfl, ⟨ss, hs7, -, hsv⟩, h7⟩
    have a7 := a6.mono h7; have b7 := b6.mono h7; have c7 := c6.mono h7
    clear a6 b6 c6
    have HSV := Lib.hid hsv
    clear hsv
    go_wp2_with fail
    refine (add_ok _ _ _ _ _ b7 c7 mb mc HP4.out).mono ?_
    rintro e w8 ⟨vt, rfl, ⟨tt, ht8, -, htv⟩, h8⟩
    have a8 := a7.mono h8; have b8 := b7.mono h8; have hs8 := hs7.mono h8
    clear a7 b7 c7 hs7
    have HTV := Lib.hid htv
    clear htv
    go_wp2_with fail
    refine (cmp_is _ _ _ _ _ _ hs8 ht8 ((congr (congrArg cmpI HSV.out) HTV.out).trans H.out.2.2.2.2.2.2)).mono ?_
    rintro e w9 ⟨rfl, h9⟩
    have a9 := a8.mono h9; have b9 := b8.mono h9
    clear a8 b8 hs8 ht8
    go_wp2_with fail
    refine (trim_any _ _ _ a9 ma).mono ?_
    rintro e w10 ⟨g1, m1, rfl, ho1, hm1, h10⟩
    have b10 := b9.mono h10
    have r10 := ho1.reads (by have := tlen_le xs; unfold maxLen; omega) (a9.limbs.take _)
    clear a9 b9 ho1 hm1
    go_wp2_with fail
    refine (trim_any _ _ _ b10 mb).mono ?_
    rintro e w11 ⟨g2, m2, rfl, ho2, hm2, h11⟩
    have r11 := r10.mono h11
    have q11 := ho2.reads (by have := tlen_le ys; unfold maxLen; omega) (b10.limbs.take _)
    clear b10 ho2 hm2 r10
    go_wp2_with fail
    refine (same_is _ _ _ _ _ _ r11 q11 (HTS.out.trans H.out.2.2.2.2.2.1)).mono ?_
    rintro e w12 ⟨rfl, h12⟩
    clear r11 q11
    go_wp2_with fail
    refine (awake_any _).mono ?_
    rintro e w13 ⟨rfl, h13⟩
    go_wp2_with fail
    go_ret
    exact ⟨rfl, Add.trans hadd0 (Add.trans h1 (Add.trans h2 (Add.trans h3 (Add.trans h4 (Add.trans h5 (Add.trans h6 (Add.trans h7 (Add.trans h8 (Add.trans h9 (Add.trans h10 (Add.trans h11 (Add.trans h12 h13))))))))))))⟩
end Go.Proofs.YtgcjjikoogieeaaDoor
