/- Plain facts on Cauchy matrices over the field of 256 elements: no combination of their columns but the trivial one is zero. No program is read here. -/
import Derived.Test.YtmlcenocjpjcfaaGk
namespace GfM

theorem iv_ne {a : Nat} (h : a < 256) (h0 : a ≠ 0) : iv a ≠ 0 := by
  intro e
  have h1 := gm_inv h h0
  unfold iv at e
  rw [if_neg h0] at e
  rw [e, gm_zero_l] at h1
  exact absurd h1 (by decide)
theorem iv_gm {a : Nat} (h : a < 256) (h0 : a ≠ 0) : gm a (iv a) = 1 := by
  rw [gm_comm h (iv_lt a)]; unfold iv; rw [if_neg h0]; exact gm_inv h h0
theorem xor_ne {a b : Nat} (h : a ≠ b) : a ^^^ b ≠ 0 := fun e => h (by
  have h1 : (a ^^^ b) ^^^ b = 0 ^^^ b := by rw [e]
  rw [Nat.xor_assoc, Nat.xor_self, Nat.xor_zero, Nat.zero_xor] at h1
  exact h1)
theorem gm_zero {a b : Nat} (ha : a < 256) (hb : b < 256) (h : gm a b = 0) (h0 : a ≠ 0) : b = 0 :=
  Classical.byContradiction fun k => gm_ne ha hb h0 k h

/-- Bytes, with their sums and products. -/
structure Byt where
  n : Nat
  lt : n < 256
instance : Mul Byt := ⟨fun a b => ⟨gm a.n b.n, gm_lt a.lt⟩⟩
instance : Add Byt := ⟨fun a b => ⟨a.n ^^^ b.n, xor_lt a.lt b.lt⟩⟩
theorem Byt.eq {a b : Byt} (h : a.n = b.n) : a = b := by cases a; cases b; cases h; rfl
theorem Byt.mul_n (a b : Byt) : (a * b).n = gm a.n b.n := rfl
theorem Byt.add_n (a b : Byt) : (a + b).n = a.n ^^^ b.n := rfl
instance : Std.Commutative (α := Byt) (· * ·) := ⟨fun a b => Byt.eq (gm_comm a.lt b.lt)⟩
instance : Std.Associative (α := Byt) (· * ·) := ⟨fun a b c => Byt.eq (gm_assoc a.lt b.lt c.lt)⟩
instance : Std.Commutative (α := Byt) (· + ·) := ⟨fun a b => Byt.eq (Nat.xor_comm a.n b.n)⟩
instance : Std.Associative (α := Byt) (· + ·) := ⟨fun a b c => Byt.eq (Nat.xor_assoc a.n b.n c.n)⟩
theorem Byt.mul_add (a b c : Byt) : a * (b + c) = a * b + a * c := Byt.eq (gm_xor_r a.n b.n c.n)
theorem Byt.add_mul (a b c : Byt) : (a + b) * c = a * c + b * c := Byt.eq (gm_xor_l c.n a.lt b.lt)

/-- The identity behind one step: a, b, d any, A, B the inverses of a, b. -/
theorem cau_step {a b d x A B : Nat} (ha : a < 256) (hb : b < 256) (hd : d < 256) (hx : x < 256) (hA : A < 256) (hB : B < 256) (eA : gm a A = 1) (eB : gm b B = 1) :
    gm (a ^^^ b) (gm (gm (gm x d) B) A) = gm (a ^^^ d) (gm x A) ^^^ gm (b ^^^ d) (gm x B) := by
  let a' : Byt := ⟨a, ha⟩
  let b' : Byt := ⟨b, hb⟩
  let d' : Byt := ⟨d, hd⟩
  let x' : Byt := ⟨x, hx⟩
  let A' : Byt := ⟨A, hA⟩
  let B' : Byt := ⟨B, hB⟩
  let o' : Byt := ⟨1, by decide⟩
  have e1 : a' * A' = o' := Byt.eq eA
  have e2 : b' * B' = o' := Byt.eq eB
  have o1 : ∀ y : Byt, o' * y = y := fun y => Byt.eq (gm_one_l y.lt)
  have zz : ∀ y : Byt, (x' + y) + (x' + d' * (x' * B')) = y + d' * (x' * B') := fun y => Byt.eq (by
    show (x ^^^ y.n) ^^^ (x ^^^ _) = y.n ^^^ _
    rw [xor4, Nat.xor_self, Nat.zero_xor])
  have key : (a' + b') * (((x' * d') * B') * A') = (a' + d') * (x' * A') + (b' + d') * (x' * B') := by
    rw [Byt.add_mul, Byt.add_mul, Byt.add_mul]
    have f1 : a' * (x' * A') = x' := by
      have : a' * (x' * A') = (a' * A') * x' := by ac_rfl
      rw [this, e1, o1]
    have f2 : b' * (x' * B') = x' := by
      have : b' * (x' * B') = (b' * B') * x' := by ac_rfl
      rw [this, e2, o1]
    have f3 : a' * (((x' * d') * B') * A') = d' * (x' * B') := by
      have : a' * (((x' * d') * B') * A') = (a' * A') * (d' * (x' * B')) := by ac_rfl
      rw [this, e1, o1]
    have f4 : b' * (((x' * d') * B') * A') = d' * (x' * A') := by
      have : b' * (((x' * d') * B') * A') = (b' * B') * (d' * (x' * A')) := by ac_rfl
      rw [this, e2, o1]
    rw [f1, f2, f3, f4, zz]
    ac_rfl
  exact congrArg Byt.n key

/-- The sum of the x / (r + c). -/
def cS : List (Nat × Nat) → Nat → Nat
  | [], _ => 0
  | p :: t, r => gm p.2 (iv (r ^^^ p.1)) ^^^ cS t r
theorem cS_append (a b : List (Nat × Nat)) (r : Nat) : cS (a ++ b) r = cS a r ^^^ cS b r := by
  induction a with
  | nil => simp [cS]
  | cons p t ih => simp only [List.cons_append, cS, ih, Nat.xor_assoc]
theorem cS_lt {xs : List (Nat × Nat)} (h : ∀ p ∈ xs, p.1 < 256 ∧ p.2 < 256) (r : Nat) : cS xs r < 256 := by
  induction xs with
  | nil => show 0 < 256; decide
  | cons p t ih => exact xor_lt (gm_lt (h p (by simp)).2) (ih fun q hq => h q (by simp [hq]))
/-- The values of one step. -/
def cY (c0 r0 : Nat) (p : Nat × Nat) : Nat × Nat := (p.1, gm (gm p.2 (p.1 ^^^ c0)) (iv (r0 ^^^ p.1)))
theorem cS_step {c0 r0 r : Nat} {t : List (Nat × Nat)} (hc0 : c0 < 256) (hr0 : r0 < 256) (hr : r < 256) (ht : ∀ p ∈ t, p.1 < 256 ∧ p.2 < 256 ∧ p.1 ≠ r ∧ p.1 ≠ r0) :
    gm (r ^^^ r0) (cS (t.map (cY c0 r0)) r) = gm (r ^^^ c0) (cS t r) ^^^ gm (r0 ^^^ c0) (cS t r0) := by
  induction t with
  | nil => simp only [List.map_nil, cS, gm_zero_r, Nat.xor_self]
  | cons p t ih =>
    have ih := ih fun q hq => ht q (by simp [hq])
    obtain ⟨h1, h2, h3, h4⟩ := ht p (by simp)
    rw [List.map_cons, cS, cS, cS, gm_xor_r (r ^^^ r0), gm_xor_r (r ^^^ c0), gm_xor_r (r0 ^^^ c0), ih, xor4 (gm (r ^^^ c0) _)]
    congr 1
    show gm (r ^^^ r0) (gm (gm (gm p.2 (p.1 ^^^ c0)) (iv (r0 ^^^ p.1))) (iv (r ^^^ p.1))) = _
    have ha : r ^^^ p.1 < 256 := xor_lt hr h1
    have hb : r0 ^^^ p.1 < 256 := xor_lt hr0 h1
    have hd : p.1 ^^^ c0 < 256 := xor_lt h1 hc0
    have na : r ^^^ p.1 ≠ 0 := xor_ne (fun e => h3 e.symm)
    have nb : r0 ^^^ p.1 ≠ 0 := xor_ne (fun e => h4 e.symm)
    have e1 : (r ^^^ p.1) ^^^ (r0 ^^^ p.1) = r ^^^ r0 := by rw [xor4, Nat.xor_self, Nat.xor_zero]
    have e2 : (r ^^^ p.1) ^^^ (p.1 ^^^ c0) = r ^^^ c0 := by rw [Nat.xor_assoc, ← Nat.xor_assoc p.1 p.1, Nat.xor_self, Nat.zero_xor]
    have e3 : (r0 ^^^ p.1) ^^^ (p.1 ^^^ c0) = r0 ^^^ c0 := by rw [Nat.xor_assoc, ← Nat.xor_assoc p.1 p.1, Nat.xor_self, Nat.zero_xor]
    have := cau_step ha hb hd h2 (iv_lt _) (iv_lt _) (iv_gm ha na) (iv_gm hb nb)
    rw [e1, e2, e3] at this
    exact this
theorem xor_eq_of {a b : Nat} (h : a ^^^ b = 0) : a = b := Classical.byContradiction fun k => xor_ne k h
/-- No combination of the columns of a Cauchy matrix is zero in as many rows, but the trivial one. -/
theorem cauchy (xs : List (Nat × Nat)) (R : List Nat) (hl : xs.length ≤ R.length) (hR : R.Nodup) (hC : (xs.map (·.1)).Nodup) (hRb : ∀ r ∈ R, r < 256) (hx : ∀ p ∈ xs, p.1 < 256 ∧ p.2 < 256)
    (hd : ∀ p ∈ xs, ∀ r ∈ R, p.1 ≠ r) (hz : ∀ r ∈ R, cS xs r = 0) : ∀ p ∈ xs, p.2 = 0 := by
  induction hn : xs.length generalizing xs R with
  | zero => intro p hp; rw [List.eq_nil_of_length_eq_zero hn] at hp; cases hp
  | succ n ih =>
    cases xs with
    | nil => simp at hn
    | cons q t =>
      cases R with
      | nil => simp at hl
      | cons r0 R' =>
        obtain ⟨c0, x0⟩ := q
        have hr0 := hRb r0 (by simp)
        have hq := hx (c0, x0) (by simp)
        have hcN := List.nodup_cons.1 (show (c0 :: t.map (·.1)).Nodup from hC)
        have hrN := List.nodup_cons.1 hR
        have hq0 : r0 ^^^ c0 ≠ 0 := xor_ne (fun e => hd (c0, x0) (by simp) r0 (by simp) e.symm)
        have hz0 : gm x0 (iv (r0 ^^^ c0)) = cS t r0 := xor_eq_of (hz r0 (by simp))
        have hone : ∀ r, r < 256 → r ^^^ c0 ≠ 0 → gm x0 (iv (r ^^^ c0)) = cS t r → gm (r ^^^ c0) (cS t r) = x0 := fun r hr hne e => by
          have hb : r ^^^ c0 < 256 := xor_lt hr hq.1
          rw [← e, gm_comm hb (gm_lt hq.2), gm_assoc hq.2 (iv_lt _) hb, gm_comm (iv_lt _) hb, iv_gm hb hne, gm_one_r hq.2]
        have hyz : ∀ p ∈ t.map (cY c0 r0), p.2 = 0 := by
          refine ih (t.map (cY c0 r0)) R' ?_ hrN.2 ?_ (fun r hr => hRb r (by simp [hr])) ?_ ?_ ?_ ?_
          · simp at hl ⊢; exact hl
          · have : (t.map (cY c0 r0)).map (·.1) = t.map (·.1) := by simp [cY, Function.comp_def]
            rw [this]; exact hcN.2
          · intro p hp
            obtain ⟨p', hp', rfl⟩ := List.mem_map.1 hp
            exact ⟨(hx p' (by simp [hp'])).1, gm_lt (gm_lt (hx p' (by simp [hp'])).2)⟩
          · intro p hp r hr
            obtain ⟨p', hp', rfl⟩ := List.mem_map.1 hp
            exact hd p' (by simp [hp']) r (by simp [hr])
          · intro r hr
            have hr256 := hRb r (by simp [hr])
            have hne : r ^^^ r0 ≠ 0 := xor_ne (fun e => hrN.1 (by rw [← e]; exact hr))
            have hs := cS_step (t := t) hq.1 hr0 hr256 (fun p hp => ⟨(hx p (by simp [hp])).1, (hx p (by simp [hp])).2, hd p (by simp [hp]) r (by simp [hr]), hd p (by simp [hp]) r0 (by simp)⟩)
            have hzr : gm x0 (iv (r ^^^ c0)) = cS t r := xor_eq_of (hz r (by simp [hr]))
            rw [hone r hr256 (xor_ne (fun e => hd (c0, x0) (by simp) r (by simp [hr]) e.symm)) hzr, hone r0 hr0 hq0 hz0, Nat.xor_self] at hs
            refine gm_zero (xor_lt hr256 hr0) (cS_lt ?_ r) hs hne
            intro p hp
            obtain ⟨p', hp', rfl⟩ := List.mem_map.1 hp
            exact ⟨(hx p' (by simp [hp'])).1, gm_lt (gm_lt (hx p' (by simp [hp'])).2)⟩
          · simp at hn ⊢; exact hn
        have ht0 : ∀ p ∈ t, p.2 = 0 := by
          intro p hp
          have h1 : gm (gm p.2 (p.1 ^^^ c0)) (iv (r0 ^^^ p.1)) = 0 := hyz (cY c0 r0 p) (List.mem_map.2 ⟨p, hp, rfl⟩)
          have hpb := hx p (by simp [hp])
          have hne : p.1 ^^^ c0 ≠ 0 := xor_ne (fun e => hcN.1 (by rw [← e]; exact List.mem_map.2 ⟨p, hp, rfl⟩))
          have hnr : r0 ^^^ p.1 ≠ 0 := xor_ne (fun e => hd p (by simp [hp]) r0 (by simp) e.symm)
          have hb1 : r0 ^^^ p.1 < 256 := xor_lt hr0 hpb.1
          have hb2 : p.1 ^^^ c0 < 256 := xor_lt hpb.1 hq.1
          rw [gm_comm (gm_lt hpb.2) (iv_lt _)] at h1
          have h2 := gm_zero (iv_lt _) (gm_lt hpb.2) h1 (iv_ne hb1 hnr)
          rw [gm_comm hpb.2 hb2] at h2
          exact gm_zero hb2 hpb.2 h2 hne
        have hS0 : ∀ (l : List (Nat × Nat)) (r : Nat), (∀ p ∈ l, p.2 = 0) → cS l r = 0 := by
          intro l r h
          induction l with
          | nil => rfl
          | cons p l ih => rw [cS, h p (by simp), gm_zero_l, ih (fun q hq => h q (by simp [hq]))]; rfl
        intro p hp
        rcases List.mem_cons.1 hp with rfl | hp
        · rw [hS0 t r0 ht0] at hz0
          have hb : r0 ^^^ c0 < 256 := xor_lt hr0 hq.1
          rw [gm_comm hq.2 (iv_lt _)] at hz0
          exact gm_zero (iv_lt _) hq.2 hz0 (iv_ne hb hq0)
        · exact ht0 p hp
end GfM
