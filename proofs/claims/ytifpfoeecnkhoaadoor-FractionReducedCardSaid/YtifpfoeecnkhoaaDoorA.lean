/- The contracts of package natural said of numbers alone, and what all laws share: the guard on long lists. -/
import Derived.Test.YtifpfoeecnkhoaaDoorW10
namespace Go.Proofs.YtifpfoeecnkhoaaDoor.Api
open Go.Proofs.YtifpfoeecnkhoaaDoor Go.RowKit NatM

/-- What every law answers. -/
def LawP (w : World) (e : Ending) (w' : World) : Prop := e = .returned (.bool true) ∧ Add w w'

/-- v reads in w as a list of limbs with the value N. -/
def Nu (w : World) (v : Value) (N : Nat) : Prop := ∃ xs, Reads w v xs ∧ val xs = N ∧ xs.length ≤ 1000000
theorem Nu.mono {w w' : World} {v : Value} {N : Nat} (h : Nu w v N) (hb : Add w w') : Nu w' v N := by
  obtain ⟨xs, h1, h2, h3⟩ := h; exact ⟨xs, h1.mono hb, h2, h3⟩
theorem num_nu {w : World} {v : Value} {N : Nat} (h : Num w v N) (hN : N < pw 512) : Nu w v N := by
  obtain ⟨zs, h1, h2, h3⟩ := h
  refine ⟨zs, h1, h3, ?_⟩
  have : tlen zs ≤ 512 := tlen_le_of_val 512 (by rw [h3]; exact hN)
  unfold Canon at h2; omega
theorem num_mono {w w' : World} {v : Value} {N : Nat} (h : Num w v N) (hb : Add w w') : Num w' v N := h.mono hb

def OkN (w : World) (N : Nat) (e : Ending) (w' : World) : Prop := ∃ v, e = .returned (.tuple #[v, .int .i64 0]) ∧ Num w' v N ∧ Nu w' v N ∧ Add w w'
theorem okN {w : World} {N : Nat} {e : Ending} {w' : World} (h : OkP w N e w') (hN : N < pw 512) : OkN w N e w' := by
  obtain ⟨v, h1, h2, h3⟩ := h
  exact ⟨v, h1, h2, num_nu h2 hN, h3⟩

theorem addN {va vb : Value} {A B : Nat} {w : World} (ha : Nu w va A) (hb : Nu w vb B) (h : Hid (A + B < pw 512)) : Calls Tryd.prog 36 #[va, vb] w (OkN w (A + B)) := by
  obtain ⟨xs, r, rfl, l⟩ := ha
  obtain ⟨ys, r', rfl, l'⟩ := hb
  exact (add_ok va vb xs ys w r r' l l' h.out).mono fun e w' g => okN g h.out
theorem subN {va vb : Value} {A B : Nat} {w : World} (ha : Nu w va A) (hb : Nu w vb B) (h : Hid (A < pw 512 ∧ B ≤ A)) : Calls Tryd.prog 39 #[va, vb] w (OkN w (A - B)) := by
  obtain ⟨xs, r, rfl, l⟩ := ha
  obtain ⟨ys, r', rfl, l'⟩ := hb
  obtain ⟨h1, h2⟩ := h.out
  exact (sub_ok va vb xs ys w r r' l h1 (by omega) h2).mono fun e w' g => okN g (by omega)
theorem mulN {va vb : Value} {A B : Nat} {w : World} (ha : Nu w va A) (hb : Nu w vb B) (h : Hid (A < pw 512 ∧ B < pw 512 ∧ A * B < pw 512)) : Calls Tryd.prog 40 #[va, vb] w (OkN w (A * B)) := by
  obtain ⟨xs, r, rfl, l⟩ := ha
  obtain ⟨ys, r', rfl, l'⟩ := hb
  obtain ⟨h1, h2, h3⟩ := h.out
  exact (mul_ok va vb xs ys w r r' l l' h1 h2 h3).mono fun e w' g => okN g h3

def IntIs (w : World) (X : Int) (e : Ending) (w' : World) : Prop := e = .returned (.int .i64 X) ∧ Add w w'
theorem cmpN (X : Int) {va vb : Value} {A B : Nat} {w : World} (ha : Nu w va A) (hb : Nu w vb B) (h : Hid (cmpI A B = X)) : Calls Tryd.prog 23 #[va, vb] w (IntIs w X) := by
  obtain ⟨xs, r, rfl, l⟩ := ha
  obtain ⟨ys, r', rfl, l'⟩ := hb
  exact (cmp_any va vb xs ys w r r').mono fun e w' ⟨h1, q, h2⟩ => ⟨by rw [h1, h.out], by rw [h2]; exact below_drewN (Below.refl _ _) q⟩
def BoolIs (w : World) (b : Bool) (e : Ending) (w' : World) : Prop := e = .returned (.bool b) ∧ Add w w'
theorem sameN (b : Bool) {va vb : Value} {A B : Nat} {w : World} (ha : Num w va A) (hb : Num w vb B) (h : Hid (decide (A = B) = b)) : Calls Tryd.prog 29 #[va, vb] w (BoolIs w b) := by
  obtain ⟨xs, r, c, rfl⟩ := ha
  obtain ⟨ys, r', c', rfl⟩ := hb
  have e : decide (xs = ys) = b := by
    rw [← h.out, decide_eq_decide]
    exact ⟨fun h => by rw [h], fun h => canon_inj r.limbs r'.limbs c c' h⟩
  exact (same_any va vb xs ys b w r r' e).mono fun e w' ⟨h1, q, h2⟩ => ⟨h1, by rw [h2]; exact below_drewN (Below.refl _ _) q⟩

theorem small60 {xs : List Nat} (hx : Limbs xs) (h : xs.length ≤ 60) : val xs < pw 60 := by
  have h1 := val_lt hx
  have h2 : pw xs.length ≤ pw 60 := pw_le h
  omega
theorem lt_mul {a b i j : Nat} (ha : a < pw i) (hb : b < pw j) : a * b < pw (i + j) := by
  rw [pw_add]
  exact Nat.lt_of_le_of_lt (Nat.mul_le_mul_left _ (Nat.le_of_lt hb)) (Nat.mul_lt_mul_of_pos_right ha (pw_pos j))
theorem lt_add {a b i : Nat} (ha : a < pw i) (hb : b < pw i) : a + b < pw (i + 1) := by
  rw [pw_succ]; omega
theorem lt_up {a i j : Nat} (ha : a < pw i) (h : i ≤ j) : a < pw j := Nat.lt_of_lt_of_le ha (pw_le h)
end Go.Proofs.YtifpfoeecnkhoaaDoor.Api
