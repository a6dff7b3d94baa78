/- Div, Shift and Bits, said of numbers alone. -/
import Derived.Test.YtifpfoeecnkhoaaDoorA
import Derived.Test.YtifpfoeecnkhoaaDoorW16
namespace Go.Proofs.YtifpfoeecnkhoaaDoor.Api
open Go.Proofs.YtifpfoeecnkhoaaDoor Go.RowKit NatM

def OkN2 (w : World) (Q R : Nat) (e : Ending) (w' : World) : Prop := ∃ vq vr, e = .returned (.tuple #[vq, vr, .int .i64 0]) ∧ Num w' vq Q ∧ Nu w' vq Q ∧ Num w' vr R ∧ Nu w' vr R ∧ Add w w'
theorem divN (Q R : Nat) {va vb : Value} {A B : Nat} {w : World} (ha : Nu w va A) (hb : Nu w vb B) (h : Hid (A < pw 512 ∧ B < pw 512 ∧ B ≠ 0 ∧ A / B = Q ∧ A % B = R)) : Calls Tryd.prog 52 #[va, vb] w (OkN2 w Q R) := by
  obtain ⟨xs, r, rfl, l⟩ := ha
  obtain ⟨ys, r', rfl, l'⟩ := hb
  obtain ⟨h1, h2, h3, rfl, rfl⟩ := h.out
  refine (div_ok va vb xs ys w r r' l l' h1 h2 h3).mono ?_
  rintro e w' ⟨vq, vr, rfl, g1, g2, g3⟩
  have b1 : val xs / val ys < pw 512 := Nat.lt_of_le_of_lt (Nat.div_le_self _ _) h1
  have b2 : val xs % val ys < pw 512 := Nat.lt_trans (Nat.mod_lt _ (Nat.pos_of_ne_zero h3)) h2
  exact ⟨_, _, rfl, g1, num_nu g1 b1, g2, num_nu g2 b2, g3⟩
theorem divZ {va vb : Value} {A B : Nat} {w : World} (ha : Nu w va A) (hb : Nu w vb B) (h : Hid (A < pw 512 ∧ B = 0)) : Calls Tryd.prog 52 #[va, vb] w (Err2P w 3) := by
  obtain ⟨xs, r, rfl, l⟩ := ha
  obtain ⟨ys, r', rfl, l'⟩ := hb
  obtain ⟨h1, h2⟩ := h.out
  exact div_zero va vb xs ys w r r' h1 h2
theorem bitsN (X : Nat) {va : Value} {A : Nat} {w : World} (ha : Nu w va A) (h : Hid (nb A = X)) : Calls Tryd.prog 32 #[va] w (IntIs w (X : Nat)) := by
  obtain ⟨xs, r, rfl, l⟩ := ha
  have h1 := h.out
  subst h1
  exact (bits_any va xs w r l).mono fun e w' ⟨h1, h2⟩ => ⟨h1, by rw [h2]; exact Below.refl _ _⟩
theorem upN (N k : Nat) {va : Value} {A : Nat} {w : World} (ha : Nu w va A) (h : Hid (A < pw 512 ∧ nb A + k ≤ 16384 ∧ A * 2 ^ k = N)) : Calls Tryd.prog 63 #[va, .int .i64 (k : Nat)] w (OkN w N) := by
  obtain ⟨xs, r, rfl, l⟩ := ha
  obtain ⟨h1, h2, rfl⟩ := h.out
  by_cases h0 : nb (val xs) = 0
  · refine (shift_zero va xs k w r l h1 (.inl h0)).mono fun e w' g => ?_
    rw [nb_eq_zero.1 h0, Nat.zero_mul]
    exact okN g (pw_pos 512)
  · refine (shift_up va xs k w r l h1 h0 h2).mono fun e w' g => okN g ?_
    rw [nb_lt_pw, nb_shift (fun e => h0 (nb_eq_zero.2 e))]
    exact h2
theorem downN (N k : Nat) {va : Value} {A : Nat} {w : World} (ha : Nu w va A) (h : Hid (A < pw 512 ∧ A / 2 ^ k = N)) : Calls Tryd.prog 63 #[va, .int .i64 (-(k : Int))] w (OkN w N) := by
  obtain ⟨xs, r, rfl, l⟩ := ha
  obtain ⟨h1, rfl⟩ := h.out
  have hb : val xs / 2 ^ k < pw 512 := Nat.lt_of_le_of_lt (Nat.div_le_self _ _) h1
  rcases Nat.lt_or_ge k (nb (val xs)) with h2 | h2
  · by_cases hk : k = 0
    · subst hk
      have := shift_up va xs 0 w r l h1 (by omega) (by have := nb_lt_pw.1 h1; omega)
      refine this.mono fun e w' g => okN ?_ hb
      rw [Nat.pow_zero, Nat.div_one]
      rwa [Nat.pow_zero, Nat.mul_one] at g
    · exact (shift_down va xs k w r l h1 (by omega) h2).mono fun e w' g => okN g hb
  · refine (shift_zero va xs _ w r l h1 (.inr (by omega))).mono fun e w' g => ?_
    rw [shift_out h2]
    exact okN g (pw_pos 512)
theorem oneNu (w : World) (g : Nat) (hg : w.heap.size = g) : Nu (w.alloc (.cells #[.int .u32 1] 26)) (.slice (some ⟨g, 0, none⟩) 1 1) 1 := by
  subst hg
  have hrow : Row (w.alloc (.cells #[.int .u32 ((1 : Nat) : Int)] 26)) w.heap.size [1] := heap_alloc_new w _
  exact ⟨[1], hrow.reads (m := 1) (c := 1) (by decide) (Nat.le_refl _) (by unfold maxLen; omega) (Limbs.cons (by decide) Limbs.nil), rfl, by decide⟩
end Go.Proofs.YtifpfoeecnkhoaaDoor.Api
