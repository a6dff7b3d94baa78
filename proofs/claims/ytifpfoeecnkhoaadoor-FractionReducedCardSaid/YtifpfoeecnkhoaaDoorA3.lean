/- Gcd, said of numbers alone. -/
import Derived.Test.YtifpfoeecnkhoaaDoorA2
import Derived.Test.YtifpfoeecnkhoaaDoorW23
namespace Go.Proofs.YtifpfoeecnkhoaaDoor.Api
open Go.Proofs.YtifpfoeecnkhoaaDoor Go.RowKit NatM

theorem gcdN (G : Nat) {va vb : Value} {A B : Nat} {w : World} (ha : Nu w va A) (hb : Nu w vb B) (h : Hid (A < pw 512 ∧ B < pw 512 ∧ Nat.gcd A B = G)) : Calls Tryd.prog 51 #[va, vb] w (OkN w G) := by
  obtain ⟨xs, r, rfl, l⟩ := ha
  obtain ⟨ys, r', rfl, l'⟩ := hb
  obtain ⟨h1, h2, rfl⟩ := h.out
  refine (gcd_ok va vb xs ys w r r' l l' h1 h2).mono fun e w' g => okN g ?_
  rcases Nat.eq_zero_or_pos (val xs) with h0 | h0
  · rw [h0, Nat.gcd_zero_left]; exact h2
  · exact Nat.lt_of_le_of_lt (Nat.gcd_le_left _ h0) h1
theorem num_len0 {w : World} {v : Value} (h : Num w v 0) : ∃ ao c, v = .slice ao 0 c := by
  obtain ⟨zs, ⟨ao, n, c, rfl, hl, -⟩, hc, hv⟩ := h
  have h1 := val_eq_zero.1 hv
  unfold Canon at hc
  obtain rfl : n = 0 := by omega
  exact ⟨_, _, rfl⟩
theorem gcd_cofactors {A B G X Y : Nat} (hG : G = Nat.gcd A B) (h0 : 0 < G) (hX : X = A / G) (hY : Y = B / G) : Nat.gcd X Y = 1 := by
  rw [hX, hY, Nat.gcd_div (by rw [hG]; exact Nat.gcd_dvd_left _ _) (by rw [hG]; exact Nat.gcd_dvd_right _ _), ← hG]
  exact Nat.div_self h0
end Go.Proofs.YtifpfoeecnkhoaaDoor.Api
