/- The parts of long division: the guessed digit, a multiple taken out, the divisor added back. -/
import Derived.Test.YtifpfoeecnkhoaaDoorW12
import Derived.Test.YtifpfoeecnkhoaaDoorPl
namespace Go.Proofs.YtifpfoeecnkhoaaDoor
open Go.RowKit NatM

/-- The digit for a number whose leading two limbs are T. -/
def guessT (T w0 d1 d0 : Nat) : Nat := min ((T * 4294967296 + w0) / (d1 * 4294967296 + d0)) 4294967295
theorem guess_T (w2 w1 w0 d1 d0 : Nat) : guessOf w2 w1 w0 d1 d0 = guessT (w2 * 4294967296 + w1) w0 d1 d0 := rfl
/-- What the loop of guess keeps. -/
def GuessAt (T w0 d1 d0 g r : Nat) : Prop := r + g * d1 = T ∧ guessT T w0 d1 d0 ≤ g ∧ g ≤ 4294967295
theorem guess_start {T w0 d1 d0 : Nat} (hw0 : w0 < 4294967296) (hd : 0 < d1) :
    GuessAt T w0 d1 d0 (min (T / d1) 4294967295) (T - min (T / d1) 4294967295 * d1) := by
  have h1 : min (T / d1) 4294967295 * d1 ≤ T := Nat.le_trans (Nat.mul_le_mul_right _ (Nat.min_le_left _ _)) (Nat.div_mul_le_self T d1)
  refine ⟨by omega, ?_, Nat.min_le_right _ _⟩
  have h2 : (T * 4294967296 + w0) / (d1 * 4294967296 + d0) ≤ T / d1 := by
    rw [Nat.le_div_iff_mul_le hd]
    have h3 := Nat.div_mul_le_self (T * 4294967296 + w0) (d1 * 4294967296 + d0)
    generalize (T * 4294967296 + w0) / (d1 * 4294967296 + d0) = q at h3 ⊢
    rw [Nat.mul_add, ← Nat.mul_assoc] at h3
    generalize q * d1 = p at h3 ⊢
    generalize q * d0 = p' at h3
    omega
  unfold guessT
  generalize (T * 4294967296 + w0) / (d1 * 4294967296 + d0) = q at h2 ⊢
  generalize T / d1 = q' at h2 ⊢
  omega
theorem big_arith0 {B T w0 r p q : Nat} (h1 : r + p = T) (hgt : r * B + w0 < q) : T * B + w0 < p * B + q := by
  subst h1
  rw [Nat.add_mul, Nat.add_comm (r * B), Nat.add_assoc]
  exact Nat.add_lt_add_left hgt _
theorem big_arith {T w0 r p q : Nat} (h1 : r + p = T) (hgt : r * 4294967296 + w0 < q) : T * 4294967296 + w0 < p * 4294967296 + q := big_arith0 h1 hgt
theorem guess_down {T w0 d1 d0 g r : Nat} (h : GuessAt T w0 d1 d0 g r) (hgt : r * 4294967296 + w0 < g * d0) : 0 < g ∧ GuessAt T w0 d1 d0 (g - 1) (r + d1) := by
  obtain ⟨h1, h2, h3⟩ := h
  have hg : 0 < g := by
    rcases Nat.eq_zero_or_pos g with h0 | h0
    · subst h0; simp at hgt
    · exact h0
  refine ⟨hg, ?_, ?_, by omega⟩
  · rw [Nat.sub_mul, Nat.one_mul, Nat.add_assoc]
    have : d1 ≤ g * d1 := Nat.le_mul_of_pos_left _ hg
    omega
  · have e : g * (d1 * 4294967296 + d0) = g * d1 * 4294967296 + g * d0 := by rw [Nat.mul_add, Nat.mul_assoc]
    have hbig : T * 4294967296 + w0 < (d1 * 4294967296 + d0) * g := by
      rw [Nat.mul_comm (d1 * 4294967296 + d0) g, e]
      exact big_arith h1 hgt
    have h4 : (T * 4294967296 + w0) / (d1 * 4294967296 + d0) < g := Nat.div_lt_of_lt_mul hbig
    unfold guessT at h2 ⊢
    generalize (T * 4294967296 + w0) / (d1 * 4294967296 + d0) = z at h2 h4 ⊢
    omega
theorem guess_stop {T w0 d1 d0 g r : Nat} (h : GuessAt T w0 d1 d0 g r) (hd : 0 < d1) (hd0 : d0 < 4294967296) (hs : 4294967296 ≤ r ∨ g * d0 ≤ r * 4294967296 + w0) : g = guessT T w0 d1 d0 := by
  obtain ⟨h1, h2, h3⟩ := h
  have e : g * (d1 * 4294967296 + d0) = g * d1 * 4294967296 + g * d0 := by rw [Nat.mul_add, Nat.mul_assoc]
  have h4 : g * (d1 * 4294967296 + d0) ≤ T * 4294967296 + w0 := by
    rw [e]
    rcases hs with hs | hs
    · have : g * d0 ≤ 4294967296 * 4294967296 := Nat.mul_le_mul (by omega) (by omega)
      generalize g * d1 = p at h1 ⊢
      generalize g * d0 = q at this ⊢
      omega
    · generalize g * d1 = p at h1 ⊢
      generalize g * d0 = q at hs ⊢
      omega
  have h5 : g ≤ (T * 4294967296 + w0) / (d1 * 4294967296 + d0) := (Nat.le_div_iff_mul_le (by omega)).2 h4
  unfold guessT at h2 ⊢
  generalize (T * 4294967296 + w0) / (d1 * 4294967296 + d0) = z at h2 h5 ⊢
  omega

def GuessP (w : World) (g : Nat) (e : Ending) (w' : World) : Prop := e = .returned (.int .u32 (g : Nat)) ∧ w' = w
set_option maxRecDepth 100000 in
set_option maxHeartbeats 2000000 in
theorem guess_any (w2 w1 w0 d1 d0 : Nat) (w : World) (h2 : w2 < 4294967296) (h1 : w1 < 4294967296) (h0 : w0 < 4294967296) (hd1 : 0 < d1) (hd1' : d1 < 4294967296) (hd0 : d0 < 4294967296) :
    Calls Tryd.prog 84 #[.int .u32 (w2 : Nat), .int .u32 (w1 : Nat), .int .u32 (w0 : Nat), .int .u32 (d1 : Nat), .int .u32 (d0 : Nat)] w (GuessP w (guessOf w2 w1 w0 d1 d0)) := by
  obtain ⟨T, hT⟩ : ∃ T, T = w2 * 4294967296 + w1 := ⟨_, rfl⟩
  have hj := join64 w2 w1 h2 h1
  have hTi : (w2 : Int) * 4294967296 + w1 = (T : Int) := by omega
  rw [hTi] at hj
  have hTb : T < 18446744073709551616 := by omega
  have hst := guess_start (T := T) (d0 := d0) h0 hd1
  rw [guess_T, ← hT]
  obtain ⟨g0, hg0⟩ : ∃ g0, g0 = min (T / d1) 4294967295 := ⟨_, rfl⟩
  obtain ⟨p0, hp0⟩ : ∃ p0, p0 = g0 * d1 := ⟨_, rfl⟩
  rw [← hg0, ← hp0] at hst
  have hpT : p0 ≤ T := by have := hst.1; omega
  have hpi : (g0 : Int) * (d1 : Int) = (p0 : Int) := by rw [hp0]; simp
  have hqi : (T : Int) / (d1 : Int) = ((T / d1 : Nat) : Int) := (Int.natCast_ediv _ _).symm
  obtain ⟨Q, hQ⟩ : ∃ Q, Q = T / d1 := ⟨_, rfl⟩
  rw [← hQ] at hqi hg0
  have hQT : Q ≤ T := by rw [hQ]; exact Nat.div_le_self _ _
  have hne : ((d1 : Int) == 0) = false := by simp; omega
  have HST := Lib.hid hst
  clear hst hT hQ hp0 hTi
  have hmin : min (Q : Int) 4294967295 = (g0 : Int) := by omega
  have hgb : g0 ≤ 4294967295 := by omega
  clear hg0
  go_enter Tryd.func84, Tryd.ntmps84
  go_wp2_with fail
  go_loop [12, 13] (fun g r => ∃ gg rr : Nat, g = .int .u64 (gg : Nat) ∧ r = .int .u64 (rr : Nat) ∧ gg ≤ 4294967295 ∧ rr < 18446744073709551616 ∧ Hid (GuessAt T w0 d1 d0 gg rr)) (fun g _ => (intOf g).toNat)
  case atStart => exact ⟨g0, T - p0, rfl, by rw [Int.ofNat_sub hpT], hgb, by omega, HST⟩
  case round =>
    obtain ⟨g, r, rfl, rfl, hg, hr, hat⟩ := hrel
    clear hmin hgb hpi hqi hQT hpT HST hj
    obtain ⟨p, hp⟩ : ∃ p, p = g * d0 := ⟨_, rfl⟩
    have hpi : (g : Int) * (d0 : Int) = (p : Int) := by rw [hp]; simp
    have hpb : p ≤ 18446744065119617025 := by
      rw [hp]
      exact Nat.le_trans (Nat.mul_le_mul hg (by omega : d0 ≤ 4294967295)) (by decide)
    have HP := Lib.hid hp
    clear hp
    by_cases hrb : r ≤ 4294967295
    · have hj := join64 r w0 (by omega) h0
      by_cases hgt : r * 4294967296 + w0 < p
      · have hd := guess_down hat.out (by rw [← HP.out]; exact hgt)
        have hg0 := hd.1
        have HD := Lib.hid hd.2
        clear hd
        go_wp2_with fail
        go_round
        case rel => exact ⟨g - 1, r + d1, by rw [Int.ofNat_sub hg0]; rfl, by simp, by omega, by omega, HD⟩
        case measure => simp [intOf]; omega
      · have hs := guess_stop hat.out hd1 hd0 (.inr (by rw [← HP.out]; omega))
        have HS := Lib.hid hs
        clear hs
        go_wp2_with fail
        go_ret
        exact ⟨by rw [← HS.out]; rfl, rfl⟩
    · have hrb2 : 4294967295 < r := by omega
      have hs := guess_stop hat.out hd1 hd0 (.inl (by omega))
      have HS := Lib.hid hs
      clear hs
      go_wp2_with fail
      go_ret
      exact ⟨by rw [← HS.out]; rfl, rfl⟩
end Go.Proofs.YtifpfoeecnkhoaaDoor
