/- word, gcdOfWords, size. -/
import Derived.Test.YtifpfoeecnkhoaaDoorW16
namespace Go.Proofs.YtifpfoeecnkhoaaDoor
open Go.RowKit NatM

theorem join64' (h l : Nat) (hh : h < 4294967296) (hl : l < 4294967296) : bits .or .u64 (l : Int) ((h : Int) * 4294967296) = ((l + 4294967296 * h : Nat) : Int) := by
  have e : ((h : Int) * 4294967296) = ((h * 4294967296 : Nat) : Int) := by omega
  rw [e, u64_or_nat _ _ (by omega) (by omega), Nat.or_comm]
  have := nat_join 32 (h * 4294967296) l (by omega) (by omega)
  rw [this]; omega

def U64P (w : World) (x : Nat) (e : Ending) (w' : World) : Prop := e = .returned (.int .u64 (x : Nat)) ∧ w' = w
def I64P (w : World) (x : Int) (e : Ending) (w' : World) : Prop := e = .returned (.int .i64 x) ∧ w' = w
theorem word_any (va : Value) (xs : List Nat) (i : Nat) (w : World) (ha : Reads w va xs) (hi : i ≤ 2000000) :
    Calls Tryd.prog 67 #[va, .int .i64 (i : Nat)] w (U64P w (xs.getD i 0 + 4294967296 * xs.getD (i + 1) 0)) := by
  have hx := ha.limbs
  obtain ⟨x, hxe⟩ : ∃ x, x = xs.getD i 0 := ⟨_, rfl⟩
  obtain ⟨y, hye⟩ : ∃ y, y = xs.getD (i + 1) 0 := ⟨_, rfl⟩
  have hxl : x < 4294967296 := by rw [hxe]; exact hx.getD _
  have hyl : y < 4294967296 := by rw [hye]; exact hx.getD _
  have hj := join64' y x hyl hxl
  have HF : Hid (U64P w (xs.getD i 0 + 4294967296 * xs.getD (i + 1) 0) (.returned (.int .u64 (x + 4294967296 * y : Nat))) w) := Lib.hid (by rw [← hxe, ← hye]; exact ⟨rfl, rfl⟩)
  have HX := Lib.hid hxe
  have HY := Lib.hid hye
  clear hxe hye
  go_enter Tryd.func67, Tryd.ntmps67
  go_wp2_with fail
  refine (limb_fn va xs _ x _ ha (by omega) (by rw [Int.toNat_natCast]; exact HX.out)).mono ?_; rintro e w' ⟨rfl, rfl⟩
  go_wp2_with fail
  refine (limb_fn va xs _ y _ ha (by omega) (by rw [show ((i : Int) + 1).toNat = i + 1 from by omega]; exact HY.out)).mono ?_; rintro e w' ⟨rfl, rfl⟩
  go_wp2_with fail
  try rw [hj]
  go_ret
  exact HF.out

theorem word_fn (va : Value) (xs : List Nat) (i v : Nat) (w : World) (ha : Reads w va xs) (hi : i ≤ 2000000) (hv : Hid (v = xs.getD i 0 + 4294967296 * xs.getD (i + 1) 0)) :
    Calls Tryd.prog 67 #[va, .int .i64 (i : Nat)] w (U64P w v) := by
  rw [hv.out]; exact word_any va xs i w ha hi

theorem gcdOfWords_any (a b : Nat) (w : World) (ha : a < 18446744073709551616) (hb : b < 18446744073709551616) :
    Calls Tryd.prog 66 #[.int .u64 (a : Nat), .int .u64 (b : Nat)] w (fun e w' => e = .returned (.int .u64 (Nat.gcd a b : Nat)) ∧ Add w w') := by
  go_enter Tryd.func66, Tryd.ntmps66
  go_wp2_with fail
  go_loopw [0, 1] (fun vx vy wr => ∃ x y : Nat, x < 18446744073709551616 ∧ y < 18446744073709551616 ∧ vx = .int .u64 (x : Nat) ∧ vy = .int .u64 (y : Nat) ∧ Hid (Nat.gcd x y = Nat.gcd a b) ∧ Add w wr) (fun _ vy _ => (intOf vy).toNat)
  case atStart => exact ⟨a, b, ha, hb, rfl, rfl, Lib.hid rfl, Below.refl _ _⟩
  case round =>
    obtain ⟨x, y, hx, hy, rfl, rfl, hg, hadd⟩ := hrel
    by_cases h0 : y = 0
    · subst h0
      go_wp2_with fail
      go_ret
      exact ⟨by rw [← hg.out, Nat.gcd_zero_right]; rfl, hadd⟩
    · have hne : ((y : Int) != 0) = true := by simp; omega
      have hne' : ((y : Int) == 0) = false := by simp; omega
      obtain ⟨m, hm⟩ : ∃ m, m = x % y := ⟨_, rfl⟩
      have hmi : (x : Int) % (y : Int) = (m : Int) := by rw [hm]; exact (Int.natCast_emod _ _).symm
      have hmb : m < y := by rw [hm]; exact Nat.mod_lt _ (by omega)
      have HM := Lib.hid hm
      clear hm
      go_wp2_with fail
      go_quiet (fail)
      go_wp2_with fail
      go_roundw
      case rel => exact ⟨y, m, hy, by omega, rfl, by go_num, Lib.hid (by rw [← hg.out, HM.out, Nat.gcd_comm y, ← Nat.gcd_rec, Nat.gcd_comm]), below_drewN hadd _⟩
      case measure => simp [intOf]; omega

theorem size_any (v : Int) (w : World) (h : -4611686018427387904 ≤ v) (h' : v ≤ 4611686018427387904) :
    Calls Tryd.prog 83 #[.int .i64 v] w (I64P w (v.natAbs : Nat)) := by
  have hF : Hid (I64P w (v.natAbs : Nat) (.returned (.int .i64 (max v (-v)))) w) := Lib.hid ⟨by rw [show ((v.natAbs : Nat) : Int) = max v (-v) from by omega], rfl⟩
  go_enter Tryd.func83, Tryd.ntmps83
  go_wp2_with fail
  go_ret
  exact hF.out
end Go.Proofs.YtifpfoeecnkhoaaDoor
