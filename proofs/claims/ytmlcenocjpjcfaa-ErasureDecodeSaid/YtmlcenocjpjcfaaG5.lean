/- Package field: the sanity check of the laws; the laws FieldLaws, FieldExact and FieldPowers, their walks for all arguments. -/
import Derived.Test.YtmlcenocjpjcfaaG4
namespace Go.Proofs.Ytmlcenocjpjcfaa
open Go.RowKit GfM

/-- True is returned, and nothing changes. -/
def RetT (w : World) (e : Ending) (w' : World) : Prop := e = .returned (.bool true) ∧ w = w'
theorem iv2 : iv 2 = 142 := by decide +kernel
theorem gm1282 : gm 128 2 = 29 := by decide +kernel
theorem mulE {a b n : Nat} (ha : a < 256) (hb : b < 256) (e : gm a b = n) (w : World) : Calls Try.prog 56 #[.int .u8 (a : Nat), .int .u8 (b : Nat)] w (RetB w n) := e ▸ mul_any a b ha hb w
theorem addE {a b n : Nat} (ha : a < 256) (hb : b < 256) (e : a ^^^ b = n) (w : World) : Calls Try.prog 37 #[.int .u8 (a : Nat), .int .u8 (b : Nat)] w (RetB w n) := e ▸ add_any a b ha hb w
theorem sq_sum (x y m : Nat) : (x ^^^ m) ^^^ (m ^^^ y) = x ^^^ y := by
  rw [Nat.xor_assoc, ← Nat.xor_assoc m m y, Nat.xor_self, Nat.zero_xor]
end Go.Proofs.Ytmlcenocjpjcfaa
