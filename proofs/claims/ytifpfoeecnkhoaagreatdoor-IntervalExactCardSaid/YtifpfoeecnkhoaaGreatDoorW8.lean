/- Format writes the decimal digits of a number. -/
import Derived.Test.YtifpfoeecnkhoaaGreatDoorW7
import Derived.Test.YtifpfoeecnkhoaaGreatDoorPf
import Derived.Deep.LoopGhost
import Derived.Maps.AppendAt
import Derived.Laws.BytesArg
namespace Go.Proofs.YtifpfoeecnkhoaaGreatDoor
open Go.RowKit NatM

theorem info5 : (Tryz.prog.info? 5).map (fun i => (i.zero, i.size, i.bytes)) = some (some (.int .u8 0), 1, 1) := by kernel_rfl

theorem OwnB.apart {w : World} {base g : Nat} {v : Value} {bs zs : List Nat} (h : OwnB w base v bs) (hr : Row w g zs) : v.ownBlock ≠ some g := by
  rcases h.2 with ⟨rfl, _⟩ | ⟨g', cap, cur, rfl, _, hgg, _⟩
  · simp [Value.ownBlock]
  · intro e
    simp [Value.ownBlock] at e
    subst e
    unfold Row at hr
    rw [hr] at hgg
    simp at hgg
theorem OwnB.kept {w w' : World} {base : Nat} {v : Value} {bs : List Nat} {row : Option Nat} (h : OwnB w base v bs) (hg : w.grownBy w' row) (hne : v.ownBlock ≠ row) : OwnB w' base v bs := World.ownsRow.kept h hg (.inr hne)

/-- The digits as they lie in memory. -/
def chars (ds : List Nat) : List Nat := ds.map (48 + ·)
theorem chars_length (ds : List Nat) : (chars ds).length = ds.length := by simp [chars]
theorem chars_snoc (ds : List Nat) (x : Nat) : chars (ds ++ [x]) = chars ds ++ [48 + x] := by simp [chars]
theorem chars_reverse (ds : List Nat) : (chars ds).reverse = chars ds.reverse := by simp [chars]

/-- What the outer loop of Format keeps: R is what is still to be written. -/
def FmtSt (w : World) (g : Nat) (N R : Nat) (d r : Value) (wr : World) : Prop :=
  ∃ (ds zs : List Nat) (m : Nat), r = .slice (some ⟨g, 0, none⟩) m m ∧ Row wr g zs ∧ Limbs zs ∧ m ≤ zs.length ∧ zs.length ≤ 1000000 ∧ Canon (zs.take m) ∧ val (zs.take m) = R ∧
    Digits ds ∧ N = val10 ds + 10 ^ ds.length * R ∧ OwnB wr w.heap.size d (chars ds) ∧ Add w wr ∧ w.heap.size ≤ g ∧ ds.length ≤ 20000

/-- What the inner loop keeps. -/
def FmtIn (w : World) (g : Nat) (T : Nat) (len : Nat) (zs : List Nat) (d q c : Value) (wr : World) : Prop :=
  ∃ (ds : List Nat) (j p : Nat), c = .int .i64 (j : Nat) ∧ j ≤ 9 ∧ q = .int .u32 (p : Nat) ∧ p < 10 ^ (9 - j) ∧ Digits ds ∧ val10 ds + 10 ^ ds.length * p = T ∧ ds.length = len + j ∧
    OwnB wr w.heap.size d (chars ds) ∧ Row wr g zs ∧ Add w wr

theorem inner_step {ds : List Nat} {T p : Nat} (h : val10 ds + 10 ^ ds.length * p = T) : val10 (ds ++ [p % 10]) + 10 ^ (ds ++ [p % 10]).length * (p / 10) = T := by
  rw [val10_snoc, List.length_append, List.length_singleton, Nat.pow_succ, ← h]
  have := Nat.mod_add_div p 10
  conv => rhs; rw [← this]
  rw [Nat.mul_add, Nat.mul_assoc, Nat.add_assoc]

def FmtP (w : World) (N : Nat) (e : Ending) (w' : World) : Prop := ∃ s : ByteArray, e = .returned (.tuple #[.string s, .int .i64 0]) ∧ FmtIs s N ∧ s.size ≤ 1000000 ∧ Add w w'

theorem chars_u8 (ds : List Nat) : ((chars ds).map (fun n : Nat => (n : Int))).map (fun n : Int => UInt8.ofNat n.toNat) = ds.map chr := by
  simp only [chars, List.map_map]
  apply List.map_congr_left
  intro a _
  show UInt8.ofNat (Int.toNat ((48 + a : Nat) : Int)) = UInt8.ofNat (48 + a)
  rw [Int.toNat_natCast]

/-- The text behind the loops: the digits turned round and without the zeros at the front. -/
theorem fmt_text {ds : List Nat} {N : Nat} {X : ByteArray} (hd : Digits ds) (hv : N = val10 ds) (hX : X = ⟨((ds.reverse.map chr).dropWhile (· == 48)).toArray⟩) :
    (N = 0 ∧ X.toList.isEmpty = true) ∨ (X.toList.isEmpty = false ∧ FmtIs X N) := by
  rw [strike ds hd] at hX
  rw [Lib.toList_data, hX]
  by_cases h0 : tlen ds = 0
  · left
    refine ⟨?_, by simp [trim, h0]⟩
    rw [hv, ← val10_trim]; simp [trim, h0, val10]
  · right
    refine ⟨?_, .inr ⟨?_, trim ds, hd.take _, Canon.trim _, by rw [val10_trim, hv], rfl⟩⟩
    · have : (trim ds).length ≠ 0 := by rw [length_trim]; exact h0
      simp
      intro e; rw [e] at this; exact this rfl
    · rw [hv]
      rcases Nat.eq_zero_or_pos (val10 ds) with h | h
      · exfalso
        have e : trim ds = [] := val10_inj (hd.take _) Digits.nil (Canon.trim _) Canon.nil (by rw [val10_trim, h]; rfl)
        have := length_trim ds
        rw [e] at this
        exact h0 this.symm
      · exact h

end Go.Proofs.YtifpfoeecnkhoaaGreatDoor
