/- Package fraction: Format. | The sanity check of the laws of layer 2. | The guard of the laws of layer 2: is a fraction too long to be looked at? -/
import Derived.Test.YtclifkaafocbdaaGreatDoorJN
import Derived.Laws.Concat
import Derived.Test.YtclifkaafocbdaaGreatDoorJC

namespace Go.Proofs.YtclifkaafocbdaaGreatDoor
open Go.RowKit NatM Go.Proofs.YtclifkaafocbdaaGreatDoor.Api
/-- The text of a fraction out of the texts of its parts. -/
def fmtText (neg whole : Bool) (s1 s2 : ByteArray) : ByteArray :=
  if whole then (if neg then (⟨#[45]⟩ : ByteArray) ++ s1 else s1) else (if neg then (⟨#[45]⟩ : ByteArray) ++ s1 else s1) ++ ((⟨#[47]⟩ : ByteArray) ++ s2)
def FFmt (t : ByteArray) (x : Tri) : Prop := ∃ s1 s2, FmtIs s1 x.2.1 ∧ (x.2.2 = 1 ∨ FmtIs s2 x.2.2) ∧ t = fmtText x.1 (decide (x.2.2 = 1)) s1 s2
theorem FFmt.uniq {s t : ByteArray} {x : Tri} (h : FFmt s x) (g : FFmt t x) : s = t := by
  obtain ⟨s1, s2, h1, h2, rfl⟩ := h
  obtain ⟨t1, t2, g1, g2, rfl⟩ := g
  rw [h1.uniq g1]
  by_cases c : x.2.2 = 1
  · simp [fmtText, c]
  · rw [(h2.resolve_left c).uniq (g2.resolve_left c)]
/-- A text and an error number. -/
def TextR (w : World) (x : Tri) (e : Ending) (w' : World) : Prop := ∃ t, e = .returned (.tuple #[.string t, .int .i64 0]) ∧ FFmt t x ∧ t.size ≤ 3000000 ∧ Add w w'
theorem redF_ok {x : Tri} (h : okF x = true) : redF x = (can (qv x), 0) := by
  obtain ⟨h1, h2, h3⟩ := okF_iff.1 h
  unfold redF; rw [if_pos h]; exact fitQ_small h2 h3 h1
end Go.Proofs.YtclifkaafocbdaaGreatDoor

namespace Go.Proofs.YtclifkaafocbdaaGreatDoor
open Go.RowKit NatM Go.Proofs.YtclifkaafocbdaaGreatDoor.Api

/-- A fraction with known parts, without an error. -/
def OkF (w : World) (b : Bool) (N D : Nat) (e : Ending) (w' : World) : Prop :=
  ∃ an n cn ad d cd, e = .returned (.tuple #[.agg #[.bool b, .slice an n cn, .slice ad d cd], .int .i64 0]) ∧ Num w' (.slice an n cn) N ∧ Num w' (.slice ad d cd) D ∧ Add w w'
theorem ResF.ok {w : World} {b : Bool} {N D : Nat} {e : Ending} {w' : World} (h : ResF w ((b, N, D), 0) e w') : OkF w b N D e w' := by
  obtain ⟨v, rfl, ⟨an, n, cn, ad, d, cd, rfl, h1, h2⟩, h3⟩ := h
  exact ⟨an, n, cn, ad, d, cd, rfl, h1, h2, h3⟩
/-- An error. -/
def NoF (w : World) (k : Int) (e : Ending) (w' : World) : Prop :=
  ∃ an cn ad cd, e = .returned (.tuple #[.agg #[.bool false, .slice an 0 cn, .slice ad 0 cd], .int .i64 k]) ∧ Num w' (.slice an 0 cn) 0 ∧ Num w' (.slice ad 0 cd) 0 ∧ Add w w'
theorem ResF.no {w : World} {k : Nat} {e : Ending} {w' : World} (h : ResF w ((false, 0, 0), k) e w') : NoF w (k : Nat) e w' := by
  obtain ⟨v, rfl, ⟨an, n, cn, ad, d, cd, rfl, h1, h2⟩, h3⟩ := h
  obtain ⟨a1, c1, e1⟩ := num_len0 h1
  obtain ⟨a2, c2, e2⟩ := num_len0 h2
  simp only [Value.slice.injEq] at e1 e2
  obtain ⟨rfl, rfl, rfl⟩ := e1
  obtain ⟨rfl, rfl, rfl⟩ := e2
  exact ⟨_, _, _, _, rfl, h1, h2, h3⟩
theorem small128 {N : Nat} (h : N < 18446744073709551616) : N < pw 128 := by
  have h1 : pw 2 ≤ pw 128 := pw_le (by decide)
  have h2 : pw 2 = 18446744073709551616 := by decide
  omega
/-- A variable that is laid and holds a result. -/
theorem laid_var (w : World) (b : Bool) (an : Option Addr) (n cn : Nat) (ad : Option Addr) (d cd : Nat) : Add w (w.alloc (.cells #[.bool b, .slice an n cn, .slice ad d cd] 37)) ∧ Box (w.alloc (.cells #[.bool b, .slice an n cn, .slice ad d cd] 37)) w.heap.size b an n cn ad d cd := ⟨add_new _ _, box_new ..⟩

def Awake2P (w : World) (e : Ending) (w' : World) : Prop := e = .returned (.bool true) ∧ Add w w'
end Go.Proofs.YtclifkaafocbdaaGreatDoor

namespace Go.Proofs.YtclifkaafocbdaaGreatDoor
open Go.RowKit NatM Go.Proofs.YtclifkaafocbdaaGreatDoor.Api

def tooLong (p : Value × Value) : Bool := decide (24 < lenV p.1) || decide (24 < lenV p.2)
def Long2P (w : World) (b : Bool) (e : Ending) (w' : World) : Prop := e = .returned (.bool b) ∧ w = w'
/-- A fraction as it came in: its parts may be of any length. -/
def FracI (w : World) (v : Value) (b : Bool) (xs ys : List Nat) : Prop :=
  ∃ an n cn ad d cd, v = .agg #[.bool b, .slice an n cn, .slice ad d cd] ∧ Reads w (.slice an n cn) xs ∧ Reads w (.slice ad d cd) ys
def longB (xs ys : List Nat) : Bool := decide (24 < xs.length) || decide (24 < ys.length)
theorem FracI.arg {w : World} {v : Value} {b : Bool} {xs ys : List Nat} (h : FracI w v b xs ys) (hl : longB xs ys = false) : FracA w v (b, val xs, val ys) := by
  obtain ⟨an, n, cn, ad, d, cd, rfl, h1, h2⟩ := h
  simp only [longB, Bool.or_eq_false_iff, decide_eq_false_iff_not] at hl
  exact ⟨an, n, cn, ad, d, cd, rfl, ⟨xs, h1, rfl, by omega⟩, ⟨ys, h2, rfl, by omega⟩⟩
theorem FracI.small {xs ys : List Nat} (hx : Limbs xs) (hy : Limbs ys) (hl : longB xs ys = false) : val xs < pw 24 ∧ val ys < pw 24 := by
  simp only [longB, Bool.or_eq_false_iff, decide_eq_false_iff_not] at hl
  exact ⟨Nat.lt_of_lt_of_le (val_lt hx) (pw_le (by omega)), Nat.lt_of_lt_of_le (val_lt hy) (pw_le (by omega))⟩
end Go.Proofs.YtclifkaafocbdaaGreatDoor
