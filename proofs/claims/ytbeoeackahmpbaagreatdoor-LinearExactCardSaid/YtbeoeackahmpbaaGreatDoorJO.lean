/- Package fraction: Format. | The sanity check of the laws of layer 2. | The guard of the laws of layer 2: is a fraction too long to be looked at? -/
import Derived.Test.YtbeoeackahmpbaaGreatDoorJN
import Derived.Laws.Concat
import Derived.Test.YtbeoeackahmpbaaGreatDoorJC

namespace Go.Proofs.YtbeoeackahmpbaaGreatDoor
open Go.RowKit NatM Go.Proofs.YtbeoeackahmpbaaGreatDoor.Api
/-- The text of a fraction out of the texts of its parts. -/
def fmtText (neg whole : Bool) (s1 s2 : ByteArray) : ByteArray :=
  if whole then (if neg then (⟨#[45]⟩ : ByteArray) ++ s1 else s1) else (if neg then (⟨#[45]⟩ : ByteArray) ++ s1 else s1) ++ ((⟨#[47]⟩ : ByteArray) ++ s2)
def FFmt (t : ByteArray) (x : Tri) : Prop := ∃ s1 s2, FmtIs s1 x.2.1 ∧ (x.2.2 = 1 ∨ FmtIs s2 x.2.2) ∧ t = fmtText x.1 (decide (x.2.2 = 1)) s1 s2
theorem FFmt.uniq {s t : ByteArray} {x : Tri} (h : FFmt s x) (g : FFmt t x) : s = t := by
  obtain ⟨s1, s2, h1, h2, rfl⟩ := h
  obtain ⟨t1, t2, g1, g2, rfl⟩ := g
  rw [h1.uniq g1]
  by_cases c : x.2.2 = 1
  · simp [fmtText, c]
  · rw [(h2.resolve_left c).uniq (g2.resolve_left c)]
/-- A text and an error number. -/
def TextR (w : World) (x : Tri) (e : Ending) (w' : World) : Prop := ∃ t, e = .returned (.tuple #[.string t, .int .i64 0]) ∧ FFmt t x ∧ t.size ≤ 3000000 ∧ Add w w'
theorem redF_ok {x : Tri} (h : okF x = true) : redF x = (can (qv x), 0) := by
  obtain ⟨h1, h2, h3⟩ := okF_iff.1 h
  unfold redF; rw [if_pos h]; exact fitQ_small h2 h3 h1
theorem can_small {x : Tri} (h : okF x = true) : (can (qv x)).2.1 < pw 128 ∧ (can (qv x)).2.2 < pw 128 ∧ (can (qv x)).2.2 ≠ 0 := by
  obtain ⟨h1, h2, h3⟩ := okF_iff.1 h
  have hd : (can (qv x)).2.2 ≠ 0 := (qv x).den_nz
  refine ⟨?_, ?_, hd⟩
  · show (qv x).num.natAbs < pw 128
    unfold qv; rw [frac_abs h1]; exact Nat.lt_of_le_of_lt (Nat.div_le_self _ _) h2
  · show (qv x).den < pw 128
    unfold qv; rw [frac_den h1]; exact Nat.lt_of_le_of_lt (Nat.div_le_self _ _) h3
end Go.Proofs.YtbeoeackahmpbaaGreatDoor

namespace Go.Proofs.YtbeoeackahmpbaaGreatDoor
open Go.RowKit NatM Go.Proofs.YtbeoeackahmpbaaGreatDoor.Api

/-- A fraction with known parts, without an error. -/
def OkF (w : World) (b : Bool) (N D : Nat) (e : Ending) (w' : World) : Prop :=
  ∃ an n cn ad d cd, e = .returned (.tuple #[.agg #[.bool b, .slice an n cn, .slice ad d cd], .int .i64 0]) ∧ Num w' (.slice an n cn) N ∧ Num w' (.slice ad d cd) D ∧ Add w w'
theorem ResF.ok {w : World} {b : Bool} {N D : Nat} {e : Ending} {w' : World} (h : ResF w ((b, N, D), 0) e w') : OkF w b N D e w' := by
  obtain ⟨v, rfl, ⟨an, n, cn, ad, d, cd, rfl, h1, h2⟩, h3⟩ := h
  exact ⟨an, n, cn, ad, d, cd, rfl, h1, h2, h3⟩
/-- An error. -/
def NoF (w : World) (k : Int) (e : Ending) (w' : World) : Prop :=
  ∃ an cn ad cd, e = .returned (.tuple #[.agg #[.bool false, .slice an 0 cn, .slice ad 0 cd], .int .i64 k]) ∧ Num w' (.slice an 0 cn) 0 ∧ Num w' (.slice ad 0 cd) 0 ∧ Add w w'
theorem ResF.no {w : World} {k : Nat} {e : Ending} {w' : World} (h : ResF w ((false, 0, 0), k) e w') : NoF w (k : Nat) e w' := by
  obtain ⟨v, rfl, ⟨an, n, cn, ad, d, cd, rfl, h1, h2⟩, h3⟩ := h
  obtain ⟨a1, c1, e1⟩ := num_len0 h1
  obtain ⟨a2, c2, e2⟩ := num_len0 h2
  simp only [Value.slice.injEq] at e1 e2
  obtain ⟨rfl, rfl, rfl⟩ := e1
  obtain ⟨rfl, rfl, rfl⟩ := e2
  exact ⟨_, _, _, _, rfl, h1, h2, h3⟩
theorem small128 {N : Nat} (h : N < 18446744073709551616) : N < pw 128 := by
  have h1 : pw 2 ≤ pw 128 := pw_le (by decide)
  have h2 : pw 2 = 18446744073709551616 := by decide
  omega
theorem fit_const {b : Bool} {N D X Y : Nat} (h1 : N < 18446744073709551616) (h2 : D < 18446744073709551616) (h3 : N ≠ 0) (h4 : D ≠ 0) (h5 : N / Nat.gcd N D = X) (h6 : D / Nat.gcd N D = Y) : fitQ (frac b N D) = ((b, X, Y), 0) := by
  rw [fitQ_small (small128 h1) (small128 h2) h4, can_frac h3 h4, h5, h6]
theorem make12 : makeF 1 2 = ((false, 1, 2), 0) := fit_const (b := false) (N := 1) (D := 2) (by decide) (by decide) (by decide) (by decide) (by decide) (by decide)
theorem make13 : makeF (-1) (-3) = ((false, 1, 3), 0) := fit_const (b := false) (N := 1) (D := 3) (by decide) (by decide) (by decide) (by decide) (by decide) (by decide)
theorem make10 : makeF 1 0 = ((false, 0, 0), 3) := rfl
theorem ok12 : okF (false, 1, 2) = true := okF_iff.2 ⟨by decide, small128 (by decide), small128 (by decide)⟩
theorem ok13 : okF (false, 1, 3) = true := okF_iff.2 ⟨by decide, small128 (by decide), small128 (by decide)⟩
theorem ok56 : okF (false, 5, 6) = true := okF_iff.2 ⟨by decide, small128 (by decide), small128 (by decide)⟩
theorem add56 : addF (false, 1, 2) (false, 1, 3) = ((false, 5, 6), 0) := by
  unfold addF
  rw [if_pos ⟨ok12, ok13⟩]
  show fitQ (frac false 1 2 + frac false 1 3) = _
  rw [frac_add_same (by decide) (by decide)]
  exact fit_const (by decide) (by decide) (by decide) (by decide) (by decide) (by decide)
theorem can56 : can (qv (false, 5, 6)) = (false, 5, 6) := by
  show can (frac false 5 6) = _
  rw [can_frac (by decide) (by decide)]; rfl
theorem text56 {t : ByteArray} (h : FFmt t (false, 5, 6)) : t = ⟨#[53, 47, 54]⟩ := by
  obtain ⟨s1, s2, h1, h2, rfl⟩ := h
  have f5 : FmtIs ⟨#[53]⟩ 5 := .inr ⟨by decide, [5], by intro d hd; simp at hd; omega, rfl, by decide, by decide⟩
  have f6 : FmtIs ⟨#[54]⟩ 6 := .inr ⟨by decide, [6], by intro d hd; simp at hd; omega, rfl, by decide, by decide⟩
  rw [h1.uniq f5, (h2.resolve_left (by decide)).uniq f6]
  decide +kernel
theorem makeC (b : Bool) (N D : Nat) {n d : Int} {w : World} (hT : Tab w) (h : Hid ((-9223372036854775808 ≤ n ∧ n ≤ 9223372036854775807) ∧ -9223372036854775808 ≤ d ∧ d ≤ 9223372036854775807)) (hp : Hid (makeF n d = ((b, N, D), 0))) :
    Calls Tryz.prog 84 #[.int .i64 n, .int .i64 d] w (OkF w b N D) := (makeN' _ hT h hp).mono fun _ _ g => g.ok
theorem numA {w : World} {b : Bool} {N D : Nat} {an n cn ad d cd} (h1 : Num w (.slice an n cn) N) (h2 : Num w (.slice ad d cd) D) (b1 : N < 18446744073709551616) (b2 : D < 18446744073709551616) : FracA w (.agg #[.bool b, .slice an n cn, .slice ad d cd]) (b, N, D) :=
  ⟨an, n, cn, ad, d, cd, rfl, num_nv h1 (lt_up (small128 b1) (by decide)), num_nv h2 (lt_up (small128 b2) (by decide))⟩
/-- A variable that is laid and holds a result. -/
theorem laid_var (w : World) (b : Bool) (an : Option Addr) (n cn : Nat) (ad : Option Addr) (d cd : Nat) : Add w (w.alloc (.cells #[.bool b, .slice an n cn, .slice ad d cd] 37)) ∧ Box (w.alloc (.cells #[.bool b, .slice an n cn, .slice ad d cd] 37)) w.heap.size b an n cn ad d cd := ⟨add_new _ _, box_new ..⟩

def Awake2P (w : World) (e : Ending) (w' : World) : Prop := e = .returned (.bool true) ∧ Add w w'
end Go.Proofs.YtbeoeackahmpbaaGreatDoor

namespace Go.Proofs.YtbeoeackahmpbaaGreatDoor
open Go.RowKit NatM Go.Proofs.YtbeoeackahmpbaaGreatDoor.Api

def tooLong (p : Value × Value) : Bool := decide (24 < lenV p.1) || decide (24 < lenV p.2)
def Long2P (w : World) (b : Bool) (e : Ending) (w' : World) : Prop := e = .returned (.bool b) ∧ w = w'
/-- A fraction as it came in: its parts may be of any length. -/
def FracI (w : World) (v : Value) (b : Bool) (xs ys : List Nat) : Prop :=
  ∃ an n cn ad d cd, v = .agg #[.bool b, .slice an n cn, .slice ad d cd] ∧ Reads w (.slice an n cn) xs ∧ Reads w (.slice ad d cd) ys
def longB (xs ys : List Nat) : Bool := decide (24 < xs.length) || decide (24 < ys.length)
theorem FracI.arg {w : World} {v : Value} {b : Bool} {xs ys : List Nat} (h : FracI w v b xs ys) (hl : longB xs ys = false) : FracA w v (b, val xs, val ys) := by
  obtain ⟨an, n, cn, ad, d, cd, rfl, h1, h2⟩ := h
  simp only [longB, Bool.or_eq_false_iff, decide_eq_false_iff_not] at hl
  exact ⟨an, n, cn, ad, d, cd, rfl, ⟨xs, h1, rfl, by omega⟩, ⟨ys, h2, rfl, by omega⟩⟩
theorem FracI.small {xs ys : List Nat} (hx : Limbs xs) (hy : Limbs ys) (hl : longB xs ys = false) : val xs < pw 24 ∧ val ys < pw 24 := by
  simp only [longB, Bool.or_eq_false_iff, decide_eq_false_iff_not] at hl
  exact ⟨Nat.lt_of_lt_of_le (val_lt hx) (pw_le (by omega)), Nat.lt_of_lt_of_le (val_lt hy) (pw_le (by omega))⟩
end Go.Proofs.YtbeoeackahmpbaaGreatDoor
