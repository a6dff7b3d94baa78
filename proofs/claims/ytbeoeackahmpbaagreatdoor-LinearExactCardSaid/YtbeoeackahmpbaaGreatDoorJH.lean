/- Numbers as the callers of package natural hold them. | Package fraction on numbers: isZero, zerosAtEnd, isPowerOfTwo, plus, minus, times, shift, withoutCommonFactor. | Package fraction on numbers: isZero, plus, minus, times, shift. | Fractions as values and in memory. | Sums, products and quotients of fractions: what is computed over a common denominator. No program is walked here. -/
import Derived.Test.YtbeoeackahmpbaaGreatDoorJF
import Derived.Test.YtbeoeackahmpbaaGreatDoorJA
import Derived.Shelf.Spec.TrailingZeros

namespace Go.Proofs.YtbeoeackahmpbaaGreatDoor.Api
open Go.Proofs.YtbeoeackahmpbaaGreatDoor Go.RowKit NatM

/-- v reads in w as a list of limbs with the value N, and is not monstrously long. -/
def Nv (w : World) (v : Value) (N : Nat) : Prop := ∃ xs, Reads w v xs ∧ val xs = N ∧ xs.length ≤ 100000
theorem Nv.mono {w w' : World} {v : Value} {N : Nat} (h : Nv w v N) (hb : Add w w') : Nv w' v N := by
  obtain ⟨xs, h1, h2, h3⟩ := h; exact ⟨xs, h1.mono hb, h2, h3⟩
theorem Nv.nu {w : World} {v : Value} {N : Nat} (h : Nv w v N) : Nu w v N := by
  obtain ⟨xs, h1, h2, h3⟩ := h; exact ⟨xs, h1, h2, by omega⟩
theorem num_nv {w : World} {v : Value} {N : Nat} (h : Num w v N) (hN : N < pw 1000) : Nv w v N := by
  obtain ⟨zs, h1, h2, h3⟩ := h
  refine ⟨zs, h1, h3, ?_⟩
  have : tlen zs ≤ 1000 := tlen_le_of_val 1000 (by rw [h3]; exact hN)
  unfold Canon at h2; omega
theorem Nv.nil (w : World) : Nv w (.slice none 0 0) 0 := ⟨[], Reads.nil w, rfl, by decide⟩
end Go.Proofs.YtbeoeackahmpbaaGreatDoor.Api

namespace Go.Proofs.YtbeoeackahmpbaaGreatDoor
open Go.RowKit NatM Go.Proofs.YtbeoeackahmpbaaGreatDoor.Api

/-- Go's table of package math/bits lies in its variable. -/
def Tab (w : World) : Prop := 0 < w.heap.size ∧ ∀ j, j < 32 → w.cell? ⟨0, j, none⟩ = some (.int .u8 (Lib.deBruijn32tab.getD j 0 : Nat))
theorem Tab.mono {w w' : World} (h : Tab w) (hb : Add w w') : Tab w' :=
  ⟨Nat.lt_of_lt_of_le h.1 hb.size, fun j hj => (hb.cell (p := ⟨_, j, none⟩) h.1).trans (h.2 j hj)⟩

theorem tz32_core (x k idx : Nat) (w : World) (hx0 : ((x : Int) == 0) = false)
    (key : bits BinOp.and IntKind.u32 (x : Int) (-(x : Int) % 4294967296) * 125613361 % 4294967296 / 134217728 = (idx : Int))
    (hi : idx < 32) (_hk : k < 32) (hcell : w.cell? ⟨0, idx, none⟩ = some (.int .u8 (k : Nat))) :
    Calls Tryz.prog 131 #[.int .u32 (x : Nat)] w (IntP w k) := by
  go_enter Tryz.func131, Tryz.ntmps131
  go_wp2_with (simp only [key])
  go_ret
  exact ⟨rfl, rfl⟩
/-- How often 2 divides a limb. -/
def TzP (w : World) (x : Nat) (e : Ending) (w' : World) : Prop := ∃ t u : Nat, e = .returned (.int .i64 (t : Nat)) ∧ x = 2 ^ t * (2 * u + 1) ∧ t < 32 ∧ w = w'
theorem tz32_any (x : Nat) (w : World) (hx : x < 4294967296) (hx0 : x ≠ 0) (hT : Tab w) : Calls Tryz.prog 131 #[.int .u32 (x : Nat)] w (TzP w x) := by
  obtain ⟨hlow, hk⟩ := Lib.lowest_bit 32 x hx0 hx
  obtain ⟨hi, htab⟩ := Lib.deBruijn32_at _ hk
  have hcell := hT.2 _ hi
  rw [htab] at hcell
  obtain ⟨u, hu, -⟩ := Lib.ctzFrom_spec 32 x (by omega) hx
  have e : Lib.ctz 32 x = Lib.ctzFrom 32 x := by simp [Lib.ctz, hx0]
  refine (tz32_core x _ _ w (by simp; omega) (tz32_key x _ hx hx0 hlow) hi hk hcell).mono ?_
  rintro e' w' ⟨rfl, rfl⟩
  exact ⟨Lib.ctz 32 x, u, rfl, by rw [e]; exact hu, hk, rfl⟩

/-- A call that returns how often 2 divides A. -/
def TzI (w : World) (A : Nat) (e : Ending) (w' : World) : Prop := ∃ z : Nat, e = .returned (.int .i64 (z : Nat)) ∧ Tz A z ∧ z ≤ 40000000 ∧ Add w w'
set_option maxRecDepth 100000 in
set_option maxHeartbeats 1000000 in
theorem zerosAtEnd_any (va : Value) (xs : List Nat) (w : World) (ha : Reads w va xs) (hs : xs.length ≤ 1000000) (h0 : val xs ≠ 0) (hT : Tab w) :
    Calls Tryz.prog 117 #[va] w (TzI w (val xs)) := by
  have hx := ha.limbs
  obtain ⟨aa, n, c, rfl, hl, hc, hm, -, hr⟩ := ha
  unfold maxLen at hm
  have HX := Lib.hid hx
  have HL := Lib.hid hl
  have HR := Lib.hid hr
  have H0 := Lib.hid h0
  have hn : n ≤ 1000000 := by omega
  clear hx hl hr h0 hs hc hm
  go_enter Tryz.func117, Tryz.ntmps117
  go_wp2_with fail
  go_loop [3] (fun i => ∃ k : Nat, i = .int .i64 (k : Nat) ∧ ∀ j, j < k → xs.getD j 0 = 0) (fun i => n - (intOf i).toNat)
  case atStart => exact ⟨0, rfl, fun j hj => absurd hj (Nat.not_lt_zero _)⟩
  case round =>
    obtain ⟨k, rfl, hz⟩ := hrel
    have hk : k < n := by
      rcases Nat.lt_or_ge k n with h | h
      · exact h
      · exfalso
        have h1 := val_take_zeros (xs := xs) (i := xs.length) fun j hj => hz j (by have := HL.out; omega)
        rw [List.take_length] at h1
        exact H0.out h1
    obtain ⟨b, off, rfl, hcell⟩ := HR.out (by omega)
    have hc1 := hcell k hk
    obtain ⟨x, hxe⟩ : ∃ x, x = xs.getD k 0 := ⟨_, rfl⟩
    rw [← hxe] at hc1
    have hxl : x < 4294967296 := by rw [hxe]; exact HX.out.getD _
    have HXE := Lib.hid hxe
    have HZ := Lib.hid hz
    clear hcell hxe hz
    by_cases hx0 : x = 0
    · subst hx0
      go_wp2_with fail
      go_round
      case rel =>
        refine ⟨k + 1, by go_num, fun j hj => ?_⟩
        rcases Nat.lt_or_ge j k with h | h
        · exact HZ.out j h
        · obtain rfl : j = k := by omega
          exact HXE.out.symm
      case measure => simp [intOf]; omega
    · have hne : ((x : Int) == 0) = false := by simp; omega
      have HC := Lib.hid (tz32_any x w hxl hx0 hT)
      clear hxl hx0
      go_wp2_with fail
      refine HC.out.mono ?_
      rintro e w' ⟨t, u, rfl, hxt, ht, rfl⟩
      have hF : TzI w (val xs) (.returned (.int .i64 ((32 * k + t : Nat) : Int))) w := ⟨_, rfl, tz_limbs (by rw [HL.out]; omega) HZ.out HXE.out hxt ht, by omega, Below.refl _ _⟩
      have e1 : (32 : Int) * (k : Int) + (t : Int) = ((32 * k + t : Nat) : Int) := by omega
      have HF := Lib.hid hF
      have E1 := Lib.hid e1
      clear hxt hF HC e1
      go_wp2_with fail
      go_ret
      rw [E1.out]
      exact HF.out

/-- A is a power of two. -/
def pow2 (A : Nat) : Bool := decide (A = 2 ^ (nb A - 1))
theorem pow2_tz {A z : Nat} (h : Tz A z) : pow2 A = decide ((z : Int) = (nb A : Int) - 1) := by
  have h1 := h.le
  unfold pow2
  rw [decide_eq_decide]
  constructor
  · intro e
    obtain ⟨u, hu⟩ := id h
    rcases Nat.lt_or_ge z (nb A - 1) with h2 | h2
    · exfalso
      obtain ⟨d, hd⟩ : ∃ d, nb A - 1 = z + (d + 1) := ⟨nb A - 1 - z - 1, by omega⟩
      rw [hd, Nat.pow_add, Nat.pow_succ] at e
      have e2 : 2 ^ z * (2 * u + 1) = 2 ^ z * (2 ^ d * 2) := hu.symm.trans e
      have := Nat.eq_of_mul_eq_mul_left (Nat.two_pow_pos z) e2
      omega
    · omega
  · intro e
    have e2 := h.pow (by omega)
    have e3 : nb A - 1 = z := by omega
    rw [e3]; exact e2
set_option maxRecDepth 100000 in
theorem isPowerOfTwo_any (va : Value) (xs : List Nat) (w : World) (ha : Reads w va xs) (hs : xs.length ≤ 1000000) (h0 : val xs ≠ 0) (hT : Tab w) :
    Calls Tryz.prog 119 #[va] w (BoolIs w (pow2 (val xs))) := by
  have HZ := Lib.hid (zerosAtEnd_any va xs w ha hs h0 hT)
  have HB := fun w1 (h : Add w w1) => Lib.hid (bits_any va xs w1 (ha.mono h) hs)
  have hnb : nb (val xs) ≤ 32000000 := by
    have h1 := val_lt ha.limbs
    have h2 := Nat.le_trans (nb_lt_pw.1 h1) (Nat.mul_le_mul_left 32 hs)
    omega
  obtain ⟨A, hA⟩ : ∃ A, A = val xs := ⟨_, rfl⟩
  rw [← hA] at HZ hnb ⊢
  simp only [← hA] at HB
  obtain ⟨N, hN⟩ : ∃ N, N = nb A := ⟨_, rfl⟩
  simp only [← hN] at HB hnb
  have HN := Lib.hid hN
  clear hA hN h0 hT ha
  go_enter Tryz.func119, Tryz.ntmps119
  go_wp2_with fail
  refine HZ.out.mono ?_
  rintro e w1 ⟨z, rfl, hz, hzb, h1⟩
  have hp := pow2_tz hz
  rw [← HN.out] at hp
  have HP := Lib.hid hp
  have HADD := Lib.hid h1
  clear hp hz
  go_wp2_with fail
  refine (HB _ h1).out.mono ?_
  rintro e w2 ⟨rfl, rfl⟩
  clear h1
  by_cases hc : (z : Int) = (N : Int) - 1
  · have hF : BoolIs w (pow2 A) (.returned (.bool true)) w2 := ⟨by rw [HP.out, decide_eq_true hc], HADD.out⟩
    have dc : ((z : Int) == (N : Int) - 1) = true := by simp [hc]
    clear hc
    go_wp2_with fail
    go_ret
    exact hF
  · have hF : BoolIs w (pow2 A) (.returned (.bool false)) w2 := ⟨by rw [HP.out, decide_eq_false hc], HADD.out⟩
    have dc : ((z : Int) == (N : Int) - 1) = false := by simp; omega
    clear hc
    go_wp2_with fail
    go_ret
    exact hF
end Go.Proofs.YtbeoeackahmpbaaGreatDoor

namespace Go.Proofs.YtbeoeackahmpbaaGreatDoor
open Go.RowKit NatM Go.Proofs.YtbeoeackahmpbaaGreatDoor.Api

theorem isZeroN (b : Bool) {va : Value} {A : Nat} {w : World} (ha : Nv w va A) (h : Hid (decide (A = 0) = b)) : Calls Tryz.prog 97 #[va] w (BoolIs w b) := by
  obtain ⟨X, hX⟩ : ∃ X, nb A = X := ⟨_, rfl⟩
  have HB := Lib.hid (bitsN X ha.nu (Lib.hid hX))
  have hb := h.out
  have h0 : decide ((X : Int) = 0) = b := by
    rw [← hb, decide_eq_decide, ← hX]
    have := nb_eq_zero (n := A)
    omega
  have hc : ((X : Int) == 0) = b := by rw [← h0]; rfl
  clear ha h hb h0 hX
  go_enter Tryz.func97, Tryz.ntmps97
  go_wp2_with fail
  refine HB.out.mono ?_
  rintro e w1 ⟨rfl, h1⟩
  clear HB
  go_wp2_with fail
  go_ret
  exact ⟨rfl, h1⟩
theorem plusF {va vb : Value} {A B : Nat} {w : World} (ha : Nv w va A) (hb : Nv w vb B) (h : Hid (A + B < pw 512)) : Calls Tryz.prog 128 #[va, vb] w (NumP w (A + B)) := by
  have HC := Lib.hid (addN ha.nu hb.nu h)
  obtain ⟨N, hN⟩ : ∃ N, A + B = N := ⟨_, rfl⟩
  rw [hN] at HC ⊢
  clear ha hb h hN
  go_enter Tryz.func128, Tryz.ntmps128
  go_wp2_with fail
  refine HC.out.mono ?_
  rintro e w1 ⟨v, rfl, n1, -, h1⟩
  have hF : NumP w N (.returned v) w1 := ⟨v, rfl, n1, h1⟩
  clear HC n1 h1
  go_wp2_with fail
  go_ret
  exact hF
theorem minusF {va vb : Value} {A B : Nat} {w : World} (ha : Nv w va A) (hb : Nv w vb B) (h : Hid (A < pw 512 ∧ B ≤ A)) : Calls Tryz.prog 130 #[va, vb] w (NumP w (A - B)) := by
  have HC := Lib.hid (subN ha.nu hb.nu h)
  obtain ⟨N, hN⟩ : ∃ N, A - B = N := ⟨_, rfl⟩
  rw [hN] at HC ⊢
  clear ha hb h hN
  go_enter Tryz.func130, Tryz.ntmps130
  go_wp2_with fail
  refine HC.out.mono ?_
  rintro e w1 ⟨v, rfl, n1, -, h1⟩
  have hF : NumP w N (.returned v) w1 := ⟨v, rfl, n1, h1⟩
  clear HC n1 h1
  go_wp2_with fail
  go_ret
  exact hF
theorem timesF {va vb : Value} {A B : Nat} {w : World} (ha : Nv w va A) (hb : Nv w vb B) (h : Hid (A < pw 512 ∧ B < pw 512 ∧ A * B < pw 512)) : Calls Tryz.prog 106 #[va, vb] w (NumP w (A * B)) := by
  have HC := Lib.hid (mulN ha.nu hb.nu h)
  obtain ⟨N, hN⟩ : ∃ N, A * B = N := ⟨_, rfl⟩
  rw [hN] at HC ⊢
  clear ha hb h hN
  go_enter Tryz.func106, Tryz.ntmps106
  go_wp2_with fail
  refine HC.out.mono ?_
  rintro e w1 ⟨v, rfl, n1, -, h1⟩
  have hF : NumP w N (.returned v) w1 := ⟨v, rfl, n1, h1⟩
  clear HC n1 h1
  go_wp2_with fail
  go_ret
  exact hF
theorem shiftF (N : Nat) (z : Int) {va : Value} {w : World} (HC : Hid (Calls Tryz.prog 132 #[va, .int .i64 z] w (OkN w N))) : Calls Tryz.prog 118 #[va, .int .i64 z] w (NumP w N) := by
  go_enter Tryz.func118, Tryz.ntmps118
  go_wp2_with fail
  refine HC.out.mono ?_
  rintro e w1 ⟨v, rfl, n1, -, h1⟩
  have hF : NumP w N (.returned v) w1 := ⟨v, rfl, n1, h1⟩
  clear HC n1 h1
  go_wp2_with fail
  go_ret
  exact hF
theorem shiftDownF (N k : Nat) {va : Value} {A : Nat} {w : World} (ha : Nv w va A) (h : Hid (A < pw 512 ∧ A / 2 ^ k = N)) : Calls Tryz.prog 118 #[va, .int .i64 (-(k : Int))] w (NumP w N) :=
  shiftF N _ (Lib.hid (downN N k ha.nu h))
end Go.Proofs.YtbeoeackahmpbaaGreatDoor

namespace Go.Proofs.YtbeoeackahmpbaaGreatDoor
open Go.RowKit NatM Go.Proofs.YtbeoeackahmpbaaGreatDoor.Api

/-- The sign, numerator and denominator that are read. -/
abbrev Tri := Bool × Nat × Nat
/-- Block g is a variable of type api.Frac. -/
def Box (w : World) (g : Nat) (b : Bool) (an : Option Addr) (n cn : Nat) (ad : Option Addr) (d cd : Nat) : Prop :=
  w.heap[g]? = some (.cells #[.bool b, .slice an n cn, .slice ad d cd] 37 (0, 0))
theorem Box.lt {w : World} {g : Nat} {b an n cn ad d cd} (h : Box w g b an n cn ad d cd) : g < w.heap.size := (Array.getElem?_eq_some_iff.1 h).1
theorem Box.mono {w w' : World} {g : Nat} {b an n cn ad d cd} (h : Box w g b an n cn ad d cd) (hb : Add w w') : Box w' g b an n cn ad d cd := (hb.block g h.lt).trans h
theorem Box.c0 {w : World} {g : Nat} {b an n cn ad d cd} (h : Box w g b an n cn ad d cd) : w.cell? ⟨g, 0, none⟩ = some (.bool b) := by rw [cell_of_row w g 0 _ 37 (0, 0) h]; rfl
theorem Box.c1 {w : World} {g : Nat} {b an n cn ad d cd} (h : Box w g b an n cn ad d cd) : w.cell? ⟨g, 1, none⟩ = some (.slice an n cn) := by rw [cell_of_row w g 1 _ 37 (0, 0) h]; rfl
theorem Box.c2 {w : World} {g : Nat} {b an n cn ad d cd} (h : Box w g b an n cn ad d cd) : w.cell? ⟨g, 2, none⟩ = some (.slice ad d cd) := by rw [cell_of_row w g 2 _ 37 (0, 0) h]; rfl
theorem Box.fr {w : World} {g : Nat} {b an n cn ad d cd} (h : Box w g b an n cn ad d cd) (i : Nat) : w.frozen? ⟨g, i, none⟩ = false := frozen_of_row w g i _ 37 h
theorem box_new (w : World) (b : Bool) (an : Option Addr) (n cn : Nat) (ad : Option Addr) (d cd : Nat) : Box (w.alloc (.cells #[.bool b, .slice an n cn, .slice ad d cd] 37)) w.heap.size b an n cn ad d cd := heap_alloc_new w _
theorem Box.not_int {w : World} {g : Nat} {b an n cn ad d cd} (h : Box w g b an n cn ad d cd) (i : Nat) (k : IntKind) (z : Int) : w.cell? ⟨g, i, none⟩ ≠ some (.int k z) := by
  rw [cell_of_row w g i _ 37 (0, 0) h]
  rcases i with _ | _ | _ | i <;> simp
theorem Box.cells {w : World} {g : Nat} {b an n cn ad d cd} (h : w.heap.size = g) : Box (w.alloc (.cells #[.bool b, .slice an n cn, .slice ad d cd] 37)) g b an n cn ad d cd := by subst h; exact box_new w b an n cn ad d cd
theorem add_new (w : World) (o : Obj) : Add w (w.alloc o) := (Below.refl _ _).alloc (Nat.le_refl _) _
/-- The variables of a function of one fraction; with a result; of two; with a result. -/
theorem start1 (w : World) (b : Bool) (an : Option Addr) (n cn : Nat) (ad : Option Addr) (d cd : Nat) :
    Add w (w.alloc (.cells #[.bool b, .slice an n cn, .slice ad d cd] 37)) ∧ Box (w.alloc (.cells #[.bool b, .slice an n cn, .slice ad d cd] 37)) w.heap.size b an n cn ad d cd := ⟨add_new _ _, box_new ..⟩
theorem start2 (w : World) (b : Bool) (an : Option Addr) (n cn : Nat) (ad : Option Addr) (d cd : Nat) (b' : Bool) (an' : Option Addr) (n' cn' : Nat) (ad' : Option Addr) (d' cd' : Nat) :
    Add w ((w.alloc (.cells #[.bool b, .slice an n cn, .slice ad d cd] 37)).alloc (.cells #[.bool b', .slice an' n' cn', .slice ad' d' cd'] 37)) ∧
    Box ((w.alloc (.cells #[.bool b, .slice an n cn, .slice ad d cd] 37)).alloc (.cells #[.bool b', .slice an' n' cn', .slice ad' d' cd'] 37)) w.heap.size b an n cn ad d cd ∧
    Box ((w.alloc (.cells #[.bool b, .slice an n cn, .slice ad d cd] 37)).alloc (.cells #[.bool b', .slice an' n' cn', .slice ad' d' cd'] 37)) (w.heap.size + 1) b' an' n' cn' ad' d' cd' :=
  ⟨Add.trans (add_new _ _) (add_new _ _), (box_new ..).mono (add_new _ _), Box.cells (by simp)⟩
theorem start3 (w : World) (b : Bool) (an : Option Addr) (n cn : Nat) (ad : Option Addr) (d cd : Nat) (b' : Bool) (an' : Option Addr) (n' cn' : Nat) (ad' : Option Addr) (d' cd' : Nat) (b2 : Bool) (an2 : Option Addr) (n2 cn2 : Nat) (ad2 : Option Addr) (d2 cd2 : Nat) :
    Add w (((w.alloc (.cells #[.bool b, .slice an n cn, .slice ad d cd] 37)).alloc (.cells #[.bool b', .slice an' n' cn', .slice ad' d' cd'] 37)).alloc (.cells #[.bool b2, .slice an2 n2 cn2, .slice ad2 d2 cd2] 37)) ∧
    Box (((w.alloc (.cells #[.bool b, .slice an n cn, .slice ad d cd] 37)).alloc (.cells #[.bool b', .slice an' n' cn', .slice ad' d' cd'] 37)).alloc (.cells #[.bool b2, .slice an2 n2 cn2, .slice ad2 d2 cd2] 37)) w.heap.size b an n cn ad d cd ∧
    Box (((w.alloc (.cells #[.bool b, .slice an n cn, .slice ad d cd] 37)).alloc (.cells #[.bool b', .slice an' n' cn', .slice ad' d' cd'] 37)).alloc (.cells #[.bool b2, .slice an2 n2 cn2, .slice ad2 d2 cd2] 37)) (w.heap.size + 1) b' an' n' cn' ad' d' cd' ∧
    Box (((w.alloc (.cells #[.bool b, .slice an n cn, .slice ad d cd] 37)).alloc (.cells #[.bool b', .slice an' n' cn', .slice ad' d' cd'] 37)).alloc (.cells #[.bool b2, .slice an2 n2 cn2, .slice ad2 d2 cd2] 37)) (w.heap.size + 2) b2 an2 n2 cn2 ad2 d2 cd2 :=
  ⟨Add.trans (Add.trans (add_new _ _) (add_new _ _)) (add_new _ _), ((box_new ..).mono (add_new _ _)).mono (add_new _ _), (Box.cells (by simp)).mono (add_new _ _), Box.cells (by simp)⟩
/-- What is stored into the variable. -/
def put3 (w : World) (g : Nat) (u0 u1 u2 : Value) : World := ((w.setCell ⟨g, 0, none⟩ u0).setCell ⟨g, 1, none⟩ u1).setCell ⟨g, 2, none⟩ u2
theorem put3_other {w : World} {g k : Nat} (u0 u1 u2 : Value) (h : k ≠ g) : (put3 w g u0 u1 u2).heap[k]? = w.heap[k]? := by
  unfold put3
  rw [heap_setCell_other _ _ _ _ h, heap_setCell_other _ _ _ _ h, heap_setCell_other _ _ _ _ h]
theorem put3_below {w0 w : World} {g base : Nat} (u0 u1 u2 : Value) (h : Below base w0 w) (hg : base ≤ g) : Below base w0 (put3 w g u0 u1 u2) :=
  ((h.setCell hg u0).setCell hg u1).setCell hg u2
theorem cell_other {w w' : World} {g : Nat} (h : ∀ k, k ≠ g → w'.heap[k]? = w.heap[k]?) (a : Addr) (ha : a.block ≠ g) : w'.cell? a = w.cell? a := by
  unfold World.cell?
  rw [h _ ha]
theorem put3_cell {w : World} {g k i : Nat} (u0 u1 u2 : Value) (h : k ≠ g) : (put3 w g u0 u1 u2).cell? ⟨k, i, none⟩ = w.cell? ⟨k, i, none⟩ := cell_other (fun _ hj => put3_other u0 u1 u2 hj) _ h
theorem Reads.put {w : World} {v : Value} {xs : List Nat} {g : Nat} {b an n cn ad d cd} (h : Reads w v xs) (hB : Box w g b an n cn ad d cd) (u0 u1 u2 : Value) : Reads (put3 w g u0 u1 u2) v xs := by
  obtain ⟨ao, m, c, rfl, hl, hc, hm, hx, hr⟩ := h
  refine ⟨ao, m, c, rfl, hl, hc, hm, hx, fun hn => ?_⟩
  obtain ⟨k, off, rfl, hcell⟩ := hr hn
  refine ⟨k, off, rfl, fun i hi => ?_⟩
  have hk : k ≠ g := by
    rintro rfl
    exact hB.not_int _ _ _ (hcell i hi)
  rw [cell_other (fun j hj => put3_other u0 u1 u2 hj) _ hk]
  exact hcell i hi
theorem Num.put {w : World} {v : Value} {N g : Nat} {b an n cn ad d cd} (h : Num w v N) (hB : Box w g b an n cn ad d cd) (u0 u1 u2 : Value) : Num (put3 w g u0 u1 u2) v N := by
  obtain ⟨zs, h1, h2⟩ := h; exact ⟨zs, h1.put hB u0 u1 u2, h2⟩
theorem Box.put {w : World} {g : Nat} {b an n cn ad d cd} (h : Box w g b an n cn ad d cd) (b' : Bool) (an' : Option Addr) (n' cn' : Nat) (ad' : Option Addr) (d' cd' : Nat) :
    Box (put3 w g (.bool b') (.slice an' n' cn') (.slice ad' d' cd')) g b' an' n' cn' ad' d' cd' := by
  unfold put3 Box
  have h1 := heap_setCell_same w g 0 _ 37 (.bool b') h
  have h2 := heap_setCell_same _ g 1 _ 37 (.slice an' n' cn') h1
  exact heap_setCell_same _ g 2 _ 37 (.slice ad' d' cd') h2
theorem num_slice {w : World} {v : Value} {N : Nat} (h : Num w v N) : ∃ a n c, v = .slice a n c := by
  obtain ⟨zs, ⟨a, n, c, rfl, -⟩, -⟩ := h; exact ⟨_, _, _, rfl⟩
theorem nv_slice {w : World} {v : Value} {N : Nat} (h : Nv w v N) : ∃ a n c, v = .slice a n c := by
  obtain ⟨zs, ⟨a, n, c, rfl, -⟩, -⟩ := h; exact ⟨_, _, _, rfl⟩

/-- v reads in w as a fraction with canonical parts. -/
def FracT (w : World) (v : Value) (x : Tri) : Prop :=
  ∃ an n cn ad d cd, v = .agg #[.bool x.1, .slice an n cn, .slice ad d cd] ∧ Num w (.slice an n cn) x.2.1 ∧ Num w (.slice ad d cd) x.2.2
theorem FracT.mono {w w' : World} {v : Value} {x : Tri} (h : FracT w v x) (hb : Add w w') : FracT w' v x := by
  obtain ⟨an, n, cn, ad, d, cd, h1, h2, h3⟩ := h; exact ⟨an, n, cn, ad, d, cd, h1, h2.mono hb, h3.mono hb⟩
/-- v reads in w as a fraction, its parts canonical or not. -/
def FracA (w : World) (v : Value) (x : Tri) : Prop :=
  ∃ an n cn ad d cd, v = .agg #[.bool x.1, .slice an n cn, .slice ad d cd] ∧ Nv w (.slice an n cn) x.2.1 ∧ Nv w (.slice ad d cd) x.2.2
theorem FracA.mono {w w' : World} {v : Value} {x : Tri} (h : FracA w v x) (hb : Add w w') : FracA w' v x := by
  obtain ⟨an, n, cn, ad, d, cd, h1, h2, h3⟩ := h; exact ⟨an, n, cn, ad, d, cd, h1, h2.mono hb, h3.mono hb⟩
theorem FracT.arg {w : World} {v : Value} {x : Tri} (h : FracT w v x) (h1 : x.2.1 < pw 1000) (h2 : x.2.2 < pw 1000) : FracA w v x := by
  obtain ⟨an, n, cn, ad, d, cd, rfl, g1, g2⟩ := h
  exact ⟨an, n, cn, ad, d, cd, rfl, num_nv g1 h1, num_nv g2 h2⟩
theorem fracT_zero (w : World) : FracT w (.agg #[.bool false, .slice none 0 0, .slice none 0 0]) (false, 0, 0) := ⟨none, 0, 0, none, 0, 0, rfl, Num.nil w, Num.nil w⟩
theorem FracT.put {w : World} {v : Value} {x : Tri} {g : Nat} {b an n cn ad d cd} (h : FracT w v x) (hB : Box w g b an n cn ad d cd) (u0 u1 u2 : Value) : FracT (put3 w g u0 u1 u2) v x := by
  obtain ⟨an, n, cn, ad, d, cd, h1, h2, h3⟩ := h; exact ⟨an, n, cn, ad, d, cd, h1, h2.put hB u0 u1 u2, h3.put hB u0 u1 u2⟩
/-- Is it valid: a denominator that is not 0, and no part too long. -/
def okF (x : Tri) : Bool := decide (x.2.2 ≠ 0 ∧ x.2.1 < pw 128 ∧ x.2.2 < pw 128)
theorem okF_iff {x : Tri} : okF x = true ↔ x.2.2 ≠ 0 ∧ x.2.1 < pw 128 ∧ x.2.2 < pw 128 := decide_eq_true_iff
/-- Its value. -/
def qv (x : Tri) : Rat := frac x.1 x.2.1 x.2.2
/-- A fraction and an error number. -/
def ResF (w : World) (p : Tri × Nat) (e : Ending) (w' : World) : Prop := ∃ v, e = .returned (.tuple #[v, .int .i64 (p.2 : Nat)]) ∧ FracT w' v p.1 ∧ Add w w'
/-- What is left when the result was stored and is returned. -/
theorem resF_put {w wk : World} {g : Nat} {b an n cn ad d cd} {p : Tri × Nat} {u0 u1 u2 : Value} (hB : Box wk g b an n cn ad d cd) (hv : FracT wk (.agg #[u0, u1, u2]) p.1) (hT : Add w wk) (hg : w.heap.size ≤ g) :
    ResF w p (.returned (.tuple #[.agg #[u0, u1, u2], .int .i64 (p.2 : Nat)])) (put3 wk g u0 u1 u2) :=
  ⟨_, rfl, hv.put hB u0 u1 u2, put3_below u0 u1 u2 hT hg⟩
end Go.Proofs.YtbeoeackahmpbaaGreatDoor

namespace Go.Proofs.YtbeoeackahmpbaaGreatDoor
open Go.RowKit NatM Go.Proofs.YtbeoeackahmpbaaGreatDoor.Api

/-- The numerators and the common denominator of two valid fractions. -/
theorem common {x y : Tri} (hx : okF x = true) (hy : okF y = true) : ∃ X Y E,
    (if x.2.2 = y.2.2 then x.2.1 = X ∧ y.2.1 = Y else x.2.1 * y.2.2 = X ∧ y.2.1 * x.2.2 = Y) ∧ (if x.2.2 = y.2.2 then x.2.2 = E else x.2.2 * y.2.2 = E) ∧
    qv x = frac x.1 X E ∧ qv y = frac y.1 Y E ∧ E ≠ 0 ∧ X < pw 256 ∧ Y < pw 256 ∧ E < pw 256 := by
  obtain ⟨a1, a2, a3⟩ := okF_iff.1 hx
  obtain ⟨b1, b2, b3⟩ := okF_iff.1 hy
  by_cases c : x.2.2 = y.2.2
  · refine ⟨x.2.1, y.2.1, x.2.2, by rw [if_pos c]; exact ⟨rfl, rfl⟩, by rw [if_pos c], rfl, by unfold qv; rw [c], a1, lt_up a2 (by decide), lt_up b2 (by decide), lt_up a3 (by decide)⟩
  · refine ⟨x.2.1 * y.2.2, y.2.1 * x.2.2, x.2.2 * y.2.2, by rw [if_neg c]; exact ⟨rfl, rfl⟩, by rw [if_neg c], ?_, ?_, Nat.mul_ne_zero a1 b1, lt_mul (i := 128) (j := 128) a2 b3, lt_mul (i := 128) (j := 128) b2 a3, lt_mul (i := 128) (j := 128) a3 b3⟩
    · unfold qv; rw [frac_scale b1]
    · unfold qv; rw [Nat.mul_comm x.2.2 y.2.2, frac_scale a1]
def addF (x y : Tri) : Tri × Nat := if okF x = true ∧ okF y = true then fitQ (qv x + qv y) else ((false, 0, 0), 1)
def mulF (x y : Tri) : Tri × Nat := if okF x = true ∧ okF y = true then fitQ (qv x * qv y) else ((false, 0, 0), 1)
def quoF (x y : Tri) : Tri × Nat := if okF x = true ∧ okF y = true then (if y.2.1 = 0 then ((false, 0, 0), 3) else fitQ (qv x / qv y)) else ((false, 0, 0), 1)
def redF (x : Tri) : Tri × Nat := if okF x = true then fitQ (qv x) else ((false, 0, 0), 1)
def cmpF (x y : Tri) : Int × Nat := if okF x = true ∧ okF y = true then (cmpQ (qv x) (qv y), 0) else (0, 1)
theorem addF_l {x y : Tri} (h : okF x = false) : addF x y = ((false, 0, 0), 1) := by unfold addF; rw [if_neg (by rw [h]; simp)]
theorem addF_r {x y : Tri} (h : okF y = false) : addF x y = ((false, 0, 0), 1) := by unfold addF; rw [if_neg (by rw [h]; simp)]
theorem mulF_l {x y : Tri} (h : okF x = false) : mulF x y = ((false, 0, 0), 1) := by unfold mulF; rw [if_neg (by rw [h]; simp)]
theorem mulF_r {x y : Tri} (h : okF y = false) : mulF x y = ((false, 0, 0), 1) := by unfold mulF; rw [if_neg (by rw [h]; simp)]
theorem quoF_l {x y : Tri} (h : okF x = false) : quoF x y = ((false, 0, 0), 1) := by unfold quoF; rw [if_neg (by rw [h]; simp)]
theorem quoF_r {x y : Tri} (h : okF y = false) : quoF x y = ((false, 0, 0), 1) := by unfold quoF; rw [if_neg (by rw [h]; simp)]
theorem addF_same {x y : Tri} {X Y E : Nat} (hx : okF x = true) (hy : okF y = true) (e1 : qv x = frac x.1 X E) (e2 : qv y = frac y.1 Y E) (hE : E ≠ 0) (h : x.1 = y.1) : fitQ (frac x.1 (X + Y) E) = addF x y := by
  unfold addF; rw [if_pos ⟨hx, hy⟩, e1, e2, ← h, sum_same hE]
theorem addF_ge {x y : Tri} {X Y E : Nat} (hx : okF x = true) (hy : okF y = true) (e1 : qv x = frac x.1 X E) (e2 : qv y = frac y.1 Y E) (hE : E ≠ 0) (h : x.1 ≠ y.1) (hl : Y ≤ X) : fitQ (frac x.1 (X - Y) E) = addF x y := by
  unfold addF; rw [if_pos ⟨hx, hy⟩, e1, e2, sum_ge hE h hl]
theorem addF_lt {x y : Tri} {X Y E : Nat} (hx : okF x = true) (hy : okF y = true) (e1 : qv x = frac x.1 X E) (e2 : qv y = frac y.1 Y E) (hE : E ≠ 0) (h : x.1 ≠ y.1) (hl : X ≤ Y) : fitQ (frac y.1 (Y - X) E) = addF x y := by
  unfold addF; rw [if_pos ⟨hx, hy⟩, e1, e2, sum_lt hE h hl]
theorem mulF_ok {x y : Tri} (hx : okF x = true) (hy : okF y = true) : fitQ (frac (x.1 != y.1) (x.2.1 * y.2.1) (x.2.2 * y.2.2)) = mulF x y := by
  unfold mulF; rw [if_pos ⟨hx, hy⟩]; unfold qv; rw [frac_mul]
theorem quoF_ok {x y : Tri} (hx : okF x = true) (hy : okF y = true) (h0 : y.2.1 ≠ 0) : fitQ (frac (x.1 != y.1) (x.2.1 * y.2.2) (x.2.2 * y.2.1)) = quoF x y := by
  have := (okF_iff.1 hy).1
  unfold quoF; rw [if_pos ⟨hx, hy⟩, if_neg h0]; unfold qv; rw [frac_quo h0 this]
theorem quoF_zero {x y : Tri} (hx : okF x = true) (hy : okF y = true) (h0 : y.2.1 = 0) : quoF x y = ((false, 0, 0), 3) := by
  unfold quoF; rw [if_pos ⟨hx, hy⟩, if_pos h0]
end Go.Proofs.YtbeoeackahmpbaaGreatDoor
