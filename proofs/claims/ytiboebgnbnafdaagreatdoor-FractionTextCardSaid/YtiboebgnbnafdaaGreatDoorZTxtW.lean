/- The law FractionText: its walk, for all arguments.
(With the texts that are joined here: Decimal digits that are read, the greatest first: their value, and a row of limbs times a power of ten plus a number. | Parse reads decimal digits. | natural.Parse, for every text. | The reference's Parse. | The reference's Format writes the decimal digits of a number. | Texts of numbers: what Format writes Parse reads, also behind zeros. | Texts of fractions: strings.CutPrefix and strings.Cut as package fraction calls them. | Package fraction: onlyDigits, and strings.Cut. | Package fraction: Parse. | The reference of layer 2: digits. | Texts of fractions: where the slash lies, and what the reference's tests say of it. | The reference of layer 2: Parse. | The reference of layer 2: Format; Format of what is not valid. | What Format writes Parse reads.) -/
import Derived.Test.YtiboebgnbnafdaaGreatDoorPf
import Derived.Test.YtiboebgnbnafdaaGreatDoorW16
import Derived.Lib.TrimByte
import Derived.Test.YtiboebgnbnafdaaGreatDoorR5
import Derived.Test.YtiboebgnbnafdaaGreatDoorZF
import Derived.Test.YtiboebgnbnafdaaGreatDoorR6
import Derived.Laws.Concat
import Derived.Test.YtiboebgnbnafdaaGreatDoorA
import Derived.Lib.Strings
import Derived.Lib.Slices
import Derived.Lib.Walk
import Derived.Lib.Bytealg
import Derived.Deep.RegionHeld3
import Derived.WalkKit
import Derived.Test.YtiboebgnbnafdaaGreatDoorZG

namespace NatM

/-- A byte that is a decimal digit. -/
def IsDig (b : UInt8) : Prop := 48 ≤ b.toNat ∧ b.toNat ≤ 57
def AllDig (l : List UInt8) : Prop := ∀ b ∈ l, IsDig b
/-- The number whose digits stand behind those of a. -/
def dstep (a : Nat) (b : UInt8) : Nat := 10 * a + (b.toNat - 48)
def dval (a : Nat) (l : List UInt8) : Nat := l.foldl dstep a
theorem dval_nil (a : Nat) : dval a [] = a := rfl
theorem dval_cons (a : Nat) (b : UInt8) (l : List UInt8) : dval a (b :: l) = dval (10 * a + (b.toNat - 48)) l := by unfold dval; rw [List.foldl_cons]; rfl
theorem AllDig.nil : AllDig [] := by intro b h; cases h
theorem AllDig.head {b : UInt8} {l : List UInt8} (h : AllDig (b :: l)) : IsDig b := h b (by simp)
theorem AllDig.tail {b : UInt8} {l : List UInt8} (h : AllDig (b :: l)) : AllDig l := fun c hc => h c (by simp [hc])
theorem AllDig.take {l : List UInt8} (h : AllDig l) (n : Nat) : AllDig (l.take n) := fun c hc => h c (List.mem_of_mem_take hc)
theorem AllDig.drop {l : List UInt8} (h : AllDig l) (n : Nat) : AllDig (l.drop n) := fun c hc => h c (List.mem_of_mem_drop hc)
theorem dval_append (a : Nat) (xs ys : List UInt8) : dval a (xs ++ ys) = dval (dval a xs) ys := by
  unfold dval; rw [List.foldl_append]
theorem dval_take_drop (a n : Nat) (l : List UInt8) : dval (dval a (l.take n)) (l.drop n) = dval a l := by
  rw [← dval_append, List.take_append_drop]
theorem dval_lin (a : Nat) (l : List UInt8) : dval a l = 10 ^ l.length * a + dval 0 l := by
  induction l generalizing a with
  | nil => rw [dval_nil, dval_nil, List.length_nil, Nat.pow_zero, Nat.one_mul, Nat.add_zero]
  | cons b bs ih =>
    rw [dval_cons, dval_cons, List.length_cons]
    rw [ih (10 * a + (b.toNat - 48)), ih (10 * 0 + (b.toNat - 48)), Nat.pow_succ, Nat.mul_add, Nat.mul_zero, Nat.zero_add, Nat.mul_assoc]
    omega
theorem dval_snoc (a : Nat) (l : List UInt8) (b : UInt8) : dval a (l ++ [b]) = 10 * dval a l + (b.toNat - 48) := by
  rw [dval_append, dval_cons, dval_nil]
theorem dval_lt {a k : Nat} {l : List UInt8} (h : AllDig l) (ha : a < 10 ^ k) : dval a l < 10 ^ (k + l.length) := by
  induction l generalizing a k with
  | nil => rw [dval_nil, List.length_nil, Nat.add_zero]; exact ha
  | cons b bs ih =>
    have hb := h.head
    unfold IsDig at hb
    have : 10 * a + (b.toNat - 48) < 10 ^ (k + 1) := by rw [Nat.pow_succ]; omega
    have := ih h.tail this
    rw [dval_cons, List.length_cons]
    rwa [show k + (bs.length + 1) = k + 1 + bs.length from by omega]
theorem dval_lt0 {l : List UInt8} (h : AllDig l) : dval 0 l < 10 ^ l.length := by
  have := dval_lt (a := 0) (k := 0) h (by decide)
  rwa [Nat.zero_add] at this
theorem ten_pw (n k : Nat) (h : n ≤ 9 * k) : 10 ^ n ≤ pw k := by
  have h1 : 10 ^ n ≤ 10 ^ (9 * k) := Nat.pow_le_pow_right (by decide) h
  have h2 : 10 ^ (9 * k) ≤ pw k := by
    rw [Nat.pow_mul]; unfold pw
    exact Nat.pow_le_pow_left (by decide) k
  exact Nat.le_trans h1 h2

/-- k limbs are multiplied and added to; c is the carry. -/
def Scale (xs zs : List Nat) (s c0 k c : Nat) : Prop := val (zs.take k) + pw k * c = s * val (xs.take k) + c0 ∧ (∀ j, k ≤ j → zs.getD j 0 = xs.getD j 0) ∧ zs.length = xs.length
theorem scale_zero (xs : List Nat) (s c0 : Nat) : Scale xs xs s c0 0 c0 := ⟨by simp [val, pw], fun _ _ => rfl, rfl⟩
theorem scale_step {xs zs : List Nat} {s c0 k c lo hi : Nat} (h : Scale xs zs s c0 k c) (hk : k < xs.length) (e : lo + 4294967296 * hi = c + xs.getD k 0 * s) : Scale xs (zs.set k lo) s c0 (k + 1) hi := by
  obtain ⟨h1, h2, h3⟩ := h
  refine ⟨?_, fun j hj => by rw [getD_set_ne _ _ _ _ (by omega)]; exact h2 j (by omega), by rw [List.length_set]; exact h3⟩
  rw [val_take_succ, take_set_lt, getD_set_self _ _ _ (by omega), val_take_succ, pw_succ]
  have e2 : pw k * lo + 4294967296 * pw k * hi = pw k * (lo + 4294967296 * hi) := by rw [Nat.mul_add, Nat.mul_comm 4294967296 (pw k), Nat.mul_assoc]
  have e3 : s * (val (xs.take k) + pw k * xs.getD k 0) = s * val (xs.take k) + pw k * (xs.getD k 0 * s) := by
    rw [Nat.mul_add, ← Nat.mul_assoc, Nat.mul_comm s (pw k), Nat.mul_assoc, Nat.mul_comm s (xs.getD k 0)]
  have e4 : pw k * (lo + 4294967296 * hi) = pw k * c + pw k * (xs.getD k 0 * s) := by rw [e, Nat.mul_add]
  rw [e3]
  omega
theorem scale_done {xs zs : List Nat} {s c0 c : Nat} (h : Scale xs zs s c0 xs.length c) (hU : s * val xs + c0 < pw xs.length) : val zs = s * val xs + c0 := by
  obtain ⟨h1, -, h3⟩ := h
  rw [List.take_of_length_le (by omega), List.take_of_length_le (by omega)] at h1
  rcases Nat.eq_zero_or_pos c with h0 | h0
  · subst h0; simpa using h1
  · have : pw xs.length * 1 ≤ pw xs.length * c := Nat.mul_le_mul_left _ h0
    omega
theorem scale_fits {s c x : Nat} (hs : s ≤ 1000000000) (hc : c < s) (hx : x < 4294967296) : c + x * s < 18446744073709551616 ∧ (c + x * s) / 4294967296 < s := by
  have h1 : x * s ≤ 4294967295 * s := Nat.mul_le_mul_right _ (by omega)
  refine ⟨by omega, ?_⟩
  apply Nat.div_lt_of_lt_mul
  omega
end NatM

namespace Go.Proofs.YtiboebgnbnafdaaGreatDoor
open Go.RowKit NatM

/-- What onlyDigits answers: the text is not empty, and all its bytes are digits. -/
def isNum (s : ByteArray) : Prop := s.size ≠ 0 ∧ AllDig s.data.toList
theorem byte_mem {s : ByteArray} {k : Nat} (h : k < s.size) : s[k] ∈ s.data.toList := by
  have : s.data.toList[k]? = some s[k] := by
    rw [Array.getElem?_toList]
    exact Array.getElem?_eq_getElem h
  exact List.mem_of_getElem? this
theorem byte_take {s : ByteArray} {k : Nat} (h : k < s.size) : s.data.toList.take (k + 1) = s.data.toList.take k ++ [s[k]] := by
  have : s.data.toList[k]? = some s[k] := by
    rw [Array.getElem?_toList]
    exact Array.getElem?_eq_getElem h
  rw [List.take_add_one, this]; rfl
def BoolP (w : World) (p : Prop) (e : Ending) (w' : World) : Prop := ∃ b : Bool, e = .returned (.bool b) ∧ (b = true ↔ p) ∧ ∃ n, w' = w.drewN n
set_option maxRecDepth 100000 in
theorem onlyDigits_any (s : ByteArray) (w : World) (hs : s.size ≤ 1000000) :
    Calls Tryz.prog 135 #[.string s] w (BoolP w (isNum s)) := by
  go_enter Tryz.func135, Tryz.ntmps135
  go_wp2_with fail
  go_loopw [6] (fun i wr => ∃ k : Nat, k ≤ s.size ∧ i = .int .i64 (k : Nat) ∧ Hid (AllDig (s.data.toList.take k)) ∧ ∃ n, wr = w.drewN n) (fun i _ => s.size - (intOf i).toNat)
  case atStart => exact ⟨0, Nat.zero_le _, rfl, Lib.hid (by rw [List.take_zero]; exact AllDig.nil), 0, rfl⟩
  case round =>
    obtain ⟨k, hk, rfl, hd, n, rfl⟩ := hrel
    by_cases hlt : k < s.size
    · by_cases h1 : (s[k]).toNat < 48
      · have hF : BoolP w (isNum s) (.returned (.bool false)) (w.drewN n) := by
          refine ⟨false, rfl, ⟨fun h => (by cases h), fun h => ?_⟩, n, rfl⟩
          have := h.2 _ (byte_mem hlt)
          unfold IsDig at this; omega
        have d1 : decide ((s[k]).toNat < 48) = true := decide_eq_true h1
        go_wp2_with fail
        go_ret
        exact hF
      · by_cases h2 : 57 < (s[k]).toNat
        · have hF : BoolP w (isNum s) (.returned (.bool false)) (w.drewN n) := by
            refine ⟨false, rfl, ⟨fun h => (by cases h), fun h => ?_⟩, n, rfl⟩
            have := h.2 _ (byte_mem hlt)
            unfold IsDig at this; omega
          have d1 : decide ((s[k]).toNat < 48) = false := decide_eq_false h1
          have d2 : decide (57 < (s[k]).toNat) = true := decide_eq_true h2
          go_wp2_with fail
          go_ret
          exact hF
        · have d1 : decide ((s[k]).toNat < 48) = false := decide_eq_false h1
          have d2 : decide (57 < (s[k]).toNat) = false := decide_eq_false h2
          have hd2 : Hid (AllDig (s.data.toList.take (k + 1))) := Lib.hid (by
            rw [byte_take hlt]
            intro b hb
            rcases List.mem_append.1 hb with h | h
            · exact hd.out b h
            · simp at h; subst h; unfold IsDig; omega)
          go_wp2_with fail
          go_roundw
          case rel => exact ⟨k + 1, by omega, by go_num, hd2, n, rfl⟩
          case measure => simp [intOf]; omega
    · obtain rfl : k = s.size := by omega
      have hall : AllDig s.data.toList := by
        have := hd.out
        rwa [List.take_of_length_le (by simp)] at this
      by_cases h0 : s.size = 0
      · have hF : BoolP w (isNum s) (.returned (.bool false)) (w.drewN n) := ⟨false, rfl, ⟨fun h => (by cases h), fun h => absurd h0 h.1⟩, n, rfl⟩
        have hem : s.toList.isEmpty = true := by rw [Lib.toList_data]; simp; exact Array.size_eq_zero_iff.1 h0
        go_wp2_with fail
        go_ret
        exact hF
      · have hF : BoolP w (isNum s) (.returned (.bool true)) (w.drewN n) := ⟨true, rfl, ⟨fun _ => ⟨h0, hall⟩, fun _ => rfl⟩, n, rfl⟩
        have hem : s.toList.isEmpty = false := by rw [Lib.toList_data]; simp; intro h; exact h0 (by rw [ByteArray.size, h]; rfl)
        go_wp2_with fail
        go_ret
        exact hF

theorem extract_list (s : ByteArray) (a b : Nat) : (s.extract a b).data.toList = (s.data.toList.drop a).take (b - a) := by
  rw [show s = ⟨s.data.toList.toArray⟩ from by cases s; simp, Lib.extract_mk]
theorem dval_mono (a : Nat) (l r : List UInt8) : dval a l ≤ dval a (l ++ r) := by
  rw [dval_append, dval_lin (dval a l) r]
  have : 1 * dval a l ≤ 10 ^ r.length * dval a l := Nat.mul_le_mul_right _ (Nat.pow_pos (by decide))
  omega

def GroupP (w : World) (g n U : Nat) (e : Ending) (w' : World) : Prop := ∃ zs, e = .returned (.tuple #[]) ∧ Row w' g zs ∧ zs.length = n ∧ Limbs zs ∧ val zs = U ∧ w.grownBy w' (some g)
set_option maxRecDepth 100000 in
set_option maxHeartbeats 4000000 in
theorem appendGroup_any (g n : Nat) (xs : List Nat) (D : ByteArray) (U : Nat) (w : World) (hr : Row w g xs) (hl : xs.length = n) (hn : n ≤ 1000000) (hx : Limbs xs) (hD : AllDig D.data.toList) (h9 : D.size ≤ 9) (hU : Hid (dval (val xs) D.data.toList = U)) (hUn : Hid (U < pw n)) :
    Calls Tryz.prog 136 #[.slice (some ⟨g, 0, none⟩) n n, .string D] w (GroupP w g n U) := by
  have HX := Lib.hid hx
  have HL := Lib.hid hl
  have HD := Lib.hid hD
  clear hx hl hD
  go_enter Tryz.func136, Tryz.ntmps136
  go_wp2_with fail
  go_loopw [4, 5, 11] (fun cv sv iv wr => ∃ (k c s : Nat), k ≤ D.size ∧ iv = .int .i64 (k : Nat) ∧ cv = .int .u64 (c : Nat) ∧ sv = .int .u64 (s : Nat) ∧ c < s ∧ Hid (c = dval 0 (D.data.toList.take k)) ∧ Hid (s = 10 ^ k) ∧ w = wr) (fun _ _ iv _ => D.size - (intOf iv).toNat)
  case atStart => exact ⟨0, 0, 1, Nat.zero_le _, rfl, rfl, rfl, by decide, Lib.hid (by rw [List.take_zero, dval_nil]), Lib.hid rfl, rfl⟩
  case round =>
    obtain ⟨k, c, s, hk, rfl, rfl, rfl, hcs, hc, hs, rfl⟩ := hrel
    have hs9 : s ≤ 1000000000 := by
      rw [hs.out]
      have : 10 ^ k ≤ 10 ^ 9 := Nat.pow_le_pow_right (by decide) (by omega)
      exact this
    by_cases hlt : k < D.size
    · have hs8 : s ≤ 100000000 := by
        rw [hs.out]
        have : 10 ^ k ≤ 10 ^ 8 := Nat.pow_le_pow_right (by decide) (by omega)
        exact this
      have hb := HD.out _ (byte_mem hlt)
      unfold IsDig at hb
      obtain ⟨hb1, hb2⟩ := hb
      obtain ⟨b, hbe⟩ : ∃ b, (D[k]).toNat = b := ⟨_, rfl⟩
      rw [hbe] at hb1 hb2
      have hc' : Hid (10 * c + (b - 48) = dval 0 (D.data.toList.take (k + 1))) := Lib.hid (by rw [byte_take hlt, dval_snoc, ← hc.out, hbe])
      have hs' : Hid (s * 10 = 10 ^ (k + 1)) := Lib.hid (by rw [Nat.pow_succ, hs.out])
      have e1 : ((10 : Int) * (c : Int) + ((b : Int) - 48)) = ((10 * c + (b - 48) : Nat) : Int) := by omega
      go_wp2_with fail
      go_roundw
      case rel => exact ⟨k + 1, 10 * c + (b - 48), s * 10, by omega, by go_num, by go_num, by go_num, by omega, hc', hs', by trivial⟩
      case measure => simp [intOf]; omega
    · obtain rfl : k = D.size := by omega
      have hU' : Hid (s * val xs + c = U) := Lib.hid (by
        rw [← hU.out, dval_lin, hc.out, hs.out, List.take_of_length_le (by simp)]
        simp)
      clear hc hs
      go_wp2_with fail
      go_loopw [4, 27] (fun cv iv wr => ∃ (k d : Nat) (zs : List Nat), k ≤ n ∧ iv = .int .i64 (k : Nat) ∧ cv = .int .u64 (d : Nat) ∧ d < s ∧ Hid (Scale xs zs s c k d) ∧ Row wr g zs ∧ Hid (Limbs zs) ∧ w.grownBy wr (some g)) (fun _ iv _ => n - (intOf iv).toNat)
      case atStart => exact ⟨0, c, xs, Nat.zero_le _, rfl, rfl, hcs, Lib.hid (scale_zero _ _ _), hr, Lib.hid HX.out, World.grownBy.refl _ _⟩
      case round =>
        clear hr
        obtain ⟨k, d, zs, hk, rfl, rfl, hds, hsc, hrow, hzs, hgr⟩ := hrel
        by_cases hlt : k < n
        · have hzl : zs.length = n := by rw [hsc.out.2.2, HL.out]
          have hcell := hrow.cell k (by omega)
          have hfree := hrow.free k
          rw [hsc.out.2.1 k (Nat.le_refl _)] at hcell
          obtain ⟨x, hxe⟩ : ∃ x, x = xs.getD k 0 := ⟨_, rfl⟩
          have hxl : x < 4294967296 := by rw [hxe]; exact HX.out.getD _
          rw [← hxe] at hcell
          have hfit := scale_fits hs9 hds hxl
          obtain ⟨p, hp⟩ : ∃ p, p = x * s := ⟨_, rfl⟩
          rw [← hp] at hfit
          have hpi : (x : Int) * (s : Int) = (p : Int) := by rw [hp]; exact (Int.natCast_mul x s).symm
          obtain ⟨hf1, hf2⟩ := hfit
          obtain ⟨lo, hlo⟩ : ∃ lo, lo = (d + p) % 4294967296 := ⟨_, rfl⟩
          obtain ⟨h', hhi⟩ : ∃ h', h' = (d + p) / 4294967296 := ⟨_, rfl⟩
          have hlol : lo < 4294967296 := by omega
          have hstep : Hid (Scale xs (zs.set k lo) s c (k + 1) h') := Lib.hid (scale_step hsc.out (by rw [HL.out]; exact hlt) (by rw [← hxe, ← hp]; omega))
          have e1 : ((d : Int) + (p : Int)) % 4294967296 = (lo : Int) := by omega
          have e2 : ((d : Int) + (p : Int)) / 4294967296 = (h' : Int) := by omega
          rw [← hhi] at hf2
          clear hsc hxe hp hzl hlo hhi
          go_wp2_with fail
          go_roundw
          case rel => exact ⟨k + 1, h', zs.set k lo, by omega, by go_num, rfl, hf2, hstep, hrow.set _ _, Lib.hid (hzs.out.set _ _ hlol), grown_trans hgr (grown_setCell _ _)⟩
          case measure => simp [intOf]; omega
        · obtain rfl : k = n := by omega
          have hfin : GroupP w g k U (.returned (.tuple #[])) wr := by
            have h1 := hsc.out
            rw [← HL.out] at h1
            have := scale_done h1 (by rw [hU'.out, HL.out]; exact hUn.out)
            exact ⟨zs, rfl, hrow, by rw [h1.2.2, HL.out], hzs.out, by rw [this]; exact hU'.out, hgr⟩
          clear hsc hgr
          go_wp2_with fail
          go_end0
          exact hfin
end Go.Proofs.YtiboebgnbnafdaaGreatDoor

namespace Go.Proofs.YtiboebgnbnafdaaGreatDoor
open Go.RowKit NatM Go.Proofs.YtiboebgnbnafdaaGreatDoor.Api

open Classical in
/-- What Parse answers. -/
noncomputable def parseS (s : ByteArray) : Nat × Nat :=
  if 5000 < s.size then (0, 2) else if ¬ isNum s then (0, 6) else if pw 512 ≤ dval 0 s.data.toList then (0, 2) else (dval 0 s.data.toList, 0)

theorem ResP.of_add {w w1 : World} {p : Nat × Nat} {e : Ending} {w' : World} (h : ResP w1 p e w') (ha : Add w w1) : ResP w p e w' := by
  obtain ⟨v, rfl, h1, h2⟩ := h
  exact ⟨v, rfl, h1, Add.trans ha h2⟩
/-- checked, whatever it is asked. -/
theorem checked_res (v : Value) (xs : List Nat) (w : World) (h : Reads w v xs) :
    Calls Tryz.prog 137 #[v] w (ResP w (if pw 512 ≤ val xs then (0, 2) else (val xs, 0))) := by
  by_cases hb : pw 512 ≤ val xs
  · rw [if_pos hb]
    exact (checked_big v xs w h hb).mono fun e w' g => errP_res (k := 2) g
  · rw [if_neg hb]
    exact (checked_ok v xs w h (by omega)).mono fun e w' g => okP_res g

set_option maxRecDepth 100000 in
set_option maxHeartbeats 4000000 in
theorem parse_any (s : ByteArray) (w : World) (hs : s.size ≤ 1000000) :
    Calls Tryz.prog 87 #[.string s] w (ResP w (parseS s)) := by
  by_cases h5 : 5000 < s.size
  · have hS : parseS s = (0, 2) := by unfold parseS; rw [if_pos h5]
    have HS := Lib.hid hS
    have d5 : decide (5000 < s.size) = true := by simp; omega
    clear hS
    go_enter Tryz.func87, Tryz.ntmps87
    go_wp2_with fail
    go_ret2
    rw [HS.out]
    exact ⟨_, rfl, Num.nil _, Below.refl _ _⟩
  · have d5 : decide (5000 < s.size) = false := by simp; omega
    by_cases hn : isNum s
    · have hS : parseS s = if pw 512 ≤ dval 0 s.data.toList then (0, 2) else (dval 0 s.data.toList, 0) := by
        unfold parseS; rw [if_neg h5, if_neg (by simpa using hn)]
      rw [hS]
      obtain ⟨T, hT⟩ : ∃ T, T = dval 0 s.data.toList := ⟨_, rfl⟩
      rw [← hT]
      obtain ⟨p, hp⟩ : ∃ p, p = if pw 512 ≤ T then (0, 2) else (T, 0) := ⟨_, rfl⟩
      rw [← hp]
      have HP := Lib.hid hp
      clear hp
      obtain ⟨i0, hi, hz0, hz1, hz2⟩ := info_parts info83
      obtain ⟨n, hne⟩ : ∃ n : Nat, n = s.size / 9 + 1 := ⟨_, rfl⟩
      have hni : (s.size : Int) / 9 + 1 = (n : Int) := by omega
      have hn7 : n ≤ 600 := by omega
      have hlt : Hid (T < pw n) := Lib.hid (by
        have h1 := dval_lt0 hn.2
        rw [← hT] at h1
        have h2 : s.data.toList.length = s.size := by simp
        rw [h2] at h1
        exact Nat.lt_of_lt_of_le h1 (ten_pw _ _ (by omega)))
      have HT := Lib.hid hT
      have HN := Lib.hid hn
      have hlen := Lib.hid hne
      clear hS hn hT hne
      go_enter Tryz.func87, Tryz.ntmps87
      go_wp2_with fail
      refine (onlyDigits_any s w hs).mono ?_
      rintro e w1 ⟨b, rfl, hb, q, rfl⟩
      obtain rfl : b = true := hb.2 HN.out
      clear hb
      go_wp2_with (at_make; refine wpList_make_full _ rfl _ _ 23 rfl w.heap.size 83 i0 (.int .u32 0) 1 Tryz.underlying23 hi hz0 hz1 _ _ _ _ n rfl rfl (by omega) (by omega) (by rw [hz2]; omega) (by unfold maxLen; omega) (Nat.le_refl _) ?_)
      intro w1 hown hgr
      have hadd : Add w w1 := (below_drewN (Below.refl _ _) q).grown hgr (Nat.le_refl _) (by simp)
      have hown := Own.made hown
      have hlt0 := hown.lt
      clear hgr
      obtain ⟨g, hg⟩ : ∃ g, g = w.heap.size := ⟨_, rfl⟩
      have hrow := hown.row
      have hzl := hown.length
      go_wp2_with fail
      go_loopw [0] (fun sv wr => ∃ (t : ByteArray) (zs : List Nat), sv = .string t ∧ t.size ≤ s.size ∧ Hid (AllDig t.data.toList) ∧ Hid (dval (val zs) t.data.toList = T) ∧ Row wr w.heap.size zs ∧ zs.length = n ∧ Hid (Limbs zs) ∧ Add w wr) (fun sv _ => Lib.strSize sv)
      case atStart => exact ⟨s, _, rfl, Nat.le_refl _, Lib.hid HN.out.2, Lib.hid (by rw [val_replicate]; exact HT.out.symm), hrow, hzl, Lib.hid (Limbs.replicate _), hadd⟩
      case round =>
        clear hrow hzl hown hadd
        obtain ⟨t, zs, rfl, hts, htd, htv, hrow, hzl, hzs, hadd⟩ := hrel
        by_cases h0 : 0 < t.size
        · obtain ⟨m, hm⟩ : ∃ m : Nat, min (t.size : Int) 9 = (m : Int) := ⟨min t.size 9, by omega⟩
          have hm9 : m ≤ 9 := by omega
          have hmt : m ≤ t.size := by omega
          have hm0 : 0 < m := by omega
          have q1 : (t.extract 0 m).data.toList = t.data.toList.take m := by rw [extract_list]; simp
          have q2 : (t.extract m t.size).data.toList = t.data.toList.drop m := by rw [extract_list]; exact List.take_of_length_le (by simp)
          have q3 : (t.extract 0 m).size = m := by simp; omega
          have q4 : (t.extract m t.size).size = t.size - m := by simp
          have hle : dval (val zs) (t.data.toList.take m) ≤ T := by
            rw [← htv.out]
            have := dval_mono (val zs) (t.data.toList.take m) (t.data.toList.drop m)
            rwa [List.take_append_drop] at this
          obtain ⟨U, hU⟩ : ∃ U, dval (val zs) (t.data.toList.take m) = U := ⟨_, rfl⟩
          have hU2 : Hid (dval U (t.data.toList.drop m) = T) := Lib.hid (by rw [← hU, dval_take_drop]; exact htv.out)
          have HC := Lib.hid (appendGroup_any w.heap.size n zs (t.extract 0 m) U wr hrow hzl (by omega) hzs.out (by rw [q1]; exact htd.out.take _) (by omega) (Lib.hid (by rw [q1]; exact hU)) (Lib.hid (Nat.lt_of_le_of_lt (by rw [← hU]; exact hle) hlt.out)))
          have Q2 := Lib.hid q2
          have Q4 := Lib.hid q4
          have hd2 : Hid (AllDig (t.data.toList.drop m)) := Lib.hid (htd.out.drop _)
          clear q1 q2 q3 q4 hle hU htv hrow hzl hzs htd
          go_wp2_with fail
          refine HC.out.mono ?_
          rintro e w2 ⟨us, rfl, hr2, hl2, hx2, hv2, hgr2⟩
          have hadd2 : Add w w2 := Below.grown hadd hgr2 hadd.size (fun k hk => by cases hk; exact Nat.le_refl _)
          have HV2 := Lib.hid hv2
          have HX2 := Lib.hid hx2
          clear HC hgr2 hadd hv2 hx2
          go_wp2_with fail
          go_roundw
          case rel => exact ⟨t.extract m t.size, us, rfl, by rw [Q4.out]; omega, Lib.hid (by rw [Q2.out]; exact hd2.out), Lib.hid (by rw [Q2.out, HV2.out]; exact hU2.out), hr2, hl2, HX2, hadd2⟩
          case measure => show (t.extract m t.size).size < t.size; rw [Q4.out]; omega
        · have ht0 : t.data.toList = [] := by
            apply List.eq_nil_of_length_eq_zero
            simp only [Array.length_toList]
            show t.size = 0
            omega
          have hv : val zs = T := by have := htv.out; rwa [ht0, dval_nil] at this
          have hz : t.size = 0 := by omega
          have HC := Lib.hid (checked_res _ _ wr (hrow.reads (m := n) (c := n) (by omega) (Nat.le_refl _) (by unfold maxLen; omega) hzs.out))
          rw [List.take_of_length_le (by omega), hv, ← HP.out] at HC
          clear ht0 hv htv hrow hzs
          go_wp2_with fail
          refine HC.out.mono ?_
          intro e w2 hres
          have hF := hres.of_add hadd
          obtain ⟨v, rfl, h1, h2⟩ := hres
          clear h1 h2 HC
          go_wp2_with fail
          go_ret2
          exact hF
    · have hS : parseS s = (0, 6) := by unfold parseS; rw [if_neg h5, if_pos hn]
      have HS := Lib.hid hS
      have HN := Lib.hid hn
      clear hS hn
      go_enter Tryz.func87, Tryz.ntmps87
      go_wp2_with fail
      refine (onlyDigits_any s w hs).mono ?_
      rintro e w1 ⟨b, rfl, hb, q, rfl⟩
      obtain rfl : b = false := by
        cases b
        · rfl
        · exact absurd (hb.1 rfl) HN.out
      clear hb
      go_wp2_with fail
      go_ret2
      rw [HS.out]
      exact ⟨_, rfl, Num.nil _, below_drewN (Below.refl _ _) q⟩
end Go.Proofs.YtiboebgnbnafdaaGreatDoor

namespace Go.Proofs.YtiboebgnbnafdaaGreatDoor
open Go.RowKit NatM Go.Proofs.YtiboebgnbnafdaaGreatDoor.Api

set_option maxRecDepth 100000 in
set_option maxHeartbeats 4000000 in
theorem refParse_any (s : ByteArray) (w : World) (hs : s.size ≤ 1000000) :
    Calls Tryz.prog 90 #[.string s] w (ResP w (parseS s)) := by
  obtain ⟨p, hp⟩ : ∃ p, p = parseS s := ⟨_, rfl⟩
  rw [← hp]
  have HP := Lib.hid hp
  clear hp
  by_cases h5 : 5000 < s.size
  · have HS : Hid (p = (0, 2)) := Lib.hid (by rw [HP.out]; unfold parseS; rw [if_pos h5])
    have d5 : decide (5000 < s.size) = true := by simp; omega
    go_enter Tryz.func90, Tryz.ntmps90
    go_wp2_with fail
    go_ret2
    rw [HS.out]
    exact ⟨_, rfl, Num.nil _, Below.refl _ _⟩
  · have d5 : decide (5000 < s.size) = false := by simp; omega
    have H6 : Hid (¬ isNum s → p = (0, 6)) := Lib.hid (fun hn => by rw [HP.out]; unfold parseS; rw [if_neg h5, if_pos hn])
    have H2 : Hid (isNum s → pw 512 ≤ dval 0 s.data.toList → p = (0, 2)) := Lib.hid (fun hn hb => by rw [HP.out]; unfold parseS; rw [if_neg h5, if_neg (by simpa using hn), if_pos hb])
    have H0 : Hid (isNum s → ¬ pw 512 ≤ dval 0 s.data.toList → p = (dval 0 s.data.toList, 0)) := Lib.hid (fun hn hb => by rw [HP.out]; unfold parseS; rw [if_neg h5, if_neg (by simpa using hn), if_neg hb])
    clear HP
    have hs5 : s.size ≤ 5000 := by omega
    by_cases h0 : s.size = 0
    · have HS : Hid (p = (0, 6)) := Lib.hid (H6.out (fun h => h.1 h0))
      have hd0 : ((s.size : Int) == 0) = true := by rw [h0]; rfl
      go_enter Tryz.func90, Tryz.ntmps90
      go_wp2_with fail
      go_ret2
      rw [HS.out]
      exact ⟨_, rfl, Num.nil _, Below.refl _ _⟩
    · have hd0 : ((s.size : Int) == 0) = false := by rw [beq_eq_false_iff_ne]; omega
      have HZ := Lib.hid h0
      clear h0
      go_enter Tryz.func90, Tryz.ntmps90
      go_wp2_with fail
      go_loopw [4] (fun i wr => ∃ k : Nat, k ≤ s.size ∧ i = .int .i64 (k : Nat) ∧ Hid (AllDig (s.data.toList.take k)) ∧ w = wr) (fun i _ => s.size - (intOf i).toNat)
      case atStart => exact ⟨0, Nat.zero_le _, rfl, Lib.hid (by rw [List.take_zero]; exact AllDig.nil), rfl⟩
      case round =>
        obtain ⟨k, hk, rfl, hd, rfl⟩ := hrel
        by_cases hlt : k < s.size
        · by_cases h1 : (s[k]).toNat < 48
          · have hS : Hid (p = (0, 6)) := Lib.hid (H6.out (fun h => by
              have := h.2 _ (byte_mem hlt)
              unfold IsDig at this; omega))
            have d1 : decide ((s[k]).toNat < 48) = true := decide_eq_true h1
            go_wp2_with fail
            go_ret2
            rw [hS.out]
            exact ⟨_, rfl, Num.nil _, Below.refl _ _⟩
          · by_cases h2 : 57 < (s[k]).toNat
            · have hS : Hid (p = (0, 6)) := Lib.hid (H6.out (fun h => by
                have := h.2 _ (byte_mem hlt)
                unfold IsDig at this; omega))
              have d1 : decide ((s[k]).toNat < 48) = false := decide_eq_false h1
              have d2 : decide (57 < (s[k]).toNat) = true := decide_eq_true h2
              go_wp2_with fail
              go_ret2
              rw [hS.out]
              exact ⟨_, rfl, Num.nil _, Below.refl _ _⟩
            · have d1 : decide ((s[k]).toNat < 48) = false := decide_eq_false h1
              have d2 : decide (57 < (s[k]).toNat) = false := decide_eq_false h2
              have hd2 : Hid (AllDig (s.data.toList.take (k + 1))) := Lib.hid (by
                rw [byte_take hlt]
                intro b hb
                rcases List.mem_append.1 hb with h | h
                · exact hd.out b h
                · simp at h; subst h; unfold IsDig; omega)
              go_wp2_with fail
              go_roundw
              case rel => exact ⟨k + 1, by omega, by go_num, hd2, by trivial⟩
              case measure => simp [intOf]; omega
        · obtain rfl : k = s.size := by omega
          have hall : AllDig s.data.toList := by
            have := hd.out
            rwa [List.take_of_length_le (by simp)] at this
          have HN := Lib.hid (show isNum s from ⟨HZ.out, hall⟩)
          clear hd hall
          go_wp2_with fail
          go_loopw [5, 6] (fun o i wr => ∃ (ov : Value) (k V : Nat), ov = o ∧ k ≤ s.size ∧ i = .int .i64 (k : Nat) ∧ Hid (V = dval 0 (s.data.toList.take k)) ∧ Hid (V < pw 512) ∧ NumO wr w.heap.size ov V ∧ Add w wr) (fun _ i _ => s.size - (intOf i).toNat)
          case atStart => exact ⟨_, 0, 0, rfl, Nat.zero_le _, rfl, Lib.hid (by rw [List.take_zero, dval_nil]), Lib.hid (pw_pos 512), ⟨[], OwnL.nil _ _, Limbs.nil, Canon.nil, rfl⟩, Below.refl _ _⟩
          case round =>
            obtain ⟨ov, k, V, rfl, hk, rfl, hV, hVb, hno, hadd⟩ := hrel
            by_cases hlt : k < s.size
            · have hb := HN.out.2 _ (byte_mem hlt)
              unfold IsDig at hb
              obtain ⟨hb1, hb2⟩ := hb
              obtain ⟨b, hbe⟩ : ∃ b, (s[k]).toNat = b := ⟨_, rfl⟩
              rw [hbe] at hb1 hb2
              obtain ⟨d, hd⟩ : ∃ d, d = b - 48 := ⟨_, rfl⟩
              have ew1 : IntKind.u8.wrap ((b : Int) - 48) = (d : Int) := by rw [IntKind.wrap_u8']; omega
              have ew2 : IntKind.u64.wrap (d : Int) = (d : Int) := by rw [IntKind.wrap_u64]; omega
              have hd9 : d ≤ 9 := by omega
              have n10 := (num_lit wr wr.heap.size rfl 10 10 rfl (by decide) (by decide)).mono (Below.drew (Below.refl _ _))
              have F1 : Hid (V < pw 2000 ∧ 10 < pw 2000) := Lib.hid ⟨lt_up hVb.out (by decide), lt_up (show 10 < pw 1 by decide) (by decide)⟩
              have nv := hno.num.mono (add_alloc_drew wr (.cells #[.int .u32 10] 83))
              have HC1 := Lib.hid (refTimesN nv n10 F1)
              have F2 : Hid (V * 10 < pw 2000 ∧ d < pw 2000) := Lib.hid ⟨lt_up (lt_mul (i := 512) (j := 1) hVb.out (by decide)) (by decide), Nat.lt_of_lt_of_le (show d < pw 1 from lt_pw1 (by omega)) (pw_le (by decide))⟩
              have hV' : Hid (V * 10 + d = dval 0 (s.data.toList.take (k + 1))) := Lib.hid (by rw [byte_take hlt, dval_snoc, ← hV.out, hbe]; omega)
              have hVm : Hid (dval 0 (s.data.toList.take (k + 1)) ≤ dval 0 s.data.toList) := Lib.hid (by
                have := dval_mono 0 (s.data.toList.take (k + 1)) (s.data.toList.drop (k + 1))
                rwa [List.take_append_drop] at this)
              have hA0 := Add.trans hadd (add_alloc_drew wr (.cells #[.int .u32 10] 83))
              clear hV nv n10 F1 hno hadd hd
              go_wp2_with fail
              go_region_with (first
                | (go_at_call 131; refine HC1.out.mono ?_; rintro e w1 ⟨v1, rfl, n1, h1⟩)
                | (go_at_call 129; refine (refMake_any _ _ (by omega) (by omega)).mono ?_; rintro e w2 ⟨v2, rfl, n2, h2⟩; rw [Int.toNat_natCast] at n2)
                | (go_at_call 138; refine (refPlusN (n1.num.mono h2) n2.num F2).mono ?_; rintro e w3 ⟨v3, rfl, n3, h3⟩))
              all_goals
                rw [hV'.out] at n3
                have hA3 := Add.trans hA0 (Add.trans h1 (Add.trans h2 h3))
                have hb3 : w.heap.size ≤ w2.heap.size := Nat.le_trans hA0.size (Nat.le_trans h1.size h2.size)
                replace n3 := n3.base hb3
                have F3 : Hid (dval 0 (s.data.toList.take (k + 1)) < pw 2000) := Lib.hid (by rw [← hV'.out]; have := F2.out; exact lt_up (lt_add (i := 1024) (lt_up (lt_mul (i := 512) (j := 1) hVb.out (by decide)) (by decide)) (Nat.lt_of_lt_of_le (show d < pw 1 from lt_pw1 (by omega)) (pw_le (by decide)))) (by decide))
                obtain ⟨V', hV'e⟩ : ∃ V', V' = dval 0 (s.data.toList.take (k + 1)) := ⟨_, rfl⟩
                rw [← hV'e] at n3 F3 hVm
                have HVE := Lib.hid hV'e
                clear hV' hV'e n1 n2 h1 h2 h3 hA0 HC1 F2 hb3
                by_cases hbig : pw 512 ≤ V'
                · have HS := Lib.hid (H2.out HN.out (Nat.le_trans hbig hVm.out))
                  have HL := Lib.hid (refLargeN true n3.num F3 (Lib.hid (decide_eq_true hbig)))
                  clear hbig n3
                  go_wp2_with fail
                  refine HL.out.mono ?_
                  rintro e w4 ⟨rfl, h4⟩
                  go_wp2_with fail
                  go_ret2
                  rw [HS.out]
                  exact ⟨_, rfl, Num.nil _, Add.trans hA3 h4⟩
                · have HL := Lib.hid (refLargeN false n3.num F3 (Lib.hid (decide_eq_false hbig)))
                  have hb' : Hid (V' < pw 512) := Lib.hid (by omega)
                  clear hbig
                  go_wp2_with fail
                  refine HL.out.mono ?_
                  rintro e w4 ⟨rfl, h4⟩
                  have n4 := n3.below h4
                  clear n3
                  go_wp2_with fail
                  go_roundw
                  case rel => exact ⟨v3, k + 1, V', rfl, by omega, by go_num, HVE, hb', n4, Add.trans hA3 h4⟩
                  case measure => simp [intOf]; omega
            · obtain rfl : k = s.size := by omega
              have hVe : V = dval 0 s.data.toList := by rw [hV.out, List.take_of_length_le (by simp)]
              have HS := Lib.hid (H0.out HN.out (by rw [← hVe]; have := hVb.out; omega))
              rw [← hVe] at HS
              have hF : ResP w p (.returned (.tuple #[ov, .int .i64 0])) wr := by rw [HS.out]; exact ⟨_, rfl, hno.num, hadd⟩
              clear hV hVe hno hadd
              go_wp2_with fail
              go_ret2
              exact hF
end Go.Proofs.YtiboebgnbnafdaaGreatDoor

namespace Go.Proofs.YtiboebgnbnafdaaGreatDoor
open Go.RowKit NatM Go.Proofs.YtiboebgnbnafdaaGreatDoor.Api

theorem refDivideL {v1 v2 : Value} {A d : Nat} {w : World} (h1 : Num w v1 A) (h2 : Num w v2 d) (h : Hid (A < pw 2000 ∧ 0 < d ∧ d < 4294967296)) : Calls Tryz.prog 83 #[v1, v2] w (DivO w A d) := by
  obtain ⟨hA, hd, hd'⟩ := h.out
  obtain ⟨xs, r1, -, rfl, l1⟩ := num_reads h1 hA
  obtain ⟨ys, r2, c2, e2, l2⟩ := num_reads h2 (lt_pw1 hd')
  have : ys = [d] := by
    match ys, l2 with
    | [], _ => simp [val] at e2; omega
    | [a], _ => simp [val] at e2; rw [e2]
  subst this
  rcases Nat.lt_or_ge (val xs) d with hl | hl
  · have := refDivide_less v1 v2 xs [d] w r1 r2 (by omega) (by simp) (by simpa [val] using hl)
    simpa [val] using this
  · exact refDivide_one v1 v2 xs d w r1 r2 (by omega) hd hl
theorem num_one {w : World} {v : Value} {N : Nat} (h : Num w v N) (h0 : 0 < N) (h1 : N < 4294967296) : ∃ b off c, v = .slice (some ⟨b, off, none⟩) 1 c ∧ w.cell? ⟨b, off, none⟩ = some (.int .u32 (N : Nat)) := by
  obtain ⟨zs, r, c, e, l⟩ := num_reads h (lt_pw1 h1)
  have : zs = [N] := by
    match zs, l with
    | [], _ => simp [val] at e; omega
    | [a], _ => simp [val] at e; rw [e]
  subst this
  obtain ⟨ao, n, c, rfl, hl, -, -, -, hr⟩ := r
  obtain rfl : 1 = n := by simpa using hl
  obtain ⟨b, off, rfl, g⟩ := hr (by decide)
  exact ⟨b, off, c, rfl, by have := g 0 (by decide); simpa using this⟩
/-- The text of digits, the least first. -/
def txt (ds : List Nat) : ByteArray := ⟨(ds.reverse.map chr).toArray⟩
theorem txt_nil : txt [] = ByteArray.empty := rfl
theorem txt_append (ds es : List Nat) : txt es ++ txt ds = txt (ds ++ es) := by
  unfold txt; rw [ByteArray.mk_append_mk, List.reverse_append, List.map_append]
theorem txt_size (ds : List Nat) : (txt ds).size = ds.length := by unfold txt; simp [ByteArray.size]
theorem txt_one (t : Nat) : strOfNums [48 + (t : Int)] = txt [t] := by
  unfold strOfNums txt
  simp only [List.map_cons, List.map_nil, List.reverse_cons, List.reverse_nil, List.nil_append]
  congr 3
theorem txt_top {us : List Nat} {t : Nat} (h : 0 < (txt (us ++ [t])).size) : (txt (us ++ [t]))[0] = chr t := by
  unfold txt; simp; rfl
theorem txt_from (us : List Nat) (t : Nat) : (txt (us ++ [t])).extract 1 (txt (us ++ [t])).size = txt us := by
  have h1 : (txt (us ++ [t])).data.toList = chr t :: us.reverse.map chr := by unfold txt; simp
  rw [Lib.extract_from, h1]; rfl
theorem fmt_end {vs : List Nat} {N : Nat} (hd : Digits vs) (hv : val10 vs = N) (h : vs.length = 1 ∨ ∃ us t, vs = us ++ [t] ∧ t ≠ 0) : FmtIs (txt vs) N := by
  rcases Nat.eq_zero_or_pos N with h0 | h0
  · rcases h with h | ⟨us, t, rfl, ht⟩
    · match vs, h with
      | [a], _ =>
        simp [val10] at hv
        left; refine ⟨h0, ?_⟩
        rw [hv, h0]; rfl
    · rw [val10_snoc] at hv
      have : 10 ^ us.length * t ≠ 0 := Nat.mul_ne_zero (Nat.pos_iff_ne_zero.1 (Nat.pow_pos (by decide))) ht
      omega
  · refine .inr ⟨h0, vs, hd, ?_, hv, rfl⟩
    rcases h with h | ⟨us, t, rfl, ht⟩
    · match vs, h with
      | [a], _ =>
        simp [val10] at hv
        simp [Canon, tlen]; omega
    · unfold Canon
      refine tlen_eq _ _ (Nat.le_refl _) (fun i hi => ?_) (fun _ => ?_)
      · simp [List.getD, List.getElem?_eq_none hi]
      · simp [List.getD]; exact ht

/-- What the outer loop keeps: R is what is still to be written. -/
def FSt (w : World) (N R : Nat) (x s : Value) (wr : World) : Prop :=
  ∃ ds, s = .string (txt ds) ∧ Digits ds ∧ N = val10 ds + 10 ^ ds.length * R ∧ Num wr x R ∧ Add w wr ∧ (R = 0 → ds ≠ []) ∧ ds.length ≤ 20000
theorem inner_step' {es : List Nat} {T p : Nat} (h : val10 es + 10 ^ es.length * p = T) : val10 (es ++ [p % 10]) + 10 ^ (es ++ [p % 10]).length * (p / 10) = T := inner_step h
theorem outer_step {ds es : List Nat} {N R v : Nat} (h : N = val10 ds + 10 ^ ds.length * R) (hv : val10 es = v) (hl : es.length = 9) (hr : v = R % 1000000000) : N = val10 (ds ++ es) + 10 ^ (ds ++ es).length * (R / 1000000000) := by
  have e : ∀ ps qs : List Nat, val10 (ps ++ qs) = val10 ps + 10 ^ ps.length * val10 qs := by
    intro ps qs
    induction ps with
    | nil => simp [val10]
    | cons a ps ih =>
      simp only [List.cons_append, val10, ih, List.length_cons, Nat.pow_succ]
      rw [Nat.mul_add, ← Nat.mul_assoc, Nat.mul_comm (10 ^ ps.length) 10]; omega
  rw [e, hv, hr, List.length_append, hl, Nat.pow_add, h, Nat.mul_assoc, Nat.add_assoc, ← Nat.mul_add]
  congr 2
  exact (Nat.mod_add_div R 1000000000).symm

set_option maxRecDepth 100000 in
set_option maxHeartbeats 8000000 in
theorem refFormat_ok (va : Value) (xs : List Nat) (w : World) (ha : Reads w va xs) (hs : xs.length ≤ 100000) (hN : val xs < pw 512) :
    Calls Tryz.prog 95 #[va] w (FmtP w (val xs)) := by
  have HL := Lib.hid (refLarge_is false va xs w ha (by omega) (Lib.hid (decide_eq_false (by omega))))
  have HT := fun w1 (h : Add w w1) => Lib.hid (refTrim_any va xs w1 (ha.mono h) (by omega))
  obtain ⟨N, hNe⟩ : ∃ N, N = val xs := ⟨_, rfl⟩
  rw [← hNe] at hN ⊢
  simp only [← hNe] at HT
  have HNB := Lib.hid hN
  clear hNe hN ha hs
  go_enter Tryz.func95, Tryz.ntmps95
  go_wp2_with fail
  refine HL.out.mono ?_; rintro e w1 ⟨rfl, h1⟩
  go_wp2_with fail
  refine (HT _ h1).out.mono ?_; rintro e w2 ⟨x, rfl, n2, h2⟩
  replace n2 := n2.num
  replace h2 := Add.trans h1 h2
  clear h1 HT HL
  by_cases h0 : N = 0
  · have hF : FmtP w N (.returned (.tuple #[.string ⟨#[48]⟩, .int .i64 0])) w2 := ⟨_, rfl, .inl ⟨h0, rfl⟩, by decide, h2⟩
    rw [h0] at n2
    obtain ⟨ao, c, rfl⟩ := num_nil n2
    clear n2 h2 h0
    go_wp2_with fail
    go_ret2
    exact hF
  · have hst : FSt w N N x (.string ByteArray.empty) w2 := ⟨[], rfl, Digits.nil, by simp [val10], n2, h2, fun h => absurd h h0, by decide⟩
    obtain ⟨ao, n, c, rfl, hn, hn0⟩ := num_shape n2 HNB.out
    have hne : ((n : Int) == 0) = false := by rw [beq_eq_false_iff_ne]; omega
    clear n2 h2 h0 hn hn0
    go_wp2_with fail
    go_loopg [4, 5] N (fun R x s wr => ∃ xv sv : Value, xv = x ∧ sv = s ∧ FSt w N R xv sv wr ∧ R ≤ N)
    case atStart => exact ⟨_, _, rfl, rfl, hst, Nat.le_refl _⟩
    case round =>
      clear hst
      obtain ⟨xv, sv, rfl, rfl, ⟨ds, rfl, hds, hval, hnum, hadd, hne0, hdl⟩, hRN⟩ := hrel
      obtain ⟨ao', m, c', rfl, hm, hm0⟩ := num_shape hnum (Nat.lt_of_le_of_lt hRN HNB.out)
      have HVAL := Lib.hid hval
      have HDS := Lib.hid hds
      have HRN := Lib.hid hRN
      clear hval hds hRN
      by_cases hR : gk = 0
      · obtain rfl : m = 0 := hm0.2 hR
        have hv : val10 ds = N := by rw [HVAL.out, hR, Nat.mul_zero, Nat.add_zero]
        have HV := Lib.hid hv
        have hnz : ds ≠ [] := hne0 hR
        have HNZ := Lib.hid hnz
        clear hv hnz hne0 hnum hm hm0 hR
        go_wp2_with fail
        go_loopw [5] (fun s wr' => ∃ vs, s = .string (txt vs) ∧ Hid (Digits vs) ∧ Hid (val10 vs = N) ∧ Hid (vs ≠ []) ∧ vs.length ≤ 20000 ∧ wr = wr') (fun s _ => Lib.strSize s)
        case atStart => exact ⟨ds, rfl, HDS, HV, HNZ, hdl, rfl⟩
        case round =>
          obtain ⟨vs, rfl, hvd, hvv, hvn, hvl, rfl⟩ := hrel
          have hsz := txt_size vs
          rcases List.eq_nil_or_concat vs with h | ⟨us, t, h⟩
          · exact absurd h hvn.out
          · rw [List.concat_eq_append] at h
            subst h
            have hul : (us ++ [t]).length = us.length + 1 := by simp
            have h0s : 0 < (txt (us ++ [t])).size := by rw [hsz, hul]; omega
            have htop := txt_top h0s
            have ht10 : t < 10 := hvd.out t (by simp)
            have hbyte : ((txt (us ++ [t]))[0]).toNat = 48 + t := by rw [htop]; unfold chr; simp; omega
            by_cases hlen : us.length = 0
            · have hF : FmtP w N (.returned (.tuple #[.string (txt (us ++ [t])), .int .i64 0])) wr := ⟨_, rfl, fmt_end hvd.out hvv.out (.inl (by rw [hul, hlen])), by rw [hsz]; omega, hadd⟩
              have d1 : decide (1 < (txt (us ++ [t])).size) = false := by rw [hsz, hul, hlen]; rfl
              have g1 : ¬ 1 < (txt (us ++ [t])).size := by omega
              clear hbyte htop hsz hul
              go_wp2_with fail
              go_ret2
              exact hF
            · have d1 : decide (1 < (txt (us ++ [t])).size) = true := by rw [hsz, hul]; simp; omega
              have g1 : 1 < (txt (us ++ [t])).size := by omega
              by_cases ht : t = 0
              · subst ht
                have d2 : ((((txt (us ++ [0]))[0]).toNat : Int) == 48) = true := by rw [hbyte]; rfl
                have hfrom := txt_from us 0
                have h1s : 1 ≤ (txt (us ++ [0])).size := by omega
                have hd' : Hid (Digits us) := Lib.hid (fun z hz => hvd.out z (by simp [hz]))
                have hv' : Hid (val10 us = N) := Lib.hid (by have := hvv.out; rw [val10_snoc] at this; simpa using this)
                have hn' : Hid (us ≠ []) := Lib.hid (fun e => hlen (by rw [e]; rfl))
                have hsz' := Lib.hid hsz
                have hul' := Lib.hid hul
                clear hbyte htop hsz hul hvd hvv hvn
                go_wp2_with fail
                go_roundw
                case rel => exact ⟨us, rfl, hd', hv', hn', by have := hul'.out; omega, by trivial⟩
                case measure => show (txt us).size < (txt (us ++ [0])).size; rw [txt_size, txt_size, hul'.out]; omega
              · have hF : FmtP w N (.returned (.tuple #[.string (txt (us ++ [t])), .int .i64 0])) wr := ⟨_, rfl, fmt_end hvd.out hvv.out (.inr ⟨us, t, rfl, ht⟩), by rw [hsz]; omega, hadd⟩
                have d2 : ((((txt (us ++ [t]))[0]).toNat : Int) == 48) = false := by rw [hbyte, beq_eq_false_iff_ne]; omega
                clear hbyte htop hsz hul
                go_wp2_with fail
                go_ret2
                exact hF
      · have hmp : m ≠ 0 := fun h => hR (hm0.1 h)
        have hmt : decide (0 < m) = true := by simp; omega
        have hdl2 : ds.length < 32 * 512 := by
          refine ten_bound (N := N) ?_ HNB.out
          rw [HVAL.out]
          have : 10 ^ ds.length * 1 ≤ 10 ^ ds.length * gk := Nat.mul_le_mul_left _ (by omega)
          omega
        have nb9 := (num_lit wr wr.heap.size rfl 1000000000 1000000000 rfl (by decide) (by decide))
        have hA1 : Add wr (wr.alloc (.cells #[.int .u32 1000000000] 83)) := (Below.refl _ _).alloc (Nat.le_refl _) _
        have HC := Lib.hid (refDivideL (hnum.mono hA1) nb9 (Lib.hid ⟨lt_up (Nat.lt_of_le_of_lt HRN.out HNB.out) (by decide), by decide, by decide⟩))
        have hadd1 := Add.trans hadd hA1
        have HGK := Lib.hid hR
        clear nb9 hA1 hnum hadd hm hm0 hne0 hmp hR
        go_wp2_with fail
        refine HC.out.mono ?_; rintro e w3 ⟨q, r, rfl, n3, n4, h3⟩
        have hadd3 := Add.trans hadd1 h3
        obtain ⟨p, hp⟩ : ∃ p, p = gk % 1000000000 := ⟨_, rfl⟩
        rw [← hp] at n4
        have hp9 : p < 1000000000 := by omega
        replace n3 := n3.num
        replace n4 := n4.num
        have HP := Lib.hid hp
        clear HC hadd1 h3 hp
        by_cases hp0 : p = 0
        · subst hp0
          obtain ⟨ar, cr, rfl⟩ := num_nil n4
          go_wp2_with fail
          go_loopw [8, 9, 10] (fun v pt i wr => ∃ (es : List Nat) (z : Nat), v = .int .u32 (z : Nat) ∧ z < 10 ^ (9 - es.length) ∧ pt = .string (txt es) ∧ es.length ≤ 9 ∧ i = .int .i64 (es.length : Nat) ∧ Hid (Digits es) ∧ Hid (val10 es + 10 ^ es.length * z = 0) ∧ Add w3 wr) (fun _ _ i _ => 9 - (intOf i).toNat)
          case atStart => exact ⟨[], 0, rfl, by simp, rfl, by decide, rfl, Lib.hid Digits.nil, Lib.hid (by simp [val10]), Below.refl _ _⟩
          case round =>
            obtain ⟨es, z, rfl, hz, rfl, hel, rfl, hed, hev, haddi⟩ := hrel
            obtain ⟨k, hk⟩ : ∃ k, k = es.length := ⟨_, rfl⟩
            rw [← hk] at hz hel ⊢
            have HK := Lib.hid hk
            have hesz : (txt es).size ≤ 100 := by rw [txt_size]; omega
            clear hk
            by_cases hk9 : k < 9
            · have hz9 : z < 1000000000 := Nat.lt_of_lt_of_le hz (Nat.pow_le_pow_right (n := 10) (by decide) (by omega : 9 - k ≤ 9))
              have hz2 : Hid (z / 10 < 10 ^ (9 - (k + 1))) := Lib.hid (by
                apply Nat.div_lt_of_lt_mul
                rw [Nat.mul_comm, ← Nat.pow_succ, show (9 - (k + 1)).succ = 9 - k from by omega]; exact hz)
              obtain ⟨t, ht⟩ : ∃ t, t = z % 10 := ⟨_, rfl⟩
              have hti : (z : Int) % 10 = (t : Int) := by omega
              have ht10 : t < 10 := by omega
              have hconv : (convert 116 9 (.slice (some ⟨wr.heap.size, 0, none⟩) 1 1)).run Tryz.prog (wr.alloc (.cells #[.int .u8 (48 + (t : Int))] 5)) = .ok (.string (txt [t])) (wr.alloc (.cells #[.int .u8 (48 + (t : Int))] 5)) := by
                rw [← txt_one]
                exact run_convert_bytes_arg (P := Tryz.prog) _ 116 5 Tryz.underlying116 Tryz.underlying5 wr.heap.size 0 1 1 [48 + (t : Int)] rfl (fun i hi => by
                  obtain rfl : i = 0 := by omega
                  simp) 9 Tryz.underlying9
              have hta := txt_append es [t]
              have ht1 : (txt [t]).size ≤ 1 := by rw [txt_size]; simp
              have HZ := Lib.hid hz
              have ht' := Lib.hid ht
              clear hz ht
              go_wp2_with fail
              go_roundw
              case rel =>
                refine ⟨es ++ [t], z / 10, by go_num, ?_, rfl, ?_, ?_, Lib.hid (hed.out.snoc ht10), Lib.hid ?_, haddi.alloc haddi.size _⟩
                · rw [List.length_append, ← HK.out]; exact hz2.out
                · rw [List.length_append, ← HK.out]; simp; omega
                · rw [List.length_append, ← HK.out]; go_num
                · rw [ht'.out]; exact inner_step hev.out
              case measure => simp [intOf]; omega
            · obtain rfl : k = 9 := by omega
              have hz0 : z = 0 := by
                have : (10 : Nat) ^ (9 - 9) = 1 := rfl
                omega
              have hv : val10 es = 0 := by have := hev.out; rw [hz0, Nat.mul_zero, Nat.add_zero] at this; exact this
              have HO := Lib.hid (outer_step HVAL.out hv HK.out.symm HP.out)
              have hta := txt_append ds es
              have HTA := Lib.hid hta
              have hdsz : (txt ds).size ≤ 20000 := by rw [txt_size]; omega
              have hst : FSt w N (gk / 1000000000) q (.string (txt (ds ++ es))) wr := ⟨ds ++ es, rfl, fun z hz => by
                rcases List.mem_append.1 hz with h | h
                · exact HDS.out z h
                · exact hed.out z h, HO.out, n3.mono haddi, Add.trans hadd3 haddi, fun _ e => by
                  have := congrArg List.length e
                  rw [List.length_append, ← HK.out] at this
                  simp at this, by rw [List.length_append, ← HK.out]; omega⟩
              clear hz0 hv hz hev hed haddi n3 n4 hadd3
              go_wp2_with fail
              go_roundg (gk / 1000000000)
              case measure => have := HGK.out; omega
              case rel => exact ⟨q, .string (txt (ds ++ es)), rfl, rfl, hst, by have := HRN.out; omega⟩
        · obtain ⟨b3, o3, c3, rfl, hc3⟩ := num_one n4 (by omega) (by omega)
          go_wp2_with fail
          go_loopw [8, 9, 10] (fun v pt i wr => ∃ (es : List Nat) (z : Nat), v = .int .u32 (z : Nat) ∧ z < 10 ^ (9 - es.length) ∧ pt = .string (txt es) ∧ es.length ≤ 9 ∧ i = .int .i64 (es.length : Nat) ∧ Hid (Digits es) ∧ Hid (val10 es + 10 ^ es.length * z = p) ∧ Add w3 wr) (fun _ _ i _ => 9 - (intOf i).toNat)
          case atStart => exact ⟨[], p, rfl, by simp; omega, rfl, by decide, rfl, Lib.hid Digits.nil, Lib.hid (by simp [val10]), Below.refl _ _⟩
          case round =>
            obtain ⟨es, z, rfl, hz, rfl, hel, rfl, hed, hev, haddi⟩ := hrel
            obtain ⟨k, hk⟩ : ∃ k, k = es.length := ⟨_, rfl⟩
            rw [← hk] at hz hel ⊢
            have HK := Lib.hid hk
            have hesz : (txt es).size ≤ 100 := by rw [txt_size]; omega
            clear hk
            by_cases hk9 : k < 9
            · have hz9 : z < 1000000000 := Nat.lt_of_lt_of_le hz (Nat.pow_le_pow_right (n := 10) (by decide) (by omega : 9 - k ≤ 9))
              have hz2 : Hid (z / 10 < 10 ^ (9 - (k + 1))) := Lib.hid (by
                apply Nat.div_lt_of_lt_mul
                rw [Nat.mul_comm, ← Nat.pow_succ, show (9 - (k + 1)).succ = 9 - k from by omega]; exact hz)
              obtain ⟨t, ht⟩ : ∃ t, t = z % 10 := ⟨_, rfl⟩
              have hti : (z : Int) % 10 = (t : Int) := by omega
              have ht10 : t < 10 := by omega
              have hconv : (convert 116 9 (.slice (some ⟨wr.heap.size, 0, none⟩) 1 1)).run Tryz.prog (wr.alloc (.cells #[.int .u8 (48 + (t : Int))] 5)) = .ok (.string (txt [t])) (wr.alloc (.cells #[.int .u8 (48 + (t : Int))] 5)) := by
                rw [← txt_one]
                exact run_convert_bytes_arg (P := Tryz.prog) _ 116 5 Tryz.underlying116 Tryz.underlying5 wr.heap.size 0 1 1 [48 + (t : Int)] rfl (fun i hi => by
                  obtain rfl : i = 0 := by omega
                  simp) 9 Tryz.underlying9
              have hta := txt_append es [t]
              have ht1 : (txt [t]).size ≤ 1 := by rw [txt_size]; simp
              have HZ := Lib.hid hz
              have ht' := Lib.hid ht
              clear hz ht
              go_wp2_with fail
              go_roundw
              case rel =>
                refine ⟨es ++ [t], z / 10, by go_num, ?_, rfl, ?_, ?_, Lib.hid (hed.out.snoc ht10), Lib.hid ?_, haddi.alloc haddi.size _⟩
                · rw [List.length_append, ← HK.out]; exact hz2.out
                · rw [List.length_append, ← HK.out]; simp; omega
                · rw [List.length_append, ← HK.out]; go_num
                · rw [ht'.out]; exact inner_step hev.out
              case measure => simp [intOf]; omega
            · obtain rfl : k = 9 := by omega
              have hz0 : z = 0 := by
                have : (10 : Nat) ^ (9 - 9) = 1 := rfl
                omega
              have hv : val10 es = p := by have := hev.out; rw [hz0, Nat.mul_zero, Nat.add_zero] at this; exact this
              have HO := Lib.hid (outer_step HVAL.out hv HK.out.symm HP.out)
              have hta := txt_append ds es
              have HTA := Lib.hid hta
              have hdsz : (txt ds).size ≤ 20000 := by rw [txt_size]; omega
              have hst : FSt w N (gk / 1000000000) q (.string (txt (ds ++ es))) wr := ⟨ds ++ es, rfl, fun z hz => by
                rcases List.mem_append.1 hz with h | h
                · exact HDS.out z h
                · exact hed.out z h, HO.out, n3.mono haddi, Add.trans hadd3 haddi, fun _ e => by
                  have := congrArg List.length e
                  rw [List.length_append, ← HK.out] at this
                  simp at this, by rw [List.length_append, ← HK.out]; omega⟩
              clear hz0 hv hz hev hed haddi n3 n4 hadd3
              go_wp2_with fail
              go_roundg (gk / 1000000000)
              case measure => have := HGK.out; omega
              case rel => exact ⟨q, .string (txt (ds ++ es)), rfl, rfl, hst, by have := HRN.out; omega⟩
end Go.Proofs.YtiboebgnbnafdaaGreatDoor

namespace Go.Proofs.YtiboebgnbnafdaaGreatDoor
open Go.RowKit NatM Go.Proofs.YtiboebgnbnafdaaGreatDoor.Api

theorem chr_dig {d : Nat} (h : d < 10) : (chr d).toNat = 48 + d := by unfold chr; simp; omega
theorem chr_all {l : List Nat} (h : Digits l) : AllDig (l.map chr) := by
  intro b hb
  obtain ⟨d, hd, rfl⟩ := List.mem_map.1 hb
  have := h d hd
  unfold IsDig
  rw [chr_dig this]; omega
theorem dval_chr {ds : List Nat} (h : Digits ds) : dval 0 (ds.reverse.map chr) = val10 ds := by
  induction ds with
  | nil => rfl
  | cons x xs ih =>
    rw [List.reverse_cons, List.map_append, List.map_cons, List.map_nil, dval_snoc, ih h.tail, chr_dig h.head]
    simp only [val10]; omega
theorem fmt_parse {t : ByteArray} {N : Nat} (h : FmtIs t N) : isNum t ∧ dval 0 t.data.toList = N := by
  rcases h with ⟨rfl, rfl⟩ | ⟨h0, ds, hd, hc, hv, rfl⟩
  · refine ⟨⟨by decide, ?_⟩, by decide⟩
    intro b hb
    simp at hb
    subst hb; unfold IsDig; decide
  · refine ⟨⟨?_, ?_⟩, ?_⟩
    · intro e
      have : ds = [] := by
        have h2 : ((ds.reverse.map chr).toArray).size = 0 := e
        simpa using h2
      rw [this] at hv
      simp [val10] at hv; omega
    · show AllDig (ds.reverse.map chr)
      exact chr_all fun z hz => hd z (by simpa using hz)
    · show dval 0 (ds.reverse.map chr) = N
      rw [dval_chr hd]; exact hv
theorem ten_le_val10 {ds : List Nat} (hc : Canon ds) (h : ds ≠ []) : 10 ^ (ds.length - 1) ≤ val10 ds := by
  rcases List.eq_nil_or_concat ds with e | ⟨us, t, e⟩
  · exact absurd e h
  · rw [List.concat_eq_append] at e
    subst e
    have ht : t ≠ 0 := by
      intro e0
      subst e0
      unfold Canon at hc
      have := tlen_top (us ++ [0]) (by rw [hc]; simp)
      rw [hc] at this
      simp [List.getD] at this
    rw [val10_snoc]
    simp only [List.length_append, List.length_singleton, Nat.add_sub_cancel]
    have : 10 ^ us.length * 1 ≤ 10 ^ us.length * t := Nat.mul_le_mul_left _ (by omega)
    omega
theorem fmt_size {t : ByteArray} {N L : Nat} (h : FmtIs t N) (hN : N < pw L) : t.size ≤ 32 * L + 1 := by
  rcases h with ⟨rfl, rfl⟩ | ⟨h0, ds, hd, hc, hv, rfl⟩
  · show 1 ≤ _; omega
  · show ((ds.reverse.map chr).toArray).size ≤ _
    simp only [List.size_toArray, List.length_map, List.length_reverse]
    by_cases e : ds = []
    · rw [e]; simp
    · have h1 := ten_le_val10 hc e
      rw [hv] at h1
      have := ten_bound h1 hN
      omega
/-- k zeros. -/
def zeros (k : Nat) : ByteArray := ⟨(List.replicate k 48).toArray⟩
theorem zeros_size (k : Nat) : (zeros k).size = k := by simp [zeros, ByteArray.size]
theorem zeros_succ (k : Nat) : zeros k ++ (⟨#[48]⟩ : ByteArray) = zeros (k + 1) := by
  have : (⟨#[48]⟩ : ByteArray) = ⟨([48] : List UInt8).toArray⟩ := rfl
  unfold zeros
  rw [this, ByteArray.mk_append_mk, List.replicate_succ']
theorem zeros_list (k : Nat) (t : ByteArray) : (zeros k ++ t).data.toList = List.replicate k 48 ++ t.data.toList := by
  rw [show t = ⟨t.data.toList.toArray⟩ from by cases t; simp]
  unfold zeros
  rw [ByteArray.mk_append_mk]
theorem dval_zeros (k : Nat) (l : List UInt8) : dval 0 (List.replicate k 48 ++ l) = dval 0 l := by
  rw [dval_append]
  congr 1
  induction k with
  | zero => rfl
  | succ k ih => rw [List.replicate_succ', dval_snoc, ih]; rfl
theorem parseS_num {s : ByteArray} {N : Nat} (h5 : s.size ≤ 5000) (hn : isNum s) (hv : dval 0 s.data.toList = N) (hN : N < pw 512) : parseS s = (N, 0) := by
  unfold parseS
  rw [if_neg (by omega), if_neg (by simpa using hn), if_neg (by omega), hv]
theorem isNum_zeros {k : Nat} {t : ByteArray} (h : isNum t) : isNum (zeros k ++ t) := by
  refine ⟨?_, ?_⟩
  · rw [ByteArray.size_append']; have := h.1; omega
  · rw [zeros_list]
    intro b hb
    rcases List.mem_append.1 hb with h1 | h1
    · have := (List.mem_replicate.1 h1).2
      subst this; unfold IsDig; decide
    · exact h.2 b h1
/-- Parse, when its answer is known. -/
theorem parseN (p : Nat × Nat) {s : ByteArray} {w : World} (hs : Hid (s.size ≤ 1000000 ∧ parseS s = p)) : Calls Tryz.prog 87 #[.string s] w (fun e w' => ∃ v, e = .returned (.tuple #[v, .int .i64 (p.2 : Nat)]) ∧ Num w' v p.1 ∧ Add w w') := by
  have := parse_any s w hs.out.1
  rw [hs.out.2] at this
  exact this
theorem refParseN (p : Nat × Nat) {s : ByteArray} {w : World} (hs : Hid (s.size ≤ 1000000 ∧ parseS s = p)) : Calls Tryz.prog 90 #[.string s] w (fun e w' => ∃ v, e = .returned (.tuple #[v, .int .i64 (p.2 : Nat)]) ∧ Num w' v p.1 ∧ Add w w') := by
  have := refParse_any s w hs.out.1
  rw [hs.out.2] at this
  exact this
end Go.Proofs.YtiboebgnbnafdaaGreatDoor

namespace Go.Proofs.YtiboebgnbnafdaaGreatDoor
open Go.RowKit NatM Go.Proofs.YtiboebgnbnafdaaGreatDoor.Api

/-- Does the text begin with a minus sign; what stands behind it. -/
def negT (s : ByteArray) : Bool := Lib.hasPrefix s.data.toList [45]
def bodyT (s : ByteArray) : ByteArray := ⟨(Lib.trimPrefix s.data.toList [45]).toArray⟩
theorem bodyT_miss {s : ByteArray} (h : negT s = false) : bodyT s = s := by
  unfold negT at h
  exact Lib.trimPrefix_miss s ⟨#[45]⟩ (by rw [Lib.hasPrefix_raw]; exact h)
theorem bodyT_hit {s : ByteArray} (h : negT s = true) : bodyT s = s.extract 1 s.size := by
  unfold negT at h
  have e := Lib.hasPrefix_raw s ⟨#[45]⟩
  rw [show Lib.hasPrefix s.data.toList (⟨#[45]⟩ : ByteArray).data.toList = true from h, Bool.and_eq_true, decide_eq_true_eq] at e
  exact Lib.trimPrefix_hit s ⟨#[45]⟩ e.1 e.2
theorem negT_iff (s : ByteArray) : negT s = true ↔ s.data.toList.head? = some 45 := by
  unfold negT
  cases s.data.toList with
  | nil => simp [Lib.hasPrefix]
  | cons b l =>
    simp only [Lib.hasPrefix, List.isPrefixOf, Bool.and_true, beq_iff_eq, List.head?_cons, Option.some.injEq]
    exact eq_comm
theorem negT_raw (s : ByteArray) : negT s = (decide (1 ≤ s.size) && ((s.extract 0 1).toList == [45])) := by
  unfold negT
  have e := Lib.hasPrefix_raw s ⟨#[45]⟩
  rw [Lib.toList_data ⟨#[45]⟩] at e
  exact e.symm
set_option maxRecDepth 100000 in
set_option maxHeartbeats 1000000 in
theorem cutPrefixN (s : ByteArray) (w : World) : Calls Tryz.prog 84 #[.string s, .string ⟨#[45]⟩] w fun e w' => e = .returned (.tuple #[.string (bodyT s), .bool (negT s)]) ∧ w = w' := by
  go_enter Tryz.func84, Tryz.ntmps84
  go_wp2
  · have h2 : (!((s.extract 0 1).toList == [45])) = true := by assumption
    have h3 : negT s = false := by
      rw [negT_raw]
      have : ((s.extract 0 1).toList == [45]) = false := by simpa using h2
      rw [this, Bool.and_false]
    have h4 := bodyT_miss h3
    go_ret2
    exact ⟨by rw [h3, h4]; rfl, rfl⟩
  · have h1 : 1 ≤ s.size := by omega
    have h2 : (!((s.extract 0 1).toList == [45])) = false := by assumption
    have h3 : negT s = true := by
      rw [negT_raw]
      have : ((s.extract 0 1).toList == [45]) = true := by simpa using h2
      rw [this, Bool.and_true, decide_eq_true h1]
    have h4 := bodyT_hit h3
    go_ret2
    exact ⟨by rw [h3, h4]; rfl, rfl⟩
  · have h3 : negT s = false := by
      rw [negT_raw, decide_eq_false (by omega), Bool.false_and]
    have h4 := bodyT_miss h3
    go_ret2
    exact ⟨by rw [h3, h4]; rfl, rfl⟩
/-- The place of the first slash, or -1. -/
def slashAt (s : ByteArray) : Int := Lib.indexByte s.data.toList 47
set_option maxRecDepth 100000 in
set_option maxHeartbeats 1000000 in
theorem indexByteN (s : ByteArray) (c : Int) (w : World) : Calls Tryz.prog 176 #[.string s, .int .u8 c] w fun e w' => e = .returned (.int .i64 (Lib.indexByte s.data.toList c.toNat.toUInt8)) ∧ w = w' := by
  go_enter Tryz.func176, Tryz.ntmps176
  go_wp2
  rw [run_callFunc_extern Tryz.func189 (by kernel_rfl) (by kernel_rfl) (by kernel_rfl) (e := Extern.BytealgIndexByte.indexByte) (by kernel_rfl), Lib.run_indexByteString]
  simp only [Result.andThen]
  rw [Oper.upon_value]
  go_wp2
  go_ret
  exact ⟨rfl, rfl⟩
set_option maxRecDepth 100000 in
set_option maxHeartbeats 1000000 in
theorem indexN (s : ByteArray) (w : World) : Calls Tryz.prog 158 #[.string s, .string ⟨#[47]⟩] w fun e w' => e = .returned (.int .i64 (slashAt s)) ∧ w = w' := by
  go_enter Tryz.func158, Tryz.ntmps158
  go_wp2_with (go_at_call 176; refine (indexByteN _ _ _).mono ?_; rintro e w' ⟨rfl, rfl⟩)
  · have h : ([47] == s.toList) = true := by assumption
    have e : s.data.toList = [47] := by rw [← Lib.toList_data]; exact (beq_iff_eq.1 h).symm
    have e2 : slashAt s = 0 := by unfold slashAt; rw [e]; rfl
    go_ret
    exact ⟨by rw [e2]; rfl, rfl⟩
  · go_ret
    exact ⟨rfl, rfl⟩
/-- Ahead of the slash, behind it, whether there is one. -/
def aheadT (s : ByteArray) : ByteArray := if slashAt s < 0 then s else s.extract 0 (slashAt s).toNat
def behindT (s : ByteArray) : ByteArray := if slashAt s < 0 then ByteArray.empty else s.extract ((slashAt s).toNat + 1) s.size
theorem slash_cases (s : ByteArray) : slashAt s = -1 ∨ ∃ i : Nat, slashAt s = (i : Int) ∧ i < s.size := by
  unfold slashAt
  rw [Lib.size_eq]
  generalize s.data.toList = l
  induction l with
  | nil => exact .inl rfl
  | cons b l ih =>
    unfold Lib.indexByte
    by_cases c : (b == 47) = true
    · rw [if_pos c]; exact .inr ⟨0, rfl, by simp⟩
    · rw [if_neg c]
      rcases ih with h | ⟨i, h, hi⟩
      · rw [h]; exact .inl rfl
      · rw [h, if_neg (by simp)]
        exact .inr ⟨i + 1, rfl, by rw [List.length_cons]; omega⟩
set_option maxRecDepth 100000 in
set_option maxHeartbeats 1000000 in
theorem cutN1 (s : ByteArray) (w : World) (hs : s.size ≤ 1000000) : Calls Tryz.prog 134 #[.string s, .string ⟨#[47]⟩] w fun e w' => e = .returned (.tuple #[.string (aheadT s), .string (behindT s), .bool (decide (0 ≤ slashAt s))]) ∧ Add w w' := by
  rcases slash_cases s with h | ⟨i, h, hi⟩
  · have e1 : aheadT s = s := by unfold aheadT; rw [if_pos (by omega)]
    have e2 : behindT s = ByteArray.empty := by unfold behindT; rw [if_pos (by omega)]
    rw [e1, e2, h]
    have HC := Lib.hid (indexN s)
    rw [h] at HC
    clear e1 e2 h
    go_enter Tryz.func134, Tryz.ntmps134
    go_wp2_with (go_at_call 158; refine (HC.out _).mono ?_; rintro e w' ⟨rfl, rfl⟩)
    go_ret3
    exact ⟨rfl, Below.refl _ _⟩
  · have e1 : aheadT s = s.extract 0 i := by unfold aheadT; rw [if_neg (by omega), h, Int.toNat_natCast]
    have e2 : behindT s = s.extract (i + 1) s.size := by unfold behindT; rw [if_neg (by omega), h, Int.toNat_natCast]
    rw [e1, e2, h]
    have HC := Lib.hid (indexN s)
    rw [h] at HC
    have c1 : (0 : Int) ≤ (i : Int) := by omega
    have c2 : (i : Int) ≤ (s.size : Int) := by omega
    have c3 : (0 : Int) ≤ (i : Int) + 1 := by omega
    have c4 : (i : Int) + 1 ≤ (s.size : Int) := by omega
    have c5 : IntKind.i64.wrap ((i : Int) + 1) = (i : Int) + 1 := by rw [IntKind.wrap_i64]; omega
    have hF : ∀ w', Add w w' → (Ending.returned (Value.tuple #[.string (s.extract 0 i), .string (s.extract (i + 1) s.size), .bool (decide (0 ≤ (i : Int)))]) = .returned (.tuple #[.string (s.extract 0 i), .string (s.extract (i + 1) s.size), .bool (decide (0 ≤ (i : Int)))])) ∧ Add w w' := fun w' a => ⟨rfl, a⟩
    clear e1 e2 h
    go_enter Tryz.func134, Tryz.ntmps134
    go_wp2_with (go_at_call 158; refine (HC.out _).mono ?_; rintro e w' ⟨rfl, rfl⟩)
    go_region_held3 (fun _ => True) (first | trivial | go_keep) (fail)
    go_wp2_with fail
    go_ret3
    exact ⟨rfl, Below.drew (Below.refl _ _)⟩
end Go.Proofs.YtiboebgnbnafdaaGreatDoor

namespace Go.Proofs.YtiboebgnbnafdaaGreatDoor
open Go.RowKit NatM Go.Proofs.YtiboebgnbnafdaaGreatDoor.Api

set_option maxRecDepth 100000 in
set_option maxHeartbeats 1000000 in
theorem cutN (s : ByteArray) (w : World) (hs : s.size ≤ 1000000) : Calls Tryz.prog 85 #[.string s, .string ⟨#[47]⟩] w fun e w' => e = .returned (.tuple #[.string (aheadT s), .string (behindT s), .bool (decide (0 ≤ slashAt s))]) ∧ Add w w' := by
  have HC := Lib.hid (cutN1 s w hs)
  obtain ⟨b, hb⟩ : ∃ b, decide (0 ≤ slashAt s) = b := ⟨_, rfl⟩
  rw [hb] at HC ⊢
  clear hb
  go_enter Tryz.func85, Tryz.ntmps85
  go_wp2_with fail
  refine HC.out.mono ?_
  rintro e w' ⟨rfl, h1⟩
  go_wp2_with fail
  go_ret3
  exact ⟨rfl, h1⟩
def OnlyP (w : World) (s : ByteArray) (e : Ending) (w' : World) : Prop := ∃ b, e = .returned (.bool b) ∧ (b = true ↔ isNum s) ∧ w = w'
set_option maxRecDepth 100000 in
set_option maxHeartbeats 1000000 in
theorem onlyDigitsF (s : ByteArray) (w : World) (hs : s.size ≤ 1000000) : Calls Tryz.prog 86 #[.string s] w (OnlyP w s) := by
  have HF : Hid (∀ b, (b = true ↔ isNum s) → OnlyP w s (.returned (.bool b)) w) := Lib.hid fun b h => ⟨b, rfl, h, rfl⟩
  go_enter Tryz.func86, Tryz.ntmps86
  go_wp2_with fail
  go_loopw [6] (fun i wr => ∃ k : Nat, k ≤ s.size ∧ i = .int .i64 (k : Nat) ∧ Hid (AllDig (s.data.toList.take k)) ∧ w = wr) (fun i _ => s.size - (intOf i).toNat)
  case atStart => exact ⟨0, Nat.zero_le _, rfl, Lib.hid (by rw [List.take_zero]; exact AllDig.nil), rfl⟩
  case round =>
    obtain ⟨k, hk, rfl, hd, rfl⟩ := hrel
    by_cases hlt : k < s.size
    · by_cases h1 : (s[k]).toNat < 48
      · have hS := HF.out false (by
          constructor
          · intro h; cases h
          · intro h
            have := h.2 _ (byte_mem hlt)
            unfold IsDig at this; omega)
        have d1 : decide ((s[k]).toNat < 48) = true := decide_eq_true h1
        go_wp2_with fail
        go_ret
        exact hS
      · by_cases h2 : 57 < (s[k]).toNat
        · have hS := HF.out false (by
            constructor
            · intro h; cases h
            · intro h
              have := h.2 _ (byte_mem hlt)
              unfold IsDig at this; omega)
          have d1 : decide ((s[k]).toNat < 48) = false := decide_eq_false h1
          have d2 : decide (57 < (s[k]).toNat) = true := decide_eq_true h2
          go_wp2_with fail
          go_ret
          exact hS
        · have d1 : decide ((s[k]).toNat < 48) = false := decide_eq_false h1
          have d2 : decide (57 < (s[k]).toNat) = false := decide_eq_false h2
          have hd2 : Hid (AllDig (s.data.toList.take (k + 1))) := Lib.hid (by
            rw [byte_take hlt]
            intro b hb
            rcases List.mem_append.1 hb with h | h
            · exact hd.out b h
            · simp at h; subst h; unfold IsDig; omega)
          go_wp2_with fail
          go_roundw
          case rel => exact ⟨k + 1, by omega, by go_num, hd2, by trivial⟩
          case measure => simp [intOf]; omega
    · obtain rfl : k = s.size := by omega
      have hall : AllDig s.data.toList := by
        have := hd.out
        rwa [List.take_of_length_le (by simp)] at this
      have HA := Lib.hid hall
      have hfin : OnlyP w s (.returned (.bool !s.toList.isEmpty)) w := HF.out _ (by
        rw [Lib.toList_data]
        constructor
        · intro h
          refine ⟨fun e => ?_, HA.out⟩
          rw [Lib.size_eq] at e
          rw [List.length_eq_zero_iff.1 e] at h
          cases h
        · intro h
          have h1 := h.1
          rw [Lib.size_eq] at h1
          cases hl : s.data.toList with
          | nil => rw [hl] at h1; exact absurd rfl h1
          | cons b l => rfl)
      clear hall hd
      go_wp2_with fail
      go_ret
      exact hfin
end Go.Proofs.YtiboebgnbnafdaaGreatDoor

namespace Go.Proofs.YtiboebgnbnafdaaGreatDoor
open Go.RowKit NatM Go.Proofs.YtiboebgnbnafdaaGreatDoor.Api

/-- The text of the numerator, and that of the denominator. -/
def aboveT (s : ByteArray) : ByteArray := aheadT (bodyT s)
def belowT (s : ByteArray) : ByteArray := if slashAt (bodyT s) < 0 then ⟨#[49]⟩ else behindT (bodyT s)
open Classical in
/-- What Parse answers of a text that isn't long. -/
noncomputable def parseF (s : ByteArray) : Tri × Nat :=
  if ¬ (isNum (aboveT s) ∧ isNum (belowT s)) then ((false, 0, 0), 6) else if dval 0 (belowT s).data.toList = 0 then ((false, 0, 0), 3) else fitQ (frac (negT s) (dval 0 (aboveT s).data.toList) (dval 0 (belowT s).data.toList))
theorem bodyT_size (s : ByteArray) : (bodyT s).size ≤ s.size := by
  cases h : negT s
  · rw [bodyT_miss h]; exact Nat.le_refl _
  · rw [bodyT_hit h]; simp
theorem aheadT_size (s : ByteArray) : (aheadT s).size ≤ s.size := by
  unfold aheadT; split
  · exact Nat.le_refl _
  · simp; omega
theorem behindT_size (s : ByteArray) : (behindT s).size ≤ s.size := by
  unfold behindT; split
  · exact Nat.zero_le _
  · simp
theorem belowT_size (s : ByteArray) : (belowT s).size ≤ s.size + 1 := by
  unfold belowT; split
  · show 1 ≤ _; omega
  · have := behindT_size (bodyT s); have := bodyT_size s; omega
theorem num_text {t : ByteArray} (h : isNum t) (hs : t.size ≤ 2001) : dval 0 t.data.toList < pw 223 ∧ t.size ≤ 1000000 ∧ parseS t = (dval 0 t.data.toList, 0) := by
  have h1 := dval_lt0 h.2
  have h2 : t.data.toList.length = t.size := (Lib.size_eq t).symm
  rw [h2] at h1
  have h3 : dval 0 t.data.toList < pw 223 := Nat.lt_of_lt_of_le h1 (ten_pw _ _ (by omega))
  exact ⟨h3, by omega, parseS_num (by omega) h rfl (lt_up h3 (by decide))⟩
set_option maxRecDepth 100000 in
set_option maxHeartbeats 4000000 in
theorem parse_cut (p : Tri × Nat) {s : ByteArray} {w : World} (hT : Tab w) (hs : Hid (s.size ≤ 2000)) (hp : Hid (parseF s = p)) (hd : 0 ≤ slashAt (bodyT s)) : Calls Tryz.prog 24 #[.string s] w (ResF w p) := by
  have hb0 := bodyT_size s
  have ha1 := aheadT_size (bodyT s)
  have hb1 := belowT_size s
  have hs1 := hs.out
  have eB : belowT s = behindT (bodyT s) := by unfold belowT; rw [if_neg (by omega)]
  obtain ⟨d, hdd⟩ : ∃ d, decide (0 ≤ slashAt (bodyT s)) = d := ⟨_, rfl⟩
  have dd : d = true := by rw [← hdd]; exact decide_eq_true hd
  subst dd
  have CP := Lib.hid (cutPrefixN s)
  have CC := Lib.hid fun w => cutN (bodyT s) w (by omega)
  rw [hdd] at CC
  obtain ⟨a, ha⟩ : ∃ a, aheadT (bodyT s) = a := ⟨_, rfl⟩
  obtain ⟨b, hb⟩ : ∃ b, behindT (bodyT s) = b := ⟨_, rfl⟩
  have hpe := hp.out
  unfold parseF aboveT at hpe
  rw [ha] at CC hpe ha1
  rw [eB] at hpe hb1
  rw [hb] at CC hpe hb1
  have HPE := Lib.hid hpe
  have sa : a.size ≤ 2001 := by omega
  have sb : b.size ≤ 2001 := by omega
  obtain ⟨ng, hng⟩ : ∃ n, negT s = n := ⟨_, rfl⟩
  obtain ⟨bd, hbd⟩ : ∃ n, bodyT s = n := ⟨_, rfl⟩
  rw [hng] at CP HPE
  rw [hbd] at CP CC
  clear hd hdd ha hb hpe eB hng hbd hb0 ha1 hb1 hs1 hs hp
  obtain ⟨T, hB⟩ := laid_var w false none 0 0 none 0 0
  replace hT := hT.mono T
  go_enter Tryz.func24, Tryz.ntmps24
  go_wp2_with fail
  refine (CP.out _).mono ?_
  rintro e w1 ⟨rfl, rfl⟩
  clear CP
  go_wp2_with fail
  refine (CC.out _).mono ?_
  rintro e w2 ⟨rfl, h2⟩
  replace hB := hB.mono h2
  replace hT := hT.mono h2
  replace T := Add.trans T h2
  clear h2 CC
  by_cases na : isNum a
  · obtain ⟨l1, z1, p1⟩ := num_text na sa
    have NA := Lib.hid na
    clear na
    go_wp2_with fail
    refine (onlyDigitsF a _ (by omega)).mono ?_
    rintro e w3 ⟨q, rfl, hq, rfl⟩
    obtain rfl : q = true := by exact hq.2 NA.out
    clear hq
    by_cases nb : isNum b
    · obtain ⟨l2, z2, p2⟩ := num_text nb sb
      have NB := Lib.hid nb
      clear nb
      go_wp2_with fail
      refine (onlyDigitsF b _ (by omega)).mono ?_
      rintro e w4 ⟨q, rfl, hq, rfl⟩
      obtain rfl : q = true := by exact hq.2 NB.out
      clear hq
      obtain ⟨X, hX⟩ : ∃ X, dval 0 a.data.toList = X := ⟨_, rfl⟩
      obtain ⟨Y, hY⟩ : ∃ Y, dval 0 (b : ByteArray).data.toList = Y := ⟨_, rfl⟩
      have hpe := HPE.out
      rw [if_neg (by rw [Classical.not_not]; exact ⟨NA.out, NB.out⟩), hX, hY] at hpe
      rw [hX] at l1 p1
      rw [hY] at l2 p2
      have F1 : Hid (a.size ≤ 1000000 ∧ parseS a = (X, 0)) := Lib.hid ⟨z1, p1⟩
      have F2 : Hid ((b : ByteArray).size ≤ 1000000 ∧ parseS b = (Y, 0)) := Lib.hid ⟨z2, p2⟩
      have L1 := Lib.hid l1
      have L2 := Lib.hid l2
      clear hX hY l1 l2 p1 p2 z1 z2 HPE NA NB
      go_wp2_with fail
      refine (parseN (X, 0) F1).mono ?_
      rintro e w5 ⟨v1, rfl, n1, h5⟩
      replace hB := hB.mono h5
      replace hT := hT.mono h5
      replace T := Add.trans T h5
      clear h5 F1
      go_wp2_with fail
      refine (parseN (Y, 0) F2).mono ?_
      rintro e w6 ⟨v2, rfl, n2, h6⟩
      replace hB := hB.mono h6
      replace hT := hT.mono h6
      replace n1 := n1.mono h6
      replace T := Add.trans T h6
      clear h6 F2
      have u1 := num_nv n1 (lt_up L1.out (by decide))
      have u2 := num_nv n2 (lt_up L2.out (by decide))
      clear n1 n2
      by_cases y0 : Y = 0
      · have FZ : Hid (decide (Y = 0) = true) := Lib.hid (decide_eq_true y0)
        rw [if_pos y0] at hpe
        subst hpe
        clear y0
        go_wp2_with fail
        refine (isZeroN true u2 FZ).mono ?_
        rintro e w7 ⟨rfl, h7⟩
        replace hB := hB.mono h7
        replace T := Add.trans T h7
        clear h7 u1 u2 FZ L1 L2 hT
        have hc0 := hB.c0
        have hc1 := hB.c1
        have hc2 := hB.c2
        have hc3 := hB.fr 0
        have hc4 := hB.fr 1
        have hc5 := hB.fr 2
        have hF := resF_put (w := w) (p := ((false, 0, 0), 3)) hB (fracT_zero _) T (Nat.le_refl _)
        clear hB T 
        unfold put3 at hF
        have HF := Lib.hid hF
        clear hF
        go_wp2_with fail
        exact bodyPost_ret (v := .tuple #[.agg #[.bool false, .slice none 0 0, .slice none 0 0], .int .i64 3]) (by simp [results, Tryz.results24, go_sem, hc0, hc1, hc2]) rfl HF.out
      · have FZ : Hid (decide (Y = 0) = false) := Lib.hid (decide_eq_false y0)
        rw [if_neg y0] at hpe
        have FL : Hid (Y ≠ 0 ∧ X < pw 512 ∧ Y < pw 512 ∧ fitQ (frac ng X Y) = p) := Lib.hid ⟨y0, lt_up L1.out (by decide), lt_up L2.out (by decide), hpe⟩
        clear y0 hpe L1 L2
        go_wp2_with fail
        refine (isZeroN false u2 FZ).mono ?_
        rintro e w7 ⟨rfl, h7⟩
        replace hB := hB.mono h7
        replace hT := hT.mono h7
        replace u1 := u1.mono h7
        replace u2 := u2.mono h7
        replace T := Add.trans T h7
        clear h7 FZ
        go_wp2_with fail
        refine (lowestN p u1 u2 hT FL).mono ?_
        rintro e w8 ⟨vr, rfl, nr, h8⟩
        replace hB := hB.mono h8
        replace T := Add.trans T h8
        clear h8 u1 u2 hT FL
        obtain ⟨an2, n2, cn2, ad2, d2, cd2, rfl, m1, m2⟩ := nr
        have s0 := hB.c0
        have s1 := hB.c1
        have s2 := hB.c2
        have s3 := hB.fr 0
        have s4 := hB.fr 1
        have s5 := hB.fr 2
        have hF := resF_put (w := w) (p := p) hB ⟨an2, n2, cn2, ad2, d2, cd2, rfl, m1, m2⟩ T (Nat.le_refl _)
        unfold put3 at hF
        have HF := Lib.hid hF
        clear hF m1 m2
        go_wp2_with fail
        exact bodyPost_ret (v := .tuple #[.agg #[.bool p.1.1, .slice an2 n2 cn2, .slice ad2 d2 cd2], .int .i64 (p.2 : Nat)]) (by simp [results, Tryz.results24, go_sem, s0, s1, s2]) rfl HF.out
    · have hpe := HPE.out
      rw [if_pos (fun h => nb h.2)] at hpe
      subst hpe
      have NB := Lib.hid nb
      clear HPE nb l1 z1 p1
      go_wp2_with fail
      refine (onlyDigitsF b _ (by omega)).mono ?_
      rintro e w4 ⟨q, rfl, hq, rfl⟩
      obtain rfl : q = false := by exact Bool.eq_false_iff.2 fun h => NB.out (hq.1 h)
      clear hq
      clear hT
      have hc0 := hB.c0
      have hc1 := hB.c1
      have hc2 := hB.c2
      have hc3 := hB.fr 0
      have hc4 := hB.fr 1
      have hc5 := hB.fr 2
      have hF := resF_put (w := w) (p := ((false, 0, 0), 6)) hB (fracT_zero _) T (Nat.le_refl _)
      clear hB T 
      unfold put3 at hF
      have HF := Lib.hid hF
      clear hF
      go_wp2_with fail
      exact bodyPost_ret (v := .tuple #[.agg #[.bool false, .slice none 0 0, .slice none 0 0], .int .i64 6]) (by simp [results, Tryz.results24, go_sem, hc0, hc1, hc2]) rfl HF.out

  · have hpe := HPE.out
    rw [if_pos (fun h => na h.1)] at hpe
    subst hpe
    have NA := Lib.hid na
    clear HPE na
    go_wp2_with fail
    refine (onlyDigitsF a _ (by omega)).mono ?_
    rintro e w3 ⟨q, rfl, hq, rfl⟩
    obtain rfl : q = false := by exact Bool.eq_false_iff.2 fun h => NA.out (hq.1 h)
    clear hq
    clear hT
    have hc0 := hB.c0
    have hc1 := hB.c1
    have hc2 := hB.c2
    have hc3 := hB.fr 0
    have hc4 := hB.fr 1
    have hc5 := hB.fr 2
    have hF := resF_put (w := w) (p := ((false, 0, 0), 6)) hB (fracT_zero _) T (Nat.le_refl _)
    clear hB T 
    unfold put3 at hF
    have HF := Lib.hid hF
    clear hF
    go_wp2_with fail
    exact bodyPost_ret (v := .tuple #[.agg #[.bool false, .slice none 0 0, .slice none 0 0], .int .i64 6]) (by simp [results, Tryz.results24, go_sem, hc0, hc1, hc2]) rfl HF.out
set_option maxRecDepth 100000 in
set_option maxHeartbeats 4000000 in
theorem parse_one (p : Tri × Nat) {s : ByteArray} {w : World} (hT : Tab w) (hs : Hid (s.size ≤ 2000)) (hp : Hid (parseF s = p)) (hd : ¬ 0 ≤ slashAt (bodyT s)) : Calls Tryz.prog 24 #[.string s] w (ResF w p) := by
  have hb0 := bodyT_size s
  have ha1 := aheadT_size (bodyT s)
  have hb1 := belowT_size s
  have hs1 := hs.out
  have eB : belowT s = ⟨#[49]⟩ := by unfold belowT; rw [if_pos (by omega)]
  obtain ⟨d, hdd⟩ : ∃ d, decide (0 ≤ slashAt (bodyT s)) = d := ⟨_, rfl⟩
  have dd : d = false := by rw [← hdd]; exact decide_eq_false hd
  subst dd
  have CP := Lib.hid (cutPrefixN s)
  have CC := Lib.hid fun w => cutN (bodyT s) w (by omega)
  rw [hdd] at CC
  obtain ⟨a, ha⟩ : ∃ a, aheadT (bodyT s) = a := ⟨_, rfl⟩
  obtain ⟨b, hb⟩ : ∃ b, behindT (bodyT s) = b := ⟨_, rfl⟩
  have hpe := hp.out
  unfold parseF aboveT at hpe
  rw [ha] at CC hpe ha1
  rw [eB] at hpe hb1
  rw [hb] at CC
  have HPE := Lib.hid hpe
  have sa : a.size ≤ 2001 := by omega

  obtain ⟨ng, hng⟩ : ∃ n, negT s = n := ⟨_, rfl⟩
  obtain ⟨bd, hbd⟩ : ∃ n, bodyT s = n := ⟨_, rfl⟩
  rw [hng] at CP HPE
  rw [hbd] at CP CC
  clear hd hdd ha hb hpe eB hng hbd hb0 ha1 hb1 hs1 hs hp
  obtain ⟨T, hB⟩ := laid_var w false none 0 0 none 0 0
  replace hT := hT.mono T
  go_enter Tryz.func24, Tryz.ntmps24
  go_wp2_with fail
  refine (CP.out _).mono ?_
  rintro e w1 ⟨rfl, rfl⟩
  clear CP
  go_wp2_with fail
  refine (CC.out _).mono ?_
  rintro e w2 ⟨rfl, h2⟩
  replace hB := hB.mono h2
  replace hT := hT.mono h2
  replace T := Add.trans T h2
  clear h2 CC
  by_cases na : isNum a
  · obtain ⟨l1, z1, p1⟩ := num_text na sa
    have NA := Lib.hid na
    clear na
    go_wp2_with fail
    refine (onlyDigitsF a _ (by omega)).mono ?_
    rintro e w3 ⟨q, rfl, hq, rfl⟩
    obtain rfl : q = true := by exact hq.2 NA.out
    clear hq
    have nb : isNum (⟨#[49]⟩ : ByteArray) := ⟨by decide, by intro b hb; simp at hb; subst hb; unfold IsDig; decide⟩
    obtain ⟨l2, z2, p2⟩ := num_text nb (by decide)
    have NB := Lib.hid nb
    clear nb
    go_wp2_with fail
    refine (onlyDigitsF ⟨#[49]⟩ _ (by decide)).mono ?_
    rintro e w4 ⟨q, rfl, hq, rfl⟩
    obtain rfl : q = true := by exact hq.2 NB.out
    clear hq
    obtain ⟨X, hX⟩ : ∃ X, dval 0 a.data.toList = X := ⟨_, rfl⟩
    obtain ⟨Y, hY⟩ : ∃ Y, 1 = Y := ⟨_, rfl⟩
    replace p2 : parseS ⟨#[49]⟩ = (1, 0) := p2
    replace l2 : 1 < pw 223 := l2
    have hpe := HPE.out
    rw [if_neg (by rw [Classical.not_not]; exact ⟨NA.out, NB.out⟩), hX] at hpe
    replace hpe : (if (1 : Nat) = 0 then ((false, 0, 0), 3) else fitQ (frac ng X 1)) = p := hpe
    rw [hY] at hpe
    rw [hX] at l1 p1
    rw [hY] at l2 p2
    have F1 : Hid (a.size ≤ 1000000 ∧ parseS a = (X, 0)) := Lib.hid ⟨z1, p1⟩
    have F2 : Hid ((⟨#[49]⟩ : ByteArray).size ≤ 1000000 ∧ parseS ⟨#[49]⟩ = (Y, 0)) := Lib.hid ⟨z2, p2⟩
    have L1 := Lib.hid l1
    have L2 := Lib.hid l2
    clear hX hY l1 l2 p1 p2 z1 z2 HPE NA NB
    go_wp2_with fail
    refine (parseN (X, 0) F1).mono ?_
    rintro e w5 ⟨v1, rfl, n1, h5⟩
    replace hB := hB.mono h5
    replace hT := hT.mono h5
    replace T := Add.trans T h5
    clear h5 F1
    go_wp2_with fail
    refine (parseN (Y, 0) F2).mono ?_
    rintro e w6 ⟨v2, rfl, n2, h6⟩
    replace hB := hB.mono h6
    replace hT := hT.mono h6
    replace n1 := n1.mono h6
    replace T := Add.trans T h6
    clear h6 F2
    have u1 := num_nv n1 (lt_up L1.out (by decide))
    have u2 := num_nv n2 (lt_up L2.out (by decide))
    clear n1 n2
    by_cases y0 : Y = 0
    · have FZ : Hid (decide (Y = 0) = true) := Lib.hid (decide_eq_true y0)
      rw [if_pos y0] at hpe
      subst hpe
      clear y0
      go_wp2_with fail
      refine (isZeroN true u2 FZ).mono ?_
      rintro e w7 ⟨rfl, h7⟩
      replace hB := hB.mono h7
      replace T := Add.trans T h7
      clear h7 u1 u2 FZ L1 L2 hT
      have hc0 := hB.c0
      have hc1 := hB.c1
      have hc2 := hB.c2
      have hc3 := hB.fr 0
      have hc4 := hB.fr 1
      have hc5 := hB.fr 2
      have hF := resF_put (w := w) (p := ((false, 0, 0), 3)) hB (fracT_zero _) T (Nat.le_refl _)
      clear hB T 
      unfold put3 at hF
      have HF := Lib.hid hF
      clear hF
      go_wp2_with fail
      exact bodyPost_ret (v := .tuple #[.agg #[.bool false, .slice none 0 0, .slice none 0 0], .int .i64 3]) (by simp [results, Tryz.results24, go_sem, hc0, hc1, hc2]) rfl HF.out
    · have FZ : Hid (decide (Y = 0) = false) := Lib.hid (decide_eq_false y0)
      rw [if_neg y0] at hpe
      have FL : Hid (Y ≠ 0 ∧ X < pw 512 ∧ Y < pw 512 ∧ fitQ (frac ng X Y) = p) := Lib.hid ⟨y0, lt_up L1.out (by decide), lt_up L2.out (by decide), hpe⟩
      clear y0 hpe L1 L2
      go_wp2_with fail
      refine (isZeroN false u2 FZ).mono ?_
      rintro e w7 ⟨rfl, h7⟩
      replace hB := hB.mono h7
      replace hT := hT.mono h7
      replace u1 := u1.mono h7
      replace u2 := u2.mono h7
      replace T := Add.trans T h7
      clear h7 FZ
      go_wp2_with fail
      refine (lowestN p u1 u2 hT FL).mono ?_
      rintro e w8 ⟨vr, rfl, nr, h8⟩
      replace hB := hB.mono h8
      replace T := Add.trans T h8
      clear h8 u1 u2 hT FL
      obtain ⟨an2, n2, cn2, ad2, d2, cd2, rfl, m1, m2⟩ := nr
      have s0 := hB.c0
      have s1 := hB.c1
      have s2 := hB.c2
      have s3 := hB.fr 0
      have s4 := hB.fr 1
      have s5 := hB.fr 2
      have hF := resF_put (w := w) (p := p) hB ⟨an2, n2, cn2, ad2, d2, cd2, rfl, m1, m2⟩ T (Nat.le_refl _)
      unfold put3 at hF
      have HF := Lib.hid hF
      clear hF m1 m2
      go_wp2_with fail
      exact bodyPost_ret (v := .tuple #[.agg #[.bool p.1.1, .slice an2 n2 cn2, .slice ad2 d2 cd2], .int .i64 (p.2 : Nat)]) (by simp [results, Tryz.results24, go_sem, s0, s1, s2]) rfl HF.out

  · have hpe := HPE.out
    rw [if_pos (fun h => na h.1)] at hpe
    subst hpe
    have NA := Lib.hid na
    clear HPE na
    go_wp2_with fail
    refine (onlyDigitsF a _ (by omega)).mono ?_
    rintro e w3 ⟨q, rfl, hq, rfl⟩
    obtain rfl : q = false := by exact Bool.eq_false_iff.2 fun h => NA.out (hq.1 h)
    clear hq
    clear hT
    have hc0 := hB.c0
    have hc1 := hB.c1
    have hc2 := hB.c2
    have hc3 := hB.fr 0
    have hc4 := hB.fr 1
    have hc5 := hB.fr 2
    have hF := resF_put (w := w) (p := ((false, 0, 0), 6)) hB (fracT_zero _) T (Nat.le_refl _)
    clear hB T 
    unfold put3 at hF
    have HF := Lib.hid hF
    clear hF
    go_wp2_with fail
    exact bodyPost_ret (v := .tuple #[.agg #[.bool false, .slice none 0 0, .slice none 0 0], .int .i64 6]) (by simp [results, Tryz.results24, go_sem, hc0, hc1, hc2]) rfl HF.out
theorem parseFN (p : Tri × Nat) {s : ByteArray} {w : World} (hT : Tab w) (hs : Hid (s.size ≤ 2000)) (hp : Hid (parseF s = p)) : Calls Tryz.prog 24 #[.string s] w (ResF w p) := by
  by_cases hd : 0 ≤ slashAt (bodyT s)
  · exact parse_cut p hT hs hp hd
  · exact parse_one p hT hs hp hd
end Go.Proofs.YtiboebgnbnafdaaGreatDoor

namespace Go.Proofs.YtiboebgnbnafdaaGreatDoor
open Go.RowKit NatM Go.Proofs.YtiboebgnbnafdaaGreatDoor.Api

/-- The length of the row of digits at the beginning. -/
def headDig : List UInt8 → Nat
  | [] => 0
  | b :: l => if 48 ≤ b.toNat ∧ b.toNat ≤ 57 then headDig l + 1 else 0
theorem headDig_le (l : List UInt8) : headDig l ≤ l.length := by
  induction l with
  | nil => exact Nat.le_refl _
  | cons b l ih => unfold headDig; split <;> simp <;> omega
theorem headDig_all {l : List UInt8} : AllDig (l.take (headDig l)) := by
  induction l with
  | nil => exact AllDig.nil
  | cons b l ih =>
    unfold headDig
    split
    · next h =>
      rw [List.take_succ_cons]
      intro c hc
      rcases List.mem_cons.1 hc with rfl | hc
      · exact h
      · exact ih c hc
    · exact AllDig.nil
theorem headDig_stop {l : List UInt8} (h : headDig l < l.length) : ¬ IsDig (l.getD (headDig l) 0) := by
  induction l with
  | nil => exact absurd h (Nat.lt_irrefl _)
  | cons b l ih =>
    unfold headDig at h ⊢
    split
    · next c =>
      rw [if_pos c] at h
      simp only [List.getD_cons_succ]
      exact ih (by simpa using h)
    · next c => simpa [IsDig] using c
theorem headDig_eq {l : List UInt8} {k : Nat} (h1 : AllDig (l.take k)) (h2 : k ≤ l.length) (h3 : k < l.length → ¬ IsDig (l.getD k 0)) : headDig l = k := by
  induction l generalizing k with
  | nil => have : k = 0 := by simpa using h2
           subst this; rfl
  | cons b l ih =>
    cases k with
    | zero =>
      have := h3 (by simp)
      unfold headDig
      rw [if_neg]
      simpa [IsDig] using this
    | succ k =>
      rw [List.take_succ_cons] at h1
      unfold headDig
      rw [if_pos (show 48 ≤ b.toNat ∧ b.toNat ≤ 57 from h1.head), ih h1.tail (by simpa using h2) (fun h => by have := h3 (by simpa using h); simpa using this)]
theorem headDig_full {l : List UInt8} (h : AllDig l) : headDig l = l.length := headDig_eq (by rw [List.take_length]; exact h) (Nat.le_refl _) (fun h => absurd h (Nat.lt_irrefl _))
theorem byte_getD {s : ByteArray} {q : Nat} (h : q < s.size) : s.data.toList.getD q 0 = s[q] := by
  have h' : q < s.data.toList.length := by rw [← Lib.size_eq]; exact h
  rw [← List.getElem_eq_getD (h := h') 0]; rfl
set_option maxRecDepth 100000 in
set_option maxHeartbeats 1000000 in
theorem digitsN (s : ByteArray) (at0 : Nat) (w : World) (hs : s.size ≤ 1000000) (ha : at0 ≤ s.size) : Calls Tryz.prog 89 #[.string s, .int .i64 (at0 : Nat)] w fun e w' => e = .returned (.int .i64 (headDig (s.data.toList.drop at0) : Nat)) ∧ w = w' := by
  have hlen := Lib.size_eq s
  have HE : Hid (∀ k, at0 + k ≤ s.size → AllDig ((s.data.toList.drop at0).take k) → (at0 + k < s.size → ¬ IsDig (s.data.toList.getD (at0 + k) 0)) → ((k : Nat) : Int) = (headDig (s.data.toList.drop at0) : Nat)) := Lib.hid fun k h1 h2 h3 => by
    rw [headDig_eq h2 (by rw [List.length_drop]; omega) (fun h => by
      have := h3 (by rw [List.length_drop] at h; omega)
      simpa [List.getD, List.getElem?_drop] using this)]
  clear hlen
  go_enter Tryz.func89, Tryz.ntmps89
  go_wp2_with fail
  go_loopw [5] (fun i wr => ∃ k : Nat, at0 + k ≤ s.size ∧ i = .int .i64 (k : Nat) ∧ Hid (AllDig ((s.data.toList.drop at0).take k)) ∧ w = wr) (fun i _ => s.size - (intOf i).toNat)
  case atStart => exact ⟨0, by omega, rfl, Lib.hid (by rw [List.take_zero]; exact AllDig.nil), rfl⟩
  case round =>
    obtain ⟨k, hk, rfl, hd, rfl⟩ := hrel
    obtain ⟨q, hq⟩ : ∃ q : Nat, at0 + k = q := ⟨_, rfl⟩
    have hqi : (at0 : Int) + (k : Int) = (q : Int) := by omega
    have hqs : q ≤ s.size := by omega
    have hke := HE.out k (by omega) hd.out
    rw [hq] at hke
    have HK := Lib.hid hke
    have HQ := Lib.hid hq
    clear hke hk
    by_cases hlt : q < s.size
    · by_cases h1 : 48 ≤ (s[q]).toNat
      · have d1 : decide (48 ≤ (s[q]).toNat) = true := decide_eq_true h1
        by_cases h2 : (s[q]).toNat ≤ 57
        · have d2 : decide ((s[q]).toNat ≤ 57) = true := decide_eq_true h2
          have hd2 : Hid (AllDig ((s.data.toList.drop at0).take (k + 1))) := Lib.hid (by
            have e : (s.data.toList.drop at0)[k]? = some s[q] := by
              rw [List.getElem?_drop, HQ.out]
              have h' : q < s.data.toList.length := by rw [← Lib.size_eq]; exact hlt
              rw [List.getElem?_eq_getElem h']; rfl
            rw [List.take_add_one, e]
            intro b hb
            rcases List.mem_append.1 hb with h | h
            · exact hd.out b h
            · simp at h; subst h; exact ⟨h1, h2⟩)
          have hq1 : at0 + (k + 1) ≤ s.size := by have := HQ.out; omega
          have hm : k < s.size := by have := HQ.out; omega
          clear hq
          go_wp2_with fail
          go_roundw
          case rel => exact ⟨k + 1, hq1, by go_num, hd2, by trivial⟩
          case measure => simp [intOf]; omega
        · have d2 : decide ((s[q]).toNat ≤ 57) = false := decide_eq_false h2
          have hF := HK.out (fun h => by rw [byte_getD h]; unfold IsDig; omega)
          have HF := Lib.hid hF
          clear hq hF
          go_wp2_with fail
          go_ret
          exact ⟨by rw [← HF.out]; rfl, rfl⟩
      · have d1 : decide (48 ≤ (s[q]).toNat) = false := decide_eq_false h1
        have hF := HK.out (fun h => by rw [byte_getD h]; unfold IsDig; omega)
        have HF := Lib.hid hF
        clear hq hF
        go_wp2_with fail
        go_ret
        exact ⟨by rw [← HF.out]; rfl, rfl⟩
    · have hF := HK.out (fun h => absurd h hlt)
      have HF := Lib.hid hF
      clear hq hF
      go_wp2_with fail
      go_ret
      exact ⟨by rw [← HF.out]; rfl, rfl⟩
end Go.Proofs.YtiboebgnbnafdaaGreatDoor

namespace Go.Proofs.YtiboebgnbnafdaaGreatDoor
open Go.RowKit NatM Go.Proofs.YtiboebgnbnafdaaGreatDoor.Api

theorem slash_at {l : List UInt8} {n : Nat} (h : ∀ i, i < n → l.getD i 0 ≠ 47) (hn : n < l.length) (he : l.getD n 0 = 47) : Lib.indexByte l 47 = (n : Int) := by
  induction l generalizing n with
  | nil => exact absurd hn (Nat.not_lt_zero _)
  | cons b l ih =>
    unfold Lib.indexByte
    cases n with
    | zero =>
      have e : b = 47 := by simpa using he
      rw [if_pos (by rw [e]; rfl)]; rfl
    | succ n =>
      have hb : b ≠ 47 := by simpa using h 0 (by omega)
      have := ih (n := n) (fun i hi => by simpa using h (i + 1) (by omega)) (by simpa using hn) (by simpa using he)
      rw [if_neg (by simpa using hb), this, if_neg (by simp)]
      omega
theorem slash_none {l : List UInt8} (h : ∀ b ∈ l, b ≠ 47) : Lib.indexByte l 47 = -1 := by
  induction l with
  | nil => rfl
  | cons b l ih =>
    unfold Lib.indexByte
    rw [if_neg (by simpa using h b (by simp)), ih fun c hc => h c (by simp [hc])]
    rfl
theorem slash_after {l : List UInt8} {n : Nat} (h : ∀ i, i ≤ n → l.getD i 0 ≠ 47) (hn : n < l.length) : Lib.indexByte l 47 = -1 ∨ (n : Int) < Lib.indexByte l 47 := by
  induction l generalizing n with
  | nil => exact absurd hn (Nat.not_lt_zero _)
  | cons b l ih =>
    have hb : b ≠ 47 := by simpa using h 0 (by omega)
    unfold Lib.indexByte
    rw [if_neg (by simpa using hb)]
    have hge := Lib.indexByte_ge l 47
    by_cases e : Lib.indexByte l 47 = -1
    · rw [e]; exact .inl rfl
    · rw [if_neg (by simpa using e)]
      cases n with
      | zero => right; omega
      | succ n =>
        rcases ih (n := n) (fun i hi => by simpa using h (i + 1) (by omega)) (by simpa using hn) with g | g
        · exact absurd g e
        · right; omega
theorem digit_ne {b : UInt8} (h : IsDig b) : b ≠ 47 := by
  rintro rfl
  exact absurd h.1 (by decide)
theorem head_dig {l : List UInt8} {i : Nat} (hi : i < headDig l) : IsDig (l.getD i 0) := by
  have hl := headDig_le l
  have h := headDig_all (l := l)
  refine h _ ?_
  have h' : i < (l.take (headDig l)).length := by rw [List.length_take]; omega
  have e : (l.take (headDig l))[i] = l.getD i 0 := by
    rw [List.getElem_take, ← List.getElem_eq_getD (h := by omega) 0]
  rw [← e]; exact List.getElem_mem h'
/-- All bytes are digits. -/
theorem form_all {s : ByteArray} (h : headDig s.data.toList = s.size) : slashAt s = -1 ∧ AllDig s.data.toList := by
  have ha : AllDig s.data.toList := by
    have := headDig_all (l := s.data.toList)
    rwa [h, Lib.size_eq, List.take_length] at this
  exact ⟨slash_none fun b hb => digit_ne (ha b hb), ha⟩
/-- Behind the digits stands a slash. -/
theorem form_slash {s : ByteArray} {n : Nat} (h : headDig s.data.toList = n) (hn : n < s.size) (hs : s.data.toList.getD n 0 = 47) : slashAt s = (n : Int) :=
  slash_at (fun i hi => digit_ne (head_dig (by rw [h]; exact hi))) (by rw [← Lib.size_eq]; exact hn) hs
/-- Behind the digits stands another byte: the text is refused. -/
theorem form_other {s : ByteArray} {n : Nat} (h : headDig s.data.toList = n) (hn : n < s.size) (hs : s.data.toList.getD n 0 ≠ 47) : ¬ isNum (aheadT s) := by
  have hl : n < s.data.toList.length := by rw [← Lib.size_eq]; exact hn
  have hd : ¬ IsDig (s.data.toList.getD n 0) := by
    have := headDig_stop (l := s.data.toList) (by rw [h]; exact hl)
    rwa [h] at this
  have hmem : s.data.toList.getD n 0 ∈ s.data.toList := by
    rw [← List.getElem_eq_getD (h := hl) 0]; exact List.getElem_mem hl
  rintro ⟨-, h2⟩
  rcases slash_after (l := s.data.toList) (n := n) (fun i hi => by
    rcases Nat.lt_or_ge i n with h1 | h1
    · exact digit_ne (head_dig (by rw [h]; exact h1))
    · have e : i = n := by omega
      rw [e]; exact hs) hl with g | g
  · have e : aheadT s = s := by unfold aheadT slashAt; rw [if_pos (by omega)]
    rw [e] at h2
    exact hd (h2 _ hmem)
  · have e : aheadT s = s.extract 0 (slashAt s).toNat := by unfold aheadT; rw [if_neg (by unfold slashAt; omega)]
    rw [e, extract_list] at h2
    have g' : n < (slashAt s).toNat := by unfold slashAt; omega
    refine hd (h2 _ ?_)
    simp only [List.drop_zero, Nat.sub_zero]
    have h' : n < (s.data.toList.take (slashAt s).toNat).length := by rw [List.length_take]; omega
    have e2 : (s.data.toList.take (slashAt s).toNat)[n] = s.data.toList.getD n 0 := by
      rw [List.getElem_take, ← List.getElem_eq_getD (h := hl) 0]
    rw [← e2]; exact List.getElem_mem h'
theorem take_num {s : ByteArray} {n : Nat} (h : headDig s.data.toList = n) (h0 : n ≠ 0) : isNum (s.extract 0 n) := by
  have hl := headDig_le s.data.toList
  rw [h, ← Lib.size_eq] at hl
  refine ⟨?_, ?_⟩
  · have e : (s.extract 0 n).size = min n s.size - 0 := by simp
    rw [e]; omega
  · rw [extract_list]
    have := headDig_all (l := s.data.toList)
    rw [h] at this
    simpa using this
theorem drop_num {s : ByteArray} {n m : Nat} (hn : n ≤ s.size) (h : headDig (s.data.toList.drop n) = m) : isNum (s.extract n s.size) ↔ m ≠ 0 ∧ n + m = s.size := by
  have hlen : (s.data.toList.drop n).length = s.size - n := by rw [List.length_drop, ← Lib.size_eq]
  have e : (s.extract n s.size).data.toList = s.data.toList.drop n := by
    rw [extract_list]; exact List.take_of_length_le (by rw [hlen]; exact Nat.le_refl _)
  have hz : (s.extract n s.size).size = s.size - n := by simp
  constructor
  · rintro ⟨h1, h2⟩
    rw [e] at h2
    have := headDig_full h2
    rw [h, hlen] at this
    rw [hz] at h1
    omega
  · rintro ⟨h1, h2⟩
    refine ⟨by rw [hz]; omega, ?_⟩
    rw [e]
    have := headDig_all (l := s.data.toList.drop n)
    rwa [h, List.take_of_length_le (by rw [hlen]; omega)] at this
end Go.Proofs.YtiboebgnbnafdaaGreatDoor

namespace Go.Proofs.YtiboebgnbnafdaaGreatDoor
open Go.RowKit NatM Go.Proofs.YtiboebgnbnafdaaGreatDoor.Api

set_option maxRecDepth 100000 in
set_option maxHeartbeats 8000000 in
theorem refParse_sign (p : Tri × Nat) {s : ByteArray} {w : World} (hs : Hid (s.size ≤ 2000)) (hp : Hid (parseF s = p)) (h : negT s = true) : Calls Tryz.prog 25 #[.string s] w (ResF w p) := by
  obtain ⟨bd, hbody'⟩ : ∃ d, s.extract 1 s.size = d := ⟨_, rfl⟩
  have hbody : bodyT s = bd := by rw [bodyT_hit h, hbody']
  obtain ⟨ng, hng⟩ : ∃ b, true = b := ⟨_, rfl⟩
  have hneg : negT s = ng := by rw [h, hng]
  have hz : s.size ≠ 0 := by
    intro e
    rw [negT_iff] at h
    rw [Lib.size_eq] at e
    rw [List.length_eq_zero_iff.1 e] at h
    cases h
  have dz : decide (0 < s.size) = true := decide_eq_true (by omega)
  have h45 : (s[0]'(by omega)).toNat = 45 := by
    rw [negT_iff] at h
    have hl : 0 < s.data.toList.length := by rw [← Lib.size_eq]; omega
    have : s.data.toList[0] = 45 := by rw [List.head?_eq_getElem?, List.getElem?_eq_getElem hl] at h; exact Option.some.inj h
    show (s.data.toList[0]).toNat = 45
    rw [this]; rfl
  have hs1i : (1 : Int) ≤ (s.size : Int) := by omega
  clear h
  have hpe := hp.out
  unfold parseF aboveT belowT at hpe
  rw [hbody, hneg] at hpe
  have hs1 := hs.out
  have hbs : bd.size ≤ 2000 := by have := bodyT_size s; rw [hbody] at this; omega
  obtain ⟨n, hn⟩ : ∃ n, headDig bd.data.toList = n := ⟨_, rfl⟩
  obtain ⟨m, hm⟩ : ∃ m, headDig (bd.data.toList.drop (n + 1)) = m := ⟨_, rfl⟩
  have hnl : n ≤ bd.size := by rw [← hn, Lib.size_eq]; exact headDig_le _
  have hni : (n : Int) ≤ (bd.size : Int) := by omega
  have hmi : (m : Int) ≤ 2000 := by have := headDig_le (bd.data.toList.drop (n + 1)); rw [hm, List.length_drop, ← Lib.size_eq] at this; omega
  have hbi : (bd.size : Int) ≤ 2000 := by omega
  have HN := Lib.hid hn
  have HM := Lib.hid hm
  have HNL := Lib.hid hnl
  have HPE := Lib.hid hpe
  have HD0 : Hid (∀ w, Calls Tryz.prog 89 #[.string bd, .int .i64 0] w fun e w' => e = .returned (.int .i64 (n : Nat)) ∧ w = w') := Lib.hid fun w => by
    have := digitsN bd 0 w (by omega) (by omega)
    rw [List.drop_zero, hn] at this
    exact this
  clear hn hm hnl hpe hp hs hs1 hneg
  obtain ⟨T, hB⟩ := laid_var w false none 0 0 none 0 0
  subst hng
  clear hbody
  go_enter Tryz.func25, Tryz.ntmps25
  go_wp2_with fail
  refine (HD0.out _).mono ?_
  rintro e w2 ⟨rfl, rfl⟩
  by_cases hlt : n < bd.size
  · have hlti : (n : Int) < (bd.size : Int) := by omega
    have hn1 : (0 : Int) ≤ (n : Int) + 1 := by omega
    have hn2 : (n : Int) + 1 ≤ (bd.size : Int) := by omega
    have HD1 : Hid (∀ w, Calls Tryz.prog 89 #[.string bd, .int .i64 ((n : Int) + 1)] w fun e w' => e = .returned (.int .i64 (m : Nat)) ∧ w = w') := Lib.hid fun w => by
      have := digitsN bd (n + 1) w (by omega) (by omega)
      rw [HM.out] at this
      exact this
    go_wp2_with fail
    refine (HD1.out _).mono ?_
    rintro e w3 ⟨rfl, rfl⟩
    by_cases h47 : (bd[n]).toNat = 47
    · have hsl := form_slash HN.out hlt (by rw [byte_getD hlt]; exact UInt8.toNat_inj.1 h47)
      have ea : aheadT bd = bd.extract 0 n := by unfold aheadT; rw [if_neg (by omega), hsl, Int.toNat_natCast]
      have eb : (if slashAt bd < 0 then (⟨#[49]⟩ : ByteArray) else behindT bd) = bd.extract (n + 1) bd.size := by
        rw [if_neg (by omega)]; unfold behindT; rw [if_neg (by omega), hsl, Int.toNat_natCast]
      rw [ea, eb] at HPE
      have hdn := drop_num (s := bd) (n := n + 1) (by omega) HM.out
      have HDN := Lib.hid hdn
      clear hsl ea eb hdn
      by_cases hm : m ≠ 0 ∧ n + 1 + m = bd.size
      · have NB := Lib.hid (HDN.out.2 hm)
        have dm : ((m : Int) == 0) = false := by rw [beq_eq_false_iff_ne]; omega
        have dl : (n : Int) + 1 + (m : Int) = (bd.size : Int) := by omega
        by_cases h0 : n = 0
        · subst h0
          have NX : Hid (¬ isNum (bd.extract 0 0)) := Lib.hid (fun h => h.1 (by simp))
          clear hm HDN
          have hpe := HPE.out
          rw [if_pos (by exact fun h => NX.out h.1)] at hpe
          subst hpe
          clear HPE HD0 HD1 NX NB
          have hF : ResF w ((false, 0, 0), 6) (.returned (.tuple #[.agg #[.bool false, .slice none 0 0, .slice none 0 0], .int .i64 6])) (w.alloc (.cells #[.bool false, .slice none 0 0, .slice none 0 0] 25)) := ⟨_, rfl, fracT_zero _, T⟩
          have HF := Lib.hid hF
          clear hF T hB
          go_wp2_with fail
          exact bodyPost_ret (v := .tuple #[.agg #[.bool false, .slice none 0 0, .slice none 0 0], .int .i64 6]) (by simp [results, Tryz.results25, go_sem]) rfl HF.out
        · have d0 : ((n : Int) == 0) = false := by rw [beq_eq_false_iff_ne]; omega
          have NA := Lib.hid (take_num HN.out h0)
          clear hm h0 HDN
          obtain ⟨l1, z1, p1⟩ := num_text NA.out (by simp; omega)
          obtain ⟨l2, z2, p2⟩ := num_text NB.out (by simp; omega)
          obtain ⟨X, hX⟩ : ∃ X, dval 0 (bd.extract 0 n).data.toList = X := ⟨_, rfl⟩
          obtain ⟨Y, hY⟩ : ∃ Y, dval 0 ((bd.extract (n + 1) bd.size) : ByteArray).data.toList = Y := ⟨_, rfl⟩
          have hpe := HPE.out
          rw [if_neg (by rw [Classical.not_not]; exact ⟨NA.out, NB.out⟩), hX, hY] at hpe
          rw [hX] at l1 p1
          rw [hY] at l2 p2
          have F1 : Hid ((bd.extract 0 n).size ≤ 1000000 ∧ parseS (bd.extract 0 n) = (X, 0)) := Lib.hid ⟨z1, p1⟩
          have F2 : Hid (((bd.extract (n + 1) bd.size) : ByteArray).size ≤ 1000000 ∧ parseS (bd.extract (n + 1) bd.size) = (Y, 0)) := Lib.hid ⟨z2, p2⟩
          have L1 := Lib.hid l1
          have L2 := Lib.hid l2
          clear hX hY l1 l2 p1 p2 z1 z2 HPE NA NB
          go_wp2_with fail
          refine (refParseN (X, 0) F1).mono ?_
          rintro e w5 ⟨v1, rfl, n1, h5⟩
          replace hB := hB.mono h5
          replace T := Add.trans T h5
          clear h5 F1
          go_wp2_with fail
          refine (refParseN (Y, 0) F2).mono ?_
          rintro e w6 ⟨v2, rfl, n2, h6⟩
          replace hB := hB.mono h6
          replace n1 := n1.mono h6
          replace T := Add.trans T h6
          clear h6 F2
          have u1 := num_nv n1 (lt_up L1.out (by decide))
          have u2 := num_nv n2 (lt_up L2.out (by decide))
          obtain ⟨a2, k2, c2, rfl, hz2, -⟩ := num_size n2
          clear n1 n2
          by_cases y0 : Y = 0
          · rw [if_pos y0] at hpe
            subst hpe
            obtain rfl : k2 = 0 := hz2.2 y0
            clear y0 u1 u2 L1 L2 hz2
            have hc0 := hB.c0
            have hc1 := hB.c1
            have hc2 := hB.c2
            have hc3 := hB.fr 0
            have hc4 := hB.fr 1
            have hc5 := hB.fr 2
            have hF := resF_put (w := w) (p := ((false, 0, 0), 3)) hB (fracT_zero _) T (Nat.le_refl _)
            clear hB T 
            unfold put3 at hF
            have HF := Lib.hid hF
            clear hF
            go_wp2_with fail
            exact bodyPost_ret (v := .tuple #[.agg #[.bool false, .slice none 0 0, .slice none 0 0], .int .i64 3]) (by simp [results, Tryz.results25, go_sem, hc0, hc1, hc2]) rfl HF.out
          · have dk : ((k2 : Int) == 0) = false := by rw [beq_eq_false_iff_ne]; have := mt hz2.1 y0; omega
            rw [if_neg y0] at hpe
            have FL : Hid (Y ≠ 0 ∧ X < pw 512 ∧ Y < pw 512) := Lib.hid ⟨y0, lt_up L1.out (by decide), lt_up L2.out (by decide)⟩
            have HP := Lib.hid hpe
            clear y0 hpe L1 L2 hz2
            go_wp2_with fail
            refine (refLowestN (neg := true) _ u1 u2 (Lib.hid ⟨FL.out.1, FL.out.2.1, FL.out.2.2, rfl⟩)).mono ?_
            rintro e w7 ⟨vf, rfl, nf, h7⟩
            replace hB := hB.mono h7
            replace T := Add.trans T h7
            clear h7 u1 u2 FL dk
            go_wp2_with fail
            refine (fitsN p nf HP).mono ?_
            rintro e w8 ⟨vr, rfl, nr, h8⟩
            replace hB := hB.mono h8
            replace T := Add.trans T h8
            clear h8 nf HP
            obtain ⟨an2, n2, cn2, ad2, d2, cd2, rfl, m1, m2⟩ := nr
            have s0 := hB.c0
            have s1 := hB.c1
            have s2 := hB.c2
            have s3 := hB.fr 0
            have s4 := hB.fr 1
            have s5 := hB.fr 2
            have hF := resF_put (w := w) (p := p) hB ⟨an2, n2, cn2, ad2, d2, cd2, rfl, m1, m2⟩ T (Nat.le_refl _)
            unfold put3 at hF
            have HF := Lib.hid hF
            clear hF m1 m2
            go_wp2_with fail
            exact bodyPost_ret (v := .tuple #[.agg #[.bool p.1.1, .slice an2 n2 cn2, .slice ad2 d2 cd2], .int .i64 (p.2 : Nat)]) (by simp [results, Tryz.results25, go_sem, s0, s1, s2]) rfl HF.out
      · have NB : Hid (¬ isNum (bd.extract (n + 1) bd.size)) := Lib.hid (fun h => hm (HDN.out.1 h))
        by_cases hm0 : m = 0
        · subst hm0
          clear hm HDN
          have hpe := HPE.out
          rw [if_pos (by exact fun h => NB.out h.2)] at hpe
          subst hpe
          clear HPE HD0 HD1 NB
          have hF : ResF w ((false, 0, 0), 6) (.returned (.tuple #[.agg #[.bool false, .slice none 0 0, .slice none 0 0], .int .i64 6])) (w.alloc (.cells #[.bool false, .slice none 0 0, .slice none 0 0] 25)) := ⟨_, rfl, fracT_zero _, T⟩
          have HF := Lib.hid hF
          clear hF T hB
          go_wp2_with fail
          exact bodyPost_ret (v := .tuple #[.agg #[.bool false, .slice none 0 0, .slice none 0 0], .int .i64 6]) (by simp [results, Tryz.results25, go_sem]) rfl HF.out
        · have dm : ((m : Int) == 0) = false := by rw [beq_eq_false_iff_ne]; omega
          have dl : ((n : Int) + 1 + (m : Int) == (bd.size : Int)) = false := by rw [beq_eq_false_iff_ne]; omega
          have dl2 : ((n : Int) + 1 + (m : Int) != (bd.size : Int)) = true := by rw [bne, dl]; rfl
          clear hm HDN
          have hpe := HPE.out
          rw [if_pos (by exact fun h => NB.out h.2)] at hpe
          subst hpe
          clear HPE HD0 HD1 NB
          have hF : ResF w ((false, 0, 0), 6) (.returned (.tuple #[.agg #[.bool false, .slice none 0 0, .slice none 0 0], .int .i64 6])) (w.alloc (.cells #[.bool false, .slice none 0 0, .slice none 0 0] 25)) := ⟨_, rfl, fracT_zero _, T⟩
          have HF := Lib.hid hF
          clear hF T hB
          go_wp2_with fail
          exact bodyPost_ret (v := .tuple #[.agg #[.bool false, .slice none 0 0, .slice none 0 0], .int .i64 6]) (by simp [results, Tryz.results25, go_sem]) rfl HF.out
    · have NX : Hid (¬ isNum (aheadT bd)) := Lib.hid (form_other HN.out hlt (by rw [byte_getD hlt]; exact fun e => h47 (by rw [e]; rfl)))
      have hpe := HPE.out
      rw [if_pos (by exact fun h => NX.out h.1)] at hpe
      subst hpe
      clear HPE HD0 HD1 NX
      have hF : ResF w ((false, 0, 0), 6) (.returned (.tuple #[.agg #[.bool false, .slice none 0 0, .slice none 0 0], .int .i64 6])) (w.alloc (.cells #[.bool false, .slice none 0 0, .slice none 0 0] 25)) := ⟨_, rfl, fracT_zero _, T⟩
      have HF := Lib.hid hF
      clear hF T hB
      go_wp2_with fail
      exact bodyPost_ret (v := .tuple #[.agg #[.bool false, .slice none 0 0, .slice none 0 0], .int .i64 6]) (by simp [results, Tryz.results25, go_sem]) rfl HF.out
  · obtain rfl : n = bd.size := by have := HNL.out; omega
    obtain ⟨hsl, hall⟩ := form_all HN.out
    have ea : aheadT bd = bd := by unfold aheadT; rw [if_pos (by omega)]
    have eb : (if slashAt bd < 0 then (⟨#[49]⟩ : ByteArray) else behindT bd) = ⟨#[49]⟩ := by rw [if_pos (by omega)]
    have ex : bd.extract 0 bd.size = bd := by simp
    rw [ea, eb] at HPE
    have HD1 := Lib.hid trivial
    by_cases h0 : bd.size = 0
    · have d0 : ((bd.size : Int) == 0) = true := by rw [h0]; rfl
      have NX : Hid (¬ isNum bd) := Lib.hid (fun h => h.1 h0)
      clear hsl hall ea eb ex
      have hpe := HPE.out
      rw [if_pos (by exact fun h => NX.out h.1)] at hpe
      subst hpe
      clear HPE HD0 HD1 NX h0
      have hF : ResF w ((false, 0, 0), 6) (.returned (.tuple #[.agg #[.bool false, .slice none 0 0, .slice none 0 0], .int .i64 6])) (w.alloc (.cells #[.bool false, .slice none 0 0, .slice none 0 0] 25)) := ⟨_, rfl, fracT_zero _, T⟩
      have HF := Lib.hid hF
      clear hF T hB
      go_wp2_with fail
      exact bodyPost_ret (v := .tuple #[.agg #[.bool false, .slice none 0 0, .slice none 0 0], .int .i64 6]) (by simp [results, Tryz.results25, go_sem]) rfl HF.out
    · have d0 : ((bd.size : Int) == 0) = false := by rw [beq_eq_false_iff_ne]; omega
      have NA : Hid (isNum bd) := Lib.hid ⟨h0, hall⟩
      have NB : Hid (isNum (⟨#[49]⟩ : ByteArray)) := Lib.hid ⟨by decide, by intro b hb; simp at hb; subst hb; unfold IsDig; decide⟩
      clear hsl hall ea eb h0
      obtain ⟨l1, z1, p1⟩ := num_text NA.out (by omega)
      obtain ⟨l2, z2, p2⟩ := num_text NB.out (by decide)
      obtain ⟨X, hX⟩ : ∃ X, dval 0 (bd).data.toList = X := ⟨_, rfl⟩
      obtain ⟨Y, hY⟩ : ∃ Y, 1 = Y := ⟨_, rfl⟩
      replace p2 : parseS ⟨#[49]⟩ = (1, 0) := p2
      replace l2 : 1 < pw 223 := l2
      have hpe := HPE.out
      rw [if_neg (by rw [Classical.not_not]; exact ⟨NA.out, NB.out⟩), hX] at hpe
      replace hpe : (if (1 : Nat) = 0 then ((false, 0, 0), 3) else fitQ (frac true X 1)) = p := hpe
      rw [hY] at hpe
      rw [hX] at l1 p1
      rw [hY] at l2 p2
      have F1 : Hid ((bd).size ≤ 1000000 ∧ parseS (bd) = (X, 0)) := Lib.hid ⟨z1, p1⟩
      have F2 : Hid ((⟨#[49]⟩ : ByteArray).size ≤ 1000000 ∧ parseS ⟨#[49]⟩ = (Y, 0)) := Lib.hid ⟨z2, p2⟩
      have L1 := Lib.hid l1
      have L2 := Lib.hid l2
      clear hX hY l1 l2 p1 p2 z1 z2 HPE NA NB
      go_wp2_with fail
      refine (refParseN (X, 0) F1).mono ?_
      rintro e w5 ⟨v1, rfl, n1, h5⟩
      replace hB := hB.mono h5
      replace T := Add.trans T h5
      clear h5 F1
      go_wp2_with fail
      refine (refParseN (Y, 0) F2).mono ?_
      rintro e w6 ⟨v2, rfl, n2, h6⟩
      replace hB := hB.mono h6
      replace n1 := n1.mono h6
      replace T := Add.trans T h6
      clear h6 F2
      have u1 := num_nv n1 (lt_up L1.out (by decide))
      have u2 := num_nv n2 (lt_up L2.out (by decide))
      obtain ⟨a2, k2, c2, rfl, hz2, -⟩ := num_size n2
      clear n1 n2
      by_cases y0 : Y = 0
      · rw [if_pos y0] at hpe
        subst hpe
        obtain rfl : k2 = 0 := hz2.2 y0
        clear y0 u1 u2 L1 L2 hz2
        have hc0 := hB.c0
        have hc1 := hB.c1
        have hc2 := hB.c2
        have hc3 := hB.fr 0
        have hc4 := hB.fr 1
        have hc5 := hB.fr 2
        have hF := resF_put (w := w) (p := ((false, 0, 0), 3)) hB (fracT_zero _) T (Nat.le_refl _)
        clear hB T 
        unfold put3 at hF
        have HF := Lib.hid hF
        clear hF
        go_wp2_with fail
        exact bodyPost_ret (v := .tuple #[.agg #[.bool false, .slice none 0 0, .slice none 0 0], .int .i64 3]) (by simp [results, Tryz.results25, go_sem, hc0, hc1, hc2]) rfl HF.out
      · have dk : ((k2 : Int) == 0) = false := by rw [beq_eq_false_iff_ne]; have := mt hz2.1 y0; omega
        rw [if_neg y0] at hpe
        have FL : Hid (Y ≠ 0 ∧ X < pw 512 ∧ Y < pw 512) := Lib.hid ⟨y0, lt_up L1.out (by decide), lt_up L2.out (by decide)⟩
        have HP := Lib.hid hpe
        clear y0 hpe L1 L2 hz2
        go_wp2_with fail
        refine (refLowestN (neg := true) _ u1 u2 (Lib.hid ⟨FL.out.1, FL.out.2.1, FL.out.2.2, rfl⟩)).mono ?_
        rintro e w7 ⟨vf, rfl, nf, h7⟩
        replace hB := hB.mono h7
        replace T := Add.trans T h7
        clear h7 u1 u2 FL dk
        go_wp2_with fail
        refine (fitsN p nf HP).mono ?_
        rintro e w8 ⟨vr, rfl, nr, h8⟩
        replace hB := hB.mono h8
        replace T := Add.trans T h8
        clear h8 nf HP
        obtain ⟨an2, n2, cn2, ad2, d2, cd2, rfl, m1, m2⟩ := nr
        have s0 := hB.c0
        have s1 := hB.c1
        have s2 := hB.c2
        have s3 := hB.fr 0
        have s4 := hB.fr 1
        have s5 := hB.fr 2
        have hF := resF_put (w := w) (p := p) hB ⟨an2, n2, cn2, ad2, d2, cd2, rfl, m1, m2⟩ T (Nat.le_refl _)
        unfold put3 at hF
        have HF := Lib.hid hF
        clear hF m1 m2
        go_wp2_with fail
        exact bodyPost_ret (v := .tuple #[.agg #[.bool p.1.1, .slice an2 n2 cn2, .slice ad2 d2 cd2], .int .i64 (p.2 : Nat)]) (by simp [results, Tryz.results25, go_sem, s0, s1, s2]) rfl HF.out
set_option maxRecDepth 100000 in
set_option maxHeartbeats 8000000 in
theorem refParse_plain (p : Tri × Nat) {s : ByteArray} {w : World} (hs : Hid (s.size ≤ 2000)) (hp : Hid (parseF s = p)) (h : negT s = false) (hz : 0 < s.size) : Calls Tryz.prog 25 #[.string s] w (ResF w p) := by
  have hbody' := bodyT_miss h
  obtain ⟨bd, hbd⟩ : ∃ d, d = s := ⟨_, rfl⟩
  have hbody : bodyT s = bd := by rw [hbody', hbd]
  obtain ⟨ng, hng⟩ : ∃ b, false = b := ⟨_, rfl⟩
  have hneg : negT s = ng := by rw [h, hng]
  have dz : decide (0 < s.size) = true := decide_eq_true hz
  have h45 : (((s[0]'hz).toNat : Int) == 45) = false := by
    rw [beq_eq_false_iff_ne]
    intro e0
    have e : (s[0]'hz).toNat = 45 := by omega
    have : negT s = true := by
      rw [negT_iff]
      have hl : 0 < s.data.toList.length := by rw [← Lib.size_eq]; exact hz
      rw [List.head?_eq_getElem?, List.getElem?_eq_getElem hl]
      exact congrArg some (UInt8.toNat_inj.1 e)
    rw [h] at this; cases this
  clear h hbody'
  have hpe := hp.out
  unfold parseF aboveT belowT at hpe
  rw [hbody, hneg] at hpe
  have hs1 := hs.out
  have hbs : bd.size ≤ 2000 := by have := bodyT_size s; rw [hbody] at this; omega
  obtain ⟨n, hn⟩ : ∃ n, headDig bd.data.toList = n := ⟨_, rfl⟩
  obtain ⟨m, hm⟩ : ∃ m, headDig (bd.data.toList.drop (n + 1)) = m := ⟨_, rfl⟩
  have hnl : n ≤ bd.size := by rw [← hn, Lib.size_eq]; exact headDig_le _
  have hni : (n : Int) ≤ (bd.size : Int) := by omega
  have hmi : (m : Int) ≤ 2000 := by have := headDig_le (bd.data.toList.drop (n + 1)); rw [hm, List.length_drop, ← Lib.size_eq] at this; omega
  have hbi : (bd.size : Int) ≤ 2000 := by omega
  have HN := Lib.hid hn
  have HM := Lib.hid hm
  have HNL := Lib.hid hnl
  have HPE := Lib.hid hpe
  have HD0 : Hid (∀ w, Calls Tryz.prog 89 #[.string bd, .int .i64 0] w fun e w' => e = .returned (.int .i64 (n : Nat)) ∧ w = w') := Lib.hid fun w => by
    have := digitsN bd 0 w (by omega) (by omega)
    rw [List.drop_zero, hn] at this
    exact this
  clear hn hm hnl hpe hp hs hs1 hneg
  obtain ⟨T, hB⟩ := laid_var w false none 0 0 none 0 0
  subst hng
  clear hbody
  subst hbd
  go_enter Tryz.func25, Tryz.ntmps25
  go_wp2_with fail
  refine (HD0.out _).mono ?_
  rintro e w2 ⟨rfl, rfl⟩
  by_cases hlt : n < bd.size
  · have hlti : (n : Int) < (bd.size : Int) := by omega
    have hn1 : (0 : Int) ≤ (n : Int) + 1 := by omega
    have hn2 : (n : Int) + 1 ≤ (bd.size : Int) := by omega
    have HD1 : Hid (∀ w, Calls Tryz.prog 89 #[.string bd, .int .i64 ((n : Int) + 1)] w fun e w' => e = .returned (.int .i64 (m : Nat)) ∧ w = w') := Lib.hid fun w => by
      have := digitsN bd (n + 1) w (by omega) (by omega)
      rw [HM.out] at this
      exact this
    go_wp2_with fail
    refine (HD1.out _).mono ?_
    rintro e w3 ⟨rfl, rfl⟩
    by_cases h47 : (bd[n]).toNat = 47
    · have hsl := form_slash HN.out hlt (by rw [byte_getD hlt]; exact UInt8.toNat_inj.1 h47)
      have ea : aheadT bd = bd.extract 0 n := by unfold aheadT; rw [if_neg (by omega), hsl, Int.toNat_natCast]
      have eb : (if slashAt bd < 0 then (⟨#[49]⟩ : ByteArray) else behindT bd) = bd.extract (n + 1) bd.size := by
        rw [if_neg (by omega)]; unfold behindT; rw [if_neg (by omega), hsl, Int.toNat_natCast]
      rw [ea, eb] at HPE
      have hdn := drop_num (s := bd) (n := n + 1) (by omega) HM.out
      have HDN := Lib.hid hdn
      clear hsl ea eb hdn
      by_cases hm : m ≠ 0 ∧ n + 1 + m = bd.size
      · have NB := Lib.hid (HDN.out.2 hm)
        have dm : ((m : Int) == 0) = false := by rw [beq_eq_false_iff_ne]; omega
        have dl : (n : Int) + 1 + (m : Int) = (bd.size : Int) := by omega
        by_cases h0 : n = 0
        · subst h0
          have NX : Hid (¬ isNum (bd.extract 0 0)) := Lib.hid (fun h => h.1 (by simp))
          clear hm HDN
          have hpe := HPE.out
          rw [if_pos (by exact fun h => NX.out h.1)] at hpe
          subst hpe
          clear HPE HD0 HD1 NX NB
          have hF : ResF w ((false, 0, 0), 6) (.returned (.tuple #[.agg #[.bool false, .slice none 0 0, .slice none 0 0], .int .i64 6])) (w.alloc (.cells #[.bool false, .slice none 0 0, .slice none 0 0] 25)) := ⟨_, rfl, fracT_zero _, T⟩
          have HF := Lib.hid hF
          clear hF T hB
          go_wp2_with fail
          exact bodyPost_ret (v := .tuple #[.agg #[.bool false, .slice none 0 0, .slice none 0 0], .int .i64 6]) (by simp [results, Tryz.results25, go_sem]) rfl HF.out
        · have d0 : ((n : Int) == 0) = false := by rw [beq_eq_false_iff_ne]; omega
          have NA := Lib.hid (take_num HN.out h0)
          clear hm h0 HDN
          obtain ⟨l1, z1, p1⟩ := num_text NA.out (by simp; omega)
          obtain ⟨l2, z2, p2⟩ := num_text NB.out (by simp; omega)
          obtain ⟨X, hX⟩ : ∃ X, dval 0 (bd.extract 0 n).data.toList = X := ⟨_, rfl⟩
          obtain ⟨Y, hY⟩ : ∃ Y, dval 0 ((bd.extract (n + 1) bd.size) : ByteArray).data.toList = Y := ⟨_, rfl⟩
          have hpe := HPE.out
          rw [if_neg (by rw [Classical.not_not]; exact ⟨NA.out, NB.out⟩), hX, hY] at hpe
          rw [hX] at l1 p1
          rw [hY] at l2 p2
          have F1 : Hid ((bd.extract 0 n).size ≤ 1000000 ∧ parseS (bd.extract 0 n) = (X, 0)) := Lib.hid ⟨z1, p1⟩
          have F2 : Hid (((bd.extract (n + 1) bd.size) : ByteArray).size ≤ 1000000 ∧ parseS (bd.extract (n + 1) bd.size) = (Y, 0)) := Lib.hid ⟨z2, p2⟩
          have L1 := Lib.hid l1
          have L2 := Lib.hid l2
          clear hX hY l1 l2 p1 p2 z1 z2 HPE NA NB
          go_wp2_with fail
          refine (refParseN (X, 0) F1).mono ?_
          rintro e w5 ⟨v1, rfl, n1, h5⟩
          replace hB := hB.mono h5
          replace T := Add.trans T h5
          clear h5 F1
          go_wp2_with fail
          refine (refParseN (Y, 0) F2).mono ?_
          rintro e w6 ⟨v2, rfl, n2, h6⟩
          replace hB := hB.mono h6
          replace n1 := n1.mono h6
          replace T := Add.trans T h6
          clear h6 F2
          have u1 := num_nv n1 (lt_up L1.out (by decide))
          have u2 := num_nv n2 (lt_up L2.out (by decide))
          obtain ⟨a2, k2, c2, rfl, hz2, -⟩ := num_size n2
          clear n1 n2
          by_cases y0 : Y = 0
          · rw [if_pos y0] at hpe
            subst hpe
            obtain rfl : k2 = 0 := hz2.2 y0
            clear y0 u1 u2 L1 L2 hz2
            have hc0 := hB.c0
            have hc1 := hB.c1
            have hc2 := hB.c2
            have hc3 := hB.fr 0
            have hc4 := hB.fr 1
            have hc5 := hB.fr 2
            have hF := resF_put (w := w) (p := ((false, 0, 0), 3)) hB (fracT_zero _) T (Nat.le_refl _)
            clear hB T 
            unfold put3 at hF
            have HF := Lib.hid hF
            clear hF
            go_wp2_with fail
            exact bodyPost_ret (v := .tuple #[.agg #[.bool false, .slice none 0 0, .slice none 0 0], .int .i64 3]) (by simp [results, Tryz.results25, go_sem, hc0, hc1, hc2]) rfl HF.out
          · have dk : ((k2 : Int) == 0) = false := by rw [beq_eq_false_iff_ne]; have := mt hz2.1 y0; omega
            rw [if_neg y0] at hpe
            have FL : Hid (Y ≠ 0 ∧ X < pw 512 ∧ Y < pw 512) := Lib.hid ⟨y0, lt_up L1.out (by decide), lt_up L2.out (by decide)⟩
            have HP := Lib.hid hpe
            clear y0 hpe L1 L2 hz2
            go_wp2_with fail
            refine (refLowestN (neg := false) _ u1 u2 (Lib.hid ⟨FL.out.1, FL.out.2.1, FL.out.2.2, rfl⟩)).mono ?_
            rintro e w7 ⟨vf, rfl, nf, h7⟩
            replace hB := hB.mono h7
            replace T := Add.trans T h7
            clear h7 u1 u2 FL dk
            go_wp2_with fail
            refine (fitsN p nf HP).mono ?_
            rintro e w8 ⟨vr, rfl, nr, h8⟩
            replace hB := hB.mono h8
            replace T := Add.trans T h8
            clear h8 nf HP
            obtain ⟨an2, n2, cn2, ad2, d2, cd2, rfl, m1, m2⟩ := nr
            have s0 := hB.c0
            have s1 := hB.c1
            have s2 := hB.c2
            have s3 := hB.fr 0
            have s4 := hB.fr 1
            have s5 := hB.fr 2
            have hF := resF_put (w := w) (p := p) hB ⟨an2, n2, cn2, ad2, d2, cd2, rfl, m1, m2⟩ T (Nat.le_refl _)
            unfold put3 at hF
            have HF := Lib.hid hF
            clear hF m1 m2
            go_wp2_with fail
            exact bodyPost_ret (v := .tuple #[.agg #[.bool p.1.1, .slice an2 n2 cn2, .slice ad2 d2 cd2], .int .i64 (p.2 : Nat)]) (by simp [results, Tryz.results25, go_sem, s0, s1, s2]) rfl HF.out
      · have NB : Hid (¬ isNum (bd.extract (n + 1) bd.size)) := Lib.hid (fun h => hm (HDN.out.1 h))
        by_cases hm0 : m = 0
        · subst hm0
          clear hm HDN
          have hpe := HPE.out
          rw [if_pos (by exact fun h => NB.out h.2)] at hpe
          subst hpe
          clear HPE HD0 HD1 NB
          have hF : ResF w ((false, 0, 0), 6) (.returned (.tuple #[.agg #[.bool false, .slice none 0 0, .slice none 0 0], .int .i64 6])) (w.alloc (.cells #[.bool false, .slice none 0 0, .slice none 0 0] 25)) := ⟨_, rfl, fracT_zero _, T⟩
          have HF := Lib.hid hF
          clear hF T hB
          go_wp2_with fail
          exact bodyPost_ret (v := .tuple #[.agg #[.bool false, .slice none 0 0, .slice none 0 0], .int .i64 6]) (by simp [results, Tryz.results25, go_sem]) rfl HF.out
        · have dm : ((m : Int) == 0) = false := by rw [beq_eq_false_iff_ne]; omega
          have dl : ((n : Int) + 1 + (m : Int) == (bd.size : Int)) = false := by rw [beq_eq_false_iff_ne]; omega
          have dl2 : ((n : Int) + 1 + (m : Int) != (bd.size : Int)) = true := by rw [bne, dl]; rfl
          clear hm HDN
          have hpe := HPE.out
          rw [if_pos (by exact fun h => NB.out h.2)] at hpe
          subst hpe
          clear HPE HD0 HD1 NB
          have hF : ResF w ((false, 0, 0), 6) (.returned (.tuple #[.agg #[.bool false, .slice none 0 0, .slice none 0 0], .int .i64 6])) (w.alloc (.cells #[.bool false, .slice none 0 0, .slice none 0 0] 25)) := ⟨_, rfl, fracT_zero _, T⟩
          have HF := Lib.hid hF
          clear hF T hB
          go_wp2_with fail
          exact bodyPost_ret (v := .tuple #[.agg #[.bool false, .slice none 0 0, .slice none 0 0], .int .i64 6]) (by simp [results, Tryz.results25, go_sem]) rfl HF.out
    · have NX : Hid (¬ isNum (aheadT bd)) := Lib.hid (form_other HN.out hlt (by rw [byte_getD hlt]; exact fun e => h47 (by rw [e]; rfl)))
      have hpe := HPE.out
      rw [if_pos (by exact fun h => NX.out h.1)] at hpe
      subst hpe
      clear HPE HD0 HD1 NX
      have hF : ResF w ((false, 0, 0), 6) (.returned (.tuple #[.agg #[.bool false, .slice none 0 0, .slice none 0 0], .int .i64 6])) (w.alloc (.cells #[.bool false, .slice none 0 0, .slice none 0 0] 25)) := ⟨_, rfl, fracT_zero _, T⟩
      have HF := Lib.hid hF
      clear hF T hB
      go_wp2_with fail
      exact bodyPost_ret (v := .tuple #[.agg #[.bool false, .slice none 0 0, .slice none 0 0], .int .i64 6]) (by simp [results, Tryz.results25, go_sem]) rfl HF.out
  · obtain rfl : n = bd.size := by have := HNL.out; omega
    obtain ⟨hsl, hall⟩ := form_all HN.out
    have ea : aheadT bd = bd := by unfold aheadT; rw [if_pos (by omega)]
    have eb : (if slashAt bd < 0 then (⟨#[49]⟩ : ByteArray) else behindT bd) = ⟨#[49]⟩ := by rw [if_pos (by omega)]
    have ex : bd.extract 0 bd.size = bd := by simp
    rw [ea, eb] at HPE
    have HD1 := Lib.hid trivial
    by_cases h0 : bd.size = 0
    · have d0 : ((bd.size : Int) == 0) = true := by rw [h0]; rfl
      have NX : Hid (¬ isNum bd) := Lib.hid (fun h => h.1 h0)
      clear hsl hall ea eb ex
      have hpe := HPE.out
      rw [if_pos (by exact fun h => NX.out h.1)] at hpe
      subst hpe
      clear HPE HD0 HD1 NX h0
      have hF : ResF w ((false, 0, 0), 6) (.returned (.tuple #[.agg #[.bool false, .slice none 0 0, .slice none 0 0], .int .i64 6])) (w.alloc (.cells #[.bool false, .slice none 0 0, .slice none 0 0] 25)) := ⟨_, rfl, fracT_zero _, T⟩
      have HF := Lib.hid hF
      clear hF T hB
      go_wp2_with fail
      exact bodyPost_ret (v := .tuple #[.agg #[.bool false, .slice none 0 0, .slice none 0 0], .int .i64 6]) (by simp [results, Tryz.results25, go_sem]) rfl HF.out
    · have d0 : ((bd.size : Int) == 0) = false := by rw [beq_eq_false_iff_ne]; omega
      have NA : Hid (isNum bd) := Lib.hid ⟨h0, hall⟩
      have NB : Hid (isNum (⟨#[49]⟩ : ByteArray)) := Lib.hid ⟨by decide, by intro b hb; simp at hb; subst hb; unfold IsDig; decide⟩
      clear hsl hall ea eb h0
      obtain ⟨l1, z1, p1⟩ := num_text NA.out (by omega)
      obtain ⟨l2, z2, p2⟩ := num_text NB.out (by decide)
      obtain ⟨X, hX⟩ : ∃ X, dval 0 (bd).data.toList = X := ⟨_, rfl⟩
      obtain ⟨Y, hY⟩ : ∃ Y, 1 = Y := ⟨_, rfl⟩
      replace p2 : parseS ⟨#[49]⟩ = (1, 0) := p2
      replace l2 : 1 < pw 223 := l2
      have hpe := HPE.out
      rw [if_neg (by rw [Classical.not_not]; exact ⟨NA.out, NB.out⟩), hX] at hpe
      replace hpe : (if (1 : Nat) = 0 then ((false, 0, 0), 3) else fitQ (frac false X 1)) = p := hpe
      rw [hY] at hpe
      rw [hX] at l1 p1
      rw [hY] at l2 p2
      have F1 : Hid ((bd).size ≤ 1000000 ∧ parseS (bd) = (X, 0)) := Lib.hid ⟨z1, p1⟩
      have F2 : Hid ((⟨#[49]⟩ : ByteArray).size ≤ 1000000 ∧ parseS ⟨#[49]⟩ = (Y, 0)) := Lib.hid ⟨z2, p2⟩
      have L1 := Lib.hid l1
      have L2 := Lib.hid l2
      clear hX hY l1 l2 p1 p2 z1 z2 HPE NA NB
      go_wp2_with fail
      refine (refParseN (X, 0) F1).mono ?_
      rintro e w5 ⟨v1, rfl, n1, h5⟩
      replace hB := hB.mono h5
      replace T := Add.trans T h5
      clear h5 F1
      go_wp2_with fail
      refine (refParseN (Y, 0) F2).mono ?_
      rintro e w6 ⟨v2, rfl, n2, h6⟩
      replace hB := hB.mono h6
      replace n1 := n1.mono h6
      replace T := Add.trans T h6
      clear h6 F2
      have u1 := num_nv n1 (lt_up L1.out (by decide))
      have u2 := num_nv n2 (lt_up L2.out (by decide))
      obtain ⟨a2, k2, c2, rfl, hz2, -⟩ := num_size n2
      clear n1 n2
      by_cases y0 : Y = 0
      · rw [if_pos y0] at hpe
        subst hpe
        obtain rfl : k2 = 0 := hz2.2 y0
        clear y0 u1 u2 L1 L2 hz2
        have hc0 := hB.c0
        have hc1 := hB.c1
        have hc2 := hB.c2
        have hc3 := hB.fr 0
        have hc4 := hB.fr 1
        have hc5 := hB.fr 2
        have hF := resF_put (w := w) (p := ((false, 0, 0), 3)) hB (fracT_zero _) T (Nat.le_refl _)
        clear hB T 
        unfold put3 at hF
        have HF := Lib.hid hF
        clear hF
        go_wp2_with fail
        exact bodyPost_ret (v := .tuple #[.agg #[.bool false, .slice none 0 0, .slice none 0 0], .int .i64 3]) (by simp [results, Tryz.results25, go_sem, hc0, hc1, hc2]) rfl HF.out
      · have dk : ((k2 : Int) == 0) = false := by rw [beq_eq_false_iff_ne]; have := mt hz2.1 y0; omega
        rw [if_neg y0] at hpe
        have FL : Hid (Y ≠ 0 ∧ X < pw 512 ∧ Y < pw 512) := Lib.hid ⟨y0, lt_up L1.out (by decide), lt_up L2.out (by decide)⟩
        have HP := Lib.hid hpe
        clear y0 hpe L1 L2 hz2
        go_wp2_with fail
        refine (refLowestN (neg := false) _ u1 u2 (Lib.hid ⟨FL.out.1, FL.out.2.1, FL.out.2.2, rfl⟩)).mono ?_
        rintro e w7 ⟨vf, rfl, nf, h7⟩
        replace hB := hB.mono h7
        replace T := Add.trans T h7
        clear h7 u1 u2 FL dk
        go_wp2_with fail
        refine (fitsN p nf HP).mono ?_
        rintro e w8 ⟨vr, rfl, nr, h8⟩
        replace hB := hB.mono h8
        replace T := Add.trans T h8
        clear h8 nf HP
        obtain ⟨an2, n2, cn2, ad2, d2, cd2, rfl, m1, m2⟩ := nr
        have s0 := hB.c0
        have s1 := hB.c1
        have s2 := hB.c2
        have s3 := hB.fr 0
        have s4 := hB.fr 1
        have s5 := hB.fr 2
        have hF := resF_put (w := w) (p := p) hB ⟨an2, n2, cn2, ad2, d2, cd2, rfl, m1, m2⟩ T (Nat.le_refl _)
        unfold put3 at hF
        have HF := Lib.hid hF
        clear hF m1 m2
        go_wp2_with fail
        exact bodyPost_ret (v := .tuple #[.agg #[.bool p.1.1, .slice an2 n2 cn2, .slice ad2 d2 cd2], .int .i64 (p.2 : Nat)]) (by simp [results, Tryz.results25, go_sem, s0, s1, s2]) rfl HF.out
set_option maxRecDepth 100000 in
set_option maxHeartbeats 8000000 in
theorem refParse_empty (p : Tri × Nat) {s : ByteArray} {w : World} (hs : Hid (s.size ≤ 2000)) (hp : Hid (parseF s = p)) (h : negT s = false) (hz : s.size = 0) : Calls Tryz.prog 25 #[.string s] w (ResF w p) := by
  have hbody' := bodyT_miss h
  obtain ⟨bd, hbd⟩ : ∃ d, d = s := ⟨_, rfl⟩
  have hbody : bodyT s = bd := by rw [hbody', hbd]
  obtain ⟨ng, hng⟩ : ∃ b, false = b := ⟨_, rfl⟩
  have hneg : negT s = ng := by rw [h, hng]
  have dz : decide (0 < s.size) = false := decide_eq_false (by omega)
  clear h hbody'
  have hpe := hp.out
  unfold parseF aboveT belowT at hpe
  rw [hbody, hneg] at hpe
  have hs1 := hs.out
  have hbs : bd.size ≤ 2000 := by have := bodyT_size s; rw [hbody] at this; omega
  obtain ⟨n, hn⟩ : ∃ n, headDig bd.data.toList = n := ⟨_, rfl⟩
  obtain ⟨m, hm⟩ : ∃ m, headDig (bd.data.toList.drop (n + 1)) = m := ⟨_, rfl⟩
  have hnl : n ≤ bd.size := by rw [← hn, Lib.size_eq]; exact headDig_le _
  have hni : (n : Int) ≤ (bd.size : Int) := by omega
  have hmi : (m : Int) ≤ 2000 := by have := headDig_le (bd.data.toList.drop (n + 1)); rw [hm, List.length_drop, ← Lib.size_eq] at this; omega
  have hbi : (bd.size : Int) ≤ 2000 := by omega
  have HN := Lib.hid hn
  have HM := Lib.hid hm
  have HNL := Lib.hid hnl
  have HPE := Lib.hid hpe
  have HD0 : Hid (∀ w, Calls Tryz.prog 89 #[.string bd, .int .i64 0] w fun e w' => e = .returned (.int .i64 (n : Nat)) ∧ w = w') := Lib.hid fun w => by
    have := digitsN bd 0 w (by omega) (by omega)
    rw [List.drop_zero, hn] at this
    exact this
  clear hn hm hnl hpe hp hs hs1 hneg
  obtain ⟨T, hB⟩ := laid_var w false none 0 0 none 0 0
  subst hng
  clear hbody
  subst hbd
  go_enter Tryz.func25, Tryz.ntmps25
  go_wp2_with fail
  refine (HD0.out _).mono ?_
  rintro e w2 ⟨rfl, rfl⟩
  obtain rfl : n = 0 := by have := HNL.out; omega
  have NX : Hid (¬ isNum (aheadT bd)) := Lib.hid (fun h => h.1 (by have := aheadT_size bd; omega))
  have HD1 := Lib.hid trivial
  have hpe := HPE.out
  rw [if_pos (by exact fun h => NX.out h.1)] at hpe
  subst hpe
  clear HPE HD0 HD1 NX
  have hF : ResF w ((false, 0, 0), 6) (.returned (.tuple #[.agg #[.bool false, .slice none 0 0, .slice none 0 0], .int .i64 6])) (w.alloc (.cells #[.bool false, .slice none 0 0, .slice none 0 0] 25)) := ⟨_, rfl, fracT_zero _, T⟩
  have HF := Lib.hid hF
  clear hF T hB
  go_wp2_with fail
  exact bodyPost_ret (v := .tuple #[.agg #[.bool false, .slice none 0 0, .slice none 0 0], .int .i64 6]) (by simp [results, Tryz.results25, go_sem]) rfl HF.out
theorem refParseFN (p : Tri × Nat) {s : ByteArray} {w : World} (hs : Hid (s.size ≤ 2000)) (hp : Hid (parseF s = p)) : Calls Tryz.prog 25 #[.string s] w (ResF w p) := by
  rcases h : negT s with _ | _
  · by_cases hz : 0 < s.size
    · exact refParse_plain p hs hp h hz
    · exact refParse_empty p hs hp h (by omega)
  · exact refParse_sign p hs hp h
end Go.Proofs.YtiboebgnbnafdaaGreatDoor

namespace Go.Proofs.YtiboebgnbnafdaaGreatDoor
open Go.RowKit NatM Go.Proofs.YtiboebgnbnafdaaGreatDoor.Api

theorem rfmtN {va : Value} {A : Nat} {w : World} (ha : Nv w va A) (h : Hid (A < pw 512)) : Calls Tryz.prog 95 #[va] w (FmtP w A) := by
  obtain ⟨xs, r, rfl, l⟩ := ha
  exact refFormat_ok va xs w r (by omega) h.out
/-- No text, and an error number. -/
def NoTextR (w : World) (e : Ending) (w' : World) : Prop := e = .returned (.tuple #[.string ByteArray.empty, .int .i64 1]) ∧ Add w w'
set_option maxRecDepth 100000 in
set_option maxHeartbeats 4000000 in
theorem formatBad {v : Value} {x : Tri} {w : World} (hx : FracA w v x) (hT : Tab w) (h : Hid (okF x = false)) : Calls Tryz.prog 26 #[v] w (NoTextR w) := by
  have hx0 := hx
  obtain ⟨an, n, cn, ad, d, cd, rfl, uN, uD⟩ := hx
  obtain ⟨T, hX⟩ := start1 w x.1 an n cn ad d cd
  replace hx0 := hx0.mono T
  replace hT := hT.mono T
  have FR : Hid (redF x = ((false, 0, 0), 1)) := Lib.hid (by unfold redF; rw [if_neg (by rw [h.out]; simp)])
  clear uN uD h
  have hc0 := hX.c0
  have hc1 := hX.c1
  have hc2 := hX.c2
  go_enter Tryz.func26, Tryz.ntmps26
  go_wp2_with fail
  refine (reduceN' ((false, 0, 0), 1) hx0 hT FR).mono ?_
  rintro e w1 ⟨vr, rfl, ⟨a2, n2, c2, e2, d2, k2, rfl, m1, m2⟩, h1⟩
  replace hX := hX.mono h1
  replace T := Add.trans T h1
  clear h1 hc0 hc1 hc2 FR hx0 m1 m2
  have s0 := hX.c0
  have s1 := hX.c1
  have s2 := hX.c2
  have s3 := hX.fr 0
  have s4 := hX.fr 1
  have s5 := hX.fr 2
  have hF : NoTextR w (.returned (.tuple #[.string ByteArray.empty, .int .i64 1])) (put3 w1 w.heap.size (.bool false) (.slice a2 n2 c2) (.slice e2 d2 k2)) := ⟨rfl, put3_below _ _ _ T (Nat.le_refl _)⟩
  unfold put3 at hF
  have HF := Lib.hid hF
  clear hF
  go_wp2_with fail
  go_ret2
  exact HF.out
set_option maxRecDepth 100000 in
set_option maxHeartbeats 4000000 in
theorem refFormatBad {v : Value} {x : Tri} {w : World} (hx : FracA w v x) (h : Hid (okF x = false)) : Calls Tryz.prog 27 #[v] w (NoTextR w) := by
  have hx0 := hx
  obtain ⟨an, n, cn, ad, d, cd, rfl, uN, uD⟩ := hx
  obtain ⟨T, hX⟩ := start1 w x.1 an n cn ad d cd
  replace hx0 := hx0.mono T

  have FR : Hid (redF x = ((false, 0, 0), 1)) := Lib.hid (by unfold redF; rw [if_neg (by rw [h.out]; simp)])
  clear uN uD h
  have hc0 := hX.c0
  have hc1 := hX.c1
  have hc2 := hX.c2
  go_enter Tryz.func27, Tryz.ntmps27
  go_wp2_with fail
  refine (refReduceN ((false, 0, 0), 1) hx0 FR).mono ?_
  rintro e w1 ⟨vr, rfl, ⟨a2, n2, c2, e2, d2, k2, rfl, m1, m2⟩, h1⟩
  replace hX := hX.mono h1
  replace T := Add.trans T h1
  clear h1 hc0 hc1 hc2 FR hx0 m1 m2
  have hF : NoTextR w (.returned (.tuple #[.string ByteArray.empty, .int .i64 1])) (w1.alloc (.cells #[.bool false, .slice a2 n2 c2, .slice e2 d2 k2] 25)) := ⟨rfl, Add.trans T (add_new _ _)⟩
  have HF := Lib.hid hF
  clear hF
  go_wp2_with fail
  go_ret2
  exact HF.out
set_option maxRecDepth 100000 in
set_option maxHeartbeats 4000000 in
theorem refFormatN (y : Tri) {v : Value} {x : Tri} {w : World} (hx : FracA w v x) (h : Hid (okF x = true ∧ can (qv x) = y)) : Calls Tryz.prog 27 #[v] w (TextR w y) := by
  have hx0 := hx
  obtain ⟨an, n, cn, ad, d, cd, rfl, uN, uD⟩ := hx
  obtain ⟨T, hX⟩ := start1 w x.1 an n cn ad d cd
  replace hx0 := hx0.mono T
  obtain ⟨sg, N, D⟩ := y
  have FR : Hid (redF x = ((sg, N, D), 0)) := Lib.hid (by rw [redF_ok h.out.1, h.out.2])
  obtain ⟨b1, b2, b3⟩ := can_small h.out.1
  rw [h.out.2] at b1 b2 b3
  have F1 : Hid (N < pw 512) := Lib.hid (lt_up b1 (by decide))
  have F2 : Hid (D < pw 512) := Lib.hid (lt_up b2 (by decide))
  have L1 : Hid (N < pw 1000) := Lib.hid (lt_up b1 (by decide))
  have L2 : Hid (D < pw 1000) := Lib.hid (lt_up b2 (by decide))
  have L3 : Hid (D ≠ 0) := Lib.hid b3
  clear b1 b2 b3 h uN uD
  have hc0 := hX.c0
  have hc1 := hX.c1
  have hc2 := hX.c2
  go_enter Tryz.func27, Tryz.ntmps27
  go_wp2_with fail
  refine ((refReduceN _ hx0 FR).mono fun _ _ g => g.ok).mono ?_
  rintro e w1 ⟨a2, n2, c2, e2, d2, k2, rfl, m1, m2, h1⟩
  replace T := Add.trans T h1
  clear h1 hc0 hc1 hc2 FR hx0 hX
  obtain ⟨tt, hY⟩ := laid_var w1 sg a2 n2 c2 e2 d2 k2
  replace m1 := m1.mono tt
  replace m2 := m2.mono tt
  replace T := Add.trans T tt
  clear tt
  have u1 := num_nv m1 L1.out
  clear m1
  have hc0 := hY.c0
  have hc1 := hY.c1
  have hc2 := hY.c2
  go_wp2_with fail
  refine (rfmtN u1 F1).mono ?_
  rintro e w3 ⟨q1, rfl, f1, z1, h3⟩
  replace hY := hY.mono h3
  replace m2 := m2.mono h3
  replace T := Add.trans T h3
  clear h3 u1 F1 hc0 hc1 hc2
  have u2 := num_nv m2 L2.out
  have HF1 := Lib.hid f1
  clear f1
  have hc0 := hY.c0
  have hc1 := hY.c1
  have hc2 := hY.c2
  cases sg with
  | false =>
    rcases num_ofOne m2 L3.out with ⟨b, off, cg, e9, hcell, hlt⟩ | ⟨ao, n9, cg, e9, hn, hbig⟩
    · simp only [Value.slice.injEq] at e9
      obtain ⟨rfl, rfl, rfl⟩ := e9
      by_cases g1 : D = 1
      · have hcell' : w3.cell? ⟨b, off, none⟩ = some (.int .u32 1) := by rw [hcell, g1]; rfl
        have HD1 := Lib.hid g1
        clear hcell hlt m2 g1 L3
        have hF : TextR w (false, N, D) (.returned (.tuple #[.string (q1), .int .i64 0])) w3 := ⟨_, rfl, ⟨q1, q1, HF1.out, .inl HD1.out, by rw [show (false, N, D).2.2 = 1 from HD1.out]; simp [fmtText]⟩, by have e1 := ByteArray.size_append' (⟨#[45]⟩ : ByteArray) q1; have e2 : (⟨#[45]⟩ : ByteArray).size = 1 := rfl; omega, T⟩
        have HF := Lib.hid hF
        clear hF T u2 F2 HF1 HD1 hY
        go_wp2_with fail
        go_ret2
        exact HF.out
      · have dg : decide ((1 : Int) < (D : Int)) = true := by have := L3.out; exact decide_eq_true (by omega)
        have HD1 := Lib.hid g1
        clear hlt m2 g1 L3
        go_wp2_with fail
        refine (rfmtN u2 F2).mono ?_
        rintro e w5 ⟨q2, rfl, f2, z2, h5⟩
        have hF : TextR w (false, N, D) (.returned (.tuple #[.string (q1 ++ (⟨#[47]⟩ : ByteArray) ++ q2), .int .i64 0])) w5 := ⟨_, rfl, ⟨q1, q2, HF1.out, .inr f2, by rw [show decide ((false, N, D).2.2 = 1) = false from decide_eq_false HD1.out]; simp [fmtText, ByteArray.append_assoc]⟩, by have e1 := ByteArray.size_append' (⟨#[45]⟩ : ByteArray) q1; have e2 : (⟨#[45]⟩ : ByteArray).size = 1 := rfl; have e3 := ByteArray.size_append' (q1 ++ (⟨#[47]⟩ : ByteArray)) q2; have e4 := ByteArray.size_append' (q1) (⟨#[47]⟩ : ByteArray); have e5 : (⟨#[47]⟩ : ByteArray).size = 1 := rfl; omega, Add.trans T h5⟩
        have HF := Lib.hid hF
        clear hF f2 T h5 u2 F2 HF1 HD1 hY
        go_wp2_with fail
        go_ret2
        exact HF.out
    · simp only [Value.slice.injEq] at e9
      obtain ⟨rfl, rfl, rfl⟩ := e9
      have dn : decide ((1 : Int) < (d2 : Int)) = true := decide_eq_true (by omega)
      have dn2 : decide (1 < d2) = true := decide_eq_true hn
      have HD1 : Hid (D ≠ 1) := Lib.hid (by omega)
      clear hbig m2 hn L3
      go_wp2_with fail
      refine (rfmtN u2 F2).mono ?_
      rintro e w5 ⟨q2, rfl, f2, z2, h5⟩
      have hF : TextR w (false, N, D) (.returned (.tuple #[.string (q1 ++ (⟨#[47]⟩ : ByteArray) ++ q2), .int .i64 0])) w5 := ⟨_, rfl, ⟨q1, q2, HF1.out, .inr f2, by rw [show decide ((false, N, D).2.2 = 1) = false from decide_eq_false HD1.out]; simp [fmtText, ByteArray.append_assoc]⟩, by have e1 := ByteArray.size_append' (⟨#[45]⟩ : ByteArray) q1; have e2 : (⟨#[45]⟩ : ByteArray).size = 1 := rfl; have e3 := ByteArray.size_append' (q1 ++ (⟨#[47]⟩ : ByteArray)) q2; have e4 := ByteArray.size_append' (q1) (⟨#[47]⟩ : ByteArray); have e5 : (⟨#[47]⟩ : ByteArray).size = 1 := rfl; omega, Add.trans T h5⟩
      have HF := Lib.hid hF
      clear hF f2 T h5 u2 F2 HF1 HD1 hY
      go_wp2_with fail
      go_ret2
      exact HF.out
  | true =>
    rcases num_ofOne m2 L3.out with ⟨b, off, cg, e9, hcell, hlt⟩ | ⟨ao, n9, cg, e9, hn, hbig⟩
    · simp only [Value.slice.injEq] at e9
      obtain ⟨rfl, rfl, rfl⟩ := e9
      by_cases g1 : D = 1
      · have hcell' : w3.cell? ⟨b, off, none⟩ = some (.int .u32 1) := by rw [hcell, g1]; rfl
        have HD1 := Lib.hid g1
        clear hcell hlt m2 g1 L3
        have hF : TextR w (true, N, D) (.returned (.tuple #[.string ((⟨#[45]⟩ : ByteArray) ++ q1), .int .i64 0])) w3 := ⟨_, rfl, ⟨q1, q1, HF1.out, .inl HD1.out, by rw [show (true, N, D).2.2 = 1 from HD1.out]; simp [fmtText]⟩, by have e1 := ByteArray.size_append' (⟨#[45]⟩ : ByteArray) q1; have e2 : (⟨#[45]⟩ : ByteArray).size = 1 := rfl; omega, T⟩
        have HF := Lib.hid hF
        clear hF T u2 F2 HF1 HD1 hY
        go_wp2_with fail
        go_ret2
        exact HF.out
      · have dg : decide ((1 : Int) < (D : Int)) = true := by have := L3.out; exact decide_eq_true (by omega)
        have HD1 := Lib.hid g1
        clear hlt m2 g1 L3
        go_wp2_with fail
        refine (rfmtN u2 F2).mono ?_
        rintro e w5 ⟨q2, rfl, f2, z2, h5⟩
        have hF : TextR w (true, N, D) (.returned (.tuple #[.string ((⟨#[45]⟩ : ByteArray) ++ q1 ++ (⟨#[47]⟩ : ByteArray) ++ q2), .int .i64 0])) w5 := ⟨_, rfl, ⟨q1, q2, HF1.out, .inr f2, by rw [show decide ((true, N, D).2.2 = 1) = false from decide_eq_false HD1.out]; simp [fmtText, ByteArray.append_assoc]⟩, by have e1 := ByteArray.size_append' (⟨#[45]⟩ : ByteArray) q1; have e2 : (⟨#[45]⟩ : ByteArray).size = 1 := rfl; have e3 := ByteArray.size_append' ((⟨#[45]⟩ : ByteArray) ++ q1 ++ (⟨#[47]⟩ : ByteArray)) q2; have e4 := ByteArray.size_append' ((⟨#[45]⟩ : ByteArray) ++ q1) (⟨#[47]⟩ : ByteArray); have e5 : (⟨#[47]⟩ : ByteArray).size = 1 := rfl; omega, Add.trans T h5⟩
        have HF := Lib.hid hF
        clear hF f2 T h5 u2 F2 HF1 HD1 hY
        go_wp2_with fail
        go_ret2
        exact HF.out
    · simp only [Value.slice.injEq] at e9
      obtain ⟨rfl, rfl, rfl⟩ := e9
      have dn : decide ((1 : Int) < (d2 : Int)) = true := decide_eq_true (by omega)
      have dn2 : decide (1 < d2) = true := decide_eq_true hn
      have HD1 : Hid (D ≠ 1) := Lib.hid (by omega)
      clear hbig m2 hn L3
      go_wp2_with fail
      refine (rfmtN u2 F2).mono ?_
      rintro e w5 ⟨q2, rfl, f2, z2, h5⟩
      have hF : TextR w (true, N, D) (.returned (.tuple #[.string ((⟨#[45]⟩ : ByteArray) ++ q1 ++ (⟨#[47]⟩ : ByteArray) ++ q2), .int .i64 0])) w5 := ⟨_, rfl, ⟨q1, q2, HF1.out, .inr f2, by rw [show decide ((true, N, D).2.2 = 1) = false from decide_eq_false HD1.out]; simp [fmtText, ByteArray.append_assoc]⟩, by have e1 := ByteArray.size_append' (⟨#[45]⟩ : ByteArray) q1; have e2 : (⟨#[45]⟩ : ByteArray).size = 1 := rfl; have e3 := ByteArray.size_append' ((⟨#[45]⟩ : ByteArray) ++ q1 ++ (⟨#[47]⟩ : ByteArray)) q2; have e4 := ByteArray.size_append' ((⟨#[45]⟩ : ByteArray) ++ q1) (⟨#[47]⟩ : ByteArray); have e5 : (⟨#[47]⟩ : ByteArray).size = 1 := rfl; omega, Add.trans T h5⟩
      have HF := Lib.hid hF
      clear hF f2 T h5 u2 F2 HF1 HD1 hY
      go_wp2_with fail
      go_ret2
      exact HF.out
end Go.Proofs.YtiboebgnbnafdaaGreatDoor

namespace Go.Proofs.YtiboebgnbnafdaaGreatDoor
open Go.RowKit NatM Go.Proofs.YtiboebgnbnafdaaGreatDoor.Api

theorem negT_list {t : ByteArray} {sg : Bool} {l : List UInt8} (ht : t.data.toList = (if sg then [45] else []) ++ l) (hl : l.head? ≠ some 45) : negT t = sg ∧ (bodyT t).data.toList = l := by
  cases sg with
  | false =>
    have e : t.data.toList = l := by simpa using ht
    have h : negT t = false := by
      cases c : negT t
      · rfl
      · rw [negT_iff, e] at c; exact absurd c hl
    exact ⟨h, by rw [bodyT_miss h, e]⟩
  | true =>
    have e : t.data.toList = 45 :: l := by simpa using ht
    have h : negT t = true := by rw [negT_iff, e]; rfl
    refine ⟨h, ?_⟩
    rw [bodyT_hit h, extract_list, e]
    have hz : t.size = l.length + 1 := by rw [Lib.size_eq, e]; rfl
    rw [hz]
    simp
theorem isNum_list {t : ByteArray} {l : List UInt8} (ht : t.data.toList = l) (h0 : l ≠ []) (hd : AllDig l) : isNum t := by
  refine ⟨?_, by rw [ht]; exact hd⟩
  rw [Lib.size_eq, ht]
  intro e
  exact h0 (List.length_eq_zero_iff.1 e)
theorem head_ne {l : List UInt8} (h0 : l ≠ []) (hd : AllDig l) (m : List UInt8) : (l ++ m).head? ≠ some 45 := by
  cases l with
  | nil => exact absurd rfl h0
  | cons b l =>
    intro e
    have : b = 45 := by simpa using e
    have h := hd.head
    rw [this] at h
    exact absurd h.1 (by decide)
theorem parse_whole {t : ByteArray} {sg : Bool} {l : List UInt8} (h0 : l ≠ []) (hd : AllDig l) (ht : t.data.toList = (if sg then [45] else []) ++ l) : parseF t = fitQ (frac sg (dval 0 l) 1) := by
  obtain ⟨h1, h2⟩ := negT_list ht (by have := head_ne h0 hd []; rwa [List.append_nil] at this)
  have hs : slashAt (bodyT t) = -1 := by unfold slashAt; rw [h2]; exact slash_none fun b hb => digit_ne (hd b hb)
  have ea : aboveT t = bodyT t := by unfold aboveT aheadT; rw [if_pos (by omega)]
  have eb : belowT t = ⟨#[49]⟩ := by unfold belowT; rw [if_pos (by omega)]
  have nb : isNum (⟨#[49]⟩ : ByteArray) := ⟨by decide, by intro b hb; simp at hb; subst hb; unfold IsDig; decide⟩
  unfold parseF
  rw [ea, eb, if_neg (by rw [Classical.not_not]; exact ⟨isNum_list h2 h0 hd, nb⟩), h1, h2]
  rfl
theorem parse_parts {t : ByteArray} {sg : Bool} {l m : List UInt8} (h0 : l ≠ []) (hd : AllDig l) (g0 : m ≠ []) (gd : AllDig m) (ht : t.data.toList = (if sg then [45] else []) ++ (l ++ 47 :: m)) (hm : dval 0 m ≠ 0) : parseF t = fitQ (frac sg (dval 0 l) (dval 0 m)) := by
  obtain ⟨h1, h2⟩ := negT_list ht (head_ne h0 hd _)
  have hs : slashAt (bodyT t) = (l.length : Int) := by
    unfold slashAt
    rw [h2]
    refine slash_at (fun i hi => ?_) (by simp) (by simp [List.getD])
    have e : (l ++ 47 :: m).getD i 0 = l.getD i 0 := by simp [List.getD, List.getElem?_append_left hi]
    rw [e, ← List.getElem_eq_getD (h := hi) 0]
    exact digit_ne (hd _ (List.getElem_mem hi))
  have hz : (bodyT t).size = l.length + (m.length + 1) := by rw [Lib.size_eq, h2]; simp
  have ea : (aboveT t).data.toList = l := by
    unfold aboveT aheadT
    rw [if_neg (by omega), hs, Int.toNat_natCast, extract_list, h2]
    simp
  have eb : (belowT t).data.toList = m := by
    unfold belowT
    rw [if_neg (by omega)]
    unfold behindT
    rw [if_neg (by omega), hs, Int.toNat_natCast, extract_list, h2, hz, show l ++ 47 :: m = (l ++ [47]) ++ m by simp, show l.length + 1 = (l ++ [47]).length by simp, List.drop_left]
    exact List.take_of_length_le (by simp; omega)
  unfold parseF
  rw [if_neg (by rw [Classical.not_not]; exact ⟨isNum_list ea h0 hd, isNum_list eb g0 gd⟩), ea, eb, if_neg hm, h1]
theorem num_list {s : ByteArray} (h : isNum s) : s.data.toList ≠ [] := by
  intro e
  exact h.1 (by rw [Lib.size_eq, e]; rfl)
theorem append_list (a b : ByteArray) : (a ++ b).data.toList = a.data.toList ++ b.data.toList := by simp
/-- What Format writes of a number in lowest terms Parse reads. -/
theorem parse_format {t : ByteArray} {sg : Bool} {N D : Nat} (h : FFmt t (sg, N, D)) (hD : D ≠ 0) : parseF t = fitQ (frac sg N D) := by
  obtain ⟨s1, s2, h1, h2, rfl⟩ := h
  obtain ⟨n1, v1⟩ := fmt_parse h1
  by_cases c : D = 1
  · have e : (fmtText sg (decide ((sg, N, D).2.2 = 1)) s1 s2).data.toList = (if sg then [45] else []) ++ s1.data.toList := by
      rw [show decide ((sg, N, D).2.2 = 1) = true from decide_eq_true c]
      cases sg
      · simp [fmtText]
      · simp [fmtText]
    rw [parse_whole (num_list n1) n1.2 e, v1, c]
  · obtain ⟨n2, v2⟩ := fmt_parse (h2.resolve_left c)
    have e : (fmtText sg (decide ((sg, N, D).2.2 = 1)) s1 s2).data.toList = (if sg then [45] else []) ++ (s1.data.toList ++ 47 :: s2.data.toList) := by
      rw [show decide ((sg, N, D).2.2 = 1) = false from decide_eq_false c]
      cases sg
      · simp only [fmtText, Bool.false_eq_true, if_false]; rw [append_list, append_list]; simp
      · simp only [fmtText, Bool.false_eq_true, if_false, if_true]; rw [append_list, append_list, append_list]; simp
    rw [parse_parts (num_list n1) n1.2 (num_list n2) n2.2 e (by rw [v2]; exact hD), v1, v2]
theorem text_size {t : ByteArray} {sg : Bool} {N D : Nat} (h : FFmt t (sg, N, D)) (hN : N < pw 24) (hD : D < pw 24) : t.size ≤ 2000 := by
  obtain ⟨s1, s2, h1, h2, rfl⟩ := h
  have z1 := fmt_size h1 hN
  have e1 := ByteArray.size_append' (⟨#[45]⟩ : ByteArray) s1
  have e2 : (⟨#[45]⟩ : ByteArray).size = 1 := rfl
  by_cases c : D = 1
  · rw [show decide ((sg, N, D).2.2 = 1) = true from decide_eq_true c]
    cases sg <;> simp only [fmtText, if_true, Bool.false_eq_true, if_false] <;> omega
  · have z2 := fmt_size (h2.resolve_left c) hD
    rw [show decide ((sg, N, D).2.2 = 1) = false from decide_eq_false c]
    have e3 := ByteArray.size_append' (⟨#[47]⟩ : ByteArray) s2
    have e4 : (⟨#[47]⟩ : ByteArray).size = 1 := rfl
    have e5 := ByteArray.size_append' s1 ((⟨#[47]⟩ : ByteArray) ++ s2)
    have e6 := ByteArray.size_append' ((⟨#[45]⟩ : ByteArray) ++ s1) ((⟨#[47]⟩ : ByteArray) ++ s2)
    cases sg <;> simp only [fmtText, if_true, Bool.false_eq_true, if_false] <;> omega
end Go.Proofs.YtiboebgnbnafdaaGreatDoor

namespace Go.Proofs.YtiboebgnbnafdaaGreatDoor.TextL
open Go.Proofs.YtiboebgnbnafdaaGreatDoor Go.RowKit NatM Go.Proofs.YtiboebgnbnafdaaGreatDoor.Api
theorem Nv.put {w : World} {v : Value} {N g : Nat} {b an n cn ad d cd} (h : Nv w v N) (hB : Box w g b an n cn ad d cd) (u0 u1 u2 : Value) : Nv (put3 w g u0 u1 u2) v N := by
  obtain ⟨zs, h1, h2⟩ := h; exact ⟨zs, h1.put hB u0 u1 u2, h2⟩
theorem FracA.put {w : World} {v : Value} {x : Tri} {g : Nat} {b an n cn ad d cd} (h : FracA w v x) (hB : Box w g b an n cn ad d cd) (u0 u1 u2 : Value) : FracA (put3 w g u0 u1 u2) v x := by
  obtain ⟨an, n, cn, ad, d, cd, h1, h2, h3⟩ := h; exact ⟨an, n, cn, ad, d, cd, h1, Nv.put h2 hB u0 u1 u2, Nv.put h3 hB u0 u1 u2⟩
theorem put3_size (w : World) (g : Nat) (u0 u1 u2 : Value) : (put3 w g u0 u1 u2).heap.size = w.heap.size := by
  unfold put3; simp [World.setCell]
theorem Tab.put {w : World} {g : Nat} {b an n cn ad d cd} (h : Tab w) (hB : Box w g b an n cn ad d cd) (u0 u1 u2 : Value) : Tab (put3 w g u0 u1 u2) := by
  refine ⟨by rw [put3_size]; exact h.1, fun j hj => ?_⟩
  have hk : 2 ≠ g := by
    rintro rfl
    exact hB.not_int _ _ _ (h.2 j hj)
  rw [cell_other (fun k hk => put3_other u0 u1 u2 hk) _ hk]
  exact h.2 j hj
theorem Box.other {w : World} {g k : Nat} {b an n cn ad d cd} (h : Box w k b an n cn ad d cd) (hk : k ≠ g) (u0 u1 u2 : Value) : Box (put3 w g u0 u1 u2) k b an n cn ad d cd := (put3_other u0 u1 u2 hk).trans h
theorem addC {P Q : Rat} {i j : Nat} (h1 : Sz i (can P)) (h2 : Sz j (can Q)) (h : i + j + 1 ≤ 128) : addF (can P) (can Q) = (can (P + Q), 0) ∧ Sz (i + j + 1) (can (P + Q)) := by
  have := add_sz h1 h2 h
  rwa [qv_can, qv_can] at this
theorem mulC {P Q : Rat} {i j : Nat} (h1 : Sz i (can P)) (h2 : Sz j (can Q)) (h : i + j ≤ 128) : mulF (can P) (can Q) = (can (P * Q), 0) ∧ Sz (i + j) (can (P * Q)) := by
  have := mul_sz h1 h2 h
  rwa [qv_can, qv_can] at this
theorem quoC {P Q : Rat} {i j : Nat} (h1 : Sz i (can P)) (h2 : Sz j (can Q)) (h0 : Q ≠ 0) (h : i + j ≤ 128) : quoF (can P) (can Q) = (can (P / Q), 0) ∧ Sz (i + j) (can (P / Q)) := by
  have := quo_sz h1 h2 (fun e => h0 (can_zero_iff.1 e)) h
  rwa [qv_can, qv_can] at this
theorem subC {P Q : Rat} {i j : Nat} (h1 : Sz i (can P)) (h2 : Sz j (can Q)) (h : i + j + 1 ≤ 128) : subF (can P) (can Q) = (can (P - Q), 0) ∧ Sz (i + j + 1) (can (P - Q)) := by
  have hn : Sz j (negF (can Q)) := h2
  have e : qv (negF (can Q)) = -Q := by
    have h3 : qv (negF (can Q)) = -qv (can Q) := frac_not _ _ _
    rw [h3, qv_can]
  have := add_sz h1 hn h
  rw [e, qv_can, ← Rat.sub_eq_add_neg] at this
  exact this
theorem fracA_mk2 {w : World} {b : Bool} {N D k : Nat} {an n cn ad d cd} (h1 : Num w (.slice an n cn) N) (h2 : Num w (.slice ad d cd) D) (s : Sz k (b, N, D)) (hk : k ≤ 128) : FracA w (.agg #[.bool b, .slice an n cn, .slice ad d cd]) (b, N, D) :=
  ⟨an, n, cn, ad, d, cd, rfl, num_nv h1 (lt_up s.2.1 (by omega)), num_nv h2 (lt_up s.2.2 (by omega))⟩
theorem fracT_mk {w : World} {b : Bool} {N D : Nat} {an n cn ad d cd} (h1 : Num w (.slice an n cn) N) (h2 : Num w (.slice ad d cd) D) : FracT w (.agg #[.bool b, .slice an n cn, .slice ad d cd]) (b, N, D) := ⟨an, n, cn, ad, d, cd, rfl, h1, h2⟩
/-- A result of which the parts have names. -/
def ResE (w : World) (s : Bool) (N D c : Nat) (e : Ending) (w' : World) : Prop := ∃ a n k a' n' k', e = .returned (.tuple #[.agg #[.bool s, .slice a n k, .slice a' n' k'], .int .i64 (c : Nat)]) ∧ Num w' (.slice a n k) N ∧ Num w' (.slice a' n' k') D ∧ Add w w'
theorem resE {w : World} {p : Tri × Nat} {s : Bool} {N D c : Nat} {e : Ending} {w' : World} (g : ResF w p e w') (h : Hid (p = ((s, N, D), c))) : ResE w s N D c e w' := by
  obtain ⟨v, he, ⟨a, n, k, a', n', k', rfl, h1, h2⟩, h3⟩ := g
  have e1 := h.out
  subst e1
  exact ⟨a, n, k, a', n', k', he, h1, h2, h3⟩
def CmpE (w : World) (t : Int) (c : Nat) (e : Ending) (w' : World) : Prop := e = .returned (.tuple #[.int .i64 t, .int .i64 (c : Nat)]) ∧ Add w w'
theorem cmpE {w : World} {p : Int × Nat} {t : Int} {c : Nat} {e : Ending} {w' : World} (g : CmpR w p e w') (h : Hid (p = (t, c))) : CmpE w t c e w' := by
  have e1 := h.out
  subst e1
  exact ⟨g.1, g.2⟩

theorem longF1 (t : Bool) {b : Bool} {an n cn ad d cd} {xs ys : List Nat} {w : World} (g : Nat)
    (h1 : Reads w (.slice an n cn) xs) (h2 : Reads w (.slice ad d cd) ys) (hg : w.heap.size = g) (h : Hid (longB xs ys = t)) :
    Calls Tryz.prog 12 #[.slice (some ⟨g, 0, none⟩) 1 1] (w.alloc (.cells #[.bool b, .slice an n cn, .slice ad d cd] 25))
      (Long2P (w.alloc (.cells #[.bool b, .slice an n cn, .slice ad d cd] 25)) t) := by
  subst hg
  refine longF_is t w.heap.size 1 [(.slice an n cn, .slice ad d cd)] _ rfl (by decide) ?_ ?_ ?_
  · intro i hi
    obtain rfl : i = 0 := by omega
    rw [World.cell?_alloc_new, World.cell?_alloc_new]
    exact ⟨rfl, rfl⟩
  · intro i hi
    obtain rfl : i = 0 := by omega
    exact ⟨h1.isSlice, h2.isSlice⟩
  · rw [← h.out]
    simp only [List.any_cons, List.any_nil, Bool.or_false, tooLong, longB, h1.lenV, h2.lenV]

set_option maxRecDepth 100000 in
set_option maxHeartbeats 20000000 in
theorem text_long {v : Value} {b : Bool} {xs ys : List Nat} {s : ByteArray} (w : World) (hx : FracI w v b xs ys) (hT : Tab w) (hl : longB xs ys = true) : Calls Tryz.prog 4 #[v, .string s] w (LawP w) := by
  obtain ⟨an, n, cn, ad, d, cd, rfl, i0, j0⟩ := hx
  obtain ⟨T, hX⟩ := start1 w b an n cn ad d cd
  obtain ⟨W0, hW0⟩ : ∃ W0, W0 = (w.alloc (.cells #[.bool b, .slice an n cn, .slice ad d cd] 25)) := ⟨_, rfl⟩
  rw [← hW0] at T hX
  have hX0 := hX
  have CL := Lib.hid (longF1 true (b := b) (w := W0) (w.heap.size + 1) (i0.mono T) (j0.mono T) (by rw [hW0]; simp) (Lib.hid hl))
  have TL : Add W0 (W0.alloc (.cells #[.bool b, .slice an n cn, .slice ad d cd] 25)) := add_new _ _
  replace hX := hX.mono TL
  replace hT := (hT.mono T).mono TL
  replace T := Add.trans T TL
  have ha0 := hX0.c0
  have ha1 := hX0.c1
  have ha2 := hX0.c2
  rw [hW0] at ha0 ha1 ha2
  go_enter Tryz.func4, Tryz.ntmps4
  go_wp2_with fail
  rw [← hW0]
  refine CL.out.mono ?_
  rintro e w9 ⟨rfl, rfl⟩
  clear CL TL hW0 hl ha0 ha1 ha2 hX0 hX i0 j0
  go_wp2_with fail
  refine (awake2_any _ hT).mono ?_
  rintro e w9 ⟨rfl, h9⟩
  replace T := Add.trans T h9
  clear h9 hT
  go_wp2_with fail
  go_ret
  exact ⟨rfl, T⟩

set_option maxRecDepth 100000 in
set_option maxHeartbeats 20000000 in
theorem text_wide {v : Value} {b : Bool} {xs ys : List Nat} {s : ByteArray} (w : World) (hx : FracI w v b xs ys) (hT : Tab w) (hl : longB xs ys = false) (h2 : 200 < s.size) : Calls Tryz.prog 4 #[v, .string s] w (LawP w) := by
  obtain ⟨an, n, cn, ad, d, cd, rfl, i0, j0⟩ := hx
  obtain ⟨T, hX⟩ := start1 w b an n cn ad d cd
  obtain ⟨W0, hW0⟩ : ∃ W0, W0 = (w.alloc (.cells #[.bool b, .slice an n cn, .slice ad d cd] 25)) := ⟨_, rfl⟩
  rw [← hW0] at T hX
  have hX0 := hX
  have CL := Lib.hid (longF1 false (b := b) (w := W0) (w.heap.size + 1) (i0.mono T) (j0.mono T) (by rw [hW0]; simp) (Lib.hid hl))
  have TL : Add W0 (W0.alloc (.cells #[.bool b, .slice an n cn, .slice ad d cd] 25)) := add_new _ _
  replace hX := hX.mono TL
  replace hT := (hT.mono T).mono TL
  replace T := Add.trans T TL
  have ha0 := hX0.c0
  have ha1 := hX0.c1
  have ha2 := hX0.c2
  rw [hW0] at ha0 ha1 ha2
  have d2 : decide ((200 : Int) < (s.size : Int)) = true := decide_eq_true (by omega)
  clear h2
  go_enter Tryz.func4, Tryz.ntmps4
  go_wp2_with fail
  rw [← hW0]
  refine CL.out.mono ?_
  rintro e w9 ⟨rfl, rfl⟩
  clear CL TL hW0 hl ha0 ha1 ha2 hX0 hX i0 j0
  go_wp2_with fail
  refine (awake2_any _ hT).mono ?_
  rintro e w9 ⟨rfl, h9⟩
  replace T := Add.trans T h9
  clear h9 hT
  go_wp2_with fail
  go_ret
  exact ⟨rfl, T⟩

set_option maxRecDepth 100000 in
set_option maxHeartbeats 20000000 in
theorem text_bad {v : Value} {b : Bool} {xs ys : List Nat} {s : ByteArray} (w : World) (hx : FracI w v b xs ys) (hT : Tab w) (hl : longB xs ys = false) (h2 : s.size ≤ 200) (h : okF (b, val xs, val ys) = false) : Calls Tryz.prog 4 #[v, .string s] w (LawP w) := by
  obtain ⟨an, n, cn, ad, d, cd, rfl, i0, j0⟩ := hx
  obtain ⟨T, hX⟩ := start1 w b an n cn ad d cd
  obtain ⟨W0, hW0⟩ : ∃ W0, W0 = (w.alloc (.cells #[.bool b, .slice an n cn, .slice ad d cd] 25)) := ⟨_, rfl⟩
  rw [← hW0] at T hX
  have hX0 := hX
  have CL := Lib.hid (longF1 false (b := b) (w := W0) (w.heap.size + 1) (i0.mono T) (j0.mono T) (by rw [hW0]; simp) (Lib.hid hl))
  have TL : Add W0 (W0.alloc (.cells #[.bool b, .slice an n cn, .slice ad d cd] 25)) := add_new _ _
  replace hX := hX.mono TL
  replace hT := (hT.mono T).mono TL
  replace T := Add.trans T TL
  have ha0 := hX0.c0
  have ha1 := hX0.c1
  have ha2 := hX0.c2
  rw [hW0] at ha0 ha1 ha2
  have hl0 := hl
  have qx : FracA _ (.agg #[.bool b, .slice an n cn, .slice ad d cd]) (b, val xs, val ys) := (FracI.arg (w := w) ⟨an, n, cn, ad, d, cd, rfl, i0, j0⟩ hl0).mono T
  obtain ⟨x, ex⟩ : ∃ x : Tri, (b, val xs, val ys) = x := ⟨_, rfl⟩
  rw [ex] at qx h
  obtain ⟨s1, N1, D1, c1, e1⟩ : ∃ q N D c, parseF s = ((q, N, D), c) := ⟨_, _, _, _, rfl⟩
  have R1 := Lib.hid e1
  have d2 : decide ((200 : Int) < (s.size : Int)) = false := decide_eq_false (by omega)
  have HS : Hid (s.size ≤ 2000) := Lib.hid (by omega)
  clear e1 h2
  have OK := Lib.hid h
  clear ex hl0 i0 j0 h
  go_enter Tryz.func4, Tryz.ntmps4
  go_wp2_with fail
  rw [← hW0]
  refine CL.out.mono ?_
  rintro e w9 ⟨rfl, rfl⟩
  clear CL TL hW0 hl ha0 ha1 ha2 hX0 
  go_wp2_with fail
  refine ((parseFN _ hT HS (Lib.hid rfl)).mono fun _ _ g => resE g R1).mono ?_
  rintro e w10 ⟨aA, nA, cA, eA, mA, kA, rfl, uA, vA, h10⟩
  replace hT := hT.mono h10
  replace hX := hX.mono h10
  replace qx := qx.mono h10
  replace T := Add.trans T h10
  clear h10 
  obtain ⟨tt, hA⟩ := laid_var w10 s1 aA nA cA eA mA kA
  replace hT := hT.mono tt
  replace hX := hX.mono tt
  replace qx := qx.mono tt
  replace uA := uA.mono tt
  replace vA := vA.mono tt
  replace T := Add.trans T tt
  clear tt
  go_wp2_with fail
  refine ((refParseFN _ HS (Lib.hid rfl)).mono fun _ _ g => resE g R1).mono ?_
  rintro e w11 ⟨aB, nB, cB, eB, mB, kB, rfl, uB, vB, h11⟩
  replace hT := hT.mono h11
  replace hX := hX.mono h11
  replace qx := qx.mono h11
  replace uA := uA.mono h11
  replace vA := vA.mono h11
  replace hA := hA.mono h11
  replace T := Add.trans T h11
  clear h11 
  obtain ⟨tt, hB⟩ := laid_var w11 s1 aB nB cB eB mB kB
  replace hT := hT.mono tt
  replace hX := hX.mono tt
  replace qx := qx.mono tt
  replace uA := uA.mono tt
  replace vA := vA.mono tt
  replace hA := hA.mono tt
  replace uB := uB.mono tt
  replace vB := vB.mono tt
  replace T := Add.trans T tt
  clear tt
  have ha0 := hA.c0
  have ha1 := hA.c1
  have ha2 := hA.c2
  have hb0 := hB.c0
  have hb1 := hB.c1
  have hb2 := hB.c2
  go_wp2_with fail
  refine (sameF true (fracT_mk (b := s1) uA vA) (fracT_mk (b := s1) uB vB) (Lib.hid (decide_eq_true rfl))).mono ?_
  rintro e w12 ⟨rfl, h12⟩
  replace hT := hT.mono h12
  replace hX := hX.mono h12
  replace qx := qx.mono h12
  replace uA := uA.mono h12
  replace vA := vA.mono h12
  replace hA := hA.mono h12
  replace uB := uB.mono h12
  replace vB := vB.mono h12
  replace hB := hB.mono h12
  replace T := Add.trans T h12
  clear h12 ha0 ha1 ha2 hb0 hb1 hb2
  clear hA uA vA hB uB vB
  clear R1 HS
  have ha0 := hX.c0
  have ha1 := hX.c1
  have ha2 := hX.c2
  go_wp2_with fail
  refine (formatBad qx hT OK).mono ?_
  rintro e w13 ⟨rfl, h13⟩
  replace hT := hT.mono h13
  replace hX := hX.mono h13
  replace qx := qx.mono h13
  replace T := Add.trans T h13
  clear h13 
  clear ha0 ha1 ha2
  have ha0 := hX.c0
  have ha1 := hX.c1
  have ha2 := hX.c2
  go_wp2_with fail
  refine (refFormatBad qx OK).mono ?_
  rintro e w14 ⟨rfl, h14⟩
  replace hT := hT.mono h14
  replace hX := hX.mono h14
  replace qx := qx.mono h14
  replace T := Add.trans T h14
  clear h14 
  clear ha0 ha1 ha2
  have ha0 := hX.c0
  have ha1 := hX.c1
  have ha2 := hX.c2
  go_wp2_with fail
  refine (refValidN false qx OK).mono ?_
  rintro e w15 ⟨rfl, h15⟩
  replace hT := hT.mono h15
  replace hX := hX.mono h15
  replace qx := qx.mono h15
  replace T := Add.trans T h15
  clear h15 ha0 ha1 ha2
  clear hX qx
  go_wp2_with fail
  refine (awake2_any _ hT).mono ?_
  rintro e w16 ⟨rfl, h16⟩
  replace hT := hT.mono h16
  replace T := Add.trans T h16
  clear h16 
  go_wp2_with fail
  go_ret
  exact ⟨rfl, T⟩

set_option maxRecDepth 100000 in
set_option maxHeartbeats 20000000 in
theorem text_ok {v : Value} {b : Bool} {xs ys : List Nat} {s : ByteArray} (w : World) (hx : FracI w v b xs ys) (hT : Tab w) (hl : longB xs ys = false) (h2 : s.size ≤ 200) (h : okF (b, val xs, val ys) = true) : Calls Tryz.prog 4 #[v, .string s] w (LawP w) := by
  obtain ⟨an, n, cn, ad, d, cd, rfl, i0, j0⟩ := hx
  obtain ⟨T, hX⟩ := start1 w b an n cn ad d cd
  obtain ⟨W0, hW0⟩ : ∃ W0, W0 = (w.alloc (.cells #[.bool b, .slice an n cn, .slice ad d cd] 25)) := ⟨_, rfl⟩
  rw [← hW0] at T hX
  have hX0 := hX
  have CL := Lib.hid (longF1 false (b := b) (w := W0) (w.heap.size + 1) (i0.mono T) (j0.mono T) (by rw [hW0]; simp) (Lib.hid hl))
  have TL : Add W0 (W0.alloc (.cells #[.bool b, .slice an n cn, .slice ad d cd] 25)) := add_new _ _
  replace hX := hX.mono TL
  replace hT := (hT.mono T).mono TL
  replace T := Add.trans T TL
  have ha0 := hX0.c0
  have ha1 := hX0.c1
  have ha2 := hX0.c2
  rw [hW0] at ha0 ha1 ha2
  have hl0 := hl
  have qx : FracA _ (.agg #[.bool b, .slice an n cn, .slice ad d cd]) (b, val xs, val ys) := (FracI.arg (w := w) ⟨an, n, cn, ad, d, cd, rfl, i0, j0⟩ hl0).mono T
  obtain ⟨x, ex⟩ : ∃ x : Tri, (b, val xs, val ys) = x := ⟨_, rfl⟩
  rw [ex] at qx h
  obtain ⟨s1, N1, D1, c1, e1⟩ : ∃ q N D c, parseF s = ((q, N, D), c) := ⟨_, _, _, _, rfl⟩
  have R1 := Lib.hid e1
  have d2 : decide ((200 : Int) < (s.size : Int)) = false := decide_eq_false (by omega)
  have HS : Hid (s.size ≤ 2000) := Lib.hid (by omega)
  clear e1 h2
  obtain ⟨l1, l2⟩ := FracI.small i0.limbs j0.limbs hl0
  have sx : Sz 24 x := by
    obtain ⟨g1, -, -⟩ := okF_iff.1 h
    subst ex
    exact ⟨g1, l1, l2⟩
  obtain ⟨r3, z3⟩ := red_sz sx (by decide)
  have hfit : fitQ (frac (can (qv x)).1 (can (qv x)).2.1 (can (qv x)).2.2) = (can (qv x), 0) := by
    have e : frac (can (qv x)).1 (can (qv x)).2.1 (can (qv x)).2.2 = qv x := qv_can _
    rw [e, ← r3]; unfold redF; rw [if_pos h]
  obtain ⟨⟨sg, N3, D3⟩, e3⟩ : ∃ t, can (qv x) = t := ⟨_, rfl⟩
  rw [e3] at r3 z3 hfit
  have FO : Hid (okF x = true ∧ can (qv x) = (sg, N3, D3)) := Lib.hid ⟨h, e3⟩
  have R3 := Lib.hid r3
  have Z3 := Lib.hid z3
  have HFI := Lib.hid hfit
  clear ex hl0 i0 j0 h l1 l2 sx r3 z3 e3 hfit
  go_enter Tryz.func4, Tryz.ntmps4
  go_wp2_with fail
  rw [← hW0]
  refine CL.out.mono ?_
  rintro e w9 ⟨rfl, rfl⟩
  clear CL TL hW0 hl ha0 ha1 ha2 hX0 
  go_wp2_with fail
  refine ((parseFN _ hT HS (Lib.hid rfl)).mono fun _ _ g => resE g R1).mono ?_
  rintro e w10 ⟨aA, nA, cA, eA, mA, kA, rfl, uA, vA, h10⟩
  replace hT := hT.mono h10
  replace hX := hX.mono h10
  replace qx := qx.mono h10
  replace T := Add.trans T h10
  clear h10 
  obtain ⟨tt, hA⟩ := laid_var w10 s1 aA nA cA eA mA kA
  replace hT := hT.mono tt
  replace hX := hX.mono tt
  replace qx := qx.mono tt
  replace uA := uA.mono tt
  replace vA := vA.mono tt
  replace T := Add.trans T tt
  clear tt
  go_wp2_with fail
  refine ((refParseFN _ HS (Lib.hid rfl)).mono fun _ _ g => resE g R1).mono ?_
  rintro e w11 ⟨aB, nB, cB, eB, mB, kB, rfl, uB, vB, h11⟩
  replace hT := hT.mono h11
  replace hX := hX.mono h11
  replace qx := qx.mono h11
  replace uA := uA.mono h11
  replace vA := vA.mono h11
  replace hA := hA.mono h11
  replace T := Add.trans T h11
  clear h11 
  obtain ⟨tt, hB⟩ := laid_var w11 s1 aB nB cB eB mB kB
  replace hT := hT.mono tt
  replace hX := hX.mono tt
  replace qx := qx.mono tt
  replace uA := uA.mono tt
  replace vA := vA.mono tt
  replace hA := hA.mono tt
  replace uB := uB.mono tt
  replace vB := vB.mono tt
  replace T := Add.trans T tt
  clear tt
  have ha0 := hA.c0
  have ha1 := hA.c1
  have ha2 := hA.c2
  have hb0 := hB.c0
  have hb1 := hB.c1
  have hb2 := hB.c2
  go_wp2_with fail
  refine (sameF true (fracT_mk (b := s1) uA vA) (fracT_mk (b := s1) uB vB) (Lib.hid (decide_eq_true rfl))).mono ?_
  rintro e w12 ⟨rfl, h12⟩
  replace hT := hT.mono h12
  replace hX := hX.mono h12
  replace qx := qx.mono h12
  replace uA := uA.mono h12
  replace vA := vA.mono h12
  replace hA := hA.mono h12
  replace uB := uB.mono h12
  replace vB := vB.mono h12
  replace hB := hB.mono h12
  replace T := Add.trans T h12
  clear h12 ha0 ha1 ha2 hb0 hb1 hb2
  clear hA uA vA hB uB vB
  clear R1 HS
  have ha0 := hX.c0
  have ha1 := hX.c1
  have ha2 := hX.c2
  go_wp2_with fail
  refine (formatN _ qx hT FO).mono ?_
  rintro e w13 ⟨t, rfl, ft, zt, h13⟩
  replace hT := hT.mono h13
  replace hX := hX.mono h13
  replace qx := qx.mono h13
  replace T := Add.trans T h13
  clear h13 
  have FT := Lib.hid ft
  clear ft zt ha0 ha1 ha2
  have ha0 := hX.c0
  have ha1 := hX.c1
  have ha2 := hX.c2
  go_wp2_with fail
  refine (refFormatN _ qx FO).mono ?_
  rintro e w14 ⟨u, rfl, fu, zu, h14⟩
  replace hT := hT.mono h14
  replace hX := hX.mono h14
  replace qx := qx.mono h14
  replace T := Add.trans T h14
  clear h14 
  have hut : u = t := fu.uniq FT.out
  subst hut
  have HS : Hid (u.size ≤ 2000) := Lib.hid (text_size fu Z3.out.2.1 Z3.out.2.2)
  have R4 : Hid (parseF u = ((sg, N3, D3), 0)) := Lib.hid (by rw [parse_format fu Z3.out.1]; exact HFI.out)
  clear fu zu FT HFI FO Z3 ha0 ha1 ha2
  go_wp2_with fail
  refine ((parseFN _ hT HS (Lib.hid rfl)).mono fun _ _ g => resE g R4).mono ?_
  rintro e w15 ⟨aC, nC, cC, eC, mC, kC, rfl, uC, vC, h15⟩
  replace hT := hT.mono h15
  replace hX := hX.mono h15
  replace qx := qx.mono h15
  replace T := Add.trans T h15
  clear h15 
  obtain ⟨tt, hC⟩ := laid_var w15 sg aC nC cC eC mC kC
  replace hT := hT.mono tt
  replace hX := hX.mono tt
  replace qx := qx.mono tt
  replace uC := uC.mono tt
  replace vC := vC.mono tt
  replace T := Add.trans T tt
  clear tt
  have ha0 := hX.c0
  have ha1 := hX.c1
  have ha2 := hX.c2
  go_wp2_with fail
  refine ((refReduceN _ qx (Lib.hid rfl)).mono fun _ _ g => resE g R3).mono ?_
  rintro e w16 ⟨aD, nD, cD, eD, mD, kD, rfl, uD, vD, h16⟩
  replace hT := hT.mono h16
  replace hX := hX.mono h16
  replace qx := qx.mono h16
  replace uC := uC.mono h16
  replace vC := vC.mono h16
  replace hC := hC.mono h16
  replace T := Add.trans T h16
  clear h16 ha0 ha1 ha2
  obtain ⟨tt, hD⟩ := laid_var w16 sg aD nD cD eD mD kD
  replace hT := hT.mono tt
  replace hX := hX.mono tt
  replace qx := qx.mono tt
  replace uC := uC.mono tt
  replace vC := vC.mono tt
  replace hC := hC.mono tt
  replace uD := uD.mono tt
  replace vD := vD.mono tt
  replace T := Add.trans T tt
  clear tt
  clear hX qx
  have ha0 := hC.c0
  have ha1 := hC.c1
  have ha2 := hC.c2
  have hb0 := hD.c0
  have hb1 := hD.c1
  have hb2 := hD.c2
  go_wp2_with fail
  refine (sameF true (fracT_mk (b := sg) uC vC) (fracT_mk (b := sg) uD vD) (Lib.hid (decide_eq_true rfl))).mono ?_
  rintro e w17 ⟨rfl, h17⟩
  replace hT := hT.mono h17
  replace uC := uC.mono h17
  replace vC := vC.mono h17
  replace hC := hC.mono h17
  replace uD := uD.mono h17
  replace vD := vD.mono h17
  replace hD := hD.mono h17
  replace T := Add.trans T h17
  clear h17 ha0 ha1 ha2 hb0 hb1 hb2
  clear hC uC vC hD uD vD
  go_wp2_with fail
  refine (awake2_any _ hT).mono ?_
  rintro e w18 ⟨rfl, h18⟩
  replace hT := hT.mono h18
  replace T := Add.trans T h18
  clear h18 
  go_wp2_with fail
  go_ret
  exact ⟨rfl, T⟩

theorem text_any {v : Value} {b : Bool} {xs ys : List Nat} {s : ByteArray} (w : World) (hx : FracI w v b xs ys) (hT : Tab w) : Calls Tryz.prog 4 #[v, .string s] w (LawP w) := by
  rcases hl : longB xs ys with _ | _
  · by_cases h2 : 200 < s.size
    · exact text_wide w hx hT hl h2
    · cases h : okF (b, val xs, val ys)
      · exact text_bad w hx hT hl (by omega) h
      · exact text_ok w hx hT hl (by omega) h
  · exact text_long w hx hT hl
end Go.Proofs.YtiboebgnbnafdaaGreatDoor.TextL
