/- Parse reads decimal digits. -/
import Derived.Test.YtjgaeodihijalaaDoorW16
import Derived.Test.YtjgaeodihijalaaDoorPp
import Derived.Lib.TrimByte
namespace Go.Proofs.YtjgaeodihijalaaDoor
open Go.RowKit NatM

/-- What onlyDigits answers: the text is not empty, and all its bytes are digits. -/
def isNum (s : ByteArray) : Prop := s.size ≠ 0 ∧ AllDig s.data.toList
theorem byte_mem {s : ByteArray} {k : Nat} (h : k < s.size) : s[k] ∈ s.data.toList := by
  have : s.data.toList[k]? = some s[k] := by
    rw [Array.getElem?_toList]
    exact Array.getElem?_eq_getElem h
  exact List.mem_of_getElem? this
theorem byte_take {s : ByteArray} {k : Nat} (h : k < s.size) : s.data.toList.take (k + 1) = s.data.toList.take k ++ [s[k]] := by
  have : s.data.toList[k]? = some s[k] := by
    rw [Array.getElem?_toList]
    exact Array.getElem?_eq_getElem h
  rw [List.take_add_one, this]; rfl
def BoolP (w : World) (p : Prop) (e : Ending) (w' : World) : Prop := ∃ b : Bool, e = .returned (.bool b) ∧ (b = true ↔ p) ∧ ∃ n, w' = w.drewN n
set_option maxRecDepth 100000 in
theorem onlyDigits_any (s : ByteArray) (w : World) (hs : s.size ≤ 1000000) :
    Calls Tryd.prog 77 #[.string s] w (BoolP w (isNum s)) := by
  go_enter Tryd.func77, Tryd.ntmps77
  go_wp2_with fail
  go_loopw [6] (fun i wr => ∃ k : Nat, k ≤ s.size ∧ i = .int .i64 (k : Nat) ∧ Hid (AllDig (s.data.toList.take k)) ∧ ∃ n, wr = w.drewN n) (fun i _ => s.size - (intOf i).toNat)
  case atStart => exact ⟨0, Nat.zero_le _, rfl, Lib.hid (by rw [List.take_zero]; exact AllDig.nil), 0, rfl⟩
  case round =>
    obtain ⟨k, hk, rfl, hd, n, rfl⟩ := hrel
    by_cases hlt : k < s.size
    · by_cases h1 : (s[k]).toNat < 48
      · have hF : BoolP w (isNum s) (.returned (.bool false)) (w.drewN n) := by
          refine ⟨false, rfl, ⟨fun h => (by cases h), fun h => ?_⟩, n, rfl⟩
          have := h.2 _ (byte_mem hlt)
          unfold IsDig at this; omega
        have d1 : decide ((s[k]).toNat < 48) = true := decide_eq_true h1
        go_wp2_with fail
        go_ret
        exact hF
      · by_cases h2 : 57 < (s[k]).toNat
        · have hF : BoolP w (isNum s) (.returned (.bool false)) (w.drewN n) := by
            refine ⟨false, rfl, ⟨fun h => (by cases h), fun h => ?_⟩, n, rfl⟩
            have := h.2 _ (byte_mem hlt)
            unfold IsDig at this; omega
          have d1 : decide ((s[k]).toNat < 48) = false := decide_eq_false h1
          have d2 : decide (57 < (s[k]).toNat) = true := decide_eq_true h2
          go_wp2_with fail
          go_ret
          exact hF
        · have d1 : decide ((s[k]).toNat < 48) = false := decide_eq_false h1
          have d2 : decide (57 < (s[k]).toNat) = false := decide_eq_false h2
          have hd2 : Hid (AllDig (s.data.toList.take (k + 1))) := Lib.hid (by
            rw [byte_take hlt]
            intro b hb
            rcases List.mem_append.1 hb with h | h
            · exact hd.out b h
            · simp at h; subst h; unfold IsDig; omega)
          go_wp2_with fail
          go_roundw
          case rel => exact ⟨k + 1, by omega, by go_num, hd2, n, rfl⟩
          case measure => simp [intOf]; omega
    · obtain rfl : k = s.size := by omega
      have hall : AllDig s.data.toList := by
        have := hd.out
        rwa [List.take_of_length_le (by simp)] at this
      by_cases h0 : s.size = 0
      · have hF : BoolP w (isNum s) (.returned (.bool false)) (w.drewN n) := ⟨false, rfl, ⟨fun h => (by cases h), fun h => absurd h0 h.1⟩, n, rfl⟩
        have hem : s.toList.isEmpty = true := by rw [Lib.toList_data]; simp; exact Array.size_eq_zero_iff.1 h0
        go_wp2_with fail
        go_ret
        exact hF
      · have hF : BoolP w (isNum s) (.returned (.bool true)) (w.drewN n) := ⟨true, rfl, ⟨fun _ => ⟨h0, hall⟩, fun _ => rfl⟩, n, rfl⟩
        have hem : s.toList.isEmpty = false := by rw [Lib.toList_data]; simp; intro h; exact h0 (by rw [ByteArray.size, h]; rfl)
        go_wp2_with fail
        go_ret
        exact hF

theorem extract_list (s : ByteArray) (a b : Nat) : (s.extract a b).data.toList = (s.data.toList.drop a).take (b - a) := by
  rw [show s = ⟨s.data.toList.toArray⟩ from by cases s; simp, Lib.extract_mk]
theorem dval_mono (a : Nat) (l r : List UInt8) : dval a l ≤ dval a (l ++ r) := by
  rw [dval_append, dval_lin (dval a l) r]
  have : 1 * dval a l ≤ 10 ^ r.length * dval a l := Nat.mul_le_mul_right _ (Nat.pow_pos (by decide))
  omega

def GroupP (w : World) (g n U : Nat) (e : Ending) (w' : World) : Prop := ∃ zs, e = .returned (.tuple #[]) ∧ Row w' g zs ∧ zs.length = n ∧ Limbs zs ∧ val zs = U ∧ w.grownBy w' (some g)
set_option maxRecDepth 100000 in
set_option maxHeartbeats 4000000 in
theorem appendGroup_any (g n : Nat) (xs : List Nat) (D : ByteArray) (U : Nat) (w : World) (hr : Row w g xs) (hl : xs.length = n) (hn : n ≤ 1000000) (hx : Limbs xs) (hD : AllDig D.data.toList) (h9 : D.size ≤ 9) (hU : Hid (dval (val xs) D.data.toList = U)) (hUn : Hid (U < pw n)) :
    Calls Tryd.prog 78 #[.slice (some ⟨g, 0, none⟩) n n, .string D] w (GroupP w g n U) := by
  have HX := Lib.hid hx
  have HL := Lib.hid hl
  have HD := Lib.hid hD
  clear hx hl hD
  go_enter Tryd.func78, Tryd.ntmps78
  go_wp2_with fail
  go_loopw [4, 5, 11] (fun cv sv iv wr => ∃ (k c s : Nat), k ≤ D.size ∧ iv = .int .i64 (k : Nat) ∧ cv = .int .u64 (c : Nat) ∧ sv = .int .u64 (s : Nat) ∧ c < s ∧ Hid (c = dval 0 (D.data.toList.take k)) ∧ Hid (s = 10 ^ k) ∧ w = wr) (fun _ _ iv _ => D.size - (intOf iv).toNat)
  case atStart => exact ⟨0, 0, 1, Nat.zero_le _, rfl, rfl, rfl, by decide, Lib.hid (by rw [List.take_zero, dval_nil]), Lib.hid rfl, rfl⟩
  case round =>
    obtain ⟨k, c, s, hk, rfl, rfl, rfl, hcs, hc, hs, rfl⟩ := hrel
    have hs9 : s ≤ 1000000000 := by
      rw [hs.out]
      have : 10 ^ k ≤ 10 ^ 9 := Nat.pow_le_pow_right (by decide) (by omega)
      exact this
    by_cases hlt : k < D.size
    · have hs8 : s ≤ 100000000 := by
        rw [hs.out]
        have : 10 ^ k ≤ 10 ^ 8 := Nat.pow_le_pow_right (by decide) (by omega)
        exact this
      have hb := HD.out _ (byte_mem hlt)
      unfold IsDig at hb
      obtain ⟨hb1, hb2⟩ := hb
      obtain ⟨b, hbe⟩ : ∃ b, (D[k]).toNat = b := ⟨_, rfl⟩
      rw [hbe] at hb1 hb2
      have hc' : Hid (10 * c + (b - 48) = dval 0 (D.data.toList.take (k + 1))) := Lib.hid (by rw [byte_take hlt, dval_snoc, ← hc.out, hbe])
      have hs' : Hid (s * 10 = 10 ^ (k + 1)) := Lib.hid (by rw [Nat.pow_succ, hs.out])
      have e1 : ((10 : Int) * (c : Int) + ((b : Int) - 48)) = ((10 * c + (b - 48) : Nat) : Int) := by omega
      go_wp2_with fail
      go_roundw
      case rel => exact ⟨k + 1, 10 * c + (b - 48), s * 10, by omega, by go_num, by go_num, by go_num, by omega, hc', hs', by trivial⟩
      case measure => simp [intOf]; omega
    · obtain rfl : k = D.size := by omega
      have hU' : Hid (s * val xs + c = U) := Lib.hid (by
        rw [← hU.out, dval_lin, hc.out, hs.out, List.take_of_length_le (by simp)]
        simp)
      clear hc hs
      go_wp2_with fail
      go_loopw [4, 27] (fun cv iv wr => ∃ (k d : Nat) (zs : List Nat), k ≤ n ∧ iv = .int .i64 (k : Nat) ∧ cv = .int .u64 (d : Nat) ∧ d < s ∧ Hid (Scale xs zs s c k d) ∧ Row wr g zs ∧ Hid (Limbs zs) ∧ w.grownBy wr (some g)) (fun _ iv _ => n - (intOf iv).toNat)
      case atStart => exact ⟨0, c, xs, Nat.zero_le _, rfl, rfl, hcs, Lib.hid (scale_zero _ _ _), hr, Lib.hid HX.out, World.grownBy.refl _ _⟩
      case round =>
        clear hr
        obtain ⟨k, d, zs, hk, rfl, rfl, hds, hsc, hrow, hzs, hgr⟩ := hrel
        by_cases hlt : k < n
        · have hzl : zs.length = n := by rw [hsc.out.2.2, HL.out]
          have hcell := hrow.cell k (by omega)
          have hfree := hrow.free k
          rw [hsc.out.2.1 k (Nat.le_refl _)] at hcell
          obtain ⟨x, hxe⟩ : ∃ x, x = xs.getD k 0 := ⟨_, rfl⟩
          have hxl : x < 4294967296 := by rw [hxe]; exact HX.out.getD _
          rw [← hxe] at hcell
          have hfit := scale_fits hs9 hds hxl
          obtain ⟨p, hp⟩ : ∃ p, p = x * s := ⟨_, rfl⟩
          rw [← hp] at hfit
          have hpi : (x : Int) * (s : Int) = (p : Int) := by rw [hp]; exact (Int.natCast_mul x s).symm
          obtain ⟨hf1, hf2⟩ := hfit
          obtain ⟨lo, hlo⟩ : ∃ lo, lo = (d + p) % 4294967296 := ⟨_, rfl⟩
          obtain ⟨h', hhi⟩ : ∃ h', h' = (d + p) / 4294967296 := ⟨_, rfl⟩
          have hlol : lo < 4294967296 := by omega
          have hstep : Hid (Scale xs (zs.set k lo) s c (k + 1) h') := Lib.hid (scale_step hsc.out (by rw [HL.out]; exact hlt) (by rw [← hxe, ← hp]; omega))
          have e1 : ((d : Int) + (p : Int)) % 4294967296 = (lo : Int) := by omega
          have e2 : ((d : Int) + (p : Int)) / 4294967296 = (h' : Int) := by omega
          rw [← hhi] at hf2
          clear hsc hxe hp hzl hlo hhi
          go_wp2_with fail
          go_roundw
          case rel => exact ⟨k + 1, h', zs.set k lo, by omega, by go_num, rfl, hf2, hstep, hrow.set _ _, Lib.hid (hzs.out.set _ _ hlol), grown_trans hgr (grown_setCell _ _)⟩
          case measure => simp [intOf]; omega
        · obtain rfl : k = n := by omega
          have hfin : GroupP w g k U (.returned (.tuple #[])) wr := by
            have h1 := hsc.out
            rw [← HL.out] at h1
            have := scale_done h1 (by rw [hU'.out, HL.out]; exact hUn.out)
            exact ⟨zs, rfl, hrow, by rw [h1.2.2, HL.out], hzs.out, by rw [this]; exact hU'.out, hgr⟩
          clear hsc hgr
          go_wp2_with fail
          go_end0
          exact hfin
end Go.Proofs.YtjgaeodihijalaaDoor
