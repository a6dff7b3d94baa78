/- The division by one limb returns the quotient and the remainder. -/
import Derived.Test.YtifpfoeecnkhoaaDoorW5
import Derived.Test.YtifpfoeecnkhoaaDoorPn
import Derived.Laws.BitsAllLaws
namespace Go.Proofs.YtifpfoeecnkhoaaDoor
open Go.RowKit NatM

theorem join64 (h l : Nat) (hh : h < 4294967296) (hl : l < 4294967296) : bits .or .u64 ((h : Int) * 4294967296) (l : Int) = (h : Int) * 4294967296 + l := by
  have e : ((h : Int) * 4294967296) = ((h * 4294967296 : Nat) : Int) := by omega
  rw [e, u64_or_nat _ _ (by omega) (by omega)]
  have := nat_join 32 (h * 4294967296) l (by omega) (by omega)
  rw [this]; omega

def div32Q (h l y : Nat) : Nat := (h * 4294967296 + l) / y
def div32R (h l y : Nat) : Nat := (h * 4294967296 + l) % y
theorem div32_fn (h l y : Nat) (w : World) (hh : h < 4294967296) (hl : l < 4294967296) (hy : h < y) (hy' : y < 4294967296) :
    Calls Tryd.prog 57 #[.int .u32 (h : Nat), .int .u32 (l : Nat), .int .u32 (y : Nat)] w fun e w' => e = .returned (.tuple #[.int .u32 (div32Q h l y : Nat), .int .u32 (div32R h l y : Nat)]) ∧ ∃ n, w' = w.drewN n := by
  have h1 : decide (y ≤ h) = false := by simp; omega
  have h2 : ((y : Int) != 0) = true := by simp; omega
  have h3 := join64 h l hh hl
  obtain ⟨m, hm⟩ : ∃ m : Nat, m = h * 4294967296 + l := ⟨_, rfl⟩
  have hm1 : (h : Int) * 4294967296 + l = (m : Int) := by omega
  rw [hm1] at h3
  have hb1 : m < y * 4294967296 := by omega
  have hq : m / y < 4294967296 := Nat.div_lt_of_lt_mul hb1
  have hr : m % y < y := Nat.mod_lt _ (by omega)
  have hqi : (m : Int) / (y : Int) < 4294967296 := by rw [← Int.natCast_ediv]; omega
  have hqi0 : 0 ≤ (m : Int) / (y : Int) := Int.ediv_nonneg (by omega) (by omega)
  have hri : (m : Int) % (y : Int) < 4294967296 := by rw [← Int.natCast_emod]; omega
  have hri0 : 0 ≤ (m : Int) % (y : Int) := Int.emod_nonneg _ (by omega)
  have hy1 : 1 ≤ y := by omega
  have hyz : ((y : Int) == 0) = false := by simp; omega
  have hF : ((div32Q h l y : Nat) : Int) = (m : Int) / (y : Int) ∧ ((div32R h l y : Nat) : Int) = (m : Int) % (y : Int) := by
    unfold div32Q div32R; rw [← hm]; exact ⟨Int.natCast_ediv _ _, Int.natCast_emod _ _⟩
  rw [hF.1, hF.2]
  clear hm hF hm1 hb1 hq hr
  go_enter Tryd.func57, Tryd.ntmps57
  go_wp2_with fail
  go_quiet (fail)
  go_wp2_with fail
  go_ret2
  exact ⟨rfl, _, rfl⟩
theorem div32_spec (h l y : Nat) (hy : h < y) (hy' : y < 4294967296) (hl : l < 4294967296) : div32Q h l y < 4294967296 ∧ div32R h l y < y ∧ h * 4294967296 + l = y * div32Q h l y + div32R h l y := by
  unfold div32Q div32R
  refine ⟨Nat.div_lt_of_lt_mul (by omega), Nat.mod_lt _ (by omega), ?_⟩
  exact (Nat.div_add_mod _ _).symm

/-- What divideLimb does: the first m limbs of the row become the quotient, the remainder is returned. -/
def DivLimbP (w : World) (g m d : Nat) (zs0 : List Nat) (e : Ending) (w' : World) : Prop :=
  ∃ zs r, e = .returned (.int .u32 (r : Nat)) ∧ Row w' g zs ∧ Limbs zs ∧ DivAt zs0 zs m d 0 r ∧ w.grownBy w' (some g)
theorem divideLimb_any (g m c d : Nat) (zs0 : List Nat) (w : World) (hrow : Row w g zs0) (hx : Limbs zs0) (hm : m ≤ zs0.length) (hc : m ≤ 1000000) (hd : 0 < d) (hd' : d < 4294967296) :
    Calls Tryd.prog 44 #[.slice (some ⟨g, 0, none⟩) m c, .int .u32 (d : Nat)] w (DivLimbP w g m d zs0) := by
  go_enter Tryd.func44, Tryd.ntmps44
  go_wp2_with fail
  go_loopw [5, 6] (fun r i wr => ∃ (k rr : Nat) (zs : List Nat), k ≤ m ∧ i = .int .i64 ((k : Int) - 1) ∧ r = .int .u32 (rr : Nat) ∧ Row wr g zs ∧ Limbs zs ∧ DivAt zs0 zs m d k rr ∧ w.grownBy wr (some g)) (fun _ i _ => (intOf i + 1).toNat)
  case atStart => exact ⟨m, 0, zs0, Nat.le_refl _, rfl, rfl, hrow, hx, divAt_top _ _ _ hd, World.grownBy.refl _ _⟩
  case round =>
    obtain ⟨k, rr, zs, hk, rfl, rfl, hrow', hzs, hdiv, hgr⟩ := hrel
    by_cases h0 : k = 0
    · subst h0
      go_wp2_with fail
      go_ret
      exact ⟨zs, rr, rfl, hrow', hzs, hdiv, hgr⟩
    · obtain ⟨j, rfl⟩ : ∃ j, k = j + 1 := ⟨k - 1, by omega⟩
      have hjm : j < m := by omega
      have hzl : zs.length = zs0.length := hdiv.1
      have hjl : j < zs.length := by omega
      have hcell := hrow'.cell j hjl
      have hfree := hrow'.free j
      obtain ⟨x, hxe⟩ : ∃ x, x = zs.getD j 0 := ⟨_, rfl⟩
      have hxl : x < 4294967296 := by rw [hxe]; exact hzs.getD j
      have hx0 : x = zs0.getD j 0 := by rw [hxe]; exact hdiv.2.2.2.1 j (by omega)
      rw [← hxe] at hcell
      have hrd := hdiv.2.1
      have hrl : rr < 4294967296 := by omega
      have hsp := div32_spec rr x d hrd hd' hxl
      have HSP := Lib.hid hsp
      have HX := Lib.hid hx0
      have HZL := Lib.hid hzl
      clear hsp hx0 hzl hxe
      go_wp2_with (go_at_call 57; refine (div32_fn rr x d _ hrl hxl hrd hd').mono ?_; rintro e w' ⟨rfl, q, rfl⟩)
      go_roundw
      case rel =>
        have h3 := HSP.out
        have hrow2 : Row ((wr.drewN q).setCell ⟨g, j, none⟩ (.int .u32 (div32Q rr x d : Nat))) g (zs.set j (div32Q rr x d)) := Row.set (w := wr.drewN q) hrow' j _
        exact ⟨j, _, _, by omega, by go_num, rfl, hrow2, hzs.set j _ h3.1, divAt_step hdiv hjm hm h3.2.1 (by rw [← HX.out]; exact h3.2.2), grown_trans (grown_drewN hgr q) (grown_setCell j _)⟩
      case measure => simp [intOf]
end Go.Proofs.YtifpfoeecnkhoaaDoor
