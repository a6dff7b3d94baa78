/- Div: its errors and its results. -/
import Derived.Test.YtifpfoeecnkhoaaDoorW15
namespace Go.Proofs.YtifpfoeecnkhoaaDoor
open Go.RowKit NatM

theorem divide_any (va vb : Value) (xs ys : List Nat) (w : World) (ha : Reads w va xs) (hb : Reads w vb ys) (hs : xs.length ≤ 1000000) (hs' : ys.length ≤ 1000000) (hc : Canon ys) (h0 : val ys ≠ 0) :
    Calls Tryd.prog 65 #[va, vb] w (DivideP w (val xs) (val ys)) := by
  rcases Nat.lt_or_ge (val xs) (val ys) with h | h
  · exact divide_less va vb xs ys w ha hb hs h
  · match hl : ys.length with
    | 0 => exact absurd (by rw [List.length_eq_zero_iff.1 hl]; rfl) h0
    | 1 => exact divide_one va vb xs ys w ha hb hs h hl h0
    | m + 2 => exact divide_long va vb xs ys m w ha hb hs hs' h hl hc

def Err2P (w : World) (k : Int) (e : Ending) (w' : World) : Prop := e = .returned (.tuple #[.slice none 0 0, .slice none 0 0, .int .i64 k]) ∧ Add w w'
def Ok2P (w : World) (Q R : Nat) (e : Ending) (w' : World) : Prop := ∃ vq vr, e = .returned (.tuple #[vq, vr, .int .i64 0]) ∧ Num w' vq Q ∧ Num w' vr R ∧ Add w w'

theorem div_big (va vb : Value) (xs ys : List Nat) (w : World) (ha : Reads w va xs) (hb : Reads w vb ys) (hAB : pw 512 ≤ val xs ∨ pw 512 ≤ val ys) :
    Calls Tryd.prog 52 #[va, vb] w (Err2P w 2) := by
  by_cases hA : pw 512 ≤ val xs
  · have LA := big_large ha hA
    clear hA hAB
    go_enter Tryd.func52, Tryd.ntmps52
    go_wp2_with fail
    refine (large_is true _ _ _ ha LA.out).mono ?_; rintro e w' ⟨rfl, rfl⟩
    go_wp2_with fail
    go_ret3
    exact ⟨rfl, Below.refl _ _⟩
  · have LA := small_large ha (by omega)
    have LB := big_large hb (by omega)
    clear hA hAB
    go_enter Tryd.func52, Tryd.ntmps52
    go_wp2_with fail
    refine (large_is false _ _ _ ha LA.out).mono ?_; rintro e w' ⟨rfl, rfl⟩
    go_wp2_with fail
    refine (large_is true _ _ _ hb LB.out).mono ?_; rintro e w' ⟨rfl, rfl⟩
    go_wp2_with fail
    go_ret3
    exact ⟨rfl, Below.refl _ _⟩

theorem div_zero (va vb : Value) (xs ys : List Nat) (w : World) (ha : Reads w va xs) (hb : Reads w vb ys) (hA : val xs < pw 512) (hB : val ys = 0) :
    Calls Tryd.prog 52 #[va, vb] w (Err2P w 3) := by
  have LA := small_large ha hA
  have LB := small_large hb (by rw [hB]; exact pw_pos 512)
  have hz : trim ys = [] := canon_inj (hb.limbs.take _) Limbs.nil (Canon.trim _) rfl (by show val (trim ys) = 0; rw [val_trim, hB])
  have HZ := Lib.hid hz
  clear hA hB hz
  go_enter Tryd.func52, Tryd.ntmps52
  go_wp2_with fail
  refine (large_is false _ _ _ ha LA.out).mono ?_; rintro e w' ⟨rfl, rfl⟩
  go_wp2_with fail
  refine (large_is false _ _ _ hb LB.out).mono ?_; rintro e w' ⟨rfl, rfl⟩
  go_wp2_with fail
  refine (cut_any _ _ _ ha).mono ?_; rintro e w' ⟨va', rfl, rfl, hva, -⟩
  go_wp2_with fail
  refine (cut_any _ _ _ hb).mono ?_; rintro e w' ⟨vb', rfl, rfl, hvb, -⟩
  rw [HZ.out] at hvb
  obtain ⟨ab, nb', cb, rfl, hln, -⟩ := hvb
  obtain rfl : 0 = nb' := hln
  go_wp2_with fail
  go_ret3
  exact ⟨rfl, Below.refl _ _⟩

theorem div_ok (va vb : Value) (xs ys : List Nat) (w : World) (ha : Reads w va xs) (hb : Reads w vb ys) (hs : xs.length ≤ 1000000) (hs' : ys.length ≤ 1000000) (hA : val xs < pw 512) (hB : val ys < pw 512) (h0 : val ys ≠ 0) :
    Calls Tryd.prog 52 #[va, vb] w (Ok2P w (val xs / val ys) (val xs % val ys)) := by
  have LA := small_large ha hA
  have LB := small_large hb hB
  have l1 := tlen_le xs
  have l2 := tlen_le ys
  have htl : (trim ys).length ≠ 0 := by
    intro e
    exact h0 (by rw [← val_trim, List.length_eq_zero_iff.1 e]; rfl)
  obtain ⟨t, hte⟩ : ∃ t, t = (trim ys).length := ⟨_, rfl⟩
  rw [← hte] at htl
  have htne : ((t : Int) == 0) = false := by simp; omega
  have HT := Lib.hid hte
  have H0 := Lib.hid h0
  clear hA hB h0 hte htl
  go_enter Tryd.func52, Tryd.ntmps52
  go_wp2_with fail
  refine (large_is false _ _ _ ha LA.out).mono ?_; rintro e w' ⟨rfl, rfl⟩
  go_wp2_with fail
  refine (large_is false _ _ _ hb LB.out).mono ?_; rintro e w' ⟨rfl, rfl⟩
  go_wp2_with fail
  refine (cut_any _ _ _ ha).mono ?_; rintro e w' ⟨va', rfl, rfl, hva, -⟩
  go_wp2_with fail
  refine (cut_any _ _ _ hb).mono ?_; rintro e w' ⟨vb', rfl, rfl, hvb, -⟩
  have HCALL := Lib.hid (divide_any _ _ _ _ _ hva hvb (by rw [length_trim]; omega) (by rw [length_trim]; omega) (Canon.trim _) (by rw [val_trim]; exact H0.out))
  obtain ⟨ab, nb', cb, rfl, hln, -⟩ := id hvb
  rw [← HT.out] at hln
  obtain rfl : t = nb' := hln
  go_wp2_with fail
  refine HCALL.out.mono ?_
  rintro e w' ⟨vq, vr, rfl, hq, hr, hadd⟩
  rw [val_trim, val_trim] at hq hr
  go_wp2_with fail
  go_ret3
  exact ⟨_, _, rfl, hq, hr.num, hadd⟩
end Go.Proofs.YtifpfoeecnkhoaaDoor
