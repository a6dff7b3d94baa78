/- The sanity check of the laws returns true; which arguments are too long to be looked at. -/
import Derived.Test.YtfoffjnffkgnaaaDoorW8
namespace Go.Proofs.YtfoffjnffkgnaaaDoor
open Go.RowKit NatM

def AwakeP (w : World) (e : Ending) (w' : World) : Prop := e = .returned (.bool true) ∧ Add w w'
theorem fmt_awake : FmtIs ⟨#[52, 50, 57, 52, 57, 54, 55, 50, 57, 54]⟩ 4294967296 :=
  .inr ⟨by decide, [6, 9, 2, 7, 6, 9, 4, 9, 2, 4], by intro d hd; simp at hd; omega, rfl, by decide, by decide⟩
theorem small_pw {N : Nat} (h : N < pw 400) : N < pw 512 := Nat.lt_of_lt_of_le h (pw_le (by decide))
theorem two_pw : (4294967296 : Nat) < pw 512 := by
  have h1 : pw 2 ≤ pw 512 := pw_le (by decide)
  have h2 : (4294967296 : Nat) < pw 2 := by decide
  omega

set_option maxRecDepth 100000 in
set_option maxHeartbeats 1000000 in
theorem awake_any (w : World) : Calls Tryd.prog 8 #[] w (AwakeP w) := by
  go_enter Tryd.func8, Tryd.ntmps8
  go_wp2_with fail
  refine (make_any 4294967295 w (by decide) (by decide)).mono ?_
  rintro e w1 ⟨va, rfl, ⟨xs, hx, cx, hxv⟩, h1⟩
  go_wp2_with fail
  refine (make_any 1 w1 (by decide) (by decide)).mono ?_
  rintro e w2 ⟨vb, rfl, ⟨ys, hy, cy, hyv⟩, h2⟩
  have hs : val xs + val ys = 4294967296 := by rw [hxv, hyv]; rfl
  have hxl : xs.length ≤ 1000000 := by
    have : tlen xs ≤ 2 := tlen_le_of_val 2 (by rw [hxv]; decide)
    unfold Canon at cx; omega
  have hyl : ys.length ≤ 1000000 := by
    have : tlen ys ≤ 2 := tlen_le_of_val 2 (by rw [hyv]; decide)
    unfold Canon at cy; omega
  have hx2 := hx.mono h2
  have HS := Lib.hid hs
  clear hs hxv hyv
  go_wp2_with fail
  refine (add_ok _ _ _ _ _ hx2 hy hxl hyl (by rw [HS.out]; exact two_pw)).mono ?_
  rintro e w3 ⟨vs, rfl, ⟨zs, hz, cz, hzv⟩, h3⟩
  rw [HS.out] at hzv
  have hz01 : zs = [0, 1] := canon_inj hz.limbs (by intro x hx; simp at hx; omega) cz rfl (by rw [hzv]; rfl)
  subst hz01
  go_wp2_with fail
  refine (format_ok _ _ _ hz (by decide) (by rw [hzv]; exact two_pw)).mono ?_
  rintro e w4 ⟨s, rfl, hf, -, h4⟩
  rw [hzv] at hf
  have hse := hf.uniq fmt_awake
  subst hse
  have hz4 := hz.mono h4
  obtain ⟨ao, n, c, rfl, hl, hc, hm, -, hr⟩ := hz4
  obtain rfl : 2 = n := hl
  obtain ⟨b, off, rfl, g⟩ := hr (by decide)
  have g0 : w4.cell? ⟨b, off, none⟩ = some (.int .u32 0) := by simpa using g 0 (by decide)
  have g1 : w4.cell? ⟨b, off + 1, none⟩ = some (.int .u32 1) := by simpa using g 1 (by decide)
  clear g hr hf hzv
  go_wp2_with fail
  go_ret
  exact ⟨rfl, Add.trans h1 (Add.trans h2 (Add.trans h3 h4))⟩

def lenV : Value → Nat
  | .slice _ n _ => n
  | _ => 0
def IsSlice (v : Value) : Prop := ∃ a n c, v = .slice a n c ∧ n ≤ 9223372036854775807
theorem Reads.isSlice {w : World} {v : Value} {xs : List Nat} (h : Reads w v xs) : IsSlice v := by
  obtain ⟨ao, n, c, rfl, _, hc, hm, _⟩ := h
  unfold maxLen at hm
  exact ⟨ao, n, c, rfl, by omega⟩
theorem Reads.lenV {w : World} {v : Value} {xs : List Nat} (h : Reads w v xs) : lenV v = xs.length := by
  obtain ⟨ao, n, c, rfl, hl, _⟩ := h
  exact hl.symm

/-- What long answers: is one of the lists longer than 60? -/
def LongP (w : World) (b : Bool) (e : Ending) (w' : World) : Prop := e = .returned (.bool b) ∧ w = w'
theorem long_is (b : Bool) (g n : Nat) (L : List Value) (w : World) (hl : L.length = n) (hn : n ≤ 1000) (hc : ∀ i, i < n → w.cell? ⟨g, i, none⟩ = some (L.getD i (.slice none 0 0)))
    (hs : ∀ i, i < n → IsSlice (L.getD i (.slice none 0 0))) (hb : L.any (fun v => decide (60 < lenV v)) = b) :
    Calls Tryd.prog 7 #[.slice (some ⟨g, 0, none⟩) n n] w (LongP w b) := by
  have HL := Lib.hid hl
  have HC := Lib.hid hc
  have HS := Lib.hid hs
  have HB := Lib.hid hb
  clear hl hc hs hb
  go_enter Tryd.func7, Tryd.ntmps7
  go_wp2_with fail
  go_loop [3] (fun i => ∃ k : Nat, k ≤ n ∧ i = .int .i64 (k : Nat) ∧ Hid ((L.take k).any (fun v => decide (60 < lenV v)) = false)) (fun i => n - (intOf i).toNat)
  case atStart => exact ⟨0, Nat.zero_le _, rfl, Lib.hid (by simp)⟩
  case round =>
    obtain ⟨k, hk, rfl, hpre⟩ := hrel
    by_cases hlt : k < n
    · have hcell := HC.out k hlt
      obtain ⟨a, m, c, hv, hm⟩ := HS.out k hlt
      rw [hv] at hcell
      have hget : L[k]? = some (.slice a m c) := by
        have h1 : k < L.length := by rw [HL.out]; exact hlt
        rw [← hv]; simp [List.getD, h1]
      have HG := Lib.hid hget
      clear hv hget
      by_cases h60 : 60 < m
      · have hF : LongP w b (.returned (.bool true)) w := by
          refine ⟨?_, rfl⟩
          rw [← HB.out]
          have : L.any (fun v => decide (60 < lenV v)) = true := List.any_eq_true.2 ⟨_, List.mem_of_getElem? HG.out, (show decide (60 < m) = true from decide_eq_true h60)⟩
          rw [this]
        go_wp2_with fail
        go_ret
        exact hF
      · go_wp2_with fail
        go_round
        case rel =>
          refine ⟨k + 1, by omega, by go_num, Lib.hid ?_⟩
          rw [List.take_add_one, List.any_append, hpre.out, HG.out]
          have e : decide (60 < lenV (.slice a m c)) = false := decide_eq_false h60
          simp [e]
        case measure => simp [intOf]; omega
    · obtain rfl : k = n := by omega
      have hF : LongP w b (.returned (.bool false)) w := by
        refine ⟨?_, rfl⟩
        have h1 := hpre.out
        rw [List.take_of_length_le (by rw [HL.out]; exact Nat.le_refl _), HB.out] at h1
        rw [h1]
      go_wp2_with fail
      go_ret
      exact hF
end Go.Proofs.YtfoffjnffkgnaaaDoor
