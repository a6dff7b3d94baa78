/- Package field: the sanity check of the laws; the laws FieldLaws, FieldExact and FieldPowers, their walks for all arguments. -/
import Derived.Test.YtahjijpoihljjaaG4
namespace Go.Proofs.Ytahjijpoihljjaa
open Go.RowKit GfM

/-- True is returned, and nothing changes. -/
def RetT (w : World) (e : Ending) (w' : World) : Prop := e = .returned (.bool true) ∧ w = w'
theorem iv2 : iv 2 = 142 := by decide +kernel
theorem gm1282 : gm 128 2 = 29 := by decide +kernel
set_option maxRecDepth 100000 in
theorem awake_any (w : World) : Calls Try.prog 22 #[] w (RetT w) := by
  have C1 : Hid (∀ w, Calls Try.prog 10 #[.int .u8 2] w (fun e w' => e = .returned (.tuple #[.int .u8 142, .int .i64 0]) ∧ w = w')) := Lib.hid fun w => (inv_any 2 (by decide) w).mono fun _ _ h => ⟨by rw [h.1, iv2]; rfl, h.2⟩
  have C2 : Hid (∀ w, Calls Try.prog 10 #[.int .u8 0] w (fun e w' => e = .returned (.tuple #[.int .u8 0, .int .i64 3]) ∧ w = w')) := Lib.hid fun w => (inv_any 0 (by decide) w).mono fun _ _ h => ⟨by rw [h.1]; rfl, h.2⟩
  have C3 : Hid (∀ w, Calls Try.prog 18 #[.int .u8 128, .int .u8 2] w (fun e w' => e = .returned (.int .u8 29) ∧ w = w')) := Lib.hid fun w => (mul_any 128 2 (by decide) (by decide) w).mono fun _ _ h => ⟨by rw [h.1, gm1282]; rfl, h.2⟩
  go_enter Try.func22, Try.ntmps22
  go_wp2_with first | (go_at_call 10; (with_reducible refine (C1.out _).mono ?_); rintro e w' ⟨rfl, rfl⟩) | (go_at_call 10; (with_reducible refine (C2.out _).mono ?_); rintro e w' ⟨rfl, rfl⟩) | (go_at_call 18; (with_reducible refine (C3.out _).mono ?_); rintro e w' ⟨rfl, rfl⟩)
  go_ret
  exact ⟨rfl, rfl⟩
theorem mulE {a b n : Nat} (ha : a < 256) (hb : b < 256) (e : gm a b = n) (w : World) : Calls Try.prog 18 #[.int .u8 (a : Nat), .int .u8 (b : Nat)] w (RetB w n) := e ▸ mul_any a b ha hb w
theorem addE {a b n : Nat} (ha : a < 256) (hb : b < 256) (e : a ^^^ b = n) (w : World) : Calls Try.prog 16 #[.int .u8 (a : Nat), .int .u8 (b : Nat)] w (RetB w n) := e ▸ add_any a b ha hb w
theorem sq_sum (x y m : Nat) : (x ^^^ m) ^^^ (m ^^^ y) = x ^^^ y := by
  rw [Nat.xor_assoc, ← Nat.xor_assoc m m y, Nat.xor_self, Nat.zero_xor]
set_option maxRecDepth 100000 in
set_option maxHeartbeats 4000000 in
/-- FieldLaws, with what the guards at 0 come to told ahead. -/
theorem laws_case (a b c : Nat) (ha : a < 256) (hb : b < 256) (hc : c < 256) (za zb zp : Bool) (hza : ((a : Int) != 0) = za) (hzb : ((b : Int) != 0) = zb) (hzb' : ((b : Int) == 0) = !zb) (hzp : ((gm a b : Int) == 0) = zp) (hg : (za && zb && zp) = false) (w : World) : Calls Try.prog 4 #[.int .u8 (a : Nat), .int .u8 (b : Nat), .int .u8 (c : Nat)] w (RetT w) := by
  obtain ⟨p, hp⟩ : ∃ p, p = gm a b := ⟨_, rfl⟩
  have lp : p < 256 := by rw [hp]; exact gm_lt ha
  obtain ⟨r, hr⟩ : ∃ r, r = gm p c := ⟨_, rfl⟩
  have lr : r < 256 := by rw [hr]; exact gm_lt lp
  obtain ⟨s, hs⟩ : ∃ s, s = gm b c := ⟨_, rfl⟩
  have ls : s < 256 := by rw [hs]; exact gm_lt hb
  obtain ⟨t, ht⟩ : ∃ t, t = b ^^^ c := ⟨_, rfl⟩
  have lt : t < 256 := by rw [ht]; exact xor_lt hb hc
  obtain ⟨u, hu⟩ : ∃ u, u = gm a t := ⟨_, rfl⟩
  have lu : u < 256 := by rw [hu]; exact gm_lt ha
  obtain ⟨v, hv⟩ : ∃ v, v = gm a c := ⟨_, rfl⟩
  have lv : v < 256 := by rw [hv]; exact gm_lt ha
  obtain ⟨d, hd⟩ : ∃ d, d = a ^^^ b := ⟨_, rfl⟩
  have ld : d < 256 := by rw [hd]; exact xor_lt ha hb
  obtain ⟨z, hz⟩ : ∃ z, z = gm d d := ⟨_, rfl⟩
  have lz : z < 256 := by rw [hz]; exact gm_lt ld
  obtain ⟨x, hx⟩ : ∃ x, x = gm a a := ⟨_, rfl⟩
  have lx : x < 256 := by rw [hx]; exact gm_lt ha
  obtain ⟨y, hy⟩ : ∃ y, y = gm b b := ⟨_, rfl⟩
  have ly : y < 256 := by rw [hy]; exact gm_lt hb
  obtain ⟨i, hi⟩ : ∃ i, i = iv b := ⟨_, rfl⟩
  have li : i < 256 := by rw [hi]; exact iv_lt b
  obtain ⟨q, hq⟩ : ∃ q, q = gm a i := ⟨_, rfl⟩
  have lq : q < 256 := by rw [hq]; exact gm_lt ha
  rw [← hp] at hzp
  have C1 : Hid (∀ w, Calls Try.prog 18 #[.int .u8 (a : Nat), .int .u8 (b : Nat)] w (RetB w p)) := Lib.hid fun w => mulE (by assumption) (by assumption) (show gm a b = p by rw [← hp]) w
  have C2 : Hid (∀ w, Calls Try.prog 18 #[.int .u8 (b : Nat), .int .u8 (a : Nat)] w (RetB w p)) := Lib.hid fun w => mulE (by assumption) (by assumption) (show gm b a = p by rw [gm_comm hb ha, ← hp]) w
  have C3 : Hid (∀ w, Calls Try.prog 18 #[.int .u8 (p : Nat), .int .u8 (c : Nat)] w (RetB w r)) := Lib.hid fun w => mulE (by assumption) (by assumption) (show gm p c = r by rw [← hr]) w
  have C4 : Hid (∀ w, Calls Try.prog 18 #[.int .u8 (b : Nat), .int .u8 (c : Nat)] w (RetB w s)) := Lib.hid fun w => mulE (by assumption) (by assumption) (show gm b c = s by rw [← hs]) w
  have C5 : Hid (∀ w, Calls Try.prog 18 #[.int .u8 (a : Nat), .int .u8 (s : Nat)] w (RetB w r)) := Lib.hid fun w => mulE (by assumption) (by assumption) (show gm a s = r by rw [hr, hp, hs, gm_assoc ha hb hc]) w
  have C6 : Hid (∀ w, Calls Try.prog 16 #[.int .u8 (b : Nat), .int .u8 (c : Nat)] w (RetB w t)) := Lib.hid fun w => addE (by assumption) (by assumption) (show b ^^^ c = t by rw [← ht]) w
  have C7 : Hid (∀ w, Calls Try.prog 18 #[.int .u8 (a : Nat), .int .u8 (t : Nat)] w (RetB w u)) := Lib.hid fun w => mulE (by assumption) (by assumption) (show gm a t = u by rw [← hu]) w
  have C8 : Hid (∀ w, Calls Try.prog 18 #[.int .u8 (a : Nat), .int .u8 (c : Nat)] w (RetB w v)) := Lib.hid fun w => mulE (by assumption) (by assumption) (show gm a c = v by rw [← hv]) w
  have C9 : Hid (∀ w, Calls Try.prog 16 #[.int .u8 (p : Nat), .int .u8 (v : Nat)] w (RetB w u)) := Lib.hid fun w => addE (by assumption) (by assumption) (show p ^^^ v = u by rw [hp, hv, hu, ht, gm_xor_r]) w
  have C10 : Hid (∀ w, Calls Try.prog 16 #[.int .u8 (a : Nat), .int .u8 (a : Nat)] w (fun e w' => e = .returned (.int .u8 0) ∧ w = w')) := Lib.hid fun w => (add_any a a ha ha w).mono fun _ _ h => ⟨by rw [h.1, xor_self]; rfl, h.2⟩
  have C11 : Hid (∀ w, Calls Try.prog 18 #[.int .u8 (a : Nat), .int .u8 1] w (RetB w a)) := Lib.hid fun w => by have := mul_any a 1 ha (by decide) w; rw [gm_one_r ha] at this; exact this
  have C12 : Hid (∀ w, Calls Try.prog 16 #[.int .u8 (a : Nat), .int .u8 (b : Nat)] w (RetB w d)) := Lib.hid fun w => addE (by assumption) (by assumption) (show a ^^^ b = d by rw [← hd]) w
  have C13 : Hid (∀ w, Calls Try.prog 18 #[.int .u8 (d : Nat), .int .u8 (d : Nat)] w (RetB w z)) := Lib.hid fun w => mulE (by assumption) (by assumption) (show gm d d = z by rw [← hz]) w
  have C14 : Hid (∀ w, Calls Try.prog 18 #[.int .u8 (a : Nat), .int .u8 (a : Nat)] w (RetB w x)) := Lib.hid fun w => mulE (by assumption) (by assumption) (show gm a a = x by rw [← hx]) w
  have C15 : Hid (∀ w, Calls Try.prog 18 #[.int .u8 (b : Nat), .int .u8 (b : Nat)] w (RetB w y)) := Lib.hid fun w => mulE (by assumption) (by assumption) (show gm b b = y by rw [← hy]) w
  have C16 : Hid (∀ w, Calls Try.prog 16 #[.int .u8 (x : Nat), .int .u8 (y : Nat)] w (RetB w z)) := Lib.hid fun w => addE (by assumption) (by assumption) (show x ^^^ y = z by rw [hx, hy, hz, hd, gm_xor_r, gm_xor_l _ ha hb, gm_xor_l _ ha hb, gm_comm hb ha, sq_sum]) w
  have HB : Hid (zb = true → zE b = 0 ∧ gm i b = 1 ∧ gm q b = a) := Lib.hid fun e => by
    have k0 : b ≠ 0 := by intro h; subst h; rw [← hzb] at e; simp at e
    have e1 : gm i b = 1 := by rw [hi, iv_of k0]; exact gm_inv hb k0
    exact ⟨zE_ne k0, e1, by rw [hq, gm_assoc ha li hb, e1, gm_one_r ha]⟩
  have C17 : Hid (∀ w, Calls Try.prog 10 #[.int .u8 (b : Nat)] w (RetBE w i (zE b))) := Lib.hid fun w => by rw [hi]; exact inv_any b hb w
  have C18 : Hid (∀ w, Calls Try.prog 12 #[.int .u8 (a : Nat), .int .u8 (b : Nat)] w (RetBE w q (zE b))) := Lib.hid fun w => by rw [hq, hi]; exact div_any a b ha hb w
  have C19 : Hid (∀ w, Calls Try.prog 18 #[.int .u8 (i : Nat), .int .u8 (b : Nat)] w (RetB w (gm i b))) := Lib.hid fun w => mul_any i b li hb w
  have C20 : Hid (∀ w, Calls Try.prog 18 #[.int .u8 (q : Nat), .int .u8 (b : Nat)] w (RetB w (gm q b))) := Lib.hid fun w => mul_any q b lq hb w
  clear hp hr hs ht hu hv hd hz hx hy hi hq lp lr ls lt lu lv ld lz lx ly li lq
  cases zb with
  | false =>
    clear HB C17 C18 C19 C20
    have hzb1 : ((b : Int) == 0) = true := hzb'
    clear hzb' hg
    cases za <;> (
      go_enter Try.func4, Try.ntmps4
      go_wp2_with first | (go_at_call 18; (with_reducible refine (C1.out _).mono ?_); rintro e w' ⟨rfl, rfl⟩) | (go_at_call 18; (with_reducible refine (C2.out _).mono ?_); rintro e w' ⟨rfl, rfl⟩) | (go_at_call 18; (with_reducible refine (C3.out _).mono ?_); rintro e w' ⟨rfl, rfl⟩) | (go_at_call 18; (with_reducible refine (C4.out _).mono ?_); rintro e w' ⟨rfl, rfl⟩) | (go_at_call 18; (with_reducible refine (C5.out _).mono ?_); rintro e w' ⟨rfl, rfl⟩) | (go_at_call 18; (with_reducible refine (C7.out _).mono ?_); rintro e w' ⟨rfl, rfl⟩) | (go_at_call 18; (with_reducible refine (C8.out _).mono ?_); rintro e w' ⟨rfl, rfl⟩) | (go_at_call 18; (with_reducible refine (C11.out _).mono ?_); rintro e w' ⟨rfl, rfl⟩) | (go_at_call 18; (with_reducible refine (C13.out _).mono ?_); rintro e w' ⟨rfl, rfl⟩) | (go_at_call 18; (with_reducible refine (C14.out _).mono ?_); rintro e w' ⟨rfl, rfl⟩) | (go_at_call 18; (with_reducible refine (C15.out _).mono ?_); rintro e w' ⟨rfl, rfl⟩) | (go_at_call 16; (with_reducible refine (C6.out _).mono ?_); rintro e w' ⟨rfl, rfl⟩) | (go_at_call 16; (with_reducible refine (C9.out _).mono ?_); rintro e w' ⟨rfl, rfl⟩) | (go_at_call 16; (with_reducible refine (C10.out _).mono ?_); rintro e w' ⟨rfl, rfl⟩) | (go_at_call 16; (with_reducible refine (C12.out _).mono ?_); rintro e w' ⟨rfl, rfl⟩) | (go_at_call 16; (with_reducible refine (C16.out _).mono ?_); rintro e w' ⟨rfl, rfl⟩) | (go_at_call 22; refine (awake_any _).mono ?_; rintro e w' ⟨rfl, rfl⟩)
      go_ret
      exact ⟨rfl, rfl⟩)
  | true =>
    obtain ⟨e1, e2, e3⟩ := HB.out rfl
    rw [e1] at C17 C18
    rw [e2] at C19
    rw [e3] at C20
    have hzb1 : ((b : Int) == 0) = false := hzb'
    have C21 : Hid (∀ w, Calls Try.prog 18 #[.int .u8 (i : Nat), .int .u8 (b : Nat)] w (fun e w' => e = .returned (.int .u8 1) ∧ w = w')) := C19
    clear hzb' HB e1 e2 e3 C19
    cases za with
    | false =>
      go_enter Try.func4, Try.ntmps4
      go_wp2_with first | (go_at_call 18; (with_reducible refine (C1.out _).mono ?_); rintro e w' ⟨rfl, rfl⟩) | (go_at_call 18; (with_reducible refine (C2.out _).mono ?_); rintro e w' ⟨rfl, rfl⟩) | (go_at_call 18; (with_reducible refine (C3.out _).mono ?_); rintro e w' ⟨rfl, rfl⟩) | (go_at_call 18; (with_reducible refine (C4.out _).mono ?_); rintro e w' ⟨rfl, rfl⟩) | (go_at_call 18; (with_reducible refine (C5.out _).mono ?_); rintro e w' ⟨rfl, rfl⟩) | (go_at_call 18; (with_reducible refine (C7.out _).mono ?_); rintro e w' ⟨rfl, rfl⟩) | (go_at_call 18; (with_reducible refine (C8.out _).mono ?_); rintro e w' ⟨rfl, rfl⟩) | (go_at_call 18; (with_reducible refine (C11.out _).mono ?_); rintro e w' ⟨rfl, rfl⟩) | (go_at_call 18; (with_reducible refine (C13.out _).mono ?_); rintro e w' ⟨rfl, rfl⟩) | (go_at_call 18; (with_reducible refine (C14.out _).mono ?_); rintro e w' ⟨rfl, rfl⟩) | (go_at_call 18; (with_reducible refine (C15.out _).mono ?_); rintro e w' ⟨rfl, rfl⟩) | (go_at_call 16; (with_reducible refine (C6.out _).mono ?_); rintro e w' ⟨rfl, rfl⟩) | (go_at_call 16; (with_reducible refine (C9.out _).mono ?_); rintro e w' ⟨rfl, rfl⟩) | (go_at_call 16; (with_reducible refine (C10.out _).mono ?_); rintro e w' ⟨rfl, rfl⟩) | (go_at_call 16; (with_reducible refine (C12.out _).mono ?_); rintro e w' ⟨rfl, rfl⟩) | (go_at_call 16; (with_reducible refine (C16.out _).mono ?_); rintro e w' ⟨rfl, rfl⟩) | (go_at_call 10; (with_reducible refine (C17.out _).mono ?_); rintro e w' ⟨rfl, rfl⟩) | (go_at_call 12; (with_reducible refine (C18.out _).mono ?_); rintro e w' ⟨rfl, rfl⟩) | (go_at_call 18; (with_reducible refine (C21.out _).mono ?_); rintro e w' ⟨rfl, rfl⟩) | (go_at_call 18; (with_reducible refine (C20.out _).mono ?_); rintro e w' ⟨rfl, rfl⟩) | (go_at_call 22; refine (awake_any _).mono ?_; rintro e w' ⟨rfl, rfl⟩)
      go_ret
      exact ⟨rfl, rfl⟩
    | true =>
      have hzp0 : zp = false := by simpa using hg
      subst hzp0
      go_enter Try.func4, Try.ntmps4
      go_wp2_with first | (go_at_call 18; (with_reducible refine (C1.out _).mono ?_); rintro e w' ⟨rfl, rfl⟩) | (go_at_call 18; (with_reducible refine (C2.out _).mono ?_); rintro e w' ⟨rfl, rfl⟩) | (go_at_call 18; (with_reducible refine (C3.out _).mono ?_); rintro e w' ⟨rfl, rfl⟩) | (go_at_call 18; (with_reducible refine (C4.out _).mono ?_); rintro e w' ⟨rfl, rfl⟩) | (go_at_call 18; (with_reducible refine (C5.out _).mono ?_); rintro e w' ⟨rfl, rfl⟩) | (go_at_call 18; (with_reducible refine (C7.out _).mono ?_); rintro e w' ⟨rfl, rfl⟩) | (go_at_call 18; (with_reducible refine (C8.out _).mono ?_); rintro e w' ⟨rfl, rfl⟩) | (go_at_call 18; (with_reducible refine (C11.out _).mono ?_); rintro e w' ⟨rfl, rfl⟩) | (go_at_call 18; (with_reducible refine (C13.out _).mono ?_); rintro e w' ⟨rfl, rfl⟩) | (go_at_call 18; (with_reducible refine (C14.out _).mono ?_); rintro e w' ⟨rfl, rfl⟩) | (go_at_call 18; (with_reducible refine (C15.out _).mono ?_); rintro e w' ⟨rfl, rfl⟩) | (go_at_call 16; (with_reducible refine (C6.out _).mono ?_); rintro e w' ⟨rfl, rfl⟩) | (go_at_call 16; (with_reducible refine (C9.out _).mono ?_); rintro e w' ⟨rfl, rfl⟩) | (go_at_call 16; (with_reducible refine (C10.out _).mono ?_); rintro e w' ⟨rfl, rfl⟩) | (go_at_call 16; (with_reducible refine (C12.out _).mono ?_); rintro e w' ⟨rfl, rfl⟩) | (go_at_call 16; (with_reducible refine (C16.out _).mono ?_); rintro e w' ⟨rfl, rfl⟩) | (go_at_call 10; (with_reducible refine (C17.out _).mono ?_); rintro e w' ⟨rfl, rfl⟩) | (go_at_call 12; (with_reducible refine (C18.out _).mono ?_); rintro e w' ⟨rfl, rfl⟩) | (go_at_call 18; (with_reducible refine (C21.out _).mono ?_); rintro e w' ⟨rfl, rfl⟩) | (go_at_call 18; (with_reducible refine (C20.out _).mono ?_); rintro e w' ⟨rfl, rfl⟩) | (go_at_call 22; refine (awake_any _).mono ?_; rintro e w' ⟨rfl, rfl⟩)
      go_ret
      exact ⟨rfl, rfl⟩
theorem fieldLaws_any (a b c : Nat) (ha : a < 256) (hb : b < 256) (hc : c < 256) (w : World) : Calls Try.prog 4 #[.int .u8 (a : Nat), .int .u8 (b : Nat), .int .u8 (c : Nat)] w (RetT w) := by
  refine laws_case a b c ha hb hc _ _ _ rfl rfl (by simp [bne]) rfl ?_ w
  by_cases h0 : a = 0
  · simp [h0]
  · by_cases k0 : b = 0
    · simp [k0]
    · have := gm_ne ha hb h0 k0
      simp; omega
end Go.Proofs.Ytahjijpoihljjaa
