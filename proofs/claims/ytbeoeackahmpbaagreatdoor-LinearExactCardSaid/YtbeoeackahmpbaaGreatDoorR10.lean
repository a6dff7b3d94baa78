/- The reference's Bits, up and down. -/
import Derived.Test.YtbeoeackahmpbaaGreatDoorJS
import Derived.Test.YtbeoeackahmpbaaGreatDoorJF
namespace Go.Proofs.YtbeoeackahmpbaaGreatDoor
open Go.RowKit NatM Go.Proofs.YtbeoeackahmpbaaGreatDoor.Api

set_option maxRecDepth 100000 in
set_option maxHeartbeats 4000000 in
theorem refBits_any (va : Value) (xs : List Nat) (w : World) (ha : Reads w va xs) (hs : xs.length ≤ 100000) :
    Calls Tryz.prog 78 #[va] w (IntIs w (nb (val xs) : Nat)) := by
  have HT := Lib.hid (refTrim_any va xs w ha (by omega))
  obtain ⟨N, hN⟩ : ∃ N, N = val xs := ⟨_, rfl⟩
  have hlb : Hid (tlen xs ≤ 100000) := Lib.hid (Nat.le_trans (tlen_le xs) hs)
  obtain ⟨K, hK⟩ : ∃ K, xs.length = K := ⟨_, rfl⟩
  have hvb : Hid (N < pw K) := Lib.hid (by rw [hN, ← hK]; exact val_lt ha.limbs)
  have hKb : K ≤ 100000 := by omega
  clear hK
  rw [← hN] at HT ⊢
  clear ha hs hN
  go_enter Tryz.func78, Tryz.ntmps78
  go_wp2_with fail
  refine HT.out.mono ?_; rintro e w1 ⟨v, rfl, no, h1⟩
  clear HT
  obtain ⟨zs, hr, hc, hv, hl⟩ := no.reads hvb.out
  have hz := hr.limbs
  clear no
  obtain ⟨ao, n, c, rfl, hzl, -, -, -, -⟩ := id hr
  by_cases h0 : n = 0
  · subst h0
    have hN0 : N = 0 := by rw [← hv, val_eq_zero]; unfold Canon at hc; omega
    have hF : IntIs w (nb N : Nat) (.returned (.int .i64 0)) w1 := ⟨by rw [hN0]; rfl, h1⟩
    clear hN0 hv hr hc hzl hl
    go_wp2_with fail
    go_ret
    exact hF
  · obtain ⟨j, rfl⟩ : ∃ j, n = j + 1 := ⟨n - 1, by omega⟩
    obtain ⟨b, off, rfl, hcell⟩ := hr.cell (k := j) (by omega)
    obtain ⟨T, hT⟩ : ∃ T, T = zs.getD j 0 := ⟨_, rfl⟩
    have hTl : T < 4294967296 := by rw [hT]; exact hz.getD j
    rw [← hT] at hcell
    have hnbv : Hid (nb N = 32 * j + nb T) := Lib.hid (by
      have := nb_val hz (by unfold Canon at hc; omega)
      rw [hv] at this
      rw [this, hT]
      unfold Canon at hc
      rw [hc, hzl]; rfl)
    have hjb : j ≤ 100000 := by omega
    clear hv hr hc hzl hl hz hT h0
    go_wp2_with fail
    go_loopw [3, 4] (fun nv tv wr => ∃ (q t : Nat), nv = .int .i64 (q : Nat) ∧ tv = .int .u32 (t : Nat) ∧ t < 4294967296 ∧ Hid (q + nb t = nb N) ∧ q ≤ 3200032 ∧ q + nb t ≤ 3200032 ∧ w1 = wr) (fun _ tv _ => (intOf tv).toNat)
    case atStart => exact ⟨32 * j, T, by go_num, rfl, hTl, Lib.hid hnbv.out.symm, by omega, by have := nb_limb hTl; omega, rfl⟩
    case round =>
      obtain ⟨q, t, rfl, rfl, htl, hq, hqb, hqt, rfl⟩ := hrel
      by_cases ht : t = 0
      · subst ht
        have hF : IntIs w (nb N : Nat) (.returned (.int .i64 (q : Nat))) w1 := ⟨by rw [← hq.out, nb_zero, Nat.add_zero], h1⟩
        go_wp2_with fail
        go_ret
        exact hF
      · have h2 := nb_half ht
        have dt : decide (0 < t) = true := by simp; omega
        have hq' : Hid (q + 1 + nb (t / 2) = nb N) := Lib.hid (by have := hq.out; omega)
        have hb' : q + 1 + nb (t / 2) ≤ 3200032 := by omega
        clear h2
        go_wp2_with fail
        go_roundw
        case rel => exact ⟨q + 1, t / 2, by go_num, by go_num, by omega, hq', by omega, hb', by trivial⟩
        case measure => simp [intOf]; omega

/-- k limbs are shifted up by t behind the zeros, c is the carry. -/
def UpL (xs us : List Nat) (t c : Nat) : Prop := val us + pw us.length * c = val (xs.take us.length) * 2 ^ t ∧ c < 2 ^ t
theorem upL_zero (xs : List Nat) (t : Nat) : UpL xs [] t 0 := by
  refine ⟨by simp [val], Nat.pow_pos (by decide)⟩
theorem upL_step {xs us : List Nat} {t c lo hi : Nat} (h : UpL xs us t c) (hx : xs.getD us.length 0 < 4294967296) (e : lo + 4294967296 * hi = xs.getD us.length 0 * 2 ^ t + c) : UpL xs (us ++ [lo]) t hi := by
  obtain ⟨h1, h2⟩ := h
  refine ⟨?_, ?_⟩
  · rw [List.length_append, List.length_singleton, val_append, val_take_succ, pw_succ]
    simp only [val, Nat.mul_zero, Nat.add_zero]
    have e2 : pw us.length * lo + 4294967296 * pw us.length * hi = pw us.length * (lo + 4294967296 * hi) := by rw [Nat.mul_add, Nat.mul_comm 4294967296 (pw us.length), Nat.mul_assoc]
    have e3 : (val (xs.take us.length) + pw us.length * xs.getD us.length 0) * 2 ^ t = val (xs.take us.length) * 2 ^ t + pw us.length * (xs.getD us.length 0 * 2 ^ t) := by rw [Nat.add_mul, Nat.mul_assoc]
    rw [e, Nat.mul_add] at e2
    rw [e3]
    omega
  · have hp : 0 < 2 ^ t := Nat.pow_pos (by decide)
    have h3 : xs.getD us.length 0 * 2 ^ t ≤ 4294967295 * 2 ^ t := Nat.mul_le_mul_right _ (by omega)
    omega
theorem upL_done {xs us : List Nat} {t c s : Nat} (h : UpL xs us t c) (hl : us.length = xs.length) : val (List.replicate s 0 ++ us ++ [c]) = val xs * 2 ^ (32 * s + t) := by
  obtain ⟨h1, _⟩ := h
  rw [hl, List.take_of_length_le (Nat.le_refl _)] at h1
  rw [List.append_assoc, val_append, val_replicate, List.length_replicate, Nat.zero_add, val_append, hl]
  simp only [val, Nat.mul_zero, Nat.add_zero]
  rw [h1, Nat.pow_add, ← pw_two, ← Nat.mul_assoc, ← Nat.mul_assoc, Nat.mul_comm (pw s)]
theorem or_up (x c t : Nat) (hx : x < 4294967296) (hc : c < 2 ^ t) (ht : t < 32) : bits .or .u64 ((x * 2 ^ t : Nat) : Int) (c : Int) = ((x * 2 ^ t + c : Nat) : Int) := by
  have h := shift_le x t hx ht
  have hc2 : c < 4294967296 := Nat.lt_of_lt_of_le hc (Nat.pow_le_pow_right (n := 2) (by decide) (by omega : t ≤ 32))
  rw [u64_or_nat _ _ h (by omega), nat_join t (x * 2 ^ t) c (Nat.mul_mod_left _ _) hc]

/-- What the loop of up keeps. -/
def UpSt (w : World) (xs : List Nat) (s t k : Nat) (out : Value) (c : Nat) (wr : World) : Prop :=
  ∃ us, OwnL wr w.heap.size out (List.replicate s 0 ++ us) ∧ Limbs us ∧ us.length = k ∧ UpL xs us t c ∧ Add w wr
set_option maxRecDepth 100000 in
set_option maxHeartbeats 4000000 in
theorem refUp_any (va : Value) (xs : List Nat) (n : Nat) (w : World) (ha : Reads w va xs) (hs : xs.length ≤ 100000) (hn : n ≤ 1000000) :
    Calls Tryz.prog 111 #[va, .int .i64 (n : Nat)] w (RetO w (val xs * 2 ^ n)) := by
  obtain ⟨i0, hi, hz0, hz1, hz2⟩ := info_parts info93
  obtain ⟨aa, l, ca, rfl, hla, -, -, hx, -⟩ := id ha
  have HLA := Lib.hid hla
  have HRA := Lib.hid ha
  have hl5 : l ≤ 100000 := by omega
  obtain ⟨s, hse⟩ : ∃ s, s = n / 32 := ⟨_, rfl⟩
  obtain ⟨t, hte⟩ : ∃ t, t = n % 32 := ⟨_, rfl⟩
  have hsi : (n : Int) / 32 = (s : Int) := by omega
  have hti : (n : Int) % 32 = (t : Int) := by omega
  have ht32 : t < 32 := by omega
  have hsb : s ≤ 40000 := by omega
  have HNE : Hid (n = 32 * s + t) := Lib.hid (by omega)
  clear hla ha hs hse hte
  by_cases h0 : l = 0
  · subst h0
    have hF : RetO w (val xs * 2 ^ n) (.returned (.slice none 0 0)) w := by
      have : val xs = 0 := by rw [List.length_eq_zero_iff.1 HLA.out]; rfl
      rw [this, Nat.zero_mul]
      exact ⟨_, rfl, ⟨[], OwnL.nil _ _, Limbs.nil, Canon.nil, rfl⟩, Below.refl _ _⟩
    clear hsi hti
    go_enter Tryz.func111, Tryz.ntmps111
    go_wp2_with fail
    go_ret
    exact hF
  · have hne : ((l : Int) == 0) = false := by rw [beq_eq_false_iff_ne]; omega
    clear h0
    go_enter Tryz.func111, Tryz.ntmps111
    go_wp2_with (at_make; refine wpList_make_full _ rfl _ _ 35 rfl w.heap.size 93 i0 (.int .u32 0) 1 Tryz.underlying35 hi hz0 hz1 _ _ _ _ s rfl rfl (by omega) (by omega) (by rw [hz2]; omega) (by unfold maxLen; omega) (Nat.le_refl _) ?_)
    intro w1 hown hgr
    have hadd : Add w w1 := (Below.refl _ _).grown hgr (Nat.le_refl _) (by simp)
    have hst : UpSt w xs s t 0 (.slice (some ⟨w.heap.size, 0, none⟩) s s) 0 w1 := ⟨[], by rw [List.append_nil]; exact OwnL.of_own (Own.made hown), Limbs.nil, rfl, upL_zero _ _, hadd⟩
    clear hgr hown hadd
    go_wp2_with fail
    go_loopw [5, 6, 7] (fun o cv iv wr => ∃ (ov : Value) (k c : Nat), ov = o ∧ cv = .int .u64 (c : Nat) ∧ iv = .int .i64 (k : Nat) ∧ k ≤ l ∧ Hid (c < 2 ^ t) ∧ UpSt w xs s t k ov c wr) (fun _ _ iv _ => l - (intOf iv).toNat)
    case atStart => exact ⟨_, 0, 0, rfl, rfl, rfl, Nat.zero_le _, Lib.hid (Nat.pow_pos (by decide)), hst⟩
    case round =>
      clear hst
      obtain ⟨ov, k, c, rfl, rfl, rfl, hk, hct, us, hown, hul, huk, hup, hadd⟩ := hrel
      have hc4 : c < 4294967296 := Nat.lt_of_lt_of_le hct.out (Nat.pow_le_pow_right (n := 2) (by decide) (by omega : t ≤ 32))
      have hlen : (List.replicate s 0 ++ us).length = s + k := by rw [List.length_append, List.length_replicate, huk]
      have HK := Lib.hid hlen
      have HUK := Lib.hid huk
      have HUP := Lib.hid hup
      clear hlen huk hup
      by_cases hlt : k < l
      · have dlt : decide (k < l) = true := decide_eq_true hlt
        obtain ⟨b1, o1, rfl, hc1⟩ := (HRA.out.mono hadd).cell hlt
        obtain ⟨x, hxe⟩ : ∃ x, x = xs.getD k 0 := ⟨_, rfl⟩
        have hxl : x < 4294967296 := by rw [hxe]; exact hx.getD k
        rw [← hxe] at hc1
        have hfit := shift_le x t hxl ht32
        have e1 := wrap_shift x t hxl ht32
        have e2 := or_up x c t hxl hct.out ht32
        obtain ⟨p, hp⟩ : ∃ p, p = x * 2 ^ t := ⟨_, rfl⟩
        rw [← hp] at hfit e1 e2
        obtain ⟨m, hm⟩ : ∃ m, m = p + c := ⟨_, rfl⟩
        rw [← hm] at e2
        obtain ⟨lo, hlo⟩ : ∃ lo, lo = m % 4294967296 := ⟨_, rfl⟩
        obtain ⟨h', hhi⟩ : ∃ h', h' = m / 4294967296 := ⟨_, rfl⟩
        have hm64 : m < 18446744073709551616 + 4294967296 := by omega
        have hstep : UpL xs (us ++ [lo]) t h' := upL_step HUP.out (by rw [HUK.out, ← hxe]; exact hxl) (by rw [HUK.out, ← hxe, ← hp]; omega)
        have hlol : lo < 4294967296 := by omega
        have hm6 : m < 18446744073709551616 := by
          have h1 : x * 2 ^ t ≤ 4294967295 * 2 ^ t := Nat.mul_le_mul_right _ (by omega)
          have h2 : (2 : Nat) ^ t ≤ 2 ^ 31 := Nat.pow_le_pow_right (by decide) (by omega)
          omega
        have hct' := Lib.hid hstep.2
        have HSTEP := Lib.hid hstep
        have e3 : (m : Int) % 4294967296 = (lo : Int) := by omega
        have e4 : (m : Int) / 4294967296 = (h' : Int) := by omega
        clear hxe hp hm hlo hhi hstep hm64 hfit
        go_wp2_with (at_builtin; refine wpList_append_own _ rfl _ _ 35 rfl w.heap.size 93 i0 (.int .u32 0) 1 4 Tryz.underlying35 hi hz0 hz1 hz2 rfl (by decide) _ _ _ rfl (World.ownsRow.alloc hown _) ⟨wr.heap.size, 0, none⟩ 1 1 [_] rfl rfl (cell_one_new _ _ _) (by intro u hu; simp at hu; subst hu; rfl) (by have := HK.out; unfold maxLen; omega) (by have := HK.out; omega) (by have := hadd.size; simp; omega) ?_)
        intro v' w3 hown3 hgr3 _
        have hst4 : UpSt w xs s t (k + 1) v' h' w3 := ⟨us ++ [lo], by rw [← List.append_assoc]; exact OwnL.grown (us := [lo]) (vs := [lim lo]) (m := 1) (by simpa [lim, Nat.add_assoc] using hown3) rfl rfl, hul.append (Limbs.cons hlol Limbs.nil), by rw [List.length_append, HUK.out]; rfl, HSTEP.out, Below.grown (Below.alloc hadd hadd.size _) hgr3 (by have := hadd.size; simp; omega) (fun k hk => (World.ownsRow.lt hown k hk).1)⟩
        clear hown3 hgr3 hown hadd
        go_wp2_with fail
        go_roundw
        case rel => exact ⟨v', k + 1, h', rfl, rfl, by go_num, by omega, hct', hst4⟩
        case measure => simp [intOf]; omega
      · have dlt : decide (k < l) = false := decide_eq_false hlt
        obtain rfl : k = l := by omega
        go_wp2_with (at_builtin; refine wpList_append_own _ rfl _ _ 35 rfl w.heap.size 93 i0 (.int .u32 0) 1 4 Tryz.underlying35 hi hz0 hz1 hz2 rfl (by decide) _ _ _ rfl (World.ownsRow.alloc hown _) ⟨wr.heap.size, 0, none⟩ 1 1 [_] rfl rfl (cell_one_new _ _ _) (by intro u hu; simp at hu; subst hu; rfl) (by have := HK.out; unfold maxLen; omega) (by have := HK.out; omega) (by have := hadd.size; simp; omega) ?_)
        intro v' w3 hown3 hgr3 _
        have hown4 : OwnL w3 w.heap.size v' (List.replicate s 0 ++ us ++ [c]) := OwnL.grown (us := [c]) (vs := [lim c]) (m := 1) (by simpa [lim, Nat.add_assoc] using hown3) rfl rfl
        have hadd4 : Add w w3 := Below.grown (Below.alloc hadd hadd.size _) hgr3 (by have := hadd.size; simp; omega) (fun k hk => (World.ownsRow.lt hown k hk).1)
        have hlim : Limbs (List.replicate s 0 ++ us ++ [c]) := ((Limbs.replicate s).append hul).append (Limbs.cons hc4 Limbs.nil)
        have HT := Lib.hid (refTrim_any v' _ w3 (hown4.reads hlim) (by rw [List.length_append, HK.out]; simp; omega))
        rw [upL_done HUP.out (by rw [HUK.out, HLA.out]), ← HNE.out] at HT
        clear hown3 hgr3 hown hadd hown4 hlim
        go_wp2_with fail
        refine HT.out.mono ?_
        rintro e w4 ⟨v4, rfl, h4, hadd5⟩
        have hF : RetO w (val xs * 2 ^ n) (.returned v4) w4 := ⟨v4, rfl, h4.base hadd4.size, Add.trans hadd4 hadd5⟩
        clear h4 hadd4 hadd5 HT
        go_wp2_with fail
        go_ret
        exact hF

set_option maxRecDepth 100000 in
set_option maxHeartbeats 4000000 in
theorem refDown_any (va : Value) (xs : List Nat) (n : Nat) (w : World) (ha : Reads w va xs) (hs : xs.length ≤ 100000) (hn : n ≤ 1000000) :
    Calls Tryz.prog 110 #[va, .int .i64 (n : Nat)] w (RetO w (val xs / 2 ^ n)) := by
  obtain ⟨i0, hi, hz0, hz1, hz2⟩ := info_parts info93
  obtain ⟨aa, l, ca, rfl, hla, -, -, hx, -⟩ := id ha
  have HLA := Lib.hid hla
  have HRA := Lib.hid ha
  have hl5 : l ≤ 100000 := by omega
  obtain ⟨s, hse⟩ : ∃ s, s = n / 32 := ⟨_, rfl⟩
  obtain ⟨t, hte⟩ : ∃ t, t = n % 32 := ⟨_, rfl⟩
  have hsi : (n : Int) / 32 = (s : Int) := by omega
  have hti : (n : Int) % 32 = (t : Int) := by omega
  have ht32 : t < 32 := by omega
  have hsb : s ≤ 40000 := by omega
  have HNE : Hid (n = 32 * s + t) := Lib.hid (by omega)
  clear hla ha hs hse hte
  by_cases h0 : l ≤ s
  · have hF : RetO w (val xs / 2 ^ n) (.returned (.slice none 0 0)) w := by
      have h1 := val_lt hx
      rw [HLA.out, pw_two] at h1
      have : val xs / 2 ^ n = 0 := Nat.div_eq_of_lt (Nat.lt_of_lt_of_le h1 (Nat.pow_le_pow_right (by decide) (by have := HNE.out; omega)))
      rw [this]
      exact ⟨_, rfl, ⟨[], OwnL.nil _ _, Limbs.nil, Canon.nil, rfl⟩, Below.refl _ _⟩
    have d0 : decide (l ≤ s) = true := decide_eq_true h0
    clear hti
    go_enter Tryz.func110, Tryz.ntmps110
    go_wp2_with fail
    go_ret
    exact hF
  · have d0 : decide (l ≤ s) = false := decide_eq_false h0
    obtain ⟨ys, hys⟩ : ∃ ys, ys = shr t (xs.drop s) := ⟨_, rfl⟩
    have hyl : ys.length = l - s := by rw [hys, length_shr, List.length_drop, HLA.out]
    have HYL := Lib.hid hyl
    have HYS := Lib.hid hys
    have hylim : Limbs ys := by rw [hys]; exact shr_limbs _ _
    clear hys hyl
    go_enter Tryz.func110, Tryz.ntmps110
    go_wp2_with fail
    go_loopw [5, 6] (fun o iv wr => ∃ (ov : Value) (k : Nat), ov = o ∧ iv = .int .i64 (s + k : Nat) ∧ s + k ≤ l ∧ OwnL wr w.heap.size ov (ys.take k) ∧ Add w wr) (fun _ iv _ => l - (intOf iv).toNat)
    case atStart => exact ⟨_, 0, rfl, by go_num, by omega, by rw [List.take_zero]; exact OwnL.nil _ _, Below.refl _ _⟩
    case round =>
      obtain ⟨ov, k, rfl, rfl, hk, hown, hadd⟩ := hrel
      obtain ⟨i, hie⟩ : ∃ i, i = s + k := ⟨_, rfl⟩
      rw [← hie] at hk ⊢
      have hlen : (ys.take k).length = k := by rw [List.length_take, HYL.out]; omega
      have HK := Lib.hid hlen
      have HIE := Lib.hid hie
      have hkb : k ≤ 100000 := by omega
      clear hlen hie
      by_cases hlt : i < l
      · have dlt : decide (i < l) = true := decide_eq_true hlt
        obtain ⟨b1, o1, rfl, hc1⟩ := (HRA.out.mono hadd).cell hlt
        obtain ⟨x, hxe⟩ : ∃ x, x = xs.getD i 0 := ⟨_, rfl⟩
        have hxl : x < 4294967296 := by rw [hxe]; exact hx.getD i
        rw [← hxe] at hc1
        obtain ⟨y, hye⟩ : ∃ y, y = xs.getD (i + 1) 0 := ⟨_, rfl⟩
        have hyl : y < 4294967296 := by rw [hye]; exact hx.getD _
        obtain ⟨m, hm⟩ : ∃ m, m = x + 4294967296 * y := ⟨_, rfl⟩
        have e2 := join64' y x hyl hxl
        rw [← hm] at e2
        obtain ⟨u, hu⟩ : ∃ u, u = m / 2 ^ t := ⟨_, rfl⟩
        have hum : u ≤ m := by rw [hu]; exact Nat.div_le_self _ _
        obtain ⟨lo, hlo⟩ : ∃ lo, lo = u % 4294967296 := ⟨_, rfl⟩
        have hui : (m : Int) / 2 ^ t = (u : Int) := by rw [hu]; simp
        have e3 : (u : Int) % 4294967296 = (lo : Int) := by omega
        have hm6 : m < 18446744073709551616 := by omega
        have htake : Hid (ys.take (k + 1) = ys.take k ++ [lo]) := Lib.hid (by
          have hkl : k < ys.length := by rw [HYL.out]; have := HIE.out; omega
          rw [List.take_succ_eq_append_getElem hkl]
          congr 2
          have h1 : ys[k] = ys.getD k 0 := by simp [List.getD, hkl]
          rw [h1, HYS.out, shr_getD t _ k (by rw [List.length_drop, HLA.out]; have := HIE.out; omega)]
          rw [hlo, hu, hm, hxe, hye, HIE.out]
          simp [List.getD, Nat.add_assoc])
        have hlol : lo < 4294967296 := by omega
        clear hxe hu hlo hum
        by_cases hnx : i + 1 < l
        · have d2 : decide (i + 1 < l) = true := decide_eq_true hnx
          have d2' : decide ((i : Int) + 1 < (l : Nat)) = true := by simp; omega
          obtain ⟨b2, o2, e2', hc2⟩ := (HRA.out.mono hadd).cell hnx
          simp only [Option.some.injEq, Addr.mk.injEq, and_true] at e2'
          obtain ⟨rfl, rfl⟩ := e2'
          rw [← hye] at hc2
          clear hye hm
          go_wp2_with (at_builtin; refine wpList_append_own _ rfl _ _ 35 rfl w.heap.size 93 i0 (.int .u32 0) 1 4 Tryz.underlying35 hi hz0 hz1 hz2 rfl (by decide) _ _ _ rfl (World.ownsRow.alloc hown _) ⟨wr.heap.size, 0, none⟩ 1 1 [_] rfl rfl (cell_one_new _ _ _) (by intro u hu; simp at hu; subst hu; rfl) (by have := HK.out; unfold maxLen; omega) (by have := HK.out; omega) (by have := hadd.size; simp; omega) ?_)
          intro v' w3 hown3 hgr3 _
          have hown4 : OwnL w3 w.heap.size v' (ys.take (k + 1)) := by rw [htake.out]; exact OwnL.grown (us := [lo]) (vs := [lim lo]) (m := 1) (by simpa [lim, List.map_take, List.length_take] using hown3) rfl rfl
          have hadd4 : Add w w3 := Below.grown (Below.alloc hadd hadd.size _) hgr3 (by have := hadd.size; simp; omega) (fun k hk => (World.ownsRow.lt hown k hk).1)
          clear hown3 hgr3 hown hadd
          go_wp2_with fail
          go_roundw
          case rel => exact ⟨v', k + 1, rfl, by have := HIE.out; go_num, by have := HIE.out; omega, hown4, hadd4⟩
          case measure => simp [intOf]; omega
        · have d2 : decide (i + 1 < l) = false := decide_eq_false hnx
          have d2' : decide ((i : Int) + 1 < (l : Nat)) = false := by simp; omega
          have hy0 : y = 0 := by rw [hye]; simp [List.getD, List.getElem?_eq_none (show xs.length ≤ i + 1 by rw [HLA.out]; omega)]
          have hmx : m = x := by rw [hm, hy0]; omega
          rw [hmx] at hui hm6
          clear hye hm hy0 hmx e2
          go_wp2_with (at_builtin; refine wpList_append_own _ rfl _ _ 35 rfl w.heap.size 93 i0 (.int .u32 0) 1 4 Tryz.underlying35 hi hz0 hz1 hz2 rfl (by decide) _ _ _ rfl (World.ownsRow.alloc hown _) ⟨wr.heap.size, 0, none⟩ 1 1 [_] rfl rfl (cell_one_new _ _ _) (by intro u hu; simp at hu; subst hu; rfl) (by have := HK.out; unfold maxLen; omega) (by have := HK.out; omega) (by have := hadd.size; simp; omega) ?_)
          intro v' w3 hown3 hgr3 _
          have hown4 : OwnL w3 w.heap.size v' (ys.take (k + 1)) := by rw [htake.out]; exact OwnL.grown (us := [lo]) (vs := [lim lo]) (m := 1) (by simpa [lim, List.map_take, List.length_take] using hown3) rfl rfl
          have hadd4 : Add w w3 := Below.grown (Below.alloc hadd hadd.size _) hgr3 (by have := hadd.size; simp; omega) (fun k hk => (World.ownsRow.lt hown k hk).1)
          clear hown3 hgr3 hown hadd
          go_wp2_with fail
          go_roundw
          case rel => exact ⟨v', k + 1, rfl, by have := HIE.out; go_num, by have := HIE.out; omega, hown4, hadd4⟩
          case measure => simp [intOf]; omega
      · have dlt : decide (i < l) = false := decide_eq_false hlt
        obtain rfl : i = l := by omega
        have hke : ys.take k = ys := List.take_of_length_le (by rw [HYL.out]; have := HIE.out; omega)
        rw [hke] at hown
        have HT := Lib.hid (refTrim_any ov _ wr (hown.reads hylim) (by rw [HYL.out]; omega))
        rw [show val ys = val xs / 2 ^ n from by rw [HYS.out, val_down hx (by rw [HLA.out]; omega) ht32, HNE.out]] at HT
        clear hown hke
        go_wp2_with fail
        refine HT.out.mono ?_
        rintro e w4 ⟨v4, rfl, h4, hadd5⟩
        have hF : RetO w (val xs / 2 ^ n) (.returned v4) w4 := ⟨v4, rfl, h4.base hadd.size, Add.trans hadd hadd5⟩
        clear h4 hadd hadd5 HT
        go_wp2_with fail
        go_ret
        exact hF
end Go.Proofs.YtbeoeackahmpbaaGreatDoor
