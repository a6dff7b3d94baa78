/- A multiple of the divisor is taken out of a window of the number, the divisor added back, and one digit of the quotient found. -/
import Derived.Test.YtifpfoeecnkhoaaDoorW13
namespace Go.Proofs.YtifpfoeecnkhoaaDoor
open Go.RowKit NatM

theorem Row.kept2 {w : World} {g g2 : Nat} {ds : List Nat} (h : Row w g2 ds) (hne : g ≠ g2) (i : Nat) (u : Value) : Row (w.setCell ⟨g, i, none⟩ u) g2 ds :=
  h.kept (grown_setCell i u) (by intro e; injection e with e; exact hne e.symm)

/-- What subtractMultiple does. -/
def SubMulP (w : World) (g o n q : Nat) (zs ws ds : List Nat) (e : Ending) (w' : World) : Prop :=
  ∃ (us : List Nat) (b : Nat), e = .returned (.bool ((b : Int) == 0)) ∧ b ≤ 1 ∧ us.length = n + 1 ∧ Limbs us ∧ val us + q * val (ds.take n) = val ws + pw (n + 1) * b ∧ Row w' g (put zs o us) ∧ w.grownBy w' (some g)
set_option maxRecDepth 100000 in
set_option maxHeartbeats 4000000 in
theorem subtractMultiple_any (g o n c g2 c2 q : Nat) (zs ws ds : List Nat) (w : World) (hrow : Row w g (put zs o ws)) (hd : Row w g2 ds) (hne : g ≠ g2) (hws : ws.length = n + 1) (ho : o + (n + 1) ≤ zs.length) (hz : zs.length ≤ 3000000) (hn : n ≤ ds.length)
    (hwl : Limbs ws) (hdl : Limbs ds) (hq : q < 4294967296) :
    Calls Tryd.prog 85 #[.slice (some ⟨g, o, none⟩) (n + 1) c, .slice (some ⟨g2, 0, none⟩) n c2, .int .u32 (q : Nat)] w (SubMulP w g o n q zs ws ds) := by
  go_enter Tryd.func85, Tryd.ntmps85
  go_wp2_with fail
  go_loopw [7, 8, 14] (fun cv bv iv wr => ∃ (i cc b : Nat) (us : List Nat), i ≤ n ∧ cv = .int .u64 (cc : Nat) ∧ bv = .int .u32 (b : Nat) ∧ iv = .int .i64 (i : Nat) ∧ cc < 4294967296 ∧ b ≤ 1 ∧ Hid (SubMul ws ds us q i b cc) ∧ Limbs us ∧ Row wr g (put zs o us) ∧ Row wr g2 ds ∧ w.grownBy wr (some g)) (fun _ _ i _ => n - (intOf i).toNat)
  case atStart => exact ⟨0, 0, 0, ws, Nat.zero_le _, rfl, rfl, rfl, by decide, by decide, Lib.hid (subMul_zero _ _ _), hwl, hrow, hd, World.grownBy.refl _ _⟩
  case round =>
    clear hrow hd
    obtain ⟨i, cc, b, us, hi, rfl, rfl, rfl, hcc, hb, hsm, hus, hrow, hd, hgr⟩ := hrel
    have hul : us.length = n + 1 := hsm.out.1.trans hws
    have HUL := Lib.hid hul
    by_cases hlt : i < n
    · have hcell := hrow.cell (o + i) (by rw [put_length (by omega)]; omega)
      rw [put_getD (by omega) (by omega)] at hcell
      have hfree := hrow.free (o + i)
      have hdc := hd.cell i (by omega)
      obtain ⟨x, hxe⟩ : ∃ x, x = ds.getD i 0 := ⟨_, rfl⟩
      have hxl : x < 4294967296 := by rw [hxe]; exact hdl.getD i
      rw [← hxe] at hdc
      obtain ⟨z, hze⟩ : ∃ z, z = us.getD i 0 := ⟨_, rfl⟩
      have hzl : z < 4294967296 := by rw [hze]; exact hus.getD i
      rw [← hze] at hcell
      obtain ⟨p, hp⟩ : ∃ p, p = q * x := ⟨_, rfl⟩
      have hpb : p ≤ 18446744065119617025 := by
        rw [hp]
        exact Nat.le_trans (Nat.mul_le_mul (by omega : q ≤ 4294967295) (by omega : x ≤ 4294967295)) (by decide)
      have hpi : (q : Int) * (x : Int) = (p : Int) := by rw [hp]; simp
      obtain ⟨lo, hlo⟩ : ∃ lo, lo = (cc + p) % 4294967296 := ⟨_, rfl⟩
      obtain ⟨hi', hhi⟩ : ∃ hi', hi' = (cc + p) / 4294967296 := ⟨_, rfl⟩
      have hlol : lo < 4294967296 := by omega
      have hhil : hi' < 4294967296 := by omega
      have hloi : ((cc : Int) + (p : Int)) % 4294967296 = (lo : Int) := by omega
      have hhii : ((cc : Int) + (p : Int)) / 4294967296 = (hi' : Int) := by omega
      have hsum : lo + 4294967296 * hi' = cc + p := by omega
      have HSUM := Lib.hid hsum
      have HP := Lib.hid hp
      have HX := Lib.hid hxe
      have HZ := Lib.hid hze
      have hsp := sub_spec z lo b hzl hlol hb
      have HSP := Lib.hid hsp
      clear hsum hp hxe hze hlo hhi hsp hul
      go_wp2_with (go_at_call 70; refine (sub32_fn z lo b _ hzl hlol hb).mono ?_; rintro e w' ⟨rfl, rfl⟩)
      go_roundw
      case rel =>
        have h3 := HSP.out
        have hul := HUL.out
        refine ⟨i + 1, hi', subOut z lo b, us.set i (subLow z lo b), by omega, rfl, rfl, by go_num, hhil, h3.2.1, Lib.hid ?_, hus.set _ _ h3.1, ?_, hd.kept2 hne _ _, grown_trans hgr (grown_setCell _ _)⟩
        · exact subMul_step hsm.out (by omega) (by rw [HSUM.out, HP.out, HX.out]) (by rw [← HZ.out]; exact h3.2.2)
        · have := hrow.set (o + i) (subLow z lo b)
          rw [put_set (by omega) (by omega)] at this
          exact this
      case measure => simp [intOf]; omega
    · obtain rfl : i = n := by omega
      have hcell := hrow.cell (o + i) (by rw [put_length (by omega)]; omega)
      rw [put_getD (by omega) (by omega)] at hcell
      have hfree := hrow.free (o + i)
      obtain ⟨z, hze⟩ : ∃ z, z = us.getD i 0 := ⟨_, rfl⟩
      have hzl : z < 4294967296 := by rw [hze]; exact hus.getD i
      rw [← hze] at hcell
      have HZ := Lib.hid hze
      have hsp := sub_spec z cc b hzl hcc hb
      have hF : SubMulP w g o i q zs ws ds (.returned (.bool (((subOut z cc b : Nat) : Int) == 0))) (wr.setCell ⟨g, o + i, none⟩ (.int .u32 (subLow z cc b : Nat))) := by
        have hl := subMul_last (s := subLow z cc b) (b' := subOut z cc b) hsm.out hws (by rw [← hze]; exact hsp.2.2)
        refine ⟨us.set i (subLow z cc b), subOut z cc b, rfl, hsp.2.1, hl.1, hus.set _ _ hsp.1, hl.2, ?_, grown_trans hgr (grown_setCell _ _)⟩
        have := hrow.set (o + i) (subLow z cc b)
        rw [put_set (by omega) (by omega)] at this
        exact this
      have hb1 := hsp.2.1
      clear hze hsp hul
      obtain ⟨bo, hbo⟩ : ∃ bo, bo = subOut z cc b := ⟨_, rfl⟩
      have HBO := Lib.hid hbo
      rw [← hbo] at hF hb1
      clear hbo
      go_wp2_with (go_at_call 70; refine (sub32_fn z cc b _ hzl hcc hb).mono ?_; rintro e w' ⟨rfl, rfl⟩; rw [← HBO.out])
      go_ret
      exact hF

/-- What addBack does. -/
def AddBackP (w : World) (g o n : Nat) (zs ws ds : List Nat) (e : Ending) (w' : World) : Prop :=
  ∃ us k, e = .returned (.tuple #[]) ∧ us.length = n + 1 ∧ Limbs us ∧ val us + pw (n + 1) * k = val ws + val (ds.take n) ∧ Row w' g (put zs o us) ∧ w.grownBy w' (some g)
set_option maxRecDepth 100000 in
set_option maxHeartbeats 4000000 in
theorem addBack_any (g o n c g2 c2 : Nat) (zs ws ds : List Nat) (w : World) (hrow : Row w g (put zs o ws)) (hd : Row w g2 ds) (hne : g ≠ g2) (hws : ws.length = n + 1) (ho : o + (n + 1) ≤ zs.length) (hz : zs.length ≤ 3000000) (hn : n ≤ ds.length)
    (hwl : Limbs ws) (hdl : Limbs ds) :
    Calls Tryd.prog 86 #[.slice (some ⟨g, o, none⟩) (n + 1) c, .slice (some ⟨g2, 0, none⟩) n c2] w (AddBackP w g o n zs ws ds) := by
  go_enter Tryd.func86, Tryd.ntmps86
  go_wp2_with fail
  go_loopw [4, 9] (fun cv iv wr => ∃ (i cc : Nat) (us : List Nat), i ≤ n ∧ cv = .int .u32 (cc : Nat) ∧ iv = .int .i64 (i : Nat) ∧ cc ≤ 1 ∧ Hid (AddAt ws ds us i cc) ∧ Limbs us ∧ Row wr g (put zs o us) ∧ Row wr g2 ds ∧ w.grownBy wr (some g)) (fun _ i _ => n - (intOf i).toNat)
  case atStart => exact ⟨0, 0, ws, Nat.zero_le _, rfl, rfl, by decide, Lib.hid (addAt_zero _ _), hwl, hrow, hd, World.grownBy.refl _ _⟩
  case round =>
    clear hrow hd
    obtain ⟨i, cc, us, hi, rfl, rfl, hcc, hsm, hus, hrow, hd, hgr⟩ := hrel
    have hul : us.length = n + 1 := hsm.out.1.trans hws
    have HUL := Lib.hid hul
    by_cases hlt : i < n
    · have hcell := hrow.cell (o + i) (by rw [put_length (by omega)]; omega)
      rw [put_getD (by omega) (by omega)] at hcell
      have hfree := hrow.free (o + i)
      have hdc := hd.cell i (by omega)
      obtain ⟨x, hxe⟩ : ∃ x, x = ds.getD i 0 := ⟨_, rfl⟩
      have hxl : x < 4294967296 := by rw [hxe]; exact hdl.getD i
      rw [← hxe] at hdc
      obtain ⟨z, hze⟩ : ∃ z, z = us.getD i 0 := ⟨_, rfl⟩
      have hzl : z < 4294967296 := by rw [hze]; exact hus.getD i
      rw [← hze] at hcell
      have HX := Lib.hid hxe
      have HZ := Lib.hid hze
      clear hxe hze hul
      go_wp2_with (go_at_call 68; refine (add32_any z x cc _ hzl hxl hcc).mono ?_; rintro e w' ⟨s, c', rfl, rfl, hsl, hc1, HS⟩)
      go_roundw
      case rel =>
        have hul := HUL.out
        refine ⟨i + 1, c', us.set i s, by omega, rfl, by go_num, hc1, Lib.hid ?_, hus.set _ _ hsl, ?_, hd.kept2 hne _ _, grown_trans hgr (grown_setCell _ _)⟩
        · exact addAt_step hsm.out (by omega) (by rw [← HZ.out, ← HX.out]; exact HS.out)
        · have := hrow.set (o + i) s
          rw [put_set (by omega) (by omega)] at this
          exact this
      case measure => simp [intOf]; omega
    · obtain rfl : i = n := by omega
      have hcell := hrow.cell (o + i) (by rw [put_length (by omega)]; omega)
      rw [put_getD (by omega) (by omega)] at hcell
      have hfree := hrow.free (o + i)
      obtain ⟨z, hze⟩ : ∃ z, z = us.getD i 0 := ⟨_, rfl⟩
      have hzl : z < 4294967296 := by rw [hze]; exact hus.getD i
      rw [← hze] at hcell
      obtain ⟨s, hse⟩ : ∃ s, s = (z + cc) % 4294967296 := ⟨_, rfl⟩
      have hsi : ((z : Int) + (cc : Int)) % 4294967296 = (s : Int) := by omega
      have hF : AddBackP w g o i zs ws ds (.returned (.tuple #[])) (wr.setCell ⟨g, o + i, none⟩ (.int .u32 (s : Nat))) := by
        obtain ⟨hl, k, hk⟩ := addAt_last hsm.out hws
        rw [← hze, ← hse] at hl hk
        refine ⟨us.set i s, k, rfl, hl, hus.set _ _ (by rw [hse]; exact Nat.mod_lt _ (by decide)), hk, ?_, grown_trans hgr (grown_setCell _ _)⟩
        have := hrow.set (o + i) s
        rw [put_set (by omega) (by omega)] at this
        exact this
      clear hze hse hul
      go_wp2_with fail
      go_end0
      exact hF

/-! One digit -/
theorem guessOf_lt (w2 w1 w0 d1 d0 : Nat) : guessOf w2 w1 w0 d1 d0 < 4294967296 := Nat.lt_of_le_of_lt (Nat.min_le_right _ _) (by decide)
theorem take_zero {W D P g vu : Nat} (h1 : g ≤ W / D + 1) (hD : 0 < D) (e : vu + g * D = W + P * 0) (hq : W / D ≤ g) : g = W / D ∧ vu + W / D * D = W ∧ vu < D := by
  have h2 : g ≤ W / D := (Nat.le_div_iff_mul_le hD).2 (by omega)
  have h3 : g = W / D := by omega
  subst h3
  have h4 := Nat.mod_add_div W D
  have h5 := Nat.mod_lt W hD
  rw [Nat.mul_comm] at h4
  refine ⟨rfl, by omega, by omega⟩
theorem take_one {W D P g vu v2 k : Nat} (h1 : g ≤ W / D + 1) (hq : W / D ≤ g) (hD : 0 < D) (hDP : D ≤ P) (hvu : vu < P) (hv2 : v2 < P) (e : vu + g * D = W + P * 1) (e2 : v2 + P * k = vu + D) : g = W / D + 1 ∧ v2 + W / D * D = W ∧ v2 < D := by
  have h4 := Nat.mod_add_div W D
  have h5 := Nat.mod_lt W hD
  rw [Nat.mul_comm] at h4
  have h3 : g = W / D + 1 := by
    rcases Nat.lt_or_ge (W / D) g with h | h
    · omega
    · exfalso
      have h6 : g = W / D := by omega
      rw [h6] at e
      generalize W / D * D = p at e h4
      omega
  rw [h3, Nat.add_mul, Nat.one_mul] at e
  generalize W / D * D = p at e h4 ⊢
  have hk : k = 1 := by
    rcases Nat.lt_trichotomy k 1 with h | h | h
    · obtain rfl : k = 0 := by omega
      rw [Nat.mul_zero] at e2
      omega
    · exact h
    · exfalso
      have : P * 2 ≤ P * k := Nat.mul_le_mul_left _ h
      omega
  subst hk
  rw [Nat.mul_one] at e2 e
  exact ⟨h3, by omega, by omega⟩

/-- What takeOut does: the digit, and the rest in the window. -/
def TakeP (w : World) (g o n : Nat) (zs ws ds : List Nat) (e : Ending) (w' : World) : Prop :=
  ∃ us : List Nat, e = .returned (.int .u32 (val ws / val (ds.take n) : Nat)) ∧ us.length = n + 1 ∧ Limbs us ∧ val us + val ws / val (ds.take n) * val (ds.take n) = val ws ∧ val us < val (ds.take n) ∧ Row w' g (put zs o us) ∧ w.grownBy w' (some g)
set_option maxRecDepth 100000 in
set_option maxHeartbeats 4000000 in
theorem takeOut_any (g o m c g2 c2 : Nat) (zs ws ds : List Nat) (w : World) (hrow : Row w g (put zs o ws)) (hd : Row w g2 ds) (hne : g ≠ g2) (hws : ws.length = m + 2 + 1) (ho : o + (m + 2 + 1) ≤ zs.length) (hz : zs.length ≤ 3000000) (hn : m + 2 ≤ ds.length)
    (hwl : Limbs ws) (hdl : Limbs ds) (htop : ds.getD (m + 1) 0 ≠ 0) (hlt : val ws < 4294967296 * val (ds.take (m + 2))) :
    Calls Tryd.prog 80 #[.slice (some ⟨g, o, none⟩) (m + 2 + 1) c, .slice (some ⟨g2, 0, none⟩) (m + 2) c2] w (TakeP w g o (m + 2) zs ws ds) := by
  have hnear := guess_near hwl hdl (by omega : 2 ≤ m + 2) hws hn htop hlt
  simp only [Nat.add_sub_cancel, show m + 2 - 1 = m + 1 from by omega] at hnear
  have hDpos : 0 < val (ds.take (m + 2)) := by omega
  have hDP : val (ds.take (m + 2)) ≤ pw (m + 2 + 1) := by
    have a := val_lt (hdl.take (m + 2))
    rw [List.length_take, Nat.min_eq_left hn] at a
    have b : pw (m + 2) ≤ pw (m + 2 + 1) := pw_le (by omega)
    omega
  have hqb : val ws / val (ds.take (m + 2)) < 4294967296 := Nat.div_lt_of_lt_mul (by rw [Nat.mul_comm (val (ds.take (m + 2)))]; exact hlt)
  have k2 := hrow.cell (o + (m + 2)) (by rw [put_length (by omega)]; omega)
  have k1 := hrow.cell (o + (m + 1)) (by rw [put_length (by omega)]; omega)
  have k0 := hrow.cell (o + m) (by rw [put_length (by omega)]; omega)
  rw [put_getD (by omega) (by omega)] at k2 k1 k0
  have j1 := hd.cell (m + 1) (by omega)
  have j0 := hd.cell m (by omega)
  obtain ⟨a2, ha2⟩ : ∃ x, x = ws.getD (m + 2) 0 := ⟨_, rfl⟩
  obtain ⟨a1, ha1⟩ : ∃ x, x = ws.getD (m + 1) 0 := ⟨_, rfl⟩
  obtain ⟨a0, ha0⟩ : ∃ x, x = ws.getD m 0 := ⟨_, rfl⟩
  obtain ⟨e1, he1⟩ : ∃ x, x = ds.getD (m + 1) 0 := ⟨_, rfl⟩
  obtain ⟨e0, he0⟩ : ∃ x, x = ds.getD m 0 := ⟨_, rfl⟩
  have l2 : a2 < 4294967296 := by rw [ha2]; exact hwl.getD _
  have l1 : a1 < 4294967296 := by rw [ha1]; exact hwl.getD _
  have l0 : a0 < 4294967296 := by rw [ha0]; exact hwl.getD _
  have f1 : e1 < 4294967296 := by rw [he1]; exact hdl.getD _
  have f0 : e0 < 4294967296 := by rw [he0]; exact hdl.getD _
  have fp : 0 < e1 := by rw [he1]; omega
  rw [← ha2] at k2; rw [← ha1] at k1; rw [← ha0] at k0; rw [← he1] at j1; rw [← he0] at j0
  rw [← ha2, ← ha1, ← ha0, ← he1, ← he0] at hnear
  obtain ⟨q, hq⟩ : ∃ q, q = guessOf a2 a1 a0 e1 e0 := ⟨_, rfl⟩
  have hql : q < 4294967296 := by
    rw [hq]; exact guessOf_lt _ _ _ _ _
  rw [← hq] at hnear
  have HG : Hid (∀ wz, Calls Tryd.prog 84 #[.int .u32 (a2 : Nat), .int .u32 (a1 : Nat), .int .u32 (a0 : Nat), .int .u32 (e1 : Nat), .int .u32 (e0 : Nat)] wz fun e w' => e = .returned (.int .u32 (q : Nat)) ∧ w' = wz) := by
    refine Lib.hid fun wz => ?_
    rw [hq]
    exact guess_any a2 a1 a0 e1 e0 wz l2 l1 l0 fp f1 f0
  have HN := Lib.hid hnear
  have HQB := Lib.hid hqb
  clear ha2 ha1 ha0 he1 he0 hq hnear htop hqb hlt
  go_enter Tryd.func80, Tryd.ntmps80
  go_wp2_with fail
  go_quiet ((go_at_call 84; exact (HG.out _).mono fun _ _ h => ⟨h.1, _, h.2⟩))
  go_wp2_with fail
  refine (subtractMultiple_any g o (m + 2) c g2 c2 q zs ws ds _ (by exact hrow) (by exact hd) hne hws ho hz hn hwl hdl hql).mono ?_
  rintro e w2 ⟨us, b, rfl, hb1, hul, hus, hsum, hrow2, hgr⟩
  have hgr0 : w.grownBy w2 (some g) := grown_trans (grown_drewN (World.grownBy.refl _ _) nq) hgr
  have hd2 : Row w2 g2 ds := hd.kept hgr0 (by intro e; injection e with e; exact hne e.symm)
  have hul2 : val us < pw (m + 2 + 1) := by have := val_lt hus; rwa [hul] at this
  rcases (by omega : b = 0 ∨ b = 1) with rfl | rfl
  · have hfin := take_zero HN.out.2 hDpos hsum HN.out.1
    have hF : TakeP w g o (m + 2) zs ws ds (.returned (.int .u32 (q : Nat))) w2 := ⟨us, by rw [hfin.1], hul, hus, hfin.2.1, hfin.2.2, hrow2, hgr0⟩
    clear hfin hsum
    go_wp2_with fail
    go_ret
    exact hF
  · have HSUM := Lib.hid hsum
    have hq1 : 1 ≤ q := by
      rcases Nat.eq_zero_or_pos q with h | h
      · subst h
        rw [Nat.zero_mul, Nat.mul_one] at hsum
        omega
      · exact h
    clear hsum
    go_wp2_with fail
    refine (addBack_any g o (m + 2) c g2 c2 zs us ds _ hrow2 hd2 hne hul ho hz hn hus hdl).mono ?_
    rintro e w3 ⟨vs, k, rfl, hvl, hvs, hsum2, hrow3, hgr2⟩
    have hvl2 : val vs < pw (m + 2 + 1) := by have := val_lt hvs; rwa [hvl] at this
    have hfin := take_one HN.out.2 HN.out.1 hDpos hDP hul2 hvl2 HSUM.out hsum2
    have hF : TakeP w g o (m + 2) zs ws ds (.returned (.int .u32 ((q : Int) - 1))) w3 := by
      refine ⟨vs, ?_, hvl, hvs, hfin.2.1, hfin.2.2, hrow3, grown_trans hgr0 hgr2⟩
      have h7 : (q : Int) - 1 = ((val ws / val (ds.take (m + 2)) : Nat) : Int) := by omega
      rw [h7]
    clear hfin hsum2
    go_wp2_with fail
    go_ret
    exact hF
end Go.Proofs.YtifpfoeecnkhoaaDoor
