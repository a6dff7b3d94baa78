/- The reference's divide, for a divisor of two limbs and more. -/
import Derived.Test.YtbeoeackahmpbaaGreatDoorR10
import Derived.Deep.AppendLies
import Derived.Deep.RegionLaw
namespace Go.Proofs.YtbeoeackahmpbaaGreatDoor
open Go.RowKit NatM Go.Proofs.YtbeoeackahmpbaaGreatDoor.Api

theorem OwnL.eqn {w : World} {base g n c : Nat} {zs : List Nat} (h : OwnL w base (.slice (some ⟨g, 0, none⟩) n c) zs) : n = zs.length := by
  rcases h.form with ⟨e, _⟩ | ⟨_, _, _, e, _⟩
  · cases e
  · simp only [Value.slice.injEq] at e; exact e.2.1
theorem OwnL.set {w : World} {base g n c : Nat} {zs : List Nat} (h : OwnL w base (.slice (some ⟨g, 0, none⟩) n c) zs) (i s : Nat) : OwnL (w.setCell ⟨g, i, none⟩ (.int .u32 (s : Nat))) base (.slice (some ⟨g, 0, none⟩) n c) (zs.set i s) := by
  have hn : n = zs.length := by
    rcases h.form with ⟨e, _⟩ | ⟨_, _, _, e, _⟩
    · cases e
    · simp only [Value.slice.injEq] at e; exact e.2.1
  unfold OwnL at h ⊢
  subst hn
  have := (World.ownsRow.stored h i (lim s)).1
  rw [← List.map_set] at this
  rw [List.length_set]
  exact this
theorem OwnL.cell {w : World} {base g n c : Nat} {zs : List Nat} (h : OwnL w base (.slice (some ⟨g, 0, none⟩) n c) zs) (i : Nat) (hi : i < zs.length) : w.cell? ⟨g, i, none⟩ = some (.int .u32 (zs.getD i 0 : Nat)) := by
  obtain rfl := h.eqn
  have := World.ownsRow.cellAt h i (by simpa using hi)
  rw [this]
  simp [List.getD, hi, lim]
theorem OwnL.free {w : World} {base g n c : Nat} {zs : List Nat} (h : OwnL w base (.slice (some ⟨g, 0, none⟩) n c) zs) (i : Nat) : w.frozen? ⟨g, i, none⟩ = false := by
  obtain rfl := h.eqn
  exact World.ownsRow.frozenAt h i
theorem OwnL.lt {w : World} {base g n c : Nat} {zs : List Nat} (h : OwnL w base (.slice (some ⟨g, 0, none⟩) n c) zs) : base ≤ g ∧ g < w.heap.size := by
  obtain rfl := h.eqn
  exact World.ownsRow.lt h g rfl
theorem OwnL.room {w : World} {base g n c : Nat} {zs : List Nat} (h : OwnL w base (.slice (some ⟨g, 0, none⟩) n c) zs) : n = zs.length ∧ zs.length ≤ c ∧ c ≤ maxLen := by
  rcases h.form with ⟨e, _⟩ | ⟨_, _, _, e, _, _, h3, h4, _⟩
  · cases e
  · simp only [Value.slice.injEq] at e
    obtain ⟨-, rfl, rfl⟩ := e
    exact ⟨rfl, h3, h4⟩
theorem OwnL.shorter {w : World} {base g n c L : Nat} {zs : List Nat} (h : OwnL w base (.slice (some ⟨g, 0, none⟩) n c) zs) (hL : L ≤ zs.length) : OwnL w base (.slice (some ⟨g, 0, none⟩) L c) (zs.take L) := by
  rcases h.form with ⟨e, _⟩ | ⟨g', cap, cur, e, h1, h2, h3, h4, h5, h6⟩
  · cases e
  · simp only [Value.slice.injEq, Option.some.injEq, Addr.mk.injEq, and_true] at e
    obtain ⟨rfl, -, rfl⟩ := e
    have hl : (zs.take L).length = L := by rw [List.length_take]; omega
    refine ⟨by simp [List.length_take], .inr ⟨g, c, cur, by rw [hl], h1, h2, by omega, h4, by simpa using h5, ?_⟩⟩
    rw [hl, List.map_take, ← h6, List.take_take, Nat.mul_one, Nat.min_eq_left hL]
theorem OwnL.setOther {w : World} {base g n c g' : Nat} {zs : List Nat} (h : OwnL w base (.slice (some ⟨g, 0, none⟩) n c) zs) (hne : g' ≠ g) (i : Nat) (u : Value) : OwnL (w.setCell ⟨g', i, none⟩ u) base (.slice (some ⟨g, 0, none⟩) n c) zs := by
  refine ⟨h.1, ?_⟩
  rcases h.2 with hn | ⟨g2, cap, cur, e, hg, hgg, rest⟩
  · exact .inl hn
  · refine .inr ⟨g2, cap, cur, e, hg, ?_, rest⟩
    simp only [Value.slice.injEq, Option.some.injEq, Addr.mk.injEq, and_true] at e
    obtain ⟨rfl, -⟩ := e
    rw [heap_setCell_other w ⟨g', i, none⟩ g u (fun e => hne e.symm)]; exact hgg
theorem OwnL.window {w : World} {base g n c : Nat} {zs : List Nat} (h : OwnL w base (.slice (some ⟨g, 0, none⟩) n c) zs) {i k d : Nat} (hi : i + k ≤ zs.length) (hk : k ≤ d) (hd : d ≤ maxLen) (hz : Limbs zs) : Reads w (.slice (some ⟨g, i, none⟩) k d) ((zs.drop i).take k) := by
  refine ⟨_, k, d, rfl, window_length hi, hk, hd, (hz.drop _).take _, fun _ => ⟨g, i, rfl, fun j hj => ?_⟩⟩
  rw [h.cell (i + j) (by omega)]
  simp [List.getD, hj]
theorem OwnL.limbs_of_window {w : World} {g i k d : Nat} {xs : List Nat} (h : Reads w (.slice (some ⟨g, i, none⟩) k d) xs) (hk : 0 < k) : ∀ j u, (xs.map lim)[j]? = some u → w.cell? ((⟨g, i, none⟩ : Addr).add j) = some u := by
  obtain ⟨ao, n, c, e, hl, -, -, -, hr⟩ := h
  simp only [Value.slice.injEq] at e
  obtain ⟨rfl, rfl, rfl⟩ := e
  obtain ⟨b, off, e, g'⟩ := hr hk
  simp only [Option.some.injEq, Addr.mk.injEq, and_true] at e
  obtain ⟨rfl, rfl⟩ := e
  have := reads_front (k := k) g' (Nat.le_refl _) hl
  rwa [List.take_of_length_le (by omega)] at this
theorem cells_two_new (w : World) (g : Nat) (hg : w.heap.size = g) (x y : Value) (t : TypeId) : ∀ j u, [x, y][j]? = some u → (w.alloc (.cells #[x, y] t)).cell? ((⟨g, 0, none⟩ : Addr).add j) = some u := by
  subst hg
  intro j u hu
  have : j = 0 ∨ j = 1 := by
    have := (List.getElem?_eq_some_iff.1 hu).1
    simp at this; omega
  rcases this with rfl | rfl
  · simp at hu; subst hu; simp [Addr.add_lit]
  · simp at hu; subst hu; simp [Addr.add_lit]
theorem num_uniq {w1 : World} {base : Nat} {v1 : Value} {N : Nat} {zs : List Nat} (h1 : NumO w1 base v1 N) (h2 : Limbs zs) (h3 : Canon zs) (h4 : val zs = N) : OwnL w1 base v1 zs := by
  obtain ⟨us, a, b, c, d⟩ := h1
  rw [canon_inj h2 b h3 c (by rw [h4, d])]; exact a

/-- The quotient by the leading limb is not below the digit. -/
theorem guess_up {ws ds : List Nat} {m : Nat} (hw : Limbs ws) (hl : ws.length = m + 2) (hld : ds.length = m + 1) (htop : ds.getD m 0 ≠ 0) :
    val ws / val ds ≤ (ws.getD (m + 1) 0 * 4294967296 + ws.getD m 0) / ds.getD m 0 := by
  have tw : val ws = val (ws.take m) + pw m * (ws.getD (m + 1) 0 * 4294967296 + ws.getD m 0) := by
    have : ws.take (m + 1 + 1) = ws := List.take_of_length_le (by omega)
    conv => lhs; rw [← this]
    rw [val_take_succ, val_take_succ, show pw (m + 1) = 4294967296 * pw m from pw_succ m]
    exact two_limbs _ _ _ _
  have td : val ds = val (ds.take m) + pw m * ds.getD m 0 := by
    have : ds.take (m + 1) = ds := List.take_of_length_le (by omega)
    conv => lhs; rw [← this]
    rw [val_take_succ]
  have bw : val (ws.take m) < pw m := by
    have a := val_lt (hw.take m)
    rw [List.length_take, Nat.min_eq_left (by omega)] at a
    exact a
  obtain ⟨T, hT⟩ : ∃ T, T = ws.getD (m + 1) 0 * 4294967296 + ws.getD m 0 := ⟨_, rfl⟩
  obtain ⟨d, hde⟩ : ∃ d, d = ds.getD m 0 := ⟨_, rfl⟩
  rw [← hT] at tw ⊢
  rw [← hde] at td htop ⊢
  have hdp : 0 < d := Nat.pos_of_ne_zero htop
  rw [Nat.le_div_iff_mul_le hdp]
  have hDpos : 0 < val ds := by
    have : pw m * 1 ≤ pw m * d := Nat.mul_le_mul_left _ hdp
    have := pw_pos m
    omega
  have h1 : val ws / val ds * val ds ≤ val ws := Nat.div_mul_le_self _ _
  have h2 : val ws / val ds * (pw m * d) ≤ val ws / val ds * val ds := Nat.mul_le_mul_left _ (by omega)
  have h3 : pw m * (val ws / val ds * d) < pw m * (T + 1) := by
    have e : val ws / val ds * (pw m * d) = pw m * (val ws / val ds * d) := by rw [Nat.mul_left_comm]
    rw [Nat.mul_add, Nat.mul_one]; omega
  have := Nat.lt_of_mul_lt_mul_left h3
  omega

theorem copy_own {w : World} {base g m c : Nat} {W : List Nat} (h : w.ownsRow base 93 1 (.slice (some ⟨g, 0, none⟩) (0 + m) c) (0 + m) ([] ++ W.map lim)) (hl : W.length = m) : OwnL w base (.slice (some ⟨g, 0, none⟩) m c) W := by
  subst hl
  unfold OwnL
  simpa using h
theorem refCmpRN {v1 v2 : Value} {A : Nat} {ws : List Nat} {w : World} (h1 : Num w v1 A) (h2 : Reads w v2 ws) (h : Hid (A < pw 3000 ∧ ws.length ≤ 3000)) : Calls Tryz.prog 71 #[v1, v2] w (IntIs w (cmpI A (val ws))) := by
  obtain ⟨xs, r1, -, rfl, l1⟩ := num_reads h1 h.out.1
  exact refCmp_any v1 v2 xs ws w r1 h2 (by omega) (by have := h.out.2; omega)
theorem refMinusRN {v1 v2 : Value} {B : Nat} {ws : List Nat} {w : World} (h1 : Reads w v1 ws) (h2 : Num w v2 B) (h : Hid (ws.length ≤ 3000 ∧ B ≤ val ws)) : Calls Tryz.prog 95 #[v1, v2] w (RetO w (val ws - B)) := by
  have hB : B < pw ws.length := Nat.lt_of_le_of_lt h.out.2 (val_lt h1.limbs)
  obtain ⟨ys, r2, -, rfl, l2⟩ := num_reads h2 hB
  exact refMinus_any v1 v2 ws ys w h1 r2 (by have := h.out.1; omega) (by have := h.out.1; omega) h.out.2
theorem refTimesRN {v1 v2 : Value} {ds : List Nat} {B : Nat} {w : World} (h1 : Reads w v1 ds) (h2 : Num w v2 B) (h : Hid (ds.length ≤ 3000 ∧ B < pw 2)) : Calls Tryz.prog 109 #[v1, v2] w (RetO w (val ds * B)) := by
  obtain ⟨ys, r2, -, rfl, l2⟩ := num_reads h2 h.out.2
  exact refTimes_any v1 v2 ds ys w h1 r2 (by have := h.out.1; omega) (by omega)
theorem OwnL.setOtherV {w : World} {base g' : Nat} {v : Value} {zs : List Nat} (h : OwnL w base v zs) (hne : v.ownBlock ≠ some g') (i : Nat) (u : Value) : OwnL (w.setCell ⟨g', i, none⟩ u) base v zs := by
  rcases h.form with ⟨rfl, rfl⟩ | ⟨g, cap, cur, rfl, _⟩
  · exact OwnL.nil _ _
  · exact h.setOther (fun e => hne (by simp [Value.ownBlock, e])) i u
theorem put_win_step {zs ws W : List Nat} {i c m : Nat} (hi : i + m ≤ zs.length) (hw : ws.length = m) (hW : W.length = m) (hc : c < m) : (put zs i (ws.take c ++ W.drop c)).set (i + c) (ws.getD c 0) = put zs i (ws.take (c + 1) ++ W.drop (c + 1)) := by
  have hl : (ws.take c ++ W.drop c).length = m := by rw [List.length_append, List.length_take, List.length_drop]; omega
  rw [put_set (by omega) (by omega)]
  congr 1
  have e1 : W.drop c = W.getD c 0 :: W.drop (c + 1) := by
    rw [List.drop_eq_getElem_cons (by omega)]; simp [List.getD, (by omega : c < W.length)]
  have e2 : ws.take (c + 1) = ws.take c ++ [ws.getD c 0] := by
    rw [List.take_succ_eq_append_getElem (by omega)]; simp [List.getD, (by omega : c < ws.length)]
  rw [e1, e2, List.set_append_right _ _ (by rw [List.length_take]; omega), List.length_take, Nat.min_eq_left (by omega), Nat.sub_self]
  simp
theorem put_win_zero {zs W : List Nat} {i m : Nat} (hi : i + m ≤ zs.length) (hW : W = (zs.drop i).take m) (ws : List Nat) : put zs i (ws.take 0 ++ W.drop 0) = zs := by
  rw [List.take_zero, List.nil_append, List.drop_zero, hW]; exact put_self hi
theorem put_win_done {zs ws W : List Nat} {i m : Nat} (hw : ws.length = m) (hW : W.length = m) : put zs i (ws.take m ++ W.drop m) = put zs i ws := by
  rw [List.take_of_length_le (by omega), List.drop_of_length_le (by omega), List.append_nil]

/-- What the loops of divide keep. -/
def DSt (w : World) (gx Lx cx gy my cy gq k : Nat) (zs ys qs : List Nat) (wr : World) : Prop :=
  OwnL wr w.heap.size (.slice (some ⟨gx, 0, none⟩) Lx cx) zs ∧ OwnL wr w.heap.size (.slice (some ⟨gy, 0, none⟩) my cy) ys ∧ OwnL wr w.heap.size (.slice (some ⟨gq, 0, none⟩) k k) qs ∧ Add w wr
theorem DSt.below {w : World} {gx Lx cx gy my cy gq k : Nat} {zs ys qs : List Nat} {wr w' : World} (h : DSt w gx Lx cx gy my cy gq k zs ys qs wr) (hb : Add wr w') : DSt w gx Lx cx gy my cy gq k zs ys qs w' :=
  ⟨h.1.below hb, h.2.1.below hb, h.2.2.1.below hb, Add.trans h.2.2.2 hb⟩
theorem DSt.setX {w : World} {gx Lx cx gy my cy gq k : Nat} {zs ys qs : List Nat} {wr : World} (h : DSt w gx Lx cx gy my cy gq k zs ys qs wr) (h1 : gx ≠ gy) (h2 : gx ≠ gq) (i s : Nat) : DSt w gx Lx cx gy my cy gq k (zs.set i s) ys qs (wr.setCell ⟨gx, i, none⟩ (.int .u32 (s : Nat))) :=
  ⟨h.1.set i s, h.2.1.setOther h1 i _, h.2.2.1.setOther h2 i _, h.2.2.2.setCell h.1.lt.1 _⟩
theorem DSt.setQ {w : World} {gx Lx cx gy my cy gq k : Nat} {zs ys qs : List Nat} {wr : World} (h : DSt w gx Lx cx gy my cy gq k zs ys qs wr) (h1 : gx ≠ gq) (h2 : gy ≠ gq) (i s : Nat) : DSt w gx Lx cx gy my cy gq k zs ys (qs.set i s) (wr.setCell ⟨gq, i, none⟩ (.int .u32 (s : Nat))) :=
  ⟨h.1.setOther (fun e => h1 e.symm) i _, h.2.1.setOther (fun e => h2 e.symm) i _, h.2.2.1.set i s, h.2.2.2.setCell h.2.2.1.lt.1 _⟩

set_option maxRecDepth 100000 in
set_option maxHeartbeats 16000000 in
theorem refDivide_long (va vb : Value) (xs ys : List Nat) (m : Nat) (w : World) (ha : Reads w va xs) (hb : Reads w vb ys) (hs : xs.length ≤ 2000) (hs' : ys.length = m + 2) (hcy : Canon ys) (hm : m ≤ 1998) (hge : val ys ≤ val xs) :
    Calls Tryz.prog 108 #[va, vb] w (DivO w (val xs) (val ys)) := by
  obtain ⟨i0, hi, hz0, hz1, hz2⟩ := info_parts info93
  have hc0 : decide (cmpI (val xs) (val ys) < 0) = false := by rw [decide_eq_false_iff_not, cmp_neg]; omega
  have HC := Lib.hid (refCmp_any va vb xs ys w ha hb (by omega) (by omega))
  obtain ⟨nB, hnB⟩ : ∃ nB, nB = nb (val ys) := ⟨_, rfl⟩
  have HB := fun w1 (h : Add w w1) => Lib.hid (refBits_any vb ys w1 (hb.mono h) (by omega))
  simp only [← hnB] at HB
  have hnv := nb_val hb.limbs (show tlen ys ≠ 0 by unfold Canon at hcy; omega)
  have htl : tlen ys = m + 2 := by unfold Canon at hcy; omega
  rw [htl, show m + 2 - 1 = m + 1 from by omega, ← hnB] at hnv
  have hlim := nb_limb (hb.limbs.getD (m + 1))
  obtain ⟨t, hte⟩ : ∃ t, t = 32 - nb (ys.getD (m + 1) 0) := ⟨_, rfl⟩
  have hnorm := normal hb.limbs hcy hs' hte
  obtain ⟨ht31, hD1, hD2⟩ := hnorm
  obtain ⟨M, hM⟩ : ∃ M, M = m + 2 := ⟨_, rfl⟩
  have hti : 32 * (M : Int) - (nB : Int) = (t : Int) := by omega
  have HUA := fun w1 (h : Add w w1) => Lib.hid (refUp_any va xs t w1 (ha.mono h) (by omega) (by omega))
  have HUB := fun w1 (h : Add w w1) => Lib.hid (refUp_any vb ys t w1 (hb.mono h) (by omega) (by omega))
  obtain ⟨A, hA⟩ : ∃ A, A = val xs := ⟨_, rfl⟩
  obtain ⟨B, hBe⟩ : ∃ B, B = val ys := ⟨_, rfl⟩
  rw [← hA, ← hBe] at hge hc0 HC ⊢
  obtain ⟨N0, hN0⟩ : ∃ N0, N0 = A * 2 ^ t := ⟨_, rfl⟩
  obtain ⟨D, hD⟩ : ∃ D, D = B * 2 ^ t := ⟨_, rfl⟩
  simp only [← hA, ← hN0] at HUA
  simp only [← hBe, ← hD] at HUB
  rw [← hBe, ← hD] at hD1 hD2
  rw [← hM] at hD1 hs'
  have hND : D ≤ N0 := by rw [hN0, hD]; exact Nat.mul_le_mul_right _ hge
  have hNb : N0 < pw 2001 := by
    rw [hN0, hA]
    have h1 := Nat.lt_of_lt_of_le (val_lt ha.limbs) (pw_le hs)
    have h2 : 2 ^ t < pw 1 := lt_pw1 (Nat.lt_of_le_of_lt (Nat.pow_le_pow_right (n := 2) (by decide) ht31) (by decide))
    exact lt_mul (i := 2000) (j := 1) h1 h2
  have HF1 : Hid (N0 / D = A / B ∧ N0 % D / 2 ^ t = A % B) := Lib.hid (by rw [hN0, hD]; exact ⟨scaled_quo _ _ _, scaled_rem _ _ _⟩)
  have HND := Lib.hid hND
  have HNB := Lib.hid hNb
  have HD1 := Lib.hid hD1
  have HD2 : Hid (2147483648 * pw (M - 1) ≤ D) := Lib.hid (by rw [hM]; exact hD2)
  have hM2 : 2 ≤ M := by omega
  have hM3 : M ≤ 2000 := by omega
  have hnB9 : nB ≤ 64000 := by omega
  obtain ⟨aa, na, ca, rfl, -⟩ := ha.isSlice
  obtain ⟨ab, n2, cb, rfl, hlb, -⟩ := id hb
  have hn2 : n2 = M := by omega
  subst hn2
  have hne1 : ((n2 : Int) == 1) = false := by rw [beq_eq_false_iff_ne]; omega
  clear hnv hlim hte hD1 hD2 hA hBe hN0 hD hND hNb htl hnB hM hm hge hs hs' hcy ha hb hlb
  go_enter Tryz.func108, Tryz.ntmps108
  go_wp2_with fail
  refine HC.out.mono ?_; rintro e w1 ⟨rfl, h1⟩
  clear HC
  go_wp2_with fail
  refine (HB _ h1).out.mono ?_; rintro e w2 ⟨rfl, h2⟩
  replace h2 := Add.trans h1 h2
  clear HB h1
  go_wp2_with fail
  refine (HUA _ h2).out.mono ?_; rintro e w3 ⟨vx, rfl, nx, h3⟩
  replace h3 := Add.trans h2 h3
  obtain ⟨us, ox, hux, hcx, hvx⟩ := nx
  replace ox := ox.base h2.size
  obtain ⟨L0, hL0⟩ : ∃ L0, us.length = L0 := ⟨_, rfl⟩
  have hL1 : L0 ≤ 2001 := by
    have := tlen_le_of_val (xs := us) 2001 (by rw [hvx]; exact HNB.out)
    unfold Canon at hcx; omega
  have hL2 : n2 ≤ L0 := by
    rcases Nat.lt_or_ge L0 n2 with h | h
    · exfalso
      have h1 := val_lt hux
      rw [hL0, hvx] at h1
      have h2 : pw L0 ≤ pw (n2 - 1) := pw_le (by omega)
      have := HD2.out; have := HND.out; have := pw_pos (n2 - 1)
      omega
    · exact h
  have HL0 := Lib.hid hL0
  have HUX := Lib.hid hux
  have HCX := Lib.hid hcx
  have HVX := Lib.hid hvx
  clear h2 hux hcx hvx hL0
  go_wp2_with (at_builtin; refine wpList_append_own _ rfl _ _ 35 rfl w.heap.size 93 i0 (.int .u32 0) 1 4 Tryz.underlying35 hi hz0 hz1 hz2 rfl (by decide) _ _ _ rfl (World.ownsRow.alloc ox _) ⟨w3.heap.size, 0, none⟩ 2 2 [_, _] rfl rfl (cells_two_new _ _ rfl _ _ _) (by intro u hu; simp at hu; subst hu; rfl) (by have := HL0.out; unfold maxLen; omega) (by have := HL0.out; omega) (by have := h3.size; simp; omega) ?_)
  intro vx2 w4 hown4 hgr4 _
  have ox4 : OwnL w4 w.heap.size vx2 (us ++ [0, 0]) := OwnL.grown (us := [0, 0]) hown4 rfl rfl
  have h4 : Add w w4 := Below.grown (Below.alloc h3 h3.size _) hgr4 (by have := h3.size; simp; omega) (fun k hk => (World.ownsRow.lt ox k hk).1)
  clear hown4 hgr4 ox h3
  go_wp2_with fail
  refine (HUB _ h4).out.mono ?_; rintro e w5 ⟨vy, rfl, ny, h5⟩
  obtain ⟨ds, oy, hdl, hdc, hdv⟩ := ny
  obtain ⟨gx, cx, hx4⟩ : ∃ gx cx, vx2 = .slice (some ⟨gx, 0, none⟩) (L0 + 2) cx := by
    rcases ox4.form with ⟨rfl, e⟩ | ⟨g, cap, cur, e, _⟩
    · simp at e
    · exact ⟨g, cap, by rw [e, List.length_append, HL0.out]; rfl⟩
  subst hx4
  have hdM : ds.length = n2 := by
    have a1 := tlen_le_of_val (xs := ds) n2 (by rw [hdv]; exact HD1.out)
    have a2 := tlen_gt_of_val hdl (n2 - 1) (by rw [hdv]; have := HD2.out; have := pw_pos (n2 - 1); omega)
    unfold Canon at hdc; omega
  obtain ⟨gy, cy, hy5⟩ : ∃ gy cy, vy = .slice (some ⟨gy, 0, none⟩) n2 cy := by
    rcases oy.form with ⟨rfl, e⟩ | ⟨g, cap, cur, e, _⟩
    · rw [e] at hdM; simp at hdM; omega
    · exact ⟨g, cap, by rw [e, hdM]⟩
  subst hy5
  have hgxy : gx ≠ gy := by have := ox4.lt.2; have := oy.lt.1; omega
  have ox5 := ox4.below h5
  have oy5 := oy.base h4.size
  replace h5 := Add.trans h4 h5
  have hrx := ox4.room
  have hcx2 : L0 + 2 ≤ cx := by have := hrx.2.1; rw [List.length_append, HL0.out] at this; exact this
  have hcxm : cx ≤ 9223372036854775807 := by have := hrx.2.2; unfold maxLen at this; omega
  have HDM := Lib.hid hdM
  have HDL := Lib.hid hdl
  have HDV := Lib.hid hdv
  have HDC := Lib.hid hdc
  clear HUB ox4 oy h4 hrx hdl hdc hdv hdM
  go_wp2_with fail
  refine (HUA _ h5).out.mono ?_; rintro e w6 ⟨vx3, rfl, nx3, h6⟩
  obtain ⟨a3, c3, hx3⟩ := (num_uniq nx3 HUX.out HCX.out HVX.out).len
  rw [HL0.out] at hx3
  subst hx3
  have ox6 := ox5.below h6
  have oy6 := oy5.below h6
  replace h6 := Add.trans h5 h6
  clear HUA ox5 oy5 h5 nx3
  obtain ⟨L, hL⟩ : ∃ L, L = L0 + 1 := ⟨_, rfl⟩
  have hLi : (L0 : Int) + 1 = (L : Int) := by omega
  obtain ⟨k, hk⟩ : ∃ k, L = k + n2 := ⟨L - n2, by omega⟩
  have hki : (L : Int) - (n2 : Int) = (k : Int) := by omega
  obtain ⟨zs0, hzs0⟩ : ∃ zs0, zs0 = us ++ [0] := ⟨_, rfl⟩
  have ox7 : OwnL w6 w.heap.size (.slice (some ⟨gx, 0, none⟩) L cx) zs0 := by
    have := ox6.shorter (L := L) (by rw [List.length_append, HL0.out, hL]; simp)
    have e : (us ++ [0, 0]).take L = zs0 := by
      rw [hzs0, hL, ← HL0.out, show ([0, 0] : List Nat) = [0] ++ [0] from rfl, ← List.append_assoc]
      exact List.take_left' (by simp)
    rwa [e] at this
  have hzl0 : zs0.length = L := by rw [hzs0, List.length_append, HL0.out, hL]; rfl
  have hzlim0 : Limbs zs0 := by rw [hzs0]; exact HUX.out.append (Limbs.cons (by decide) Limbs.nil)
  have hzv0 : val zs0 = N0 := by rw [hzs0, val_append, HVX.out]; simp [val]
  have hld0 : LongDiv N0 D zs0 (List.replicate k 0) k := by
    have := longDiv_start (A := N0) (D := D) (up := 0) (la := L0) (k := k) (m := n2 - 2) (zs := zs0) (by rw [hzv0]; simp) (by have := val_lt HUX.out; rw [HL0.out, HVX.out] at this; exact this) (by decide) (by rw [show n2 - 2 + 1 = n2 - 1 from by omega]; exact HD2.out) (by omega)
    simpa using this
  have HL := Lib.hid hL
  have HZL0 := Lib.hid hzl0
  have HZV0 := Lib.hid hzlim0
  have HLD0 := Lib.hid hld0
  have hLb : L ≤ 2002 := by omega
  obtain ⟨M1, hM1⟩ : ∃ M1, n2 = M1 + 1 := ⟨n2 - 1, by omega⟩
  have hM1i : (n2 : Int) - 1 = (M1 : Int) := by omega
  obtain ⟨d, hd⟩ : ∃ d, d = ds.getD M1 0 := ⟨_, rfl⟩
  have hcd := oy6.cell M1 (by rw [HDM.out]; omega)
  rw [← hd] at hcd
  have hdp : d ≠ 0 := by
    have := tlen_top ds (by have := HDC.out; unfold Canon at this; rw [this, HDM.out]; omega)
    have e : tlen ds = n2 := by have := HDC.out; unfold Canon at this; rw [this, HDM.out]
    rw [e, show n2 - 1 = M1 from by omega, ← hd] at this
    exact this
  have hdlt : d < 4294967296 := by rw [hd]; exact HDL.out.getD _
  have HDE := Lib.hid hd
  have HM1 := Lib.hid hM1
  clear ox6 hL hzs0 hzl0 hzlim0 hzv0 hld0 hd hk hM1
  go_wp2_with (at_make; refine wpList_make_full _ rfl _ _ 35 rfl w.heap.size 93 i0 (.int .u32 0) 1 Tryz.underlying35 hi hz0 hz1 _ _ _ _ k rfl rfl (by omega) (by omega) (by rw [hz2]; omega) (by unfold maxLen; omega) h6.size ?_)
  intro w7 hown hgr
  have h7 : Add w w7 := h6.grown hgr h6.size (by simp)
  have h67 : Add w6 w7 := (Below.refl _ _).grown hgr (Nat.le_refl _) (by simp)
  obtain ⟨gq, hgq⟩ : ∃ gq, gq = w6.heap.size := ⟨_, rfl⟩
  rw [← hgq] at hown ⊢
  have oq := OwnL.of_own (Own.made hown)
  have hxq : gx ≠ gq := by have := ox7.lt.2; omega
  have hyq : gy ≠ gq := by have := oy6.lt.2; omega
  have hst : DSt w gx L cx gy n2 cy gq k zs0 ds (List.replicate k 0) w7 := ⟨ox7.below h67, oy6.below h67, oq, h7⟩
  clear hown hgr ox7 oy6 oq h6 h7 h67 hgq hcd
  go_wp2_with fail
  go_loopw [15] (fun iv wr => ∃ (j : Nat) (zs qs : List Nat), iv = .int .i64 ((j : Int) - 1) ∧ j ≤ k ∧ DSt w gx L cx gy n2 cy gq k zs ds qs wr ∧ Hid (zs.length = L ∧ Limbs zs ∧ qs.length = k ∧ Limbs qs ∧ LongDiv N0 D zs qs j)) (fun iv _ => (intOf iv + 1).toNat)
  case atStart => exact ⟨k, zs0, _, rfl, Nat.le_refl _, hst, Lib.hid ⟨HZL0.out, HZV0.out, by simp, Limbs.replicate _, HLD0.out⟩⟩
  case round =>
    clear hst
    obtain ⟨j, zs, qs, rfl, hj, hst, hinv⟩ := hrel
    by_cases h0 : j = 0
    · subst h0
      have hdone := longDiv_done hinv.out.2.2.2.2
      have HQ := Lib.hid (refTrim_any _ qs wr (hst.2.2.1.reads hinv.out.2.2.2.1) (by rw [hinv.out.2.2.1]; omega))
      have HX := fun w' (h : Add wr w') => Lib.hid (refTrim_any _ zs w' ((hst.below h).1.reads hinv.out.2.1) (by rw [hinv.out.1]; omega))
      rw [hdone.1] at HQ
      simp only [hdone.2] at HX
      have hadd := hst.2.2.2
      clear hdone hst hinv
      go_wp2_with fail
      refine HQ.out.mono ?_; rintro e w8 ⟨vq, rfl, nq8, h8⟩
      go_wp2_with fail
      refine (HX _ h8).out.mono ?_; rintro e w9 ⟨vr, rfl, nr9, h9⟩
      obtain ⟨rs, rr, -, re, rl⟩ := nr9.reads (k := 2001) (Nat.lt_of_le_of_lt (Nat.mod_le _ _) HNB.out)
      have HDN := Lib.hid (refDown_any _ rs t w9 rr (by omega) (by omega))
      rw [re] at HDN
      have nq9 := nq8.below h9
      have h19 := Add.trans hadd (Add.trans h8 h9)
      clear HX HQ rr re nr9
      go_wp2_with fail
      refine HDN.out.mono ?_; rintro e wa ⟨vr2, rfl, nra, ha⟩
      have hF : DivO w A B (.returned (.tuple #[vq, vr2])) wa := ⟨_, _, rfl, by rw [← HF1.out.1]; exact (nq9.below ha).base hadd.size, by rw [← HF1.out.2]; exact nra.base h19.size, Add.trans h19 ha⟩
      clear nq8 nq9 nra ha h8 h9 h19 hadd HDN
      go_wp2_with fail
      go_ret2
      exact hF
    · obtain ⟨i, rfl⟩ : ∃ i, j = i + 1 := ⟨j - 1, by omega⟩
      have hii : (((i + 1 : Nat) : Int) - 1) = (i : Int) := by omega
      rw [hii]
      clear hii
      obtain ⟨hzl, hzlim, hql, hqlim, hld⟩ := hinv.out
      have hwin := longDiv_window HD1.out (by rw [hzl]; omega : i + (n2 + 1) ≤ zs.length) hld.2
      obtain ⟨W, hW⟩ : ∃ W, W = (zs.drop i).take (n2 + 1) := ⟨_, rfl⟩
      rw [← hW] at hwin
      have hWl : W.length = n2 + 1 := by rw [hW]; exact window_length (by rw [hzl]; omega)
      have hWlim : Limbs W := by rw [hW]; exact (hzlim.drop _).take _
      obtain ⟨Q, hQ⟩ : ∃ Q, Q = val W / D := ⟨_, rfl⟩
      have hDpos : 0 < D := by have := HD2.out; have := pw_pos (n2 - 1); omega
      have hQ32 : Q < 4294967296 := by rw [hQ]; exact Nat.div_lt_of_lt_mul (by have := hwin.2; rwa [Nat.mul_comm])
      have hup := guess_up (m := M1) hWlim (by rw [hWl]; omega) (by rw [HDM.out]; exact HM1.out) (by rw [← HDE.out]; exact hdp)
      rw [HDV.out, ← HDE.out, ← hQ] at hup
      obtain ⟨p1, hp1⟩ : ∃ p1, p1 = i + n2 := ⟨_, rfl⟩
      obtain ⟨p2, hp2⟩ : ∃ p2, p2 = i + M1 := ⟨_, rfl⟩
      have e1 : W.getD (M1 + 1) 0 = zs.getD p1 0 := by rw [hW, getD_take _ _ _ (by omega), hp1, HM1.out]; simp [List.getD]
      have e2 : W.getD M1 0 = zs.getD p2 0 := by rw [hW, getD_take _ _ _ (by omega), hp2]; simp [List.getD]
      rw [e1, e2] at hup
      have c1 := hst.1.cell p1 (by rw [hzl]; omega)
      have c2 := hst.1.cell p2 (by rw [hzl]; omega)
      obtain ⟨a, hae⟩ : ∃ a, a = zs.getD p1 0 := ⟨_, rfl⟩
      obtain ⟨b, hbe⟩ : ∃ b, b = zs.getD p2 0 := ⟨_, rfl⟩
      have hal : a < 4294967296 := by rw [hae]; exact hzlim.getD _
      have hbl : b < 4294967296 := by rw [hbe]; exact hzlim.getD _
      rw [← hae, ← hbe] at hup
      rw [← hae] at c1
      rw [← hbe] at c2
      obtain ⟨T, hT⟩ : ∃ T, T = a * 4294967296 + b := ⟨_, rfl⟩
      have hTb := join64 a b hal hbl
      have hTi : (a : Int) * 4294967296 + b = (T : Int) := by omega
      rw [hTi] at hTb
      have hT64 : T < 18446744073709551616 := by omega
      rw [← hT] at hup
      obtain ⟨G, hG⟩ : ∃ G, G = T / d := ⟨_, rfl⟩
      have hGi : (T : Int) / (d : Int) = (G : Int) := by rw [hG]; exact (Int.natCast_ediv _ _).symm
      rw [← hG] at hup
      have hGT : G ≤ T := by rw [hG]; exact Nat.div_le_self _ _
      have hdz : ((d : Int) == 0) = false := by rw [beq_eq_false_iff_ne]; omega
      have hp1i : (i : Int) + (n2 : Int) = (p1 : Int) := by omega
      have hp2i : (p1 : Int) - 1 = (p2 : Int) := by omega
      have hp1L : p1 < L := by omega
      have hp2L : p2 < L := by omega
      have hiL : i + n2 + 1 ≤ L := by omega
      have hik : i < k := by omega
      have HW := Lib.hid hW
      have HWL := Lib.hid hWl
      have HWLIM := Lib.hid hWlim
      have HQE := Lib.hid hQ
      have HUP := Lib.hid hup
      have HDP := Lib.hid hDpos
      have HWIN := Lib.hid hwin
      have HQ32 := Lib.hid hQ32
      clear hzl hzlim hql hqlim hld hwin hW hWl hWlim hQ hDpos hQ32 hup hp1 hp2 e1 e2 hae hbe hT hTi hG h0
      rcases Nat.lt_or_ge 4294967295 G with hbig | hbig
      · have dbig : decide (4294967295 < G) = true := decide_eq_true hbig
        go_wp2_with fail
        go_quiet (fail)
        go_wp2_with fail
        have hst0 := hst.below (below_drewN (Below.refl _ _) nq)
        clear hst c1 c2
        go_loopw [17] (fun gv wx => ∃ g : Nat, gv = .int .u64 (g : Nat) ∧ Hid (Q ≤ g) ∧ g ≤ 4294967295 ∧ DSt w gx L cx gy n2 cy gq k zs ds qs wx) (fun gv _ => (intOf gv).toNat)
        case atStart => exact ⟨4294967295, rfl, Lib.hid (by have := HUP.out; have := HQ32.out; omega), by omega, hst0⟩
        case round =>
          clear hst0 dbig hbig
          try (rename (4294967295 : Int) < (G : Int) => hgg; clear hgg)
          try (rename (G : Int) ≤ (4294967295 : Int) => hgg; clear hgg)
          obtain ⟨g, rfl, hQg, hg32, hst⟩ := hrel
          have hstd := hst.below (Below.drew (Below.refl _ _))
          have hcxi : ¬ cx = i := by omega
          have F1 : Hid (ds.length ≤ 3000 ∧ g < pw 2) := Lib.hid ⟨by rw [HDM.out]; omega, lt_up (lt_pw1 (by omega)) (by decide)⟩
          have F2 : Hid (val ds * g < pw 3000 ∧ W.length ≤ 3000) := Lib.hid ⟨by rw [HDV.out]; exact lt_up (lt_mul HD1.out F1.out.2) (by omega), by rw [HWL.out]; omega⟩
          have hwin := fun (w' : World) (h : DSt w gx L cx gy n2 cy gq k zs ds qs w') => Lib.hid (show Reads w' (.slice (some ⟨gx, i, none⟩) (n2 + 1) (cx - i)) W by rw [HW.out]; exact h.1.window (i := i) (k := n2 + 1) (d := cx - i) (by rw [hinv.out.1]; omega) (by omega) (by unfold maxLen; omega) hinv.out.2.1)
          have hry := fun (w' : World) (h : DSt w gx L cx gy n2 cy gq k zs ds qs w') => Lib.hid (h.2.1.reads HDL.out)
          have hszd := hstd.2.2.2.size
          obtain ⟨p3, hp3⟩ : ∃ p3 : Nat, (p1 : Int) + 1 = (p3 : Int) := ⟨p1 + 1, by omega⟩
          have hw1 : IntKind.i64.wrap (p1 : Int) = (p1 : Int) := by rw [IntKind.wrap_i64]; omega
          have hw3 : IntKind.i64.wrap (p3 : Int) = (p3 : Int) := by rw [IntKind.wrap_i64]; omega
          have hp3c : p3 ≤ cx := by omega
          have hp3i : i ≤ p3 := by omega
          have hp3n : p3 - i = n2 + 1 := by omega
          by_cases hgt : val W < val ds * g
          · have hcmp : decide (0 < cmpI (val ds * g) (val W)) = true := by rw [cmpI_gt hgt]; rfl
            have hcmp' := Lib.hid (cmpI_gt hgt)
            have hQg' : Hid (Q ≤ g - 1) := Lib.hid (by
              have h1 : Q < g := by rw [HQE.out]; exact Nat.div_lt_of_lt_mul (by rw [← HDV.out]; exact hgt)
              omega)
            have hg1 : 1 ≤ g := by
              rcases Nat.eq_zero_or_pos g with h | h
              · subst h; simp at hgt
              · exact h
            clear hgt
            go_wp2_with fail
            go_region_law (first
              | (refine step_append_lies _ rfl _ _ 35 rfl w.heap.size 93 i0 (.int .u32 0) 1 4 Tryz.underlying35 hi hz0 hz1 hz2 rfl (by decide) (.slice none 0 0) 0 [] rfl (World.ownsRow_nil _ _ _ _) ⟨gx, i, none⟩ (n2 + 1) (cx - i) (W.map lim) (by simp [Act.eval]) (by rw [List.length_map, HWL.out, Nat.mul_one]) (OwnL.limbs_of_window (hwin _ ((hstd.below ha1).below hb1)).out (by omega)) (lim_one _) (by omega) (by unfold maxLen; omega) (by omega) (by have := ((hstd.below ha1).below hb1).2.2.2.size; omega) _ rfl ?_; intro gc cc wc hownc hgrc hatc hltc; have hAc : Add wb wc := (Below.refl _ _).grown hgrc (Nat.le_refl _) (fun k hk => by simp [Value.ownBlock] at hk))
              | (go_simp; go_at_call 87; refine (refMake_any _ _ (by omega) (by omega)).mono ?_; rintro e wa ⟨va1, rfl, na1, ha1⟩; rw [Int.toNat_natCast] at na1)
              | (go_simp; go_at_call 109; refine (refTimesRN (hry _ (hstd.below ha1)).out na1.num F1).mono ?_; rintro e wb ⟨vb1, rfl, nb1, hb1⟩)
              | (go_simp; go_at_call 71; refine (refCmpRN (nb1.num.mono hAc) ((copy_own hownc HWL.out).reads HWLIM.out) F2).mono ?_; rintro e wd ⟨rfl, hd1⟩))
            have hst4 := (((hstd.below ha1).below hb1).below hAc).below hd1
            clear ha1 hb1 hAc hd1 na1 nb1 hownc hgrc hatc hltc hstd hst hwin hry F1 F2
            go_wp2_with fail
            go_roundw
            case rel =>
              exact ⟨g - 1, by go_num, hQg', by omega, hst4⟩
            case measure => simp [intOf]; omega
          · have hcmp : decide (0 < cmpI (val ds * g) (val W)) = false := by
              rcases Nat.lt_or_ge (val W) (val ds * g) with h | h
              · exact absurd h hgt
              · rcases Nat.lt_or_ge (val ds * g) (val W) with h2 | h2
                · rw [cmpI_lt h2]; rfl
                · rw [cmpI_eq (by omega)]; rfl
            have hgQ : g = Q := by
              have h1 := hQg.out
              have h2 : g ≤ Q := by
                rw [HQE.out, Nat.le_div_iff_mul_le HDP.out, ← HDV.out, Nat.mul_comm]; omega
              omega
            have hle : Hid (val ds * g ≤ val W) := Lib.hid (by omega)
            have HGQ := Lib.hid hgQ
            clear hgt hgQ
            go_wp2_with fail
            go_region_law (first
              | (refine step_append_lies _ rfl _ _ 35 rfl w.heap.size 93 i0 (.int .u32 0) 1 4 Tryz.underlying35 hi hz0 hz1 hz2 rfl (by decide) (.slice none 0 0) 0 [] rfl (World.ownsRow_nil _ _ _ _) ⟨gx, i, none⟩ (n2 + 1) (cx - i) (W.map lim) (by simp [Act.eval]) (by rw [List.length_map, HWL.out, Nat.mul_one]) (OwnL.limbs_of_window (hwin _ ((hstd.below ha1).below hb1)).out (by omega)) (lim_one _) (by omega) (by unfold maxLen; omega) (by omega) (by have := ((hstd.below ha1).below hb1).2.2.2.size; omega) _ rfl ?_; intro gc cc wc hownc hgrc hatc hltc; have hAc : Add wb wc := (Below.refl _ _).grown hgrc (Nat.le_refl _) (fun k hk => by simp [Value.ownBlock] at hk))
              | (go_simp; go_at_call 87; refine (refMake_any _ _ (by omega) (by omega)).mono ?_; rintro e wa ⟨va1, rfl, na1, ha1⟩; rw [Int.toNat_natCast] at na1)
              | (go_simp; go_at_call 109; refine (refTimesRN (hry _ (hstd.below ha1)).out na1.num F1).mono ?_; rintro e wb ⟨vb1, rfl, nb1, hb1⟩)
              | (go_simp; go_at_call 71; refine (refCmpRN (nb1.num.mono hAc) ((copy_own hownc HWL.out).reads HWLIM.out) F2).mono ?_; rintro e wd ⟨rfl, hd1⟩))
            have hst4 := (((hstd.below ha1).below hb1).below hAc).below hd1
            clear ha1 hb1 hAc hd1 na1 nb1 hownc hgrc hatc hltc hstd hst hcmp
            have hsz4 := hst4.2.2.2.size
            go_wp2_with (at_builtin; refine wpList_append_own _ rfl _ _ 35 rfl w.heap.size 93 i0 (.int .u32 0) 1 4 Tryz.underlying35 hi hz0 hz1 hz2 rfl (by decide) (.slice none 0 0) 0 [] rfl (World.ownsRow_nil _ _ _ _) ⟨gx, i, none⟩ (n2 + 1) (cx - i) (W.map lim) rfl (by rw [List.length_map, HWL.out, Nat.mul_one]) (OwnL.limbs_of_window (hwin _ hst4).out (by omega)) (lim_one _) (by unfold maxLen; omega) (by omega) hsz4 ?_)
            intro vc wc hownc hgrc hatc
            have hAc : Add wd wc := (Below.refl _ _).grown hgrc (Nat.le_refl _) (fun k hk => by simp [Value.ownBlock] at hk)
            have hst5 := hst4.below hAc
            have hrc : Reads wc vc W := by
              have : OwnL wc w.heap.size vc W := by unfold OwnL; rw [HWL.out]; simpa using hownc
              exact this.reads HWLIM.out
            clear hownc hgrc hatc hst4 hAc hsz4
            go_wp2_with fail
            refine (refMake_any _ _ (by omega) (by omega)).mono ?_; rintro e wa ⟨va1, rfl, na1, ha1⟩
            rw [Int.toNat_natCast] at na1
            go_wp2_with fail
            refine (refTimesRN (hry _ (hst5.below ha1)).out na1.num F1).mono ?_; rintro e wb ⟨vb1, rfl, nb1, hb1⟩
            go_wp2_with fail
            refine (refMinusRN (hrc.mono (Add.trans ha1 hb1)) nb1.num (Lib.hid ⟨by rw [HWL.out]; omega, hle.out⟩)).mono ?_; rintro e we ⟨vr, rfl, nr1, hd1⟩
            have hst6 := ((hst5.below ha1).below hb1).below hd1
            obtain ⟨rs, orr, hrl, hrc2, hrv⟩ := nr1
            have hrs1 : rs.length ≤ n2 := by
              have h1 : val rs < pw n2 := by
                rw [hrv, HDV.out, HGQ.out, HQE.out]
                have h2 := Nat.mod_add_div (val W) D
                have h3 := Nat.mod_lt (val W) HDP.out
                have := HD1.out
                omega
              have := tlen_le_of_val n2 h1
              unfold Canon at hrc2; omega
            obtain ⟨nr, hnr⟩ : ∃ nr, rs.length = nr := ⟨_, rfl⟩
            obtain ⟨ar, cr, hvr⟩ := orr.len
            rw [hnr] at hvr
            subst hvr
            obtain ⟨ws, hws⟩ : ∃ ws, ws = rs ++ List.replicate (n2 + 1 - nr) 0 := ⟨_, rfl⟩
            have hwsl : ws.length = n2 + 1 := by rw [hws, List.length_append, List.length_replicate, hnr]; omega
            have hwsv : val ws = val W - D * Q := by rw [hws, val_append, val_replicate, hrv, HDV.out, HGQ.out]; omega
            have hwslim : Limbs ws := by rw [hws]; exact hrl.append (Limbs.replicate _)
            have hwsg : Hid (∀ c, ws.getD c 0 = if c < nr then rs.getD c 0 else 0) := Lib.hid (fun c => by
              rw [hws]
              by_cases h : c < nr
              · rw [if_pos h]; simp [List.getD, List.getElem?_append_left (by omega : c < rs.length)]
              · rw [if_neg h]
                simp only [List.getD, List.getElem?_append_right (by omega : rs.length ≤ c)]
                rcases Nat.lt_or_ge (c - rs.length) (n2 + 1 - nr) with h2 | h2
                · simp [h2]
                · rw [List.getElem?_eq_none (by simp; omega)]; rfl)
            have hgr : (Value.slice ar nr cr).ownBlock ≠ some gx := by
              rcases orr.form with ⟨e, _⟩ | ⟨g', cap, cur, e, hb', _⟩
              · rw [e]; simp [Value.ownBlock]
              · rw [e]
                have := hst5.1.lt.2
                have h3 := ha1.size
                have h4 := hb1.size
                simp [Value.ownBlock]
                omega
            have HRL := Lib.hid hrl
            have HNR := Lib.hid hnr
            have HWSL := Lib.hid hwsl
            have HWSV := Lib.hid hwsv
            have HWSLIM := Lib.hid hwslim
            have hput0 := put_win_zero (zs := zs) (W := W) (i := i) (m := n2 + 1) (by rw [hinv.out.1]; omega) HW.out ws
            have HPUT0 := Lib.hid hput0
            have hnr1 : nr ≤ n2 := by omega
            clear hws hwsl hwsv hwslim hput0 hrl hnr hrv hrc2 hrs1 ha1 hb1 hd1 na1 nb1 hst5 hwin hry F1 F2 hrc
            go_wp2_with fail
            go_loopw [19] (fun jv wx => ∃ (c : Nat) (us : List Nat), jv = .int .i64 (c : Nat) ∧ c ≤ n2 + 1 ∧ Hid (us = put zs i (ws.take c ++ W.drop c)) ∧ DSt w gx L cx gy n2 cy gq k us ds qs wx ∧ OwnL wx wb.heap.size (.slice ar nr cr) rs) (fun jv _ => n2 + 1 - (intOf jv).toNat)
            case atStart => exact ⟨0, zs, rfl, Nat.zero_le _, Lib.hid HPUT0.out.symm, hst6, orr⟩
            case round =>
              clear hst6 orr
              obtain ⟨c, us, rfl, hc, hus, hst, hrs⟩ := hrel
              have hul : us.length = L := by
                rw [hus.out, put_length (by rw [List.length_append, List.length_take, List.length_drop, HWSL.out, HWL.out, hinv.out.1]; omega), hinv.out.1]
              by_cases hcn : c ≤ n2
              · have dcn : decide (c ≤ n2) = true := decide_eq_true hcn
                obtain ⟨p, hp⟩ : ∃ p : Nat, (i : Int) + (c : Int) = (p : Int) := ⟨i + c, by omega⟩
                have hpc : p = i + c := by omega
                have hpL : p < L := by omega
                have hc1 := hst.1.cell p (by omega)
                have hf1 := hst.1.free p
                have hst' := hst.setX hgxy hxq p 0
                have hrs' := hrs.setOtherV hgr p (.int .u32 (0 : Nat))
                have hstep : Hid (us.set p (ws.getD c 0) = put zs i (ws.take (c + 1) ++ W.drop (c + 1))) := Lib.hid (by
                  rw [hus.out, hpc]
                  exact put_win_step (m := n2 + 1) (by rw [hinv.out.1]; omega) HWSL.out HWL.out (by omega))
                have HPC := Lib.hid hpc
                clear hpc
                by_cases hcr : c < nr
                · have dcr : decide (c < nr) = true := decide_eq_true hcr
                  obtain ⟨b9, o9, rfl, hc9⟩ := (hrs'.reads HRL.out).cell hcr
                  obtain ⟨x, hxe⟩ : ∃ x, x = rs.getD c 0 := ⟨_, rfl⟩
                  rw [← hxe] at hc9
                  have hc9' : (wr.setCell ⟨gx, p, none⟩ (.int .u32 0)).cell? ⟨b9, o9 + c, none⟩ = some (.int .u32 (x : Nat)) := hc9
                  clear hc9
                  have hwx : ws.getD c 0 = x := by rw [hwsg.out, if_pos hcr, hxe]
                  have hc2 := hst'.1.cell p (by rw [List.length_set]; omega)
                  rw [getD_set_self _ _ _ (by omega)] at hc2
                  have hc2' : (wr.setCell ⟨gx, p, none⟩ (.int .u32 0)).cell? ⟨gx, p, none⟩ = some (.int .u32 0) := hc2
                  have hf2 : (wr.setCell ⟨gx, p, none⟩ (.int .u32 0)).frozen? ⟨gx, p, none⟩ = false := hst'.1.free p
                  clear hc2
                  have hst'' := hst'.setX hgxy hxq p x
                  have hrs'' := hrs'.setOtherV hgr p (.int .u32 (x : Nat))
                  rw [hwx] at hstep
                  have hss : Hid ((us.set p 0).set p x = us.set p x) := Lib.hid (by rw [List.set_set])
                  clear hwx hxe hul
                  go_wp2_with fail
                  go_roundw
                  case rel => exact ⟨c + 1, (us.set p 0).set p x, by go_num, by omega, Lib.hid (by rw [hss.out]; exact hstep.out), hst'', hrs''⟩
                  case measure => simp [intOf]; omega
                · have dcr : decide (c < nr) = false := decide_eq_false hcr
                  have hwx : ws.getD c 0 = 0 := by rw [hwsg.out, if_neg hcr]
                  rw [hwx] at hstep
                  clear hwx hul
                  go_wp2_with fail
                  go_roundw
                  case rel => exact ⟨c + 1, us.set p 0, by go_num, by omega, hstep, hst', hrs'⟩
                  case measure => simp [intOf]; omega
              · have dcn : decide (c ≤ n2) = false := decide_eq_false hcn
                have hce : c = n2 + 1 := by omega
                have husp : us = put zs i ws := by rw [hus.out, hce]; exact put_win_done HWSL.out HWL.out
                have hcq := hst.2.2.1.cell i (by rw [hinv.out.2.2.1]; exact hik)
                have hfq := hst.2.2.1.free i
                have hst' := hst.setQ hxq hyq i g
                have hlim' : Limbs us := by rw [husp]; exact put_limbs hinv.out.2.1 HWSLIM.out
                have hnew : Hid (us.length = L ∧ Limbs us ∧ (qs.set i g).length = k ∧ Limbs (qs.set i g) ∧ LongDiv N0 D us (qs.set i g) i) := Lib.hid (by
                  refine ⟨hul, hlim', by rw [List.length_set]; exact hinv.out.2.2.1, hinv.out.2.2.2.1.set _ _ (by omega), ?_⟩
                  rw [husp]
                  refine longDiv_step hinv.out.2.2.2.2 hinv.out.2.1 HD1.out (by rw [hinv.out.1]; omega) (by rw [hinv.out.2.2.1]; exact hik) HWSL.out ?_ ?_
                  · rw [HWSV.out, ← HW.out, HGQ.out, Nat.mul_comm Q D]
                    have := hle.out
                    rw [HDV.out, HGQ.out] at this
                    omega
                  · rw [HWSV.out, HQE.out]
                    have h2 := Nat.mod_add_div (val W) D
                    have h3 := Nat.mod_lt (val W) HDP.out
                    omega)
                clear hce husp hul hlim' hus hst hrs
                go_wp2_with fail
                go_roundw
                case rel => exact ⟨i, us, qs.set i g, by go_num, by omega, hst', hnew⟩
                case measure => simp [intOf]
      · have dbig : decide (4294967295 < G) = false := decide_eq_false (by omega)
        go_wp2_with fail
        go_quiet (fail)
        go_wp2_with fail
        have hst0 := hst.below (below_drewN (Below.refl _ _) nq)
        clear hst c1 c2
        go_loopw [17] (fun gv wx => ∃ g : Nat, gv = .int .u64 (g : Nat) ∧ Hid (Q ≤ g) ∧ g ≤ 4294967295 ∧ DSt w gx L cx gy n2 cy gq k zs ds qs wx) (fun gv _ => (intOf gv).toNat)
        case atStart => exact ⟨G, rfl, Lib.hid (by have := HUP.out; have := HQ32.out; omega), by omega, hst0⟩
        case round =>
          clear hst0 dbig hbig
          try (rename (4294967295 : Int) < (G : Int) => hgg; clear hgg)
          try (rename (G : Int) ≤ (4294967295 : Int) => hgg; clear hgg)
          obtain ⟨g, rfl, hQg, hg32, hst⟩ := hrel
          have hstd := hst.below (Below.drew (Below.refl _ _))
          have hcxi : ¬ cx = i := by omega
          have F1 : Hid (ds.length ≤ 3000 ∧ g < pw 2) := Lib.hid ⟨by rw [HDM.out]; omega, lt_up (lt_pw1 (by omega)) (by decide)⟩
          have F2 : Hid (val ds * g < pw 3000 ∧ W.length ≤ 3000) := Lib.hid ⟨by rw [HDV.out]; exact lt_up (lt_mul HD1.out F1.out.2) (by omega), by rw [HWL.out]; omega⟩
          have hwin := fun (w' : World) (h : DSt w gx L cx gy n2 cy gq k zs ds qs w') => Lib.hid (show Reads w' (.slice (some ⟨gx, i, none⟩) (n2 + 1) (cx - i)) W by rw [HW.out]; exact h.1.window (i := i) (k := n2 + 1) (d := cx - i) (by rw [hinv.out.1]; omega) (by omega) (by unfold maxLen; omega) hinv.out.2.1)
          have hry := fun (w' : World) (h : DSt w gx L cx gy n2 cy gq k zs ds qs w') => Lib.hid (h.2.1.reads HDL.out)
          have hszd := hstd.2.2.2.size
          obtain ⟨p3, hp3⟩ : ∃ p3 : Nat, (p1 : Int) + 1 = (p3 : Int) := ⟨p1 + 1, by omega⟩
          have hw1 : IntKind.i64.wrap (p1 : Int) = (p1 : Int) := by rw [IntKind.wrap_i64]; omega
          have hw3 : IntKind.i64.wrap (p3 : Int) = (p3 : Int) := by rw [IntKind.wrap_i64]; omega
          have hp3c : p3 ≤ cx := by omega
          have hp3i : i ≤ p3 := by omega
          have hp3n : p3 - i = n2 + 1 := by omega
          by_cases hgt : val W < val ds * g
          · have hcmp : decide (0 < cmpI (val ds * g) (val W)) = true := by rw [cmpI_gt hgt]; rfl
            have hcmp' := Lib.hid (cmpI_gt hgt)
            have hQg' : Hid (Q ≤ g - 1) := Lib.hid (by
              have h1 : Q < g := by rw [HQE.out]; exact Nat.div_lt_of_lt_mul (by rw [← HDV.out]; exact hgt)
              omega)
            have hg1 : 1 ≤ g := by
              rcases Nat.eq_zero_or_pos g with h | h
              · subst h; simp at hgt
              · exact h
            clear hgt
            go_wp2_with fail
            go_region_law (first
              | (refine step_append_lies _ rfl _ _ 35 rfl w.heap.size 93 i0 (.int .u32 0) 1 4 Tryz.underlying35 hi hz0 hz1 hz2 rfl (by decide) (.slice none 0 0) 0 [] rfl (World.ownsRow_nil _ _ _ _) ⟨gx, i, none⟩ (n2 + 1) (cx - i) (W.map lim) (by simp [Act.eval]) (by rw [List.length_map, HWL.out, Nat.mul_one]) (OwnL.limbs_of_window (hwin _ ((hstd.below ha1).below hb1)).out (by omega)) (lim_one _) (by omega) (by unfold maxLen; omega) (by omega) (by have := ((hstd.below ha1).below hb1).2.2.2.size; omega) _ rfl ?_; intro gc cc wc hownc hgrc hatc hltc; have hAc : Add wb wc := (Below.refl _ _).grown hgrc (Nat.le_refl _) (fun k hk => by simp [Value.ownBlock] at hk))
              | (go_simp; go_at_call 87; refine (refMake_any _ _ (by omega) (by omega)).mono ?_; rintro e wa ⟨va1, rfl, na1, ha1⟩; rw [Int.toNat_natCast] at na1)
              | (go_simp; go_at_call 109; refine (refTimesRN (hry _ (hstd.below ha1)).out na1.num F1).mono ?_; rintro e wb ⟨vb1, rfl, nb1, hb1⟩)
              | (go_simp; go_at_call 71; refine (refCmpRN (nb1.num.mono hAc) ((copy_own hownc HWL.out).reads HWLIM.out) F2).mono ?_; rintro e wd ⟨rfl, hd1⟩))
            have hst4 := (((hstd.below ha1).below hb1).below hAc).below hd1
            clear ha1 hb1 hAc hd1 na1 nb1 hownc hgrc hatc hltc hstd hst hwin hry F1 F2
            go_wp2_with fail
            go_roundw
            case rel =>
              exact ⟨g - 1, by go_num, hQg', by omega, hst4⟩
            case measure => simp [intOf]; omega
          · have hcmp : decide (0 < cmpI (val ds * g) (val W)) = false := by
              rcases Nat.lt_or_ge (val W) (val ds * g) with h | h
              · exact absurd h hgt
              · rcases Nat.lt_or_ge (val ds * g) (val W) with h2 | h2
                · rw [cmpI_lt h2]; rfl
                · rw [cmpI_eq (by omega)]; rfl
            have hgQ : g = Q := by
              have h1 := hQg.out
              have h2 : g ≤ Q := by
                rw [HQE.out, Nat.le_div_iff_mul_le HDP.out, ← HDV.out, Nat.mul_comm]; omega
              omega
            have hle : Hid (val ds * g ≤ val W) := Lib.hid (by omega)
            have HGQ := Lib.hid hgQ
            clear hgt hgQ
            go_wp2_with fail
            go_region_law (first
              | (refine step_append_lies _ rfl _ _ 35 rfl w.heap.size 93 i0 (.int .u32 0) 1 4 Tryz.underlying35 hi hz0 hz1 hz2 rfl (by decide) (.slice none 0 0) 0 [] rfl (World.ownsRow_nil _ _ _ _) ⟨gx, i, none⟩ (n2 + 1) (cx - i) (W.map lim) (by simp [Act.eval]) (by rw [List.length_map, HWL.out, Nat.mul_one]) (OwnL.limbs_of_window (hwin _ ((hstd.below ha1).below hb1)).out (by omega)) (lim_one _) (by omega) (by unfold maxLen; omega) (by omega) (by have := ((hstd.below ha1).below hb1).2.2.2.size; omega) _ rfl ?_; intro gc cc wc hownc hgrc hatc hltc; have hAc : Add wb wc := (Below.refl _ _).grown hgrc (Nat.le_refl _) (fun k hk => by simp [Value.ownBlock] at hk))
              | (go_simp; go_at_call 87; refine (refMake_any _ _ (by omega) (by omega)).mono ?_; rintro e wa ⟨va1, rfl, na1, ha1⟩; rw [Int.toNat_natCast] at na1)
              | (go_simp; go_at_call 109; refine (refTimesRN (hry _ (hstd.below ha1)).out na1.num F1).mono ?_; rintro e wb ⟨vb1, rfl, nb1, hb1⟩)
              | (go_simp; go_at_call 71; refine (refCmpRN (nb1.num.mono hAc) ((copy_own hownc HWL.out).reads HWLIM.out) F2).mono ?_; rintro e wd ⟨rfl, hd1⟩))
            have hst4 := (((hstd.below ha1).below hb1).below hAc).below hd1
            clear ha1 hb1 hAc hd1 na1 nb1 hownc hgrc hatc hltc hstd hst hcmp
            have hsz4 := hst4.2.2.2.size
            go_wp2_with (at_builtin; refine wpList_append_own _ rfl _ _ 35 rfl w.heap.size 93 i0 (.int .u32 0) 1 4 Tryz.underlying35 hi hz0 hz1 hz2 rfl (by decide) (.slice none 0 0) 0 [] rfl (World.ownsRow_nil _ _ _ _) ⟨gx, i, none⟩ (n2 + 1) (cx - i) (W.map lim) rfl (by rw [List.length_map, HWL.out, Nat.mul_one]) (OwnL.limbs_of_window (hwin _ hst4).out (by omega)) (lim_one _) (by unfold maxLen; omega) (by omega) hsz4 ?_)
            intro vc wc hownc hgrc hatc
            have hAc : Add wd wc := (Below.refl _ _).grown hgrc (Nat.le_refl _) (fun k hk => by simp [Value.ownBlock] at hk)
            have hst5 := hst4.below hAc
            have hrc : Reads wc vc W := by
              have : OwnL wc w.heap.size vc W := by unfold OwnL; rw [HWL.out]; simpa using hownc
              exact this.reads HWLIM.out
            clear hownc hgrc hatc hst4 hAc hsz4
            go_wp2_with fail
            refine (refMake_any _ _ (by omega) (by omega)).mono ?_; rintro e wa ⟨va1, rfl, na1, ha1⟩
            rw [Int.toNat_natCast] at na1
            go_wp2_with fail
            refine (refTimesRN (hry _ (hst5.below ha1)).out na1.num F1).mono ?_; rintro e wb ⟨vb1, rfl, nb1, hb1⟩
            go_wp2_with fail
            refine (refMinusRN (hrc.mono (Add.trans ha1 hb1)) nb1.num (Lib.hid ⟨by rw [HWL.out]; omega, hle.out⟩)).mono ?_; rintro e we ⟨vr, rfl, nr1, hd1⟩
            have hst6 := ((hst5.below ha1).below hb1).below hd1
            obtain ⟨rs, orr, hrl, hrc2, hrv⟩ := nr1
            have hrs1 : rs.length ≤ n2 := by
              have h1 : val rs < pw n2 := by
                rw [hrv, HDV.out, HGQ.out, HQE.out]
                have h2 := Nat.mod_add_div (val W) D
                have h3 := Nat.mod_lt (val W) HDP.out
                have := HD1.out
                omega
              have := tlen_le_of_val n2 h1
              unfold Canon at hrc2; omega
            obtain ⟨nr, hnr⟩ : ∃ nr, rs.length = nr := ⟨_, rfl⟩
            obtain ⟨ar, cr, hvr⟩ := orr.len
            rw [hnr] at hvr
            subst hvr
            obtain ⟨ws, hws⟩ : ∃ ws, ws = rs ++ List.replicate (n2 + 1 - nr) 0 := ⟨_, rfl⟩
            have hwsl : ws.length = n2 + 1 := by rw [hws, List.length_append, List.length_replicate, hnr]; omega
            have hwsv : val ws = val W - D * Q := by rw [hws, val_append, val_replicate, hrv, HDV.out, HGQ.out]; omega
            have hwslim : Limbs ws := by rw [hws]; exact hrl.append (Limbs.replicate _)
            have hwsg : Hid (∀ c, ws.getD c 0 = if c < nr then rs.getD c 0 else 0) := Lib.hid (fun c => by
              rw [hws]
              by_cases h : c < nr
              · rw [if_pos h]; simp [List.getD, List.getElem?_append_left (by omega : c < rs.length)]
              · rw [if_neg h]
                simp only [List.getD, List.getElem?_append_right (by omega : rs.length ≤ c)]
                rcases Nat.lt_or_ge (c - rs.length) (n2 + 1 - nr) with h2 | h2
                · simp [h2]
                · rw [List.getElem?_eq_none (by simp; omega)]; rfl)
            have hgr : (Value.slice ar nr cr).ownBlock ≠ some gx := by
              rcases orr.form with ⟨e, _⟩ | ⟨g', cap, cur, e, hb', _⟩
              · rw [e]; simp [Value.ownBlock]
              · rw [e]
                have := hst5.1.lt.2
                have h3 := ha1.size
                have h4 := hb1.size
                simp [Value.ownBlock]
                omega
            have HRL := Lib.hid hrl
            have HNR := Lib.hid hnr
            have HWSL := Lib.hid hwsl
            have HWSV := Lib.hid hwsv
            have HWSLIM := Lib.hid hwslim
            have hput0 := put_win_zero (zs := zs) (W := W) (i := i) (m := n2 + 1) (by rw [hinv.out.1]; omega) HW.out ws
            have HPUT0 := Lib.hid hput0
            have hnr1 : nr ≤ n2 := by omega
            clear hws hwsl hwsv hwslim hput0 hrl hnr hrv hrc2 hrs1 ha1 hb1 hd1 na1 nb1 hst5 hwin hry F1 F2 hrc
            go_wp2_with fail
            go_loopw [19] (fun jv wx => ∃ (c : Nat) (us : List Nat), jv = .int .i64 (c : Nat) ∧ c ≤ n2 + 1 ∧ Hid (us = put zs i (ws.take c ++ W.drop c)) ∧ DSt w gx L cx gy n2 cy gq k us ds qs wx ∧ OwnL wx wb.heap.size (.slice ar nr cr) rs) (fun jv _ => n2 + 1 - (intOf jv).toNat)
            case atStart => exact ⟨0, zs, rfl, Nat.zero_le _, Lib.hid HPUT0.out.symm, hst6, orr⟩
            case round =>
              clear hst6 orr
              obtain ⟨c, us, rfl, hc, hus, hst, hrs⟩ := hrel
              have hul : us.length = L := by
                rw [hus.out, put_length (by rw [List.length_append, List.length_take, List.length_drop, HWSL.out, HWL.out, hinv.out.1]; omega), hinv.out.1]
              by_cases hcn : c ≤ n2
              · have dcn : decide (c ≤ n2) = true := decide_eq_true hcn
                obtain ⟨p, hp⟩ : ∃ p : Nat, (i : Int) + (c : Int) = (p : Int) := ⟨i + c, by omega⟩
                have hpc : p = i + c := by omega
                have hpL : p < L := by omega
                have hc1 := hst.1.cell p (by omega)
                have hf1 := hst.1.free p
                have hst' := hst.setX hgxy hxq p 0
                have hrs' := hrs.setOtherV hgr p (.int .u32 (0 : Nat))
                have hstep : Hid (us.set p (ws.getD c 0) = put zs i (ws.take (c + 1) ++ W.drop (c + 1))) := Lib.hid (by
                  rw [hus.out, hpc]
                  exact put_win_step (m := n2 + 1) (by rw [hinv.out.1]; omega) HWSL.out HWL.out (by omega))
                have HPC := Lib.hid hpc
                clear hpc
                by_cases hcr : c < nr
                · have dcr : decide (c < nr) = true := decide_eq_true hcr
                  obtain ⟨b9, o9, rfl, hc9⟩ := (hrs'.reads HRL.out).cell hcr
                  obtain ⟨x, hxe⟩ : ∃ x, x = rs.getD c 0 := ⟨_, rfl⟩
                  rw [← hxe] at hc9
                  have hc9' : (wr.setCell ⟨gx, p, none⟩ (.int .u32 0)).cell? ⟨b9, o9 + c, none⟩ = some (.int .u32 (x : Nat)) := hc9
                  clear hc9
                  have hwx : ws.getD c 0 = x := by rw [hwsg.out, if_pos hcr, hxe]
                  have hc2 := hst'.1.cell p (by rw [List.length_set]; omega)
                  rw [getD_set_self _ _ _ (by omega)] at hc2
                  have hc2' : (wr.setCell ⟨gx, p, none⟩ (.int .u32 0)).cell? ⟨gx, p, none⟩ = some (.int .u32 0) := hc2
                  have hf2 : (wr.setCell ⟨gx, p, none⟩ (.int .u32 0)).frozen? ⟨gx, p, none⟩ = false := hst'.1.free p
                  clear hc2
                  have hst'' := hst'.setX hgxy hxq p x
                  have hrs'' := hrs'.setOtherV hgr p (.int .u32 (x : Nat))
                  rw [hwx] at hstep
                  have hss : Hid ((us.set p 0).set p x = us.set p x) := Lib.hid (by rw [List.set_set])
                  clear hwx hxe hul
                  go_wp2_with fail
                  go_roundw
                  case rel => exact ⟨c + 1, (us.set p 0).set p x, by go_num, by omega, Lib.hid (by rw [hss.out]; exact hstep.out), hst'', hrs''⟩
                  case measure => simp [intOf]; omega
                · have dcr : decide (c < nr) = false := decide_eq_false hcr
                  have hwx : ws.getD c 0 = 0 := by rw [hwsg.out, if_neg hcr]
                  rw [hwx] at hstep
                  clear hwx hul
                  go_wp2_with fail
                  go_roundw
                  case rel => exact ⟨c + 1, us.set p 0, by go_num, by omega, hstep, hst', hrs'⟩
                  case measure => simp [intOf]; omega
              · have dcn : decide (c ≤ n2) = false := decide_eq_false hcn
                have hce : c = n2 + 1 := by omega
                have husp : us = put zs i ws := by rw [hus.out, hce]; exact put_win_done HWSL.out HWL.out
                have hcq := hst.2.2.1.cell i (by rw [hinv.out.2.2.1]; exact hik)
                have hfq := hst.2.2.1.free i
                have hst' := hst.setQ hxq hyq i g
                have hlim' : Limbs us := by rw [husp]; exact put_limbs hinv.out.2.1 HWSLIM.out
                have hnew : Hid (us.length = L ∧ Limbs us ∧ (qs.set i g).length = k ∧ Limbs (qs.set i g) ∧ LongDiv N0 D us (qs.set i g) i) := Lib.hid (by
                  refine ⟨hul, hlim', by rw [List.length_set]; exact hinv.out.2.2.1, hinv.out.2.2.2.1.set _ _ (by omega), ?_⟩
                  rw [husp]
                  refine longDiv_step hinv.out.2.2.2.2 hinv.out.2.1 HD1.out (by rw [hinv.out.1]; omega) (by rw [hinv.out.2.2.1]; exact hik) HWSL.out ?_ ?_
                  · rw [HWSV.out, ← HW.out, HGQ.out, Nat.mul_comm Q D]
                    have := hle.out
                    rw [HDV.out, HGQ.out] at this
                    omega
                  · rw [HWSV.out, HQE.out]
                    have h2 := Nat.mod_add_div (val W) D
                    have h3 := Nat.mod_lt (val W) HDP.out
                    omega)
                clear hce husp hul hlim' hus hst hrs
                go_wp2_with fail
                go_roundw
                case rel => exact ⟨i, us, qs.set i g, by go_num, by omega, hst', hnew⟩
                case measure => simp [intOf]
end Go.Proofs.YtbeoeackahmpbaaGreatDoor
