/- The reference's divide, for a divisor of two limbs and more. -/
import Derived.Test.YtifpfoeecnkhoaaDoorR10
import Derived.Deep.AppendLies
import Derived.Deep.RegionLaw
namespace Go.Proofs.YtifpfoeecnkhoaaDoor
open Go.RowKit NatM Go.Proofs.YtifpfoeecnkhoaaDoor.Api

theorem OwnL.eqn {w : World} {base g n c : Nat} {zs : List Nat} (h : OwnL w base (.slice (some ⟨g, 0, none⟩) n c) zs) : n = zs.length := by
  rcases h.form with ⟨e, _⟩ | ⟨_, _, _, e, _⟩
  · cases e
  · simp only [Value.slice.injEq] at e; exact e.2.1
theorem OwnL.set {w : World} {base g n c : Nat} {zs : List Nat} (h : OwnL w base (.slice (some ⟨g, 0, none⟩) n c) zs) (i s : Nat) : OwnL (w.setCell ⟨g, i, none⟩ (.int .u32 (s : Nat))) base (.slice (some ⟨g, 0, none⟩) n c) (zs.set i s) := by
  have hn : n = zs.length := by
    rcases h.form with ⟨e, _⟩ | ⟨_, _, _, e, _⟩
    · cases e
    · simp only [Value.slice.injEq] at e; exact e.2.1
  unfold OwnL at h ⊢
  subst hn
  have := (World.ownsRow.stored h i (lim s)).1
  rw [← List.map_set] at this
  rw [List.length_set]
  exact this
theorem OwnL.cell {w : World} {base g n c : Nat} {zs : List Nat} (h : OwnL w base (.slice (some ⟨g, 0, none⟩) n c) zs) (i : Nat) (hi : i < zs.length) : w.cell? ⟨g, i, none⟩ = some (.int .u32 (zs.getD i 0 : Nat)) := by
  obtain rfl := h.eqn
  have := World.ownsRow.cellAt h i (by simpa using hi)
  rw [this]
  simp [List.getD, hi, lim]
theorem OwnL.free {w : World} {base g n c : Nat} {zs : List Nat} (h : OwnL w base (.slice (some ⟨g, 0, none⟩) n c) zs) (i : Nat) : w.frozen? ⟨g, i, none⟩ = false := by
  obtain rfl := h.eqn
  exact World.ownsRow.frozenAt h i
theorem OwnL.lt {w : World} {base g n c : Nat} {zs : List Nat} (h : OwnL w base (.slice (some ⟨g, 0, none⟩) n c) zs) : base ≤ g ∧ g < w.heap.size := by
  obtain rfl := h.eqn
  exact World.ownsRow.lt h g rfl
theorem OwnL.room {w : World} {base g n c : Nat} {zs : List Nat} (h : OwnL w base (.slice (some ⟨g, 0, none⟩) n c) zs) : n = zs.length ∧ zs.length ≤ c ∧ c ≤ maxLen := by
  rcases h.form with ⟨e, _⟩ | ⟨_, _, _, e, _, _, h3, h4, _⟩
  · cases e
  · simp only [Value.slice.injEq] at e
    obtain ⟨-, rfl, rfl⟩ := e
    exact ⟨rfl, h3, h4⟩
theorem OwnL.shorter {w : World} {base g n c L : Nat} {zs : List Nat} (h : OwnL w base (.slice (some ⟨g, 0, none⟩) n c) zs) (hL : L ≤ zs.length) : OwnL w base (.slice (some ⟨g, 0, none⟩) L c) (zs.take L) := by
  rcases h.form with ⟨e, _⟩ | ⟨g', cap, cur, e, h1, h2, h3, h4, h5, h6⟩
  · cases e
  · simp only [Value.slice.injEq, Option.some.injEq, Addr.mk.injEq, and_true] at e
    obtain ⟨rfl, -, rfl⟩ := e
    have hl : (zs.take L).length = L := by rw [List.length_take]; omega
    refine ⟨by simp [List.length_take], .inr ⟨g, c, cur, by rw [hl], h1, h2, by omega, h4, by simpa using h5, ?_⟩⟩
    rw [hl, List.map_take, ← h6, List.take_take, Nat.mul_one, Nat.min_eq_left hL]
theorem OwnL.setOther {w : World} {base g n c g' : Nat} {zs : List Nat} (h : OwnL w base (.slice (some ⟨g, 0, none⟩) n c) zs) (hne : g' ≠ g) (i : Nat) (u : Value) : OwnL (w.setCell ⟨g', i, none⟩ u) base (.slice (some ⟨g, 0, none⟩) n c) zs := by
  refine ⟨h.1, ?_⟩
  rcases h.2 with hn | ⟨g2, cap, cur, e, hg, hgg, rest⟩
  · exact .inl hn
  · refine .inr ⟨g2, cap, cur, e, hg, ?_, rest⟩
    simp only [Value.slice.injEq, Option.some.injEq, Addr.mk.injEq, and_true] at e
    obtain ⟨rfl, -⟩ := e
    rw [heap_setCell_other w ⟨g', i, none⟩ g u (fun e => hne e.symm)]; exact hgg
theorem OwnL.window {w : World} {base g n c : Nat} {zs : List Nat} (h : OwnL w base (.slice (some ⟨g, 0, none⟩) n c) zs) {i k d : Nat} (hi : i + k ≤ zs.length) (hk : k ≤ d) (hd : d ≤ maxLen) (hz : Limbs zs) : Reads w (.slice (some ⟨g, i, none⟩) k d) ((zs.drop i).take k) := by
  refine ⟨_, k, d, rfl, window_length hi, hk, hd, (hz.drop _).take _, fun _ => ⟨g, i, rfl, fun j hj => ?_⟩⟩
  rw [h.cell (i + j) (by omega)]
  simp [List.getD, hj]
theorem OwnL.limbs_of_window {w : World} {g i k d : Nat} {xs : List Nat} (h : Reads w (.slice (some ⟨g, i, none⟩) k d) xs) (hk : 0 < k) : ∀ j u, (xs.map lim)[j]? = some u → w.cell? ((⟨g, i, none⟩ : Addr).add j) = some u := by
  obtain ⟨ao, n, c, e, hl, -, -, -, hr⟩ := h
  simp only [Value.slice.injEq] at e
  obtain ⟨rfl, rfl, rfl⟩ := e
  obtain ⟨b, off, e, g'⟩ := hr hk
  simp only [Option.some.injEq, Addr.mk.injEq, and_true] at e
  obtain ⟨rfl, rfl⟩ := e
  have := reads_front (k := k) g' (Nat.le_refl _) hl
  rwa [List.take_of_length_le (by omega)] at this
theorem cells_two_new (w : World) (g : Nat) (hg : w.heap.size = g) (x y : Value) (t : TypeId) : ∀ j u, [x, y][j]? = some u → (w.alloc (.cells #[x, y] t)).cell? ((⟨g, 0, none⟩ : Addr).add j) = some u := by
  subst hg
  intro j u hu
  have : j = 0 ∨ j = 1 := by
    have := (List.getElem?_eq_some_iff.1 hu).1
    simp at this; omega
  rcases this with rfl | rfl
  · simp at hu; subst hu; simp [Addr.add_lit]
  · simp at hu; subst hu; simp [Addr.add_lit]
theorem num_uniq {w1 : World} {base : Nat} {v1 : Value} {N : Nat} {zs : List Nat} (h1 : NumO w1 base v1 N) (h2 : Limbs zs) (h3 : Canon zs) (h4 : val zs = N) : OwnL w1 base v1 zs := by
  obtain ⟨us, a, b, c, d⟩ := h1
  rw [canon_inj h2 b h3 c (by rw [h4, d])]; exact a

/-- The quotient by the leading limb is not below the digit. -/
theorem guess_up {ws ds : List Nat} {m : Nat} (hw : Limbs ws) (hl : ws.length = m + 2) (hld : ds.length = m + 1) (htop : ds.getD m 0 ≠ 0) :
    val ws / val ds ≤ (ws.getD (m + 1) 0 * 4294967296 + ws.getD m 0) / ds.getD m 0 := by
  have tw : val ws = val (ws.take m) + pw m * (ws.getD (m + 1) 0 * 4294967296 + ws.getD m 0) := by
    have : ws.take (m + 1 + 1) = ws := List.take_of_length_le (by omega)
    conv => lhs; rw [← this]
    rw [val_take_succ, val_take_succ, show pw (m + 1) = 4294967296 * pw m from pw_succ m]
    exact two_limbs _ _ _ _
  have td : val ds = val (ds.take m) + pw m * ds.getD m 0 := by
    have : ds.take (m + 1) = ds := List.take_of_length_le (by omega)
    conv => lhs; rw [← this]
    rw [val_take_succ]
  have bw : val (ws.take m) < pw m := by
    have a := val_lt (hw.take m)
    rw [List.length_take, Nat.min_eq_left (by omega)] at a
    exact a
  obtain ⟨T, hT⟩ : ∃ T, T = ws.getD (m + 1) 0 * 4294967296 + ws.getD m 0 := ⟨_, rfl⟩
  obtain ⟨d, hde⟩ : ∃ d, d = ds.getD m 0 := ⟨_, rfl⟩
  rw [← hT] at tw ⊢
  rw [← hde] at td htop ⊢
  have hdp : 0 < d := Nat.pos_of_ne_zero htop
  rw [Nat.le_div_iff_mul_le hdp]
  have hDpos : 0 < val ds := by
    have : pw m * 1 ≤ pw m * d := Nat.mul_le_mul_left _ hdp
    have := pw_pos m
    omega
  have h1 : val ws / val ds * val ds ≤ val ws := Nat.div_mul_le_self _ _
  have h2 : val ws / val ds * (pw m * d) ≤ val ws / val ds * val ds := Nat.mul_le_mul_left _ (by omega)
  have h3 : pw m * (val ws / val ds * d) < pw m * (T + 1) := by
    have e : val ws / val ds * (pw m * d) = pw m * (val ws / val ds * d) := by rw [Nat.mul_left_comm]
    rw [Nat.mul_add, Nat.mul_one]; omega
  have := Nat.lt_of_mul_lt_mul_left h3
  omega

theorem copy_own {w : World} {base g m c : Nat} {W : List Nat} (h : w.ownsRow base 26 1 (.slice (some ⟨g, 0, none⟩) (0 + m) c) (0 + m) ([] ++ W.map lim)) (hl : W.length = m) : OwnL w base (.slice (some ⟨g, 0, none⟩) m c) W := by
  subst hl
  unfold OwnL
  simpa using h
theorem refTimesRN {v1 v2 : Value} {ds : List Nat} {B : Nat} {w : World} (h1 : Reads w v1 ds) (h2 : Num w v2 B) (h : Hid (ds.length ≤ 3000 ∧ B < pw 2)) : Calls Tryd.prog 17 #[v1, v2] w (RetO w (val ds * B)) := by
  obtain ⟨ys, r2, -, rfl, l2⟩ := num_reads h2 h.out.2
  exact refTimes_any v1 v2 ds ys w h1 r2 (by have := h.out.1; omega) (by omega)
theorem OwnL.setOtherV {w : World} {base g' : Nat} {v : Value} {zs : List Nat} (h : OwnL w base v zs) (hne : v.ownBlock ≠ some g') (i : Nat) (u : Value) : OwnL (w.setCell ⟨g', i, none⟩ u) base v zs := by
  rcases h.form with ⟨rfl, rfl⟩ | ⟨g, cap, cur, rfl, _⟩
  · exact OwnL.nil _ _
  · exact h.setOther (fun e => hne (by simp [Value.ownBlock, e])) i u
theorem put_win_step {zs ws W : List Nat} {i c m : Nat} (hi : i + m ≤ zs.length) (hw : ws.length = m) (hW : W.length = m) (hc : c < m) : (put zs i (ws.take c ++ W.drop c)).set (i + c) (ws.getD c 0) = put zs i (ws.take (c + 1) ++ W.drop (c + 1)) := by
  have hl : (ws.take c ++ W.drop c).length = m := by rw [List.length_append, List.length_take, List.length_drop]; omega
  rw [put_set (by omega) (by omega)]
  congr 1
  have e1 : W.drop c = W.getD c 0 :: W.drop (c + 1) := by
    rw [List.drop_eq_getElem_cons (by omega)]; simp [List.getD, (by omega : c < W.length)]
  have e2 : ws.take (c + 1) = ws.take c ++ [ws.getD c 0] := by
    rw [List.take_succ_eq_append_getElem (by omega)]; simp [List.getD, (by omega : c < ws.length)]
  rw [e1, e2, List.set_append_right _ _ (by rw [List.length_take]; omega), List.length_take, Nat.min_eq_left (by omega), Nat.sub_self]
  simp
theorem put_win_zero {zs W : List Nat} {i m : Nat} (hi : i + m ≤ zs.length) (hW : W = (zs.drop i).take m) (ws : List Nat) : put zs i (ws.take 0 ++ W.drop 0) = zs := by
  rw [List.take_zero, List.nil_append, List.drop_zero, hW]; exact put_self hi
theorem put_win_done {zs ws W : List Nat} {i m : Nat} (hw : ws.length = m) (hW : W.length = m) : put zs i (ws.take m ++ W.drop m) = put zs i ws := by
  rw [List.take_of_length_le (by omega), List.drop_of_length_le (by omega), List.append_nil]

/-- What the loops of divide keep. -/
def DSt (w : World) (gx Lx cx gy my cy gq k : Nat) (zs ys qs : List Nat) (wr : World) : Prop :=
  OwnL wr w.heap.size (.slice (some ⟨gx, 0, none⟩) Lx cx) zs ∧ OwnL wr w.heap.size (.slice (some ⟨gy, 0, none⟩) my cy) ys ∧ OwnL wr w.heap.size (.slice (some ⟨gq, 0, none⟩) k k) qs ∧ Add w wr
theorem DSt.below {w : World} {gx Lx cx gy my cy gq k : Nat} {zs ys qs : List Nat} {wr w' : World} (h : DSt w gx Lx cx gy my cy gq k zs ys qs wr) (hb : Add wr w') : DSt w gx Lx cx gy my cy gq k zs ys qs w' :=
  ⟨h.1.below hb, h.2.1.below hb, h.2.2.1.below hb, Add.trans h.2.2.2 hb⟩
theorem DSt.setX {w : World} {gx Lx cx gy my cy gq k : Nat} {zs ys qs : List Nat} {wr : World} (h : DSt w gx Lx cx gy my cy gq k zs ys qs wr) (h1 : gx ≠ gy) (h2 : gx ≠ gq) (i s : Nat) : DSt w gx Lx cx gy my cy gq k (zs.set i s) ys qs (wr.setCell ⟨gx, i, none⟩ (.int .u32 (s : Nat))) :=
  ⟨h.1.set i s, h.2.1.setOther h1 i _, h.2.2.1.setOther h2 i _, h.2.2.2.setCell h.1.lt.1 _⟩
theorem DSt.setQ {w : World} {gx Lx cx gy my cy gq k : Nat} {zs ys qs : List Nat} {wr : World} (h : DSt w gx Lx cx gy my cy gq k zs ys qs wr) (h1 : gx ≠ gq) (h2 : gy ≠ gq) (i s : Nat) : DSt w gx Lx cx gy my cy gq k zs ys (qs.set i s) (wr.setCell ⟨gq, i, none⟩ (.int .u32 (s : Nat))) :=
  ⟨h.1.setOther (fun e => h1 e.symm) i _, h.2.1.setOther (fun e => h2 e.symm) i _, h.2.2.1.set i s, h.2.2.2.setCell h.2.2.1.lt.1 _⟩

end Go.Proofs.YtifpfoeecnkhoaaDoor
