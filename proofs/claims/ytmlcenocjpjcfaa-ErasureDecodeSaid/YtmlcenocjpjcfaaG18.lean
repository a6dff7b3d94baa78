/- Package field: extended. -/
import Derived.Test.YtmlcenocjpjcfaaG17
import Derived.Test.YtmlcenocjpjcfaaG10
import Derived.Laws.CopyOwn
import Derived.Deep.RegionLaw
namespace Go.Proofs.Ytmlcenocjpjcfaa
open Go.RowKit GfM

theorem sizeU8 : (Try.prog.info? 5).map (·.size) = some 1 := by kernel_rfl
/-- Row i of the identity. -/
def unitR (n i : Nat) : List Nat := (List.replicate n 0).set i 1
theorem length_unitR (n i : Nat) : (unitR n i).length = n := by simp [unitR]
theorem bys_unitR (n i : Nat) : Bys (unitR n i) := by
  intro x hx
  rcases List.mem_or_eq_of_mem_set hx with h | h
  · rw [List.eq_of_mem_replicate h]; decide
  · rw [h]; decide
/-- The first k rows with those of the identity behind them. -/
def extTo (rs : List (List Nat)) (n k : Nat) : List (List Nat) := (List.range k).map fun i => rs.getD i [] ++ unitR n i
theorem length_extTo (rs : List (List Nat)) (n k : Nat) : (extTo rs n k).length = k := by simp [extTo]
theorem extTo_succ (rs : List (List Nat)) (n k : Nat) : extTo rs n (k + 1) = extTo rs n k ++ [rs.getD k [] ++ unitR n k] := by simp [extTo, List.range_succ]
theorem getD_extTo {rs : List (List Nat)} {n k i : Nat} (h : i < k) : (extTo rs n k).getD i [] = rs.getD i [] ++ unitR n i := by simp [extTo, List.getD, h]

theorem heads_push {m g : Nat} {gs : List Nat} {r : Nat} : (gs.map (hdr m) ++ List.replicate (r + 1) (Value.slice none 0 0)).set gs.length (hdr m g) = (gs ++ [g]).map (hdr m) ++ List.replicate r (.slice none 0 0) := by
  rw [List.set_append_right _ _ (by rw [List.length_map]; exact Nat.le_refl _), List.length_map, Nat.sub_self, List.replicate_succ, List.set_cons_zero, List.map_append, List.append_assoc]
  rfl
theorem Mat.push {wr w1 w3 w4 : World} {base G m r g : Nat} {gs : List Nat} {M : List (List Nat)} {zs : List Nat} (h : Mat wr base G m (r + 1) gs M) (hg : g = wr.heap.size) (h1 : wr.grownBy w1 none)
    (h3 : Below g (w1.setCell ⟨G, M.length, none⟩ (hdr m g)) w3) (h4 : w3.grownBy w4 (some g)) (hr : Row w4 g zs) (hl : zs.length = m) : Mat w4 base G m r (gs ++ [g]) (M ++ [zs]) := by
  obtain ⟨a1, a2, a3, a4, a5, a6⟩ := h
  have hlt := a2.lt
  have hG := a1.lt
  have g2 : (w1.setCell ⟨G, M.length, none⟩ (hdr m g)).heap.size = w1.heap.size := by simp
  have b1 := (a1.kept h1 (by simp)).set gs.length (hdr m g)
  rw [heads_push, a2.1] at b1
  have b2 : RowsAt w4 m gs M := by
    refine (((a2.kept h1 (fun _ _ => by simp)).kept (grown_setCell (g := G) M.length (hdr m g)) ?_).below h3 ?_).kept h4 ?_
    · intro x hx e; exact a4 (by rw [← Option.some.inj e]; exact hx)
    · intro x hx; rw [hg]; exact hlt x hx
    · intro x hx e; have := hlt x hx; rw [← hg, Option.some.inj e] at this; exact Nat.lt_irrefl _ this
  refine ⟨(b1.below h3 (by omega)).kept h4 (fun e => by have := Option.some.inj e; omega), b2.push hr hl, ?_, ?_, a5, ?_⟩
  · refine List.pairwise_append.2 ⟨a3, List.pairwise_singleton _ _, fun x hx y hy => ?_⟩
    have := hlt x hx
    rw [List.mem_singleton.1 hy]; omega
  · intro e
    rcases List.mem_append.1 e with e | e
    · exact a4 e
    · have := List.mem_singleton.1 e; omega
  · intro x hx
    rcases List.mem_append.1 hx with hx | hx
    · exact a6 x hx
    · rw [List.mem_singleton.1 hx]; omega

/-- What extended returns. -/
def ExtP (w : World) (rs : List (List Nat)) (n : Nat) (e : Ending) (w' : World) : Prop := ∃ G gs, e = .returned (.slice (some ⟨G, 0, none⟩) n n) ∧ Mat w' w.heap.size G (2 * n) 0 gs (extTo rs n n) ∧ Add w w'

set_option maxRecDepth 100000 in
set_option maxHeartbeats 4000000 in
theorem extended_any {w : World} {v : Value} {vs : List Value} {rs : List (List Nat)} {n : Nat} (h : RowsB w v vs rs) (hn : rs.length = n) (hn2 : n ≤ 1000) (hal : allLen n rs = true) :
    Calls Try.prog 43 #[v] w (ExtP w rs n) := by
  obtain ⟨i0, hi, hz0, hz1, hz2⟩ := info_parts info5
  obtain ⟨i1, hi1, hy0, hy1, hy2⟩ := info_parts info32
  obtain ⟨ao, cr, rfl, hm⟩ := h.isSlice
  rw [hn] at h hm ⊢
  have HR := Lib.hid h
  have HN := Lib.hid hn
  have HAL := Lib.hid hal
  clear h hn hal hm
  go_enter Try.func43, Try.ntmps43
  go_wp2_with (at_make; refine wpList_make_full _ rfl _ _ 22 rfl w.heap.size 32 i1 (.slice none 0 0) 1 Try.underlying22 hi1 hy0 hy1 _ _ _ _ n rfl rfl (by omega) (by omega) (by rw [hy2]; omega) (by unfold maxLen; omega) (Nat.le_refl _) ?_)
  intro w1 hown hgr
  have hadd : Add w w1 := (Below.refl _ _).grown hgr (Nat.le_refl _) (by simp)
  have HM0 : Hid (Mat w1 w.heap.size w.heap.size (2 * n) n [] []) := Lib.hid (by
    refine ⟨?_, RowsAt.nil _ _, List.nodup_nil, by simp, Nat.le_refl _, by simp⟩
    rcases hown.2 with ⟨e, _⟩ | ⟨g', cap, cur, e, hg, hgg, hn', hm', hs, ht⟩
    · simp at e
    · simp only [Value.slice.injEq, Option.some.injEq, Addr.mk.injEq, and_true, true_and] at e
      obtain ⟨rfl, rfl⟩ := e
      unfold Heads
      rw [hgg]
      have hh : cur = (List.replicate n (Value.slice none 0 0)).toArray := by
        rw [← toList_madeCells_one, ← ht]
        rw [List.take_of_length_le (by simp; omega)]
      rw [hh]; rfl)
  have HADD := Lib.hid hadd
  clear hown hgr hadd
  go_wp2_with fail
  go_loopw [12] (fun i wr => ∃ (k : Nat) (gs : List Nat), k ≤ n ∧ i = .int .i64 (k : Nat) ∧ Mat wr w.heap.size w.heap.size (2 * n) (n - k) gs (extTo rs n k) ∧ Add w wr) (fun i _ => n - (intOf i).toNat)
  case atStart => exact ⟨0, [], Nat.zero_le _, rfl, HM0.out, HADD.out⟩
  case round =>
    obtain ⟨k, gs, hk, rfl, hmat, hadd⟩ := hrel
    by_cases h0 : k = n
    · have HF : Hid (Mat wr w.heap.size w.heap.size (2 * n) 0 gs (extTo rs n n)) := Lib.hid (by rw [h0, Nat.sub_self] at hmat; exact hmat)
      have HA := Lib.hid hadd
      clear hmat hadd
      subst h0
      go_wp2_with fail
      go_ret
      exact ⟨w.heap.size, gs, rfl, HF.out, HA.out⟩
    · have hlt : k < n := by omega
      obtain ⟨r, er⟩ : ∃ r, n - k = r + 1 := ⟨n - k - 1, by omega⟩
      rw [er] at hmat
      have HMAT := Lib.hid hmat
      have HA := Lib.hid hadd
      have HR' : Hid (n - (k + 1) = r) := Lib.hid (by omega)
      clear hmat hadd er h0
      go_wp2_with (at_make; refine wpList_make_full _ rfl _ _ 32 rfl wr.heap.size 5 i0 (.int .u8 0) 1 Try.underlying32 hi hz0 hz1 _ _ _ _ (2 * n) rfl rfl (by omega) (by omega) (by rw [hz2]; omega) (by unfold maxLen; omega) (Nat.le_refl _) ?_)
      intro w1 hown hgr
      have hown := Own.made hown
      obtain ⟨g, eg⟩ : ∃ g, g = wr.heap.size := ⟨_, rfl⟩
      rw [← eg] at hown ⊢
      have hheads := HMAT.out.1.kept hgr (by simp)
      have hlk : gs.length = k := by rw [HMAT.out.2.1.1, length_extTo]
      have hc1 : w1.cell? ⟨w.heap.size, k, none⟩ = some (.slice none 0 0) := by
        rw [hheads.cell (by rw [List.length_append, List.length_map, List.length_replicate]; omega)]
        simp only [List.getD]
        rw [List.getElem?_append_right (by rw [List.length_map]; omega)]
        simp [hlk]
      have hf1 := hheads.free k
      obtain ⟨W2, hW2⟩ : ∃ W2, W2 = w1.setCell ⟨w.heap.size, k, none⟩ (.slice (some ⟨g, 0, none⟩) (2 * n) (2 * n)) := ⟨_, rfl⟩
      have HW := Lib.hid hW2
      have hGg : w.heap.size < g := by rw [eg]; exact HMAT.out.1.lt
      have hheads2 := hheads.set k (.slice (some ⟨g, 0, none⟩) (2 * n) (2 * n))
      rw [← hW2] at hheads2
      have hrow2 : Row W2 g (List.replicate (2 * n) 0) := by rw [hW2]; exact hown.row.kept (grown_setCell (g := w.heap.size) k _) (fun e => by have := Option.some.inj e; omega)
      have hadd2 : Add w W2 := by rw [hW2]; exact (HA.out.grown hgr HA.out.size (by simp)).setCell (Nat.le_refl _) _
      have hlen2 : k < ((gs.map (hdr (2 * n)) ++ List.replicate (r + 1) (Value.slice none 0 0)).set k (.slice (some ⟨g, 0, none⟩) (2 * n) (2 * n))).length := by
        rw [List.length_set, List.length_append, List.length_map, List.length_replicate]; omega
      have hc2 := hheads2.cell hlen2
      have ev : ((gs.map (hdr (2 * n)) ++ List.replicate (r + 1) (Value.slice none 0 0)).set k (.slice (some ⟨g, 0, none⟩) (2 * n) (2 * n))).getD k undef = .slice (some ⟨g, 0, none⟩) (2 * n) (2 * n) := by
        rw [List.length_set] at hlen2
        simp only [List.getD]; rw [List.getElem?_set_self hlen2]; rfl
      rw [ev] at hc2
      obtain ⟨b, off, a, l, c, eao, -, el, -, hca, hrd⟩ := (HR.out.mono hadd2).row hlt
      subst eao
      obtain ⟨xs, exs⟩ : ∃ xs, xs = rs.getD k [] := ⟨_, rfl⟩
      rw [← exs] at el hrd
      have hxl : xs.length = n := by rw [exs]; exact allLen_get HAL.out (by rw [HN.out]; exact hlt)
      have eln : n = l := by rw [el, hxl]
      subst eln
      obtain ⟨cur, ecur⟩ : ∃ cur, cur = (List.replicate (2 * n) 0).map lim := ⟨_, rfl⟩
      obtain ⟨cs, ecs⟩ : ∃ cs, cs = xs.map lim := ⟨_, rfl⟩
      have hcsl : cs.length = n := by rw [ecs, List.length_map, hxl]
      have HCUR : Hid (W2.heap[g]? = some (.cells cur.toArray 5 (0, 0))) := Lib.hid (by rw [ecur]; exact hrow2)
      have HLEN : Hid (cs.length = Nat.min n (2 * n)) := Lib.hid (by rw [hcsl]; exact (Nat.min_eq_left (by omega)).symm)
      have HFIT : Hid (0 + cs.length ≤ cur.length) := Lib.hid (by rw [hcsl, ecur]; simp; omega)
      have HONE : Hid (∀ u ∈ cs, u.oneCell' = true) := Lib.hid (by
        rw [ecs]; intro u hu
        obtain ⟨x, _, rfl⟩ := List.mem_map.1 hu
        rfl)
      have HPOS : Hid (0 < cs.length → ∃ ad, a = some ad ∧ ∀ j u, cs[j]? = some u → W2.cell? (ad.add j) = some u) := Lib.hid (by
        intro h0
        obtain ⟨ao', n', c', e, hl, -, -, -, hr⟩ := hrd
        simp only [Value.slice.injEq] at e
        obtain ⟨rfl, rfl, rfl⟩ := e
        obtain ⟨b', off', rfl, q⟩ := hr (by omega)
        refine ⟨_, rfl, fun j u hj => ?_⟩
        rw [ecs, List.getElem?_map] at hj
        have hjl : j < n := by
          rcases Nat.lt_or_ge j n with h1 | h1
          · exact h1
          · rw [List.getElem?_eq_none (by omega)] at hj; simp at hj
        rw [Addr.add_lit, q j hjl]
        have h4 : j < xs.length := by omega
        simp [h4, List.getD] at hj ⊢
        exact hj)
      have HSPL : Hid (splice cur 0 cs = (xs ++ List.replicate n 0).map lim) := Lib.hid (by
        unfold splice
        rw [List.take_zero, List.nil_append, Nat.zero_add, hcsl, ecur, ecs, ← List.map_drop, ← List.map_append, List.drop_replicate]
        congr 3; omega)
      have HXS := Lib.hid exs
      have HXL := Lib.hid hxl
      have HPUSH : Hid (∀ w3 w4, Below g W2 w3 → w3.grownBy w4 (some g) → Row w4 g (xs ++ unitR n k) → Mat w4 w.heap.size w.heap.size (2 * n) r (gs ++ [g]) (extTo rs n (k + 1)) ∧ Add w w4) := Lib.hid fun w3 w4 h3 h4 hr4 => by
        refine ⟨?_, ?_⟩
        · rw [extTo_succ, ← exs]
          refine HMAT.out.push eg hgr (w3 := w3) ?_ h4 hr4 (by rw [List.length_append, length_unitR, hxl]; omega)
          rw [length_extTo]; unfold hdr; rw [← hW2]; exact h3
        · exact (Below.trans hadd2 (h3.mono (Nat.le_of_lt hGg))).grown h4 (Nat.le_trans hadd2.size h3.size) (fun j hj => by cases hj; omega)
      have HH2 := Lib.hid hheads2
      have HEV := Lib.hid ev
      have HLEN2 := Lib.hid hlen2
      clear hW2 hown hgr eg hheads hlk hheads2 hrow2 hadd2 hlen2 ev el hrd exs hxl ecur ecs hcsl
      go_wp2_with fail
      rw [← HW.out]
      go_region_law (first
        | (refine step_copy_splice rfl (.tmp 24) (.tmp 28) 32 32 rfl 5 Try.underlying32 sizeU8 _ _ _ _ _ _ rfl rfl g 0 cur 5 HCUR.out cs HLEN.out (fun h0 => ⟨rfl, HPOS.out h0⟩) HFIT.out HONE.out g W2 (by first | exact Below.refl _ _ | exact below_drewN (Below.refl _ _) 1) (Nat.le_refl _) ?_; intro w3 hg3 hb3))
      all_goals
        have hrow3 : Row w3 g (xs ++ List.replicate n 0) := by have := hg3.out; rw [HSPL.out] at this; exact this
        have hheads3 := HH2.out.below hb3 hGg
        have hc3 := hheads3.cell HLEN2.out
        rw [HEV.out] at hc3
        have hf3 := hheads3.free k
        have hl3 : (xs ++ List.replicate n 0).length = 2 * n := by rw [List.length_append, List.length_replicate, HXL.out]; omega
        have hcz := hrow3.cell (n + k) (by omega)
        have hfz := hrow3.free (n + k)
        obtain ⟨old, eold⟩ : ∃ old, old = (xs ++ List.replicate n 0).getD (n + k) 0 := ⟨_, rfl⟩
        rw [← eold] at hcz
        have HEND := Lib.hid (HPUSH.out w3 (w3.setCell ⟨g, n + k, none⟩ (.int .u8 1)) hb3 (grown_setCell (g := g) (n + k) _) (by
          have := hrow3.set (n + k) 1
          rw [List.set_append_right _ _ (by rw [HXL.out]; omega), HXL.out, Nat.add_sub_cancel_left] at this
          exact this))
        clear hg3 hb3 hrow3 hheads3 eold hl3
        go_wp2_with fail
        go_roundw
        case rel => exact ⟨k + 1, _, by omega, by go_num, by rw [HR'.out]; exact HEND.out.1, HEND.out.2⟩
        case measure => simp [intOf]; omega
end Go.Proofs.Ytmlcenocjpjcfaa
