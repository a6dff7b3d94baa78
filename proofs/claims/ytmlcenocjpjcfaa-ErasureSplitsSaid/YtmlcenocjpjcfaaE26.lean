/- Package erasure: Split. -/
import Derived.Test.YtmlcenocjpjcfaaE25
namespace Go.Proofs.Ytmlcenocjpjcfaa
open Go.RowKit GfM

/-- The bytes d with zeros behind, t in all. -/
def padTo (d : List Nat) (t : Nat) : List Nat := d ++ List.replicate (t - d.length) 0
/-- The first q rows of s bytes each. -/
def spTo (p : List Nat) (s q : Nat) : List (List Nat) := (List.range q).map fun i => (p.drop (i * s)).take s
theorem length_spTo (p : List Nat) (s q : Nat) : (spTo p s q).length = q := by simp [spTo]
theorem spTo_succ (p : List Nat) (s q : Nat) : spTo p s (q + 1) = spTo p s q ++ [(p.drop (q * s)).take s] := by simp [spTo, List.range_succ]
theorem length_padTo {d : List Nat} {t : Nat} (h : d.length ≤ t) : (padTo d t).length = t := by simp [padTo]; omega
theorem bys_padTo {d : List Nat} (h : Bys d) (t : Nat) : Bys (padTo d t) := by
  intro x hx
  rcases List.mem_append.1 hx with hx | hx
  · exact h x hx
  · rw [List.eq_of_mem_replicate hx]; decide
theorem pad_row {d : List Nat} {t a s : Nat} (h : a + s ≤ t) : ((padTo d t).drop a).take s = (d.drop a).take s ++ List.replicate (s - (d.drop a).length) 0 := by
  unfold padTo
  rw [List.drop_append, List.take_append, List.drop_replicate, List.take_replicate, List.length_drop]
  congr 2
  omega
theorem sq_flat (p : List Nat) (s q : Nat) : (spTo p s q).flatten = p.take (q * s) := by
  induction q with
  | zero => simp [spTo]
  | succ q ih =>
    rw [spTo_succ, List.flatten_append, ih, Nat.succ_mul, List.take_add]
    simp
theorem sq_get (p : List Nat) (s q i : Nat) : ((spTo p s q).getD i []).length ≤ s := by
  by_cases hi : i < q
  · simp [spTo, List.getD, hi]; omega
  · simp [spTo, List.getD, Nat.le_of_not_lt hi]
theorem mul_le_of_lt {q k s : Nat} (h : q < k) : q * s + s ≤ k * s := by
  have := Nat.mul_le_mul_right s (show q + 1 ≤ k from h)
  rw [Nat.succ_mul] at this; exact this
/-- A slice without its first bytes. -/
theorem reads_drop {w : World} {b off n c m : Nat} {xs : List Nat} (h : Reads w (.slice (some ⟨b, off, none⟩) n c) xs) (hm : m ≤ n) : Reads w (.slice (some ⟨b, off + m, none⟩) (n - m) (c - m)) (xs.drop m) := by
  obtain ⟨ao', n', c', e, hl, hc, hm', hx, hr⟩ := h
  cases e
  refine ⟨_, n - m, c - m, rfl, by rw [List.length_drop]; omega, by omega, by omega, hx.drop m, fun hp => ⟨b, off + m, rfl, fun i hi => ?_⟩⟩
  obtain ⟨b', off', e, hce⟩ := hr (by omega)
  cases e
  rw [Nat.add_assoc, hce (m + i) (by omega)]
  simp [List.getD, List.getElem?_drop]

theorem reads_rest {w : World} {so : Option Addr} {n c m : Nat} {xs : List Nat} (h : Reads w (.slice so n c) xs) (hm : m ≤ n) : Reads w (.slice (so.map (·.add m)) (n - m) (c - m)) (xs.drop m) := by
  have hl := reads_len h
  by_cases h0 : n - m = 0
  · obtain ⟨ao', n', c', e, hl', hc, hm', hx, hr⟩ := h
    cases e
    exact ⟨_, n - m, c - m, rfl, by rw [List.length_drop]; omega, by omega, by omega, hx.drop m, fun hp => by omega⟩
  · obtain ⟨b, off, rfl, -⟩ := h.cell (k := 0) (by omega)
    have := reads_drop h hm
    simpa [Addr.add_lit] using this

set_option maxRecDepth 100000 in
set_option maxHeartbeats 4000000 in
theorem split_ok {w : World} {v : Value} {d : List Nat} {k s : Nat} (h : Reads w v d) (hk0 : 0 < k) (hk : k ≤ 6) (hs : s ≤ 4096) (hd : d.length ≤ k * s) :
    Calls Try.prog 26 #[.int .i64 (k : Nat), .int .i64 (s : Nat), v] w (RetNE w k (spTo (padTo d (k * s)) s k)) := by
  obtain ⟨i0, hi0, hz0, hz1, hz2⟩ := info_parts info5
  obtain ⟨i1, hi1, hy0, hy1, hy2⟩ := info_parts info32
  obtain ⟨ao, c, rfl, hml⟩ := h.isSlice
  obtain ⟨D, eD⟩ : ∃ D, D = d.length := ⟨_, rfl⟩
  rw [← eD] at h hd ⊢
  obtain ⟨T, eT⟩ : ∃ T, T = k * s := ⟨_, rfl⟩
  have hks : (k : Int) * (s : Int) = (T : Int) := by rw [eT]; exact (Int.natCast_mul k s).symm
  have hT6 : T ≤ 6 * 4096 := by rw [eT]; exact Nat.mul_le_mul hk hs
  rw [← eT] at hd ⊢
  obtain ⟨pd, epd⟩ : ∃ pd, pd = padTo d T := ⟨_, rfl⟩
  rw [← epd]
  have d1 : decide ((k : Int) < 1) = false := decide_eq_false (by omega)
  have d2 : decide ((6 : Int) < (k : Int)) = false := decide_eq_false (by omega)
  have d3 : decide ((s : Int) < 0) = false := decide_eq_false (by omega)
  have d4 : decide ((4096 : Int) < (s : Int)) = false := decide_eq_false (by omega)
  have d5 : decide ((T : Int) < (D : Int)) = false := decide_eq_false (by omega)
  have HROW : Hid (∀ q xs, q < k → xs = d.drop (q * s) → (pd.drop (q * s)).take s = xs.take s ++ List.replicate (s - xs.length) 0) := Lib.hid fun q xs hq e => by
    rw [e, epd]; exact pad_row (by rw [eT]; exact mul_le_of_lt hq)
  have HBD : Hid (Bys d) := Lib.hid h.limbs
  have HD := Lib.hid h
  have HDL := Lib.hid eD
  clear h eD eT epd hml
  go_enter Try.func26, Try.ntmps26
  go_wp2_with (at_make; refine wpList_make_full _ rfl _ _ 22 rfl w.heap.size 32 i1 (.slice none 0 0) 1 Try.underlying22 hi1 hy0 hy1 _ _ _ _ k rfl rfl (by omega) (by omega) (by rw [hy2]; omega) (by unfold maxLen; omega) (Nat.le_refl _) ?_)
  intro w1 hown hgr
  obtain ⟨G, eG⟩ : ∃ G, G = w.heap.size := ⟨_, rfl⟩
  rw [← eG] at hown ⊢
  have HM0 : Hid (FillH w1 G k [] (spTo pd s 0)) := Lib.hid (FillH.made hown)
  have HADD : Hid (Add w w1) := Lib.hid ((Below.refl _ _).grown hgr (Nat.le_refl _) (by simp))
  have hwG : w.heap.size ≤ G := by omega
  clear hown hgr eG
  go_wp2_with fail
  go_loopw [2, 35] (fun x i wr => ∃ (so : Option Addr) (n c q : Nat) (hs : List Value), q ≤ k ∧ x = .slice so n c ∧ i = .int .i64 (q : Nat) ∧ Reads w (.slice so n c) (d.drop (q * s)) ∧ FillH wr G k hs (spTo pd s q) ∧ Add w wr) (fun _ i _ => k - (intOf i).toNat)
  case atStart => exact ⟨ao, D, c, 0, [], Nat.zero_le _, rfl, rfl, by rw [Nat.zero_mul, List.drop_zero]; exact HD.out, HM0.out, HADD.out⟩
  case round =>
    obtain ⟨so, n, c, q, hs2, hq, rfl, rfl, hrd, hfill, hadd⟩ := hrel
    have hlen : hs2.length = q := by rw [hfill.2.1, length_spTo]
    by_cases h0 : q = k
    · have HEND : Hid (RowsB wr (.slice (some ⟨G, 0, none⟩) k k) hs2 (spTo pd s k) ∧ Add w wr) := Lib.hid (by
        rw [h0] at hfill
        exact ⟨hfill.rows (by rw [hlen, h0]) (by unfold maxLen; omega), hadd⟩)
      clear hfill hadd hlen hrd
      subst h0
      go_wp2_with fail
      go_ret2
      exact ⟨G, hs2, rfl, HEND.out.1, hwG, HEND.out.2⟩
    · have hlt : q < k := by omega
      have hnl := reads_len hrd
      obtain ⟨xs, exs⟩ : ∃ xs, xs = d.drop (q * s) := ⟨_, rfl⟩
      have hxs := HROW.out q xs hlt exs
      rw [← exs] at hrd hnl
      have hnext : xs.drop s = d.drop ((q + 1) * s) := by rw [exs, List.drop_drop, Nat.succ_mul]
      have hnc : n ≤ c := by
        obtain ⟨ao', n', c', e, -, hc, -⟩ := hrd
        cases e; exact hc
      have hxm : n ≤ 24576 := by
        have : xs.length ≤ d.length := by rw [exs, List.length_drop]; omega
        have h2 := HDL.out
        omega
      have HFILL := Lib.hid hfill
      have HA := Lib.hid hadd
      have HLEN := Lib.hid hlen
      have HRD := Lib.hid hrd
      have HXS := Lib.hid hxs
      have HNX := Lib.hid hnext
      have HNL := Lib.hid hnl
      clear hfill hadd hlen h0 hrd exs hxs hnext hnl
      go_wp2_with (at_make; refine wpList_make_full _ rfl _ _ 32 rfl wr.heap.size 5 i0 (.int .u8 0) 1 Try.underlying32 hi0 hz0 hz1 _ _ _ _ s rfl rfl (by omega) (by omega) (by rw [hz2]; omega) (by unfold maxLen; omega) (Nat.le_refl _) ?_)
      intro w1 hown hgr
      obtain ⟨g, eg⟩ : ∃ g, g = wr.heap.size := ⟨_, rfl⟩
      rw [← eg] at hown ⊢
      have hGg : G < g := by rw [eg]; exact HFILL.out.lt
      have hrow := (Own.made hown).row
      have hheads := HFILL.out.1.kept hgr (by simp)
      have hc1 : w1.cell? ⟨G, q, none⟩ = some (.slice none 0 0) := by
        have := (HFILL.out.add ((Below.refl _ _).grown hgr (Nat.le_refl _) (by simp))).cellN (by rw [HLEN.out]; omega)
        rw [HLEN.out] at this; exact this
      have hf1 := hheads.free q
      obtain ⟨W2, hW2⟩ : ∃ W2, W2 = w1.setCell ⟨G, q, none⟩ (.slice (some ⟨g, 0, none⟩) s s) := ⟨_, rfl⟩
      have HW := Lib.hid hW2
      have hheads2 := hheads.set q (.slice (some ⟨g, 0, none⟩) s s)
      rw [← hW2] at hheads2
      have hc2 : W2.cell? ⟨G, q, none⟩ = some (.slice (some ⟨g, 0, none⟩) s s) := by
        have hl2 : q < ((hs2 ++ List.replicate (k - hs2.length) nilV)).length := by rw [List.length_append, List.length_replicate, HLEN.out]; omega
        rw [hheads2.cell (by rw [List.length_set]; exact hl2)]
        simp only [List.getD]; rw [List.getElem?_set_self hl2]; rfl
      have hgrow : wr.grownBy W2 (some G) := by rw [hW2]; exact grown_trans (grown_some hgr G) (grown_setCell q _)
      have hrow2 : Row W2 g (List.replicate s 0) := by rw [hW2]; exact hrow.kept (grown_setCell (g := G) q _) (fun e => by have := Option.some.inj e; omega)
      have hadd2 : Add w W2 := HA.out.grown hgrow HA.out.size (fun j hj => by cases hj; exact hwG)
      have hrd2 := HRD.out.mono hadd2
      obtain ⟨mn, emn⟩ : ∃ mn, mn = Nat.min n s := ⟨_, rfl⟩
      have hmn1 : mn ≤ n := by rw [emn]; exact Nat.min_le_left _ _
      have hmn2 : mn ≤ s := by rw [emn]; exact Nat.min_le_right _ _
      have hmn3 : mn = n ∨ mn = s := by rw [emn]; show min n s = n ∨ min n s = s; omega
      obtain ⟨w3, hrun, hrow3, hb3, -⟩ := copy_run (d := s) (dCap := s) (off := 0) hrow2 hrd2 (by rw [← emn, List.length_replicate]; omega) (fun _ => rfl)
      rw [← emn] at hrun hrow3
      have HEND : Hid (FillH w3 G k (hs2 ++ [.slice (some ⟨g, 0, none⟩) s s]) (spTo pd s (q + 1)) ∧ Add w w3) := Lib.hid (by
        have hrowv : List.take 0 (List.replicate s 0) ++ (xs.take mn ++ (List.replicate s 0).drop (0 + mn)) = (pd.drop (q * s)).take s := by
          rw [HXS.out, List.take_zero, List.nil_append, Nat.zero_add, List.drop_replicate]
          have hl := HNL.out
          rcases hmn3 with e | e
          · rw [e, List.take_of_length_le (show xs.length ≤ n by omega), List.take_of_length_le (show xs.length ≤ s by omega), hl]
          · rw [e, Nat.sub_self, show s - xs.length = 0 by omega]
        rw [hrowv] at hrow3
        have hlr : ((pd.drop (q * s)).take s).length = s := by
          rw [← hrowv]; simp; have := HNL.out; omega
        have hbr : Bys ((pd.drop (q * s)).take s) := by
          rw [HXS.out]
          intro y hy
          rcases List.mem_append.1 hy with hy | hy
          · exact HRD.out.limbs y (List.mem_of_mem_take hy)
          · rw [List.eq_of_mem_replicate hy]; decide
        have hrd3 := hrow3.reads (m := s) (c := s) (by rw [hlr]; exact Nat.le_refl _) (Nat.le_refl _) (by unfold maxLen; omega) hbr
        rw [List.take_of_length_le (by rw [hlr]; exact Nat.le_refl _)] at hrd3
        have hgrow3 : wr.grownBy w3 (some G) := ⟨hb3.os.trans hgrow.os, hb3.tape.trans hgrow.tape, hb3.output.trans hgrow.output, Nat.le_trans hgrow.size hb3.size, fun i hi hne => (hb3.block i (by omega)).trans (hgrow.block i hi hne)⟩
        rw [spTo_succ]
        refine ⟨HFILL.out.step (by rw [HLEN.out]; omega) hgrow3 ?_ hrd3 (away_block (by omega)), HA.out.grown hgrow3 HA.out.size (fun j hj => by cases hj; exact hwG)⟩
        rw [HLEN.out] at *
        exact hheads2.below hb3 hGg)
      have HREST : Hid (∀ so' n' c', Reads w (.slice so' n' c') (xs.drop mn) → Reads w (.slice so' n' c') (d.drop ((q + 1) * s))) := Lib.hid fun so' n' c' hr' => by
        rw [← HNX.out]
        have hl := HNL.out
        rcases hmn3 with e | e
        · rw [List.drop_of_length_le (show xs.length ≤ s by omega)]
          rw [List.drop_of_length_le (show xs.length ≤ mn by omega)] at hr'; exact hr'
        · rw [e] at hr'; exact hr'
      clear hW2 hown hgr eg hheads hheads2 hrow hrow2 hgrow hadd2 hrd2 hrow3 hb3 emn hmn3 hmn2
      by_cases hcm : c = mn
      · subst hcm
        have hnm : n = c := by omega
        subst hnm
        go_wp2_with fail
        rw [← HW.out, hrun]
        go_wp2_with fail
        go_roundw
        case rel => exact ⟨so, 0, 0, q + 1, _, by omega, rfl, by go_num, HREST.out _ _ _ (by
          have hl := HNL.out
          rw [List.drop_of_length_le (by omega)]
          exact ⟨so, 0, 0, rfl, rfl, Nat.le_refl _, by unfold maxLen; omega, Bys.nil, fun hp => by omega⟩), HEND.out.1, HEND.out.2⟩
        case measure => simp [intOf]; omega
      · have hrest := Lib.hid (HREST.out _ _ _ (reads_rest HRD.out hmn1))
        cases so with
        | none =>
          go_wp2_with fail
          rw [← HW.out, hrun]
          go_wp2_with fail
          go_roundw
          case rel => exact ⟨none, n - mn, c - mn, q + 1, _, by omega, rfl, by go_num, hrest.out, HEND.out.1, HEND.out.2⟩
          case measure => simp [intOf]; omega
        | some ad =>
          go_wp2_with fail
          rw [← HW.out, hrun]
          go_wp2_with fail
          go_roundw
          case rel => exact ⟨some (ad.add mn), n - mn, c - mn, q + 1, _, by omega, rfl, by go_num, hrest.out, HEND.out.1, HEND.out.2⟩
          case measure => simp [intOf]; omega
end Go.Proofs.Ytmlcenocjpjcfaa
