/- Package erasure: contents and solve. -/
import Derived.Test.YtmlcenocjpjcfaaE5
import Derived.Test.YtmlcenocjpjcfaaG20
namespace Go.Proofs.Ytmlcenocjpjcfaa
open Go.RowKit GfM

set_option maxRecDepth 100000 in
set_option maxHeartbeats 1000000 in
theorem contents_any {w : World} {v : Value} {ix : List Int} {vs : List Value} {rs : List (List Nat)} (h : FragsB w v ix vs rs) (h8 : rs.length ≤ 1000) :
    Calls Try.prog 53 #[v] w (RetRows w rs) := by
  obtain ⟨i1, hi1, hy0, hy1, hy2⟩ := info_parts info32
  obtain ⟨ao, c, rfl, hm, -, -⟩ := h.isSlice
  obtain ⟨l, hl⟩ : ∃ l, l = rs.length := ⟨_, rfl⟩
  unfold RetRows
  rw [← hl] at h hm h8 ⊢
  have HL := Lib.hid hl
  have HR := Lib.hid h
  clear hl h hm
  go_enter Try.func53, Try.ntmps53
  go_wp2_with (at_make; refine wpList_make_full _ rfl _ _ 22 rfl w.heap.size 32 i1 (.slice none 0 0) 1 Try.underlying22 hi1 hy0 hy1 _ _ _ _ l rfl rfl (by omega) (by omega) (by rw [hy2]; omega) (by unfold maxLen; omega) (Nat.le_refl _) ?_)
  intro w1 hown hgr
  obtain ⟨G, eG⟩ : ∃ G, G = w.heap.size := ⟨_, rfl⟩
  rw [← eG] at hown ⊢
  have HM0 : Hid (FillH w1 G l [] (rs.take 0)) := Lib.hid (by rw [List.take_zero]; exact FillH.made hown)
  have HADD : Hid (Add w w1) := Lib.hid ((Below.refl _ _).grown hgr (Nat.le_refl _) (by simp))
  have hwG : w.heap.size ≤ G := by omega
  clear hown hgr eG
  go_wp2_with fail
  go_loopw [11] (fun i wr => ∃ (q : Nat) (hs : List Value), q ≤ l ∧ i = .int .i64 (q : Nat) ∧ FillH wr G l hs (rs.take q) ∧ Add w wr) (fun i _ => l - (intOf i).toNat)
  case atStart => exact ⟨0, [], Nat.zero_le _, rfl, HM0.out, HADD.out⟩
  case round =>
    obtain ⟨q, hs, hq, rfl, hfill, hadd⟩ := hrel
    have hlen : hs.length = q := by rw [hfill.2.1, List.length_take]; have := HL.out; omega
    by_cases h0 : q = l
    · have HF : Hid (RowsB wr (.slice (some ⟨G, 0, none⟩) l l) hs rs ∧ Add w wr) := Lib.hid (by
        rw [h0, HL.out, List.take_length, ← HL.out] at hfill
        exact ⟨hfill.rows (by rw [hlen, h0]) (by unfold maxLen; omega), hadd⟩)
      clear hfill hadd hlen
      subst h0
      go_wp2_with fail
      go_ret
      exact ⟨G, hs, rfl, HF.out.1, hwG, HF.out.2⟩
    · have hlt : q < l := by omega
      obtain ⟨b, off, a, m, cc, rfl, -, -, -, hc0, hc1, hrd⟩ := (HR.out.mono hadd).frag hlt
      obtain ⟨b2, off2, a2, m2, cc2, eb2, -, -, -, -, hc2, hrd2⟩ := HR.out.frag hlt
      have hsame : Value.slice a2 m2 cc2 = .slice a m cc := by
        cases eb2
        have h5 := (hadd.cell (p := ⟨b, off + q * 2 + 1, none⟩) (World.block_lt_of_cell? w _ hc2)).trans hc2
        rw [hc1] at h5
        exact (Option.some.inj h5).symm
      rw [hsame] at hrd2
      obtain ⟨x, ex⟩ : ∃ x, x = ix.getD q 0 := ⟨_, rfl⟩
      rw [← ex] at hc0
      obtain ⟨W2, eW⟩ : ∃ W2, W2 = wr.alloc (.cells #[.int .i64 x, .slice a m cc] 34) := ⟨_, rfl⟩
      have hadd2 : Add wr W2 := by rw [eW]; exact (Below.refl _ _).alloc (Nat.le_refl _) _
      have hf2 := hfill.add hadd2
      have hcz := hf2.cellN (by rw [hlen]; exact hlt)
      have hfz := hf2.free q
      have hst := hf2.store (v := .slice a m cc) (xs := rs.getD q []) (by rw [hlen]; exact hlt) (hrd.mono hadd2) (Away.of_lt hrd2 hwG)
      rw [hlen] at hcz hst
      have HNEXT : Hid (FillH (W2.setCell ⟨G, q, none⟩ (.slice a m cc)) G l (hs ++ [.slice a m cc]) (rs.take (q + 1)) ∧ Add w (W2.setCell ⟨G, q, none⟩ (.slice a m cc))) := Lib.hid (by
        have hk : q < rs.length := by rw [← HL.out]; exact hlt
        have e : rs.take (q + 1) = rs.take q ++ [rs.getD q []] := by rw [List.take_succ_eq_append_getElem hk]; simp [List.getD, hk]
        rw [e]
        exact ⟨hst, (Add.trans hadd hadd2).setCell hwG _⟩)
      clear hfill hadd hlen hrd hrd2 hc2 hsame ex hadd2 hf2 hst h0 eb2
      subst eW
      go_wp2_with fail
      go_roundw
      case rel => exact ⟨q + 1, _, by omega, by go_num, HNEXT.out.1, HNEXT.out.2⟩
      case measure => simp [intOf]; omega

/-- The factors of the rows that are given. -/
def givenM (k : Nat) (ix : List Int) : List (List Nat) := ix.map fun i => facs k i.toNat
theorem givenM_get {k : Nat} {ix : List Int} {i : Nat} (h : i < ix.length) : (givenM k ix).getD i [] = facs k (ix.getD i 0).toNat := by simp [givenM, List.getD, h]
theorem givenM_dim {k : Nat} {ix : List Int} (h : ix.length = k) : Dim k k (givenM k ix) := by
  refine ⟨by simp [givenM, h], fun i hi => by rw [givenM_get (by omega)]; exact length_facs _ _, fun i => ?_⟩
  by_cases hi : i < ix.length
  · rw [givenM_get hi]; exact bys_facs _ _
  · have : (givenM k ix).getD i [] = [] := by simp [givenM, List.getD, Nat.le_of_not_lt hi]
    rw [this]; exact Bys.nil
theorem dim_all {n m : Nat} {M : List (List Nat)} (h : Dim n m M) : allLen m M = true := by
  unfold allLen
  refine List.all_eq_true.2 fun r hr => ?_
  obtain ⟨i, hi, rfl⟩ := List.mem_iff_getElem.1 hr
  have := h.2.1 i (by rw [← h.1]; exact hi)
  simpa [List.getD, hi] using this
/-- The product of a matrix and rows of L bytes: its first n rows. -/
def prodTo (L : Nat) (R rs : List (List Nat)) (k n : Nat) : List (List Nat) := (List.range n).map fun i => comb L (R.getD i []) rs k
theorem length_prodTo (L : Nat) (R rs : List (List Nat)) (k n : Nat) : (prodTo L R rs k n).length = n := by simp [prodTo]
theorem prodTo_succ (L : Nat) (R rs : List (List Nat)) (k n : Nat) : prodTo L R rs k (n + 1) = prodTo L R rs k n ++ [comb L (R.getD n []) rs k] := by simp [prodTo, List.range_succ]
theorem prodTo_get {L : Nat} {R rs : List (List Nat)} {k n i : Nat} (h : i < n) : (prodTo L R rs k n).getD i [] = comb L (R.getD i []) rs k := by simp [prodTo, List.getD, h]

set_option maxRecDepth 100000 in
set_option maxHeartbeats 4000000 in
theorem solve_any {w : World} {v v2 : Value} {ix : List Int} {vs vs2 : List Value} {rs0 rs R : List (List Nat)} {k L : Nat} (h : FragsB w v ix vs rs0) (h0k : rs0.length = k) (h2 : RowsB w v2 vs2 rs) (hk : rs.length = k) (hk0 : 0 < k) (hk2 : k ≤ 32) (hL : L ≤ 100000) (hal : allLen L rs = true)
    (hix : ∀ x ∈ ix, 0 ≤ x ∧ x < 1000) (hR : invM (givenM k ix) k = some R) :
    Calls Try.prog 54 #[v, v2] w (RetRows w (prodTo L R rs k k)) := by
  obtain ⟨i1, hi1, hy0, hy1, hy2⟩ := info_parts info32
  obtain ⟨ao, c, rfl, hm, hxl, -⟩ := h.isSlice
  obtain ⟨ao2, c2, rfl, hm2⟩ := h2.isSlice
  rw [h0k] at h hm hxl ⊢
  rw [hk] at h2 hm2 ⊢
  have hgd := givenM_dim (k := k) hxl
  obtain ⟨hRd, -, -⟩ := inv_some hgd hR
  unfold RetRows
  rw [length_prodTo]
  have HX := Lib.hid hxl
  have HF := Lib.hid h
  have HR := Lib.hid h2
  have HK := Lib.hid hk
  have HAL := Lib.hid hal
  have HIX := Lib.hid hix
  have HI := Lib.hid hR
  have HGD := Lib.hid hgd
  have HRD := Lib.hid hRd
  clear h h0k hm hm2 hxl h2 hk hal hix hR hgd hRd
  go_enter Try.func54, Try.ntmps54
  go_wp2_with (at_make; refine wpList_make_full _ rfl _ _ 22 rfl w.heap.size 32 i1 (.slice none 0 0) 1 Try.underlying22 hi1 hy0 hy1 _ _ _ _ k rfl rfl (by omega) (by omega) (by rw [hy2]; omega) (by unfold maxLen; omega) (Nat.le_refl _) ?_)
  intro w1 hown hgr
  obtain ⟨G, eG⟩ : ∃ G, G = w.heap.size := ⟨_, rfl⟩
  rw [← eG] at hown ⊢
  have HM0 : Hid (FillH w1 G k [] ((givenM k ix).take 0)) := Lib.hid (by rw [List.take_zero]; exact FillH.made hown)
  have HADD : Hid (Add w w1) := Lib.hid ((Below.refl _ _).grown hgr (Nat.le_refl _) (by simp))
  have hwG : w.heap.size ≤ G := by omega
  clear hown hgr eG
  go_wp2_with fail
  go_loopw [20] (fun i wr => ∃ (q : Nat) (hs : List Value), q ≤ k ∧ i = .int .i64 (q : Nat) ∧ FillH wr G k hs ((givenM k ix).take q) ∧ Add w wr) (fun i _ => k - (intOf i).toNat)
  case atStart => exact ⟨0, [], Nat.zero_le _, rfl, HM0.out, HADD.out⟩
  case round =>
    obtain ⟨q, hs, hq, rfl, hfill, hadd⟩ := hrel
    have hlen : hs.length = q := by rw [hfill.2.1, List.length_take, HGD.out.1]; omega
    by_cases h0 : q = k
    · have hrows : RowsB wr (.slice (some ⟨G, 0, none⟩) k k) hs (givenM k ix) := by
        have e : (givenM k ix).take q = givenM k ix := List.take_of_length_le (by rw [HGD.out.1]; omega)
        rw [e] at hfill
        exact hfill.rows (by rw [hlen, h0]) (by unfold maxLen; omega)
      have CI : Hid (Calls Try.prog 25 #[.slice (some ⟨G, 0, none⟩) k k] wr (fun e w' => ∃ v vs, e = .returned (.tuple #[v, .int .i64 0]) ∧ RowsB w' v vs R ∧ Add wr w')) := Lib.hid (by
        have := invert_ok hrows HGD.out.1 hk0 (by omega) (dim_all HGD.out)
        rw [HI.out] at this; exact this)
      have HA := Lib.hid hadd
      clear hfill hadd hlen hrows
      have h0 := h0.symm
      subst h0
      go_wp2_with fail
      refine CI.out.mono ?_
      rintro e w2 ⟨vi, vsi, rfl, hri, hai⟩
      obtain ⟨aoi, ci, rfl, -⟩ := hri.isSlice
      rw [HRD.out.1] at hri ⊢
      have HRI := Lib.hid hri
      have HA2 := Lib.hid (Add.trans HA.out hai)
      clear hri hai CI
      go_wp2_with (at_make; refine wpList_make_full _ rfl _ _ 22 rfl w2.heap.size 32 i1 (.slice none 0 0) 1 Try.underlying22 hi1 hy0 hy1 _ _ _ _ k rfl rfl (by omega) (by omega) (by rw [hy2]; omega) (by unfold maxLen; omega) (Nat.le_refl _) ?_)
      intro w3 hown hgr
      obtain ⟨D, eD⟩ : ∃ D, D = w2.heap.size := ⟨_, rfl⟩
      rw [← eD] at hown ⊢
      have HM1 : Hid (FillH w3 D k [] (prodTo L R rs k 0)) := Lib.hid (FillH.made hown)
      have hadd3 : Add w2 w3 := (Below.refl _ _).grown hgr (Nat.le_refl _) (by simp)
      have HADD3 : Hid (Add w2 w3) := Lib.hid hadd3
      have hwD2 : w2.heap.size ≤ D := by omega
      have hwD : w.heap.size ≤ D := by have := HA2.out.size; omega
      clear hown hgr eD hadd3
      go_wp2_with fail
      rename World => wm
      go_loopw [42] (fun i wr => ∃ (p : Nat) (hs : List Value), p ≤ k ∧ i = .int .i64 (p : Nat) ∧ FillH wr D k hs (prodTo L R rs k p) ∧ Add w2 wr) (fun i _ => k - (intOf i).toNat)
      case atStart => exact ⟨0, [], Nat.zero_le _, rfl, HM1.out, HADD3.out⟩
      case round =>
        obtain ⟨p, hs, hp, rfl, hfill, hadd0⟩ := hrel
        have hadd := Add.trans HA2.out hadd0
        have hri := HRI.out.mono hadd0
        have hlen : hs.length = p := by rw [hfill.2.1, length_prodTo]
        by_cases hpk : p = k
        · have HF : Hid (RowsB wr (.slice (some ⟨D, 0, none⟩) k k) hs (prodTo L R rs k k) ∧ Add w wr) := Lib.hid (by
            rw [hpk] at hfill
            exact ⟨hfill.rows (by rw [hlen, hpk]) (by unfold maxLen; omega), hadd⟩)
          clear hfill hadd hlen hri hadd0
          have hpk := hpk.symm
          subst hpk
          go_wp2_with fail
          go_ret
          exact ⟨D, rfl, ⟨hs, HF.out.1⟩, hwD, HF.out.2⟩
        · have hlt : p < k := by omega
          obtain ⟨b, off, a, l, cc, rfl, -, el, -, hcell, hrd⟩ := hri.row hlt
          have hrr := HR.out.mono hadd
          have h0L : (rs.getD 0 []).length = L := allLen_get HAL.out (by rw [HK.out]; exact hk0)
          have hll : (R.getD p []).length = k := HRD.out.2.1 p hlt
          have C2 : Hid (Calls Try.prog 47 #[.slice a l cc, .slice ao2 k c2] wr (CombP wr L (comb L (R.getD p []) rs k))) := Lib.hid (by
            have := combine_ok hrd hrr (by omega) (by omega) (by rw [HK.out, hll]) (by rw [h0L]; exact HAL.out)
            rw [h0L, hll] at this
            exact this)
          have HFILL := Lib.hid hfill
          have HA3 := Lib.hid hadd
          have HLEN := Lib.hid hlen
          have HA0 := Lib.hid hadd0
          clear hfill hadd hadd0 hlen hri hrd hrr el hll h0L hpk
          go_wp2_with fail
          refine C2.out.mono ?_
          rintro e w4 ⟨g4, rfl, hown4, hadd4⟩
          have hf4 := HFILL.out.add hadd4
          have hb4 := hown4.lt.1
          have hDlt := HFILL.out.lt
          have hrd4 := hown4.reads (by unfold maxLen; omega) (bys_comb L rs (HRD.out.2.2 p) k)
          have hcz := hf4.cellN (by rw [HLEN.out]; exact hlt)
          have hfz := hf4.free p
          have hst := hf4.store (by rw [HLEN.out]; exact hlt) hrd4 (away_block (by omega))
          rw [HLEN.out] at hcz hst
          have HNEXT : Hid (FillH (w4.setCell ⟨D, p, none⟩ (.slice (some ⟨g4, 0, none⟩) L L)) D k (hs ++ [.slice (some ⟨g4, 0, none⟩) L L]) (prodTo L R rs k (p + 1)) ∧ Add w2 (w4.setCell ⟨D, p, none⟩ (.slice (some ⟨g4, 0, none⟩) L L))) := Lib.hid (by
            rw [prodTo_succ]
            exact ⟨hst, (Add.trans HA0.out hadd4).setCell hwD2 _⟩)
          clear hf4 hb4 hDlt hrd4 hst hown4 hadd4
          go_wp2_with fail
          go_roundw
          case rel => exact ⟨p + 1, _, by omega, by go_num, HNEXT.out.1, HNEXT.out.2⟩
          case measure => simp [intOf]; omega
    · have hlt : q < k := by omega
      obtain ⟨b, off, a, m, cc, rfl, -, -, -, hc0, hc1, -⟩ := (HF.out.mono hadd).frag hlt
      have hin := HIX.out (ix.getD q 0) (getD_mem (by rw [HX.out]; exact hlt))
      obtain ⟨j, ej⟩ : ∃ j : Nat, ix.getD q 0 = (j : Int) := ⟨(ix.getD q 0).toNat, by omega⟩
      rw [ej] at hc0 hin
      have hgq : (givenM k ix).getD q [] = facs k j := by rw [givenM_get (by rw [HX.out]; exact hlt), ej]; rfl
      obtain ⟨W2, eW⟩ : ∃ W2, W2 = wr.alloc (.cells #[.int .i64 (j : Nat), .slice a m cc] 34) := ⟨_, rfl⟩
      have hadd2 : Add wr W2 := by rw [eW]; exact (Below.refl _ _).alloc (Nat.le_refl _) _
      have C1 : Hid (Calls Try.prog 48 #[.int .i64 (k : Nat), .int .i64 (j : Nat)] W2 (FacP W2 k (facs k j))) := Lib.hid (factors_any k j (by omega) (by omega) W2)
      have HFILL := Lib.hid (hfill.add hadd2)
      have HA := Lib.hid (Add.trans hadd hadd2)
      have HLEN := Lib.hid hlen
      have HGQ := Lib.hid hgq
      clear hfill hadd hlen h0 hin ej hgq hadd2
      subst eW
      go_wp2_with fail
      refine C1.out.mono ?_
      rintro e w3 ⟨g3, rfl, hown3, hadd3⟩
      have hf3 := HFILL.out.add hadd3
      have hb3 := hown3.lt.1
      have hGlt := HFILL.out.lt
      have hrd3 := hown3.reads (by unfold maxLen; omega) (bys_facs k j)
      have hcz := hf3.cellN (by rw [HLEN.out]; exact hlt)
      have hfz := hf3.free q
      have hst := hf3.store (by rw [HLEN.out]; exact hlt) hrd3 (away_block (by omega))
      rw [HLEN.out] at hcz hst
      have HNEXT : Hid (FillH (w3.setCell ⟨G, q, none⟩ (.slice (some ⟨g3, 0, none⟩) k k)) G k (hs ++ [.slice (some ⟨g3, 0, none⟩) k k]) ((givenM k ix).take (q + 1)) ∧ Add w (w3.setCell ⟨G, q, none⟩ (.slice (some ⟨g3, 0, none⟩) k k))) := Lib.hid (by
        have hkk : q < (givenM k ix).length := by rw [HGD.out.1]; exact hlt
        have e : (givenM k ix).take (q + 1) = (givenM k ix).take q ++ [facs k j] := by rw [List.take_succ_eq_append_getElem hkk, ← HGQ.out]; simp [List.getD, hkk]
        rw [e]
        exact ⟨hst, (Add.trans HA.out hadd3).setCell hwG _⟩)
      clear hf3 hb3 hGlt hrd3 hst hown3 hadd3
      go_wp2_with fail
      go_roundw
      case rel => exact ⟨q + 1, _, by omega, by go_num, HNEXT.out.1, HNEXT.out.2⟩
      case measure => simp [intOf]; omega
end Go.Proofs.Ytmlcenocjpjcfaa
