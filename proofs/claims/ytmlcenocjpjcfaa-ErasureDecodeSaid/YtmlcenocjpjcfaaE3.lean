/- Package erasure: extend, which makes a code word of data rows; lists of rows that are filled one after the other. -/
import Derived.Test.YtmlcenocjpjcfaaE2
import Derived.Test.YtmlcenocjpjcfaaG10
import Derived.Laws.CopyOwn
namespace Go.Proofs.Ytmlcenocjpjcfaa
open Go.RowKit GfM

def nilV : Value := .slice none 0 0
theorem heads_made {w1 : World} {base g n : Nat} (hown : w1.ownsRow base 32 1 (.slice (some ⟨g, 0, none⟩) n n) n (madeCells #[Value.slice none 0 0] n).toList) : Heads w1 g (List.replicate n nilV) := by
  rcases hown.2 with ⟨e, _⟩ | ⟨g', cap, cur, e, hg, hgg, hn', hm', hs, ht⟩
  · simp at e
  · simp only [Value.slice.injEq, Option.some.injEq, Addr.mk.injEq, and_true, true_and] at e
    obtain ⟨rfl, rfl⟩ := e
    unfold Heads
    rw [hgg]
    have hh : cur = (List.replicate n (Value.slice none 0 0)).toArray := by
      rw [← toList_madeCells_one, ← ht]
      rw [List.take_of_length_le (by simp; omega)]
    rw [hh]; rfl
/-- Block G is a list of n headers, the first of which (hs) hold the rows rs; none of them lies in block G; the others are nil. -/
def FillH (w : World) (G n : Nat) (hs : List Value) (rs : List (List Nat)) : Prop :=
  Heads w G (hs ++ List.replicate (n - hs.length) nilV) ∧ hs.length = rs.length ∧ hs.length ≤ n ∧ ∀ i, i < hs.length → Reads w (hs.getD i undef) (rs.getD i []) ∧ Away (hs.getD i undef) (rs.getD i []) G
theorem FillH.made {w1 : World} {base g n : Nat} (hown : w1.ownsRow base 32 1 (.slice (some ⟨g, 0, none⟩) n n) n (madeCells #[Value.slice none 0 0] n).toList) : FillH w1 g n [] [] :=
  ⟨heads_made hown, rfl, Nat.zero_le _, fun i hi => by simp at hi⟩
theorem FillH.lt {w : World} {G n : Nat} {hs : List Value} {rs : List (List Nat)} (h : FillH w G n hs rs) : G < w.heap.size := h.1.lt
theorem FillH.free {w : World} {G n : Nat} {hs : List Value} {rs : List (List Nat)} (h : FillH w G n hs rs) (i : Nat) : w.frozen? ⟨G, i, none⟩ = false := h.1.free i
theorem FillH.cell {w : World} {G n : Nat} {hs : List Value} {rs : List (List Nat)} (h : FillH w G n hs rs) {i : Nat} (hi : i < hs.length) : w.cell? ⟨G, i, none⟩ = some (hs.getD i undef) := by
  rw [h.1.cell (by rw [List.length_append]; omega)]
  simp only [List.getD]; rw [List.getElem?_append_left hi]
theorem FillH.cellN {w : World} {G n : Nat} {hs : List Value} {rs : List (List Nat)} (h : FillH w G n hs rs) (hi : hs.length < n) : w.cell? ⟨G, hs.length, none⟩ = some (.slice none 0 0) := by
  rw [h.1.cell (by rw [List.length_append, List.length_replicate]; omega)]
  simp only [List.getD]; rw [List.getElem?_append_right (Nat.le_refl _), Nat.sub_self, List.getElem?_replicate, if_pos (by omega)]; rfl
theorem grown_some {w w' : World} (h : w.grownBy w' none) (G : Nat) : w.grownBy w' (some G) := ⟨h.os, h.tape, h.output, h.size, fun i hi _ => h.block i hi (by simp)⟩
theorem fill_set (hs : List Value) (n : Nat) (v : Value) (h : hs.length < n) : (hs ++ List.replicate (n - hs.length) nilV).set hs.length v = (hs ++ [v]) ++ List.replicate (n - (hs ++ [v]).length) nilV := by
  rw [List.set_append_right _ _ (Nat.le_refl _), Nat.sub_self]
  have e : n - hs.length = (n - (hs ++ [v]).length) + 1 := by rw [List.length_append]; simp; omega
  rw [e, List.replicate_succ, List.set_cons_zero, List.append_assoc]; rfl
theorem FillH.step {w w' : World} {G n : Nat} {hs : List Value} {rs : List (List Nat)} {v : Value} {xs : List Nat} (h : FillH w G n hs rs) (hlt : hs.length < n) (hg : w.grownBy w' (some G))
    (hh : Heads w' G ((hs ++ List.replicate (n - hs.length) nilV).set hs.length v)) (hr : Reads w' v xs) (ha : Away v xs G) : FillH w' G n (hs ++ [v]) (rs ++ [xs]) := by
  obtain ⟨h1, h2, h3, h4⟩ := h
  rw [fill_set hs n v hlt] at hh
  refine ⟨hh, by simp [h2], by simp; omega, fun i hi => ?_⟩
  simp only [List.length_append, List.length_cons, List.length_nil] at hi
  by_cases hk : i < hs.length
  · have e1 : (hs ++ [v]).getD i undef = hs.getD i undef := by simp only [List.getD]; rw [List.getElem?_append_left hk]
    have e2 : (rs ++ [xs]).getD i [] = rs.getD i [] := by simp only [List.getD]; rw [List.getElem?_append_left (by omega)]
    rw [e1, e2]
    exact ⟨(h4 i hk).1.grown (h4 i hk).2 hg, (h4 i hk).2⟩
  · have e : i = hs.length := by omega
    subst e
    have e1 : (hs ++ [v]).getD hs.length undef = v := by simp [List.getD]
    have e2 : (rs ++ [xs]).getD hs.length [] = xs := by rw [h2]; simp [List.getD]
    rw [e1, e2]; exact ⟨hr, ha⟩
theorem FillH.store {w : World} {G n : Nat} {hs : List Value} {rs : List (List Nat)} {v : Value} {xs : List Nat} (h : FillH w G n hs rs) (hlt : hs.length < n) (hr : Reads w v xs) (ha : Away v xs G) : FillH (w.setCell ⟨G, hs.length, none⟩ v) G n (hs ++ [v]) (rs ++ [xs]) :=
  h.step hlt (grown_setCell hs.length v) (h.1.set hs.length v) (hr.grown ha (grown_setCell hs.length v)) ha
theorem FillH.add {w w' : World} {G n : Nat} {hs : List Value} {rs : List (List Nat)} (h : FillH w G n hs rs) (hb : Add w w') : FillH w' G n hs rs :=
  ⟨h.1.below hb h.1.lt, h.2.1, h.2.2.1, fun i hi => ⟨(h.2.2.2 i hi).1.mono hb, (h.2.2.2 i hi).2⟩⟩
theorem FillH.rows {w : World} {G n : Nat} {hs : List Value} {rs : List (List Nat)} (h : FillH w G n hs rs) (e : hs.length = n) (hm : n ≤ maxLen) : RowsB w (.slice (some ⟨G, 0, none⟩) n n) hs rs :=
  ⟨_, n, n, rfl, e, by rw [← h.2.1]; exact e, Nat.le_refl _, hm, fun _ => ⟨G, 0, rfl, fun i hi => by rw [Nat.zero_add]; exact h.cell (by omega)⟩, fun i hi => (h.2.2.2 i (by omega)).1⟩
theorem away_block {g G : Nat} {n c : Nat} {xs : List Nat} (h : g ≠ G) : Away (.slice (some ⟨g, 0, none⟩) n c) xs G := by
  intro b off n' c' e _
  cases e; exact h
/-- The cells of a slice of bytes, as a source of copy. -/
theorem copy_src {w : World} {a : Option Addr} {n c : Nat} {xs : List Nat} (h : Reads w (.slice a n c) xs) (h0 : 0 < (xs.map lim).length) : ∃ ad, a = some ad ∧ ∀ j u, (xs.map lim)[j]? = some u → w.cell? (ad.add j) = some u := by
  rw [List.length_map] at h0
  obtain ⟨ao', n', c', e, hl, -, -, -, hr⟩ := h
  simp only [Value.slice.injEq] at e
  obtain ⟨rfl, rfl, rfl⟩ := e
  obtain ⟨b', off', rfl, q⟩ := hr (by omega)
  refine ⟨_, rfl, fun j u hj => ?_⟩
  rw [List.getElem?_map] at hj
  have hjl : j < n := by
    rcases Nat.lt_or_ge j n with h1 | h1
    · exact h1
    · rw [List.getElem?_eq_none (by omega)] at hj; simp at hj
  rw [Addr.add_lit, q j hjl]
  have h4 : j < xs.length := by omega
  simp [h4, List.getD, lim] at hj ⊢
  exact hj
theorem lim_oneCell (xs : List Nat) : ∀ u ∈ xs.map lim, u.oneCell' = true := by
  intro u hu
  obtain ⟨x, _, rfl⟩ := List.mem_map.1 hu
  rfl

theorem copy_run {w : World} {g off d dCap l c : Nat} {dp a : Option Addr} {xs cur : List Nat} (hrow : Row w g cur) (hr : Reads w (.slice a l c) xs) (hfit : off + Nat.min l d ≤ cur.length) (hpos : 0 < Nat.min l d → dp = some ⟨g, off, none⟩) :
    ∃ w3, (Builtin.copy_ #[32, 32] 3 #[.slice dp d dCap, .slice a l c]).run Try.prog w = .ok (.int .i64 (Nat.min l d : Nat)) w3 ∧ Row w3 g (cur.take off ++ (xs.take (Nat.min l d) ++ cur.drop (off + Nat.min l d))) ∧ Below g w w3 ∧ w.grownBy w3 (some g) := by
  have hxl : xs.length = l := by
    obtain ⟨ao', n', c', e, hl, -⟩ := hr
    cases e; exact hl
  by_cases h0 : Nat.min l d = 0
  · refine ⟨w, ?_, ?_, Below.refl _ _, grown_of_below (Below.refl _ _) _⟩
    · rw [run_copy_none (P := Try.prog) w 32 32 3 5 dp a d dCap l c Try.underlying32 sizeU8 h0, h0]; rfl
    · rw [h0, List.take_zero, List.nil_append, Nat.add_zero, List.take_append_drop]; exact hrow
  · obtain rfl := hpos (by omega)
    have hm : Nat.min l d ≤ l := Nat.min_le_left _ _
    obtain ⟨q, eq⟩ : ∃ q, q = Nat.min l d := ⟨_, rfl⟩
    rw [← eq] at h0 hm hfit ⊢
    obtain ⟨cs, ecs⟩ : ∃ cs, cs = (xs.take q).map lim := ⟨_, rfl⟩
    have hcl : cs.length = q := by rw [ecs, List.length_map, List.length_take]; omega
    have h1 : 0 < (xs.map lim).length := by rw [List.length_map]; omega
    obtain ⟨ad, rfl, hs⟩ := copy_src hr h1
    have hsrc : ∀ j u, cs[j]? = some u → w.cell? (ad.add j) = some u := fun j u hj => hs j u (by
      rw [ecs] at hj
      have hjq : j < q := by
        rcases Nat.lt_or_ge j q with h2 | h2
        · exact h2
        · rw [List.getElem?_eq_none (by rw [← ecs, hcl]; exact h2)] at hj; cases hj
      rw [List.getElem?_map, List.getElem?_take, if_pos hjq] at hj
      rw [List.getElem?_map]; exact hj)
    have hrun := run_copy_row (P := Try.prog) w 32 32 3 5 g off d dCap ad l c (cur.map lim).toArray 5 cs Try.underlying32 sizeU8 hrow (hcl.trans eq) hsrc (by rw [hcl]; simpa using hfit) (by rw [ecs]; exact lim_oneCell _)
    refine ⟨_, by rw [hrun, hcl]; rfl, ?_, ?_, ?_⟩
    · unfold Row
      rw [setRow_heap w g _ _ 5 _ hrow, ecs]
      simp [List.map_take, List.map_drop]
    · exact below_setRow (Below.refl _ _) (Nat.le_refl _) _
    · exact ⟨rfl, rfl, rfl, by simp [World.setRow], fun k _ hk => setRow_other w g k _ (fun e => hk (by simp [e]))⟩

/-- Row idx of the code word with these k data rows of L bytes. -/
def wordR (k L : Nat) (data : List (List Nat)) (idx : Nat) : List Nat := if idx < k then data.getD idx [] else comb L (facs k idx) data k
/-- The first n rows. -/
def wordTo (k L : Nat) (data : List (List Nat)) (n : Nat) : List (List Nat) := (List.range n).map (wordR k L data)
theorem length_wordTo (k L : Nat) (data : List (List Nat)) (n : Nat) : (wordTo k L data n).length = n := by simp [wordTo]
theorem wordTo_succ (k L : Nat) (data : List (List Nat)) (n : Nat) : wordTo k L data (n + 1) = wordTo k L data n ++ [wordR k L data n] := by simp [wordTo, List.range_succ]
theorem wordTo_get {k L : Nat} {data : List (List Nat)} {n i : Nat} (h : i < n) : (wordTo k L data n).getD i [] = wordR k L data i := by simp [wordTo, List.getD, h]
/-- A list of rows is returned. -/
def RetRows (w : World) (rs : List (List Nat)) (e : Ending) (w' : World) : Prop := ∃ G hs, e = .returned (.slice (some ⟨G, 0, none⟩) rs.length rs.length) ∧ RowsB w' (.slice (some ⟨G, 0, none⟩) rs.length rs.length) hs rs ∧ w.heap.size ≤ G ∧ Add w w'

set_option maxRecDepth 100000 in
set_option maxHeartbeats 4000000 in
theorem extend_any {w : World} {v : Value} {vs : List Value} {rs : List (List Nat)} {k m L : Nat} (h : RowsB w v vs rs) (hk : rs.length = k) (hk0 : 0 < k) (hk2 : k ≤ 100) (hm2 : m ≤ 100) (hL : L ≤ 100000) (hal : allLen L rs = true) :
    Calls Try.prog 32 #[v, .int .i64 (m : Nat)] w (RetRows w (wordTo k L rs (k + m))) := by
  obtain ⟨i0, hi0, hz0, hz1, hz2⟩ := info_parts info5
  obtain ⟨i1, hi1, hy0, hy1, hy2⟩ := info_parts info32
  obtain ⟨ao, cr, rfl, hm⟩ := h.isSlice
  rw [hk] at h hm ⊢
  obtain ⟨n, en⟩ : ∃ n, n = k + m := ⟨_, rfl⟩
  rw [← en]
  have eni : (k : Int) + (m : Int) = (n : Int) := by omega
  have HR := Lib.hid h
  have HK := Lib.hid hk
  have HAL := Lib.hid hal
  have HEN := Lib.hid en
  have hkn : k ≤ n := by omega
  have hn2 : n ≤ 200 := by omega
  clear h hk hal hm en
  go_enter Try.func32, Try.ntmps32
  go_wp2_with (at_make; refine wpList_make_full _ rfl _ _ 22 rfl w.heap.size 32 i1 (.slice none 0 0) 1 Try.underlying22 hi1 hy0 hy1 _ _ _ _ n rfl rfl (by omega) (by omega) (by rw [hy2]; omega) (by unfold maxLen; omega) (Nat.le_refl _) ?_)
  intro w1 hown hgr
  obtain ⟨G, eG⟩ : ∃ G, G = w.heap.size := ⟨_, rfl⟩
  rw [← eG] at hown ⊢
  have HM0 : Hid (FillH w1 G n [] (wordTo k L rs 0)) := Lib.hid (FillH.made hown)
  have HADD : Hid (Add w w1) := Lib.hid ((Below.refl _ _).grown hgr (Nat.le_refl _) (by simp))
  have hwG : w.heap.size ≤ G := by omega
  clear hown hgr eG
  go_wp2_with fail
  go_loopw [18] (fun i wr => ∃ (q : Nat) (hs : List Value), q ≤ k ∧ i = .int .i64 (q : Nat) ∧ FillH wr G n hs (wordTo k L rs q) ∧ Add w wr) (fun i _ => k - (intOf i).toNat)
  case atStart => exact ⟨0, [], Nat.zero_le _, rfl, HM0.out, HADD.out⟩
  case round =>
    obtain ⟨q, hs, hq, rfl, hfill, hadd⟩ := hrel
    have hlen : hs.length = q := by rw [hfill.2.1, length_wordTo]
    by_cases h0 : q = k
    · have HF : Hid (FillH wr G n hs (wordTo k L rs k)) := Lib.hid (by rw [h0] at hfill; exact hfill)
      have HA := Lib.hid hadd
      clear hfill hadd hlen
      subst h0
      go_wp2_with fail
      rename World => wm
      go_loopw [9] (fun i wr => ∃ (p : Nat) (hs : List Value), q ≤ p ∧ p ≤ n ∧ i = .int .i64 (p : Nat) ∧ FillH wr G n hs (wordTo q L rs p) ∧ Add w wr) (fun i _ => n - (intOf i).toNat)
      case atStart => exact ⟨q, hs, Nat.le_refl _, hkn, rfl, HF.out, HA.out⟩
      case round =>
        obtain ⟨p, hs, hp1, hp2, rfl, hfill, hadd⟩ := hrel
        have hlen : hs.length = p := by rw [hfill.2.1, length_wordTo]
        by_cases hpn : p = n
        · have HF : Hid (RowsB wr (.slice (some ⟨G, 0, none⟩) n n) hs (wordTo q L rs n) ∧ Add w wr) := Lib.hid (by
            rw [hpn] at hfill
            exact ⟨hfill.rows (by rw [hlen, hpn]) (by unfold maxLen; omega), hadd⟩)
          clear hfill hadd hlen
          subst hpn
          go_wp2_with fail
          go_ret
          exact ⟨G, hs, by rw [length_wordTo]; rfl, by rw [length_wordTo]; exact HF.out.1, hwG, HF.out.2⟩
        · have hlt : p < n := by omega
          have C1 : Hid (Calls Try.prog 48 #[.int .i64 (q : Nat), .int .i64 (p : Nat)] wr (FacP wr q (facs q p))) := Lib.hid (factors_any q p (by omega) (by omega) wr)
          have HFILL := Lib.hid hfill
          have HA := Lib.hid hadd
          have HLEN := Lib.hid hlen
          clear hfill hadd hlen hpn
          go_wp2_with fail
          refine C1.out.mono ?_
          rintro e w2 ⟨g2, rfl, hown2, hadd2⟩
          have hA2 : Add w w2 := Add.trans HA.out hadd2
          have hr2 := HR.out.mono hA2
          have h0L : (rs.getD 0 []).length = L := allLen_get HAL.out (by rw [HK.out]; exact hk0)
          have C2 : Hid (Calls Try.prog 47 #[.slice (some ⟨g2, 0, none⟩) q q, .slice ao q cr] w2 (CombP w2 L (comb L (facs q p) rs q))) := Lib.hid (by
            have := combine_ok (hown2.reads (by unfold maxLen; omega) (bys_facs q p)) hr2 (by omega) (by rw [length_facs]; omega) (by rw [HK.out, length_facs]) (by rw [h0L]; exact HAL.out)
            rw [h0L, length_facs] at this
            exact this)
          have HFILL2 := Lib.hid (HFILL.out.add hadd2)
          have HA2 := Lib.hid hA2
          clear hA2 hr2 hown2 hadd2 h0L
          go_wp2_with fail
          refine C2.out.mono ?_
          rintro e w3 ⟨g3, rfl, hown3, hadd3⟩
          have hf3 := HFILL2.out.add hadd3
          have hb3 := hown3.lt.1
          have hGlt := HFILL2.out.lt
          have hrd3 := hown3.reads (by unfold maxLen; omega) (bys_comb L rs (bys_facs q p) q)
          have hcz := hf3.cellN (by rw [HLEN.out]; exact hlt)
          have hfz := hf3.free p
          have hst := hf3.store (by rw [HLEN.out]; exact hlt) hrd3 (away_block (by omega))
          rw [HLEN.out] at hcz hst
          have HNEXT : Hid (FillH (w3.setCell ⟨G, p, none⟩ (.slice (some ⟨g3, 0, none⟩) L L)) G n (hs ++ [.slice (some ⟨g3, 0, none⟩) L L]) (wordTo q L rs (p + 1)) ∧ Add w (w3.setCell ⟨G, p, none⟩ (.slice (some ⟨g3, 0, none⟩) L L))) := Lib.hid (by
            rw [wordTo_succ]
            refine ⟨?_, (Add.trans HA2.out hadd3).setCell hwG _⟩
            have e : wordR q L rs p = comb L (facs q p) rs q := by unfold wordR; rw [if_neg (by omega)]
            rw [e]; exact hst)
          clear hf3 hb3 hGlt hrd3 hst hown3 hadd3
          go_wp2_with fail
          go_roundw
          case rel => exact ⟨p + 1, _, by omega, by omega, by go_num, HNEXT.out.1, HNEXT.out.2⟩
          case measure => simp [intOf]; omega
    · have hlt : q < k := by omega
      obtain ⟨b, off, a, l, c, rfl, -, el, -, hcell, hrd⟩ := (HR.out.mono hadd).row hlt
      obtain ⟨xs, exs⟩ : ∃ xs, xs = rs.getD q [] := ⟨_, rfl⟩
      rw [← exs] at el hrd
      have hxl : xs.length = L := by rw [exs]; exact allLen_get HAL.out (by rw [HK.out]; exact hlt)
      have eL : L = l := by rw [el, hxl]
      subst eL
      have HFILL := Lib.hid hfill
      have HA := Lib.hid hadd
      have HLEN := Lib.hid hlen
      have HXL := Lib.hid hxl
      have HXS := Lib.hid exs
      have HRD := Lib.hid hrd
      clear hfill hadd hlen h0 hrd el hxl exs
      go_wp2_with (at_make; refine wpList_make_full _ rfl _ _ 32 rfl wr.heap.size 5 i0 (.int .u8 0) 1 Try.underlying32 hi0 hz0 hz1 _ _ _ _ L rfl rfl (by omega) (by omega) (by rw [hz2]; omega) (by unfold maxLen; omega) (Nat.le_refl _) ?_)
      intro w1 hown hgr
      obtain ⟨g, eg⟩ : ∃ g, g = wr.heap.size := ⟨_, rfl⟩
      rw [← eg] at hown ⊢
      have hGg : G < g := by rw [eg]; exact HFILL.out.lt
      have hrow := (Own.made hown).row
      have hheads := HFILL.out.1.kept hgr (by simp)
      have hc1 : w1.cell? ⟨G, q, none⟩ = some (.slice none 0 0) := by
        have := (HFILL.out.add ((Below.refl _ _).grown hgr (Nat.le_refl _) (by simp))).cellN (by rw [HLEN.out]; omega)
        rw [HLEN.out] at this; exact this
      have hf1 := hheads.free q
      obtain ⟨W2, hW2⟩ : ∃ W2, W2 = w1.setCell ⟨G, q, none⟩ (.slice (some ⟨g, 0, none⟩) L L) := ⟨_, rfl⟩
      have HW := Lib.hid hW2
      have hheads2 := hheads.set q (.slice (some ⟨g, 0, none⟩) L L)
      rw [← hW2] at hheads2
      have hc2 : W2.cell? ⟨G, q, none⟩ = some (.slice (some ⟨g, 0, none⟩) L L) := by
        have hl2 : q < ((hs ++ List.replicate (n - hs.length) nilV)).length := by rw [List.length_append, List.length_replicate, HLEN.out]; omega
        rw [hheads2.cell (by rw [List.length_set]; exact hl2)]
        simp only [List.getD]; rw [List.getElem?_set_self hl2]; rfl
      have hgrow : wr.grownBy W2 (some G) := by rw [hW2]; exact grown_trans (grown_some hgr G) (grown_setCell q _)
      have hrow2 : Row W2 g (List.replicate L 0) := by rw [hW2]; exact hrow.kept (grown_setCell (g := G) q _) (fun e => by have := Option.some.inj e; omega)
      have hadd2 : Add w W2 := HA.out.grown hgrow HA.out.size (fun j hj => by cases hj; exact hwG)
      have hrd2 := (HR.out.mono hadd2).row hlt
      obtain ⟨b2, off2, a2, l2, c2, eb2, ev2, -, -, hcell2, hrd2⟩ := hrd2
      have hsame : Value.slice a2 l2 c2 = .slice a L c := by
        obtain ⟨b3, off3, a3, l3, c3, eb3, ev3, -, -, hcell3, -⟩ := (HR.out.mono HA.out).row hlt
        rw [← ev2, ev3]
        simp only [Option.some.injEq, Addr.mk.injEq, and_true] at eb3
        obtain ⟨rfl, rfl⟩ := eb3
        rw [hcell3] at hcell
        exact Option.some.inj hcell
      rw [hsame, ← HXS.out] at hrd2
      obtain ⟨w3, hrun, hrow3, hb3, -⟩ := copy_run (d := L) (dCap := L) (off := 0) hrow2 hrd2 (by rw [show Nat.min L L = L from Nat.min_self L, List.length_replicate]; omega) (fun _ => rfl)
      rw [show Nat.min L L = L from Nat.min_self L] at hrun hrow3
      have HEND : Hid (FillH w3 G n (hs ++ [.slice (some ⟨g, 0, none⟩) L L]) (wordTo k L rs (q + 1)) ∧ Add w w3) := Lib.hid (by
        have hrow3 : Row w3 g xs := by
          rw [Nat.zero_add, List.take_zero, List.nil_append, List.drop_of_length_le (by simp), List.append_nil, List.take_of_length_le (by rw [HXL.out]; exact Nat.le_refl _)] at hrow3; exact hrow3
        have hrd3 : Reads w3 (.slice (some ⟨g, 0, none⟩) L L) xs := by
          have hb := HRD.out.limbs
          have := hrow3.reads (m := L) (c := L) (by rw [HXL.out]; exact Nat.le_refl _) (Nat.le_refl _) (by unfold maxLen; omega) hb
          rw [← HXL.out, List.take_length] at this
          rw [HXL.out] at this; exact this
        have hgrow3 : wr.grownBy w3 (some G) := ⟨hb3.os.trans hgrow.os, hb3.tape.trans hgrow.tape, hb3.output.trans hgrow.output, Nat.le_trans hgrow.size hb3.size, fun i hi hne => (hb3.block i (by omega)).trans (hgrow.block i hi hne)⟩
        rw [wordTo_succ]
        have e : wordR k L rs q = xs := by unfold wordR; rw [if_pos hlt]; exact HXS.out.symm
        rw [e]
        refine ⟨HFILL.out.step (by rw [HLEN.out]; omega) hgrow3 ?_ hrd3 (away_block (by omega)), HA.out.grown hgrow3 HA.out.size (fun j hj => by cases hj; exact hwG)⟩
        rw [HLEN.out] at *
        exact hheads2.below hb3 hGg)
      clear hW2 hown hgr eg hheads hheads2 hrow hrow2 hgrow hadd2 hrd2 ev2 eb2 hcell2 hsame hrow3 hb3
      go_wp2_with fail
      rw [← HW.out, hrun]
      go_wp2_with fail
      go_roundw
      case rel => exact ⟨q + 1, _, by omega, by go_num, HEND.out.1, HEND.out.2⟩
      case measure => simp [intOf]; omega
end Go.Proofs.Ytmlcenocjpjcfaa
