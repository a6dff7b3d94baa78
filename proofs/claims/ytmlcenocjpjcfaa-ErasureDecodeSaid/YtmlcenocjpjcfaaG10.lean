/- Package field and its reference: Combine. -/
import Derived.Test.YtmlcenocjpjcfaaG9
import Derived.OwnWalk
namespace Go.Proofs.Ytmlcenocjpjcfaa
open Go.RowKit GfM

/-- The sum of the multiples of the first k rows. -/
def comb (L : Nat) (cs : List Nat) (rs : List (List Nat)) : Nat → List Nat
  | 0 => List.replicate L 0
  | k + 1 => addTo (comb L cs rs k) (cs.getD k 0) (rs.getD k [])
theorem length_comb (L : Nat) (cs : List Nat) (rs : List (List Nat)) (k : Nat) : (comb L cs rs k).length = L := by
  induction k with
  | zero => simp [comb]
  | succ k ih => rw [comb, length_addTo, ih]
theorem bys_comb (L : Nat) {cs : List Nat} (rs : List (List Nat)) (hc : Bys cs) (k : Nat) : Bys (comb L cs rs k) := by
  induction k with
  | zero => intro x hx; rw [comb] at hx; rw [List.eq_of_mem_replicate hx]; decide
  | succ k ih => exact bys_addTo ih (hc.get k)
/-- May these rows be combined? -/
def combOk (cs : List Nat) (rs : List (List Nat)) : Bool := !(cs.length == 0) && rs.length == cs.length && allLen (rs.getD 0 []).length rs
/-- The new row is returned. -/
def CombP (w : World) (L : Nat) (zs : List Nat) (e : Ending) (w' : World) : Prop := ∃ g, e = .returned (.tuple #[.slice (some ⟨g, 0, none⟩) L L, .int .i64 0]) ∧ Own w' w.heap.size g L zs ∧ Add w w'
/-- The error is returned. -/
def CombE (w : World) (e : Ending) (w' : World) : Prop := e = .returned (.tuple #[.slice none 0 0, .int .i64 1]) ∧ Add w w'

theorem allLen_get {n : Nat} {rs : List (List Nat)} (h : allLen n rs = true) {k : Nat} (hk : k < rs.length) : (rs.getD k []).length = n := by
  unfold allLen at h
  have := List.all_eq_true.1 h rs[k] (List.getElem_mem hk)
  simpa [List.getD, hk] using this

set_option maxRecDepth 100000 in
set_option maxHeartbeats 1000000 in
theorem combine_ok {cv v : Value} {vs : List Value} {cs : List Nat} {rs : List (List Nat)} {w : World} (hc : Reads w cv cs) (hr : RowsB w v vs rs) (hs : (rs.getD 0 []).length ≤ 100000) (h1 : cs.length ≠ 0) (h2 : rs.length = cs.length) (h3 : allLen (rs.getD 0 []).length rs = true) :
    Calls Try.prog 47 #[cv, v] w (CombP w (rs.getD 0 []).length (comb (rs.getD 0 []).length cs rs cs.length)) := by
  obtain ⟨i0, hi, hz0, hz1, hz2⟩ := info_parts info5
  have hbc := hc.limbs
  obtain ⟨aoc, cc, rfl, hmc⟩ := hc.isSlice
  obtain ⟨ao, cr, rfl, hm⟩ := hr.isSlice
  unfold maxLen at hm hmc
  obtain ⟨n, en⟩ : ∃ n, n = cs.length := ⟨_, rfl⟩
  rw [h2, ← en] at hr hm ⊢
  rw [← en] at hc hmc h1
  obtain ⟨L, eL⟩ : ∃ L, L = (rs.getD 0 []).length := ⟨_, rfl⟩
  rw [← eL] at h3 hs ⊢
  have hpos : 0 < n := by omega
  obtain ⟨b, off, a0, l0, c0, rfl, -, el0, hl0, hcell0, hrd0⟩ := hr.row (k := 0) hpos
  have e0 : l0 = L := by rw [el0, eL]
  subst e0
  have hne : ((n : Int) == 0) = false := by simp; omega
  have HC := Lib.hid hc
  have HR := Lib.hid hr
  have HH : Hid (∀ w', Add w w' → Calls Try.prog 42 #[.slice (some ⟨b, off, none⟩) n cr, .int .i64 (l0 : Nat)] w' (RetBo w' true)) := Lib.hid fun w' k => by
    have := haveLength_any (hr.mono k) l0 hl0; rw [h3] at this; exact this
  have HN := Lib.hid (h2.trans en.symm)
  have H3 := Lib.hid h3
  rw [Nat.add_zero] at hcell0
  clear hc hr h1 h2 h3 en eL el0 hrd0
  go_enter Try.func47, Try.ntmps47
  go_wp2_with first | (go_at_call 42; (with_reducible refine (HH.out _ (Below.refl _ _)).mono ?_); rintro e w' ⟨rfl, rfl⟩) | (at_make; refine wpList_make_full _ rfl _ _ 32 rfl w.heap.size 5 i0 (.int .u8 0) 1 Try.underlying32 hi hz0 hz1 _ _ _ _ l0 rfl rfl (by omega) (by omega) (by rw [hz2]; omega) (by unfold maxLen; omega) (Nat.le_refl _) ?_)
  intro w1 hown hgr
  have hadd : Add w w1 := (Below.refl _ _).grown hgr (Nat.le_refl _) (by simp)
  have hown := Own.made hown
  have HROW := Lib.hid hown.row
  have HADD := Lib.hid hadd
  clear hgr hown hadd hcell0
  go_wp2_with fail
  go_loopw [35] (fun i wr => ∃ k : Nat, k ≤ n ∧ i = .int .i64 (k : Nat) ∧ Row wr w.heap.size (comb l0 cs rs k) ∧ Add w wr) (fun i _ => n - (intOf i).toNat)
  case atStart => exact ⟨0, Nat.zero_le _, rfl, HROW.out, HADD.out⟩
  case round =>
    obtain ⟨k, hk, rfl, hrow, hadd⟩ := hrel
    by_cases h0 : k = n
    · subst h0
      have HF : Hid (Own wr w.heap.size w.heap.size l0 (comb l0 cs rs k)) := Lib.hid (hrow.own (Nat.le_refl _) (length_comb ..) (by unfold maxLen; omega))
      have HA := Lib.hid hadd
      clear hrow hadd
      go_wp2_with fail
      go_ret2
      exact ⟨w.heap.size, rfl, HF.out, HA.out⟩
    · have hlt : k < n := by omega
      obtain ⟨b', off', a, l, c, eb, -, el, hl, hcell, hrd⟩ := (HR.out.mono hadd).row hlt
      simp only [Option.some.injEq, Addr.mk.injEq, and_true] at eb
      obtain ⟨rfl, rfl⟩ := eb
      obtain ⟨bc, offc, rfl, hcc⟩ := (HC.out.mono hadd).cell hlt
      obtain ⟨f, ef⟩ : ∃ f, f = cs.getD k 0 := ⟨_, rfl⟩
      have hf : f < 256 := by rw [ef]; exact hbc.get k
      rw [← ef] at hcc
      have hll : l = l0 := by rw [el]; exact allLen_get H3.out (by rw [HN.out]; exact hlt)
      have hll := hll.symm
      subst hll
      obtain ⟨b2, off2, a2, l2, c2, eb2, ev2, el2, -, hcell2, hrd2⟩ := HR.out.row hlt
      have hsame : Value.slice a2 l2 c2 = .slice a l0 c := by
        simp only [Option.some.injEq, Addr.mk.injEq, and_true] at eb2
        obtain ⟨rfl, rfl⟩ := eb2
        have h5 := (hadd.cell (p := ⟨b, off + k, none⟩) (World.block_lt_of_cell? w _ hcell2)).trans hcell2
        rw [hcell] at h5
        exact (Option.some.inj h5).symm
      rw [hsame] at hrd2
      have HCALL : Hid (Calls Try.prog 57 #[.slice (some ⟨w.heap.size, 0, none⟩) l0 l0, .int .u8 (f : Nat), .slice a l0 c] wr (AddP wr w.heap.size (comb l0 cs rs (k + 1)))) := Lib.hid (by
        have := addMultiple_any (n := l0) (c := l0) hrow hrd (Away.of_lt hrd2 (Nat.le_refl _)) (bys_comb l0 rs hbc k) hf (by rw [length_comb]) (by omega) (by rw [length_comb, ← el]; exact Nat.le_refl _)
        rw [ef] at this ⊢; exact this)
      have HA := Lib.hid hadd
      clear hrow hadd hrd hrd2 hsame hcell2 eb2 ev2 el2 el ef h0
      go_wp2_with (go_at_call 57; (with_reducible refine HCALL.out.mono ?_); rintro e w' ⟨rfl, hrow', hgr', hsz'⟩)
      go_roundw
      case rel => exact ⟨k + 1, by omega, by go_num, hrow', HA.out.grown hgr' HA.out.size (fun j hj => by cases hj; exact Nat.le_refl _)⟩
      case measure => simp [intOf]; omega

theorem combine_bad {cv v : Value} {vs : List Value} {cs : List Nat} {rs : List (List Nat)} {w : World} (hc : Reads w cv cs) (hr : RowsB w v vs rs) (h : combOk cs rs = false) :
    Calls Try.prog 47 #[cv, v] w (CombE w) := by
  obtain ⟨aoc, cc, rfl, hmc⟩ := hc.isSlice
  obtain ⟨ao, cr, rfl, hm⟩ := hr.isSlice
  unfold maxLen at hm hmc
  by_cases h0 : cs.length = 0
  · rw [h0]
    clear hc hr h h0
    go_enter Try.func47, Try.ntmps47
    go_wp2_with fail
    go_ret2
    exact ⟨rfl, Below.refl _ _⟩
  · by_cases h1 : rs.length = cs.length
    · obtain ⟨n, en⟩ : ∃ n, n = cs.length := ⟨_, rfl⟩
      rw [h1, ← en] at hr ⊢
      rw [h1, ← en] at hm
      have hpos : 0 < n := by omega
      obtain ⟨b, off, a0, l0, c0, rfl, -, el0, hl0, hcell0, hrd0⟩ := hr.row (k := 0) hpos
      have h3 : allLen l0 rs = false := by
        unfold combOk at h
        rw [el0]
        simp [h1, h0] at h
        exact h
      have hne : ((n : Int) == 0) = false := by simp; omega
      have HH : Hid (∀ w', Add w w' → Calls Try.prog 42 #[.slice (some ⟨b, off, none⟩) n cr, .int .i64 (l0 : Nat)] w' (RetBo w' false)) := Lib.hid fun w' k => by
        have := haveLength_any (hr.mono k) l0 hl0; rw [h3] at this; exact this
      rw [Nat.add_zero] at hcell0
      clear hc hr h h0 h1 en el0 hrd0 h3
      go_enter Try.func47, Try.ntmps47
      go_wp2_with (go_at_call 42; (with_reducible refine (HH.out _ (Below.refl _ _)).mono ?_); rintro e w' ⟨rfl, rfl⟩)
      go_ret2
      exact ⟨rfl, Below.refl _ _⟩
    · have hne : ((cs.length : Int) == 0) = false := by rw [beq_eq_false_iff_ne]; omega
      have hnn : ((rs.length : Int) != (cs.length : Int)) = true := by simp only [bne_iff_ne, ne_eq]; omega
      clear hc hr h h0 h1
      go_enter Try.func47, Try.ntmps47
      go_wp2_with fail
      go_ret2
      exact ⟨rfl, Below.refl _ _⟩
end Go.Proofs.Ytmlcenocjpjcfaa
