/- Rows of limbs that a call makes by append, with spare room or not. | The reference's Trim, large, Make, Cmp. | The reference's plus and minus. | The reference's minus. -/
import Derived.Test.YtbeoeackahmpbaaGreatDoorJF
import Derived.Laws.AppendOwnNone
import Derived.Maps.AppendAt

namespace Go.Proofs.YtbeoeackahmpbaaGreatDoor
open Go.RowKit NatM

/-- v is a row of the call's own, from block base on, that holds the limbs zs. -/
def OwnL (w : World) (base : Nat) (v : Value) (zs : List Nat) : Prop := w.ownsRow base 93 1 v zs.length (zs.map lim)
theorem OwnL.nil (w : World) (base : Nat) : OwnL w base (.slice none 0 0) [] := World.ownsRow_nil _ _ _ _
theorem OwnL.of_own {w : World} {base g n : Nat} {zs : List Nat} (h : Own w base g n zs) : OwnL w base (.slice (some ⟨g, 0, none⟩) n n) zs := by
  unfold OwnL; rw [h.length]; exact h
theorem OwnL.form {w : World} {base : Nat} {v : Value} {zs : List Nat} (h : OwnL w base v zs) :
    (v = .slice none 0 0 ∧ zs = []) ∨ ∃ g cap cur, v = .slice (some ⟨g, 0, none⟩) zs.length cap ∧ base ≤ g ∧ w.heap[g]? = some (.cells cur 93 (0, 0)) ∧ zs.length ≤ cap ∧ cap ≤ maxLen ∧ cur.size = cap ∧ cur.toList.take zs.length = zs.map lim := by
  rcases h.2 with ⟨rfl, h0⟩ | ⟨g, cap, cur, rfl, h1, h2, h3, h4, h5, h6⟩
  · exact .inl ⟨rfl, by simpa using h0⟩
  · exact .inr ⟨g, cap, cur, rfl, h1, h2, h3, h4, by simpa using h5, by simpa using h6⟩
theorem OwnL.reads {w : World} {base : Nat} {v : Value} {zs : List Nat} (h : OwnL w base v zs) (hx : Limbs zs) : Reads w v zs := by
  rcases h.form with ⟨rfl, rfl⟩ | ⟨g, cap, cur, rfl, h1, h2, h3, h4, h5, h6⟩
  · exact Reads.nil w
  · refine ⟨_, zs.length, cap, rfl, rfl, h3, h4, hx, fun _ => ⟨g, 0, rfl, fun i hi => ?_⟩⟩
    have := World.ownsRow.cellAt h i (by simpa using hi)
    rw [Nat.zero_add, this]
    simp [List.getD, hi, lim]
theorem OwnL.below {w w' : World} {base : Nat} {v : Value} {zs : List Nat} (h : OwnL w base v zs) (hb : Below w.heap.size w w') : OwnL w' base v zs := by
  refine ⟨h.1, ?_⟩
  rcases h.2 with hn | ⟨g', cap, cur, e, hg, hgg, rest⟩
  · exact .inl hn
  · refine .inr ⟨g', cap, cur, e, hg, ?_, rest⟩
    rw [hb.block g' (Array.getElem?_eq_some_iff.1 hgg).1]; exact hgg
theorem OwnL.base {w : World} {base base' : Nat} {v : Value} {zs : List Nat} (h : OwnL w base v zs) (hb : base' ≤ base) : OwnL w base' v zs := by
  refine ⟨h.1, ?_⟩
  rcases h.2 with hn | ⟨g', cap, cur, e, hg, rest⟩
  · exact .inl hn
  · exact .inr ⟨g', cap, cur, e, Nat.le_trans hb hg, rest⟩
theorem OwnL.len {w : World} {base : Nat} {v : Value} {zs : List Nat} (h : OwnL w base v zs) : ∃ ao c, v = .slice ao zs.length c := by
  rcases h.form with ⟨rfl, rfl⟩ | ⟨g, cap, cur, rfl, _⟩
  · exact ⟨_, _, rfl⟩
  · exact ⟨_, _, rfl⟩
theorem OwnL.drewN {w : World} {base : Nat} {v : Value} {zs : List Nat} (h : OwnL w base v zs) (n : Nat) : OwnL (w.drewN n) base v zs := h.below (below_drewN (Below.refl _ _) n)
/-- What an append leaves. -/
theorem OwnL.grown {w' : World} {base m : Nat} {v : Value} {zs us : List Nat} {vs : List Value} (h : w'.ownsRow base 93 1 v (zs.length + m) (zs.map lim ++ vs)) (hv : vs = us.map lim) (hm : us.length = m) : OwnL w' base v (zs ++ us) := by
  unfold OwnL
  rw [List.length_append, List.map_append, hm, ← hv]; exact h

/-- v is the canonical row of the number N, and the call's own. -/
def NumO (w : World) (base : Nat) (v : Value) (N : Nat) : Prop := ∃ zs, OwnL w base v zs ∧ Limbs zs ∧ Canon zs ∧ val zs = N
theorem NumO.num {w : World} {base : Nat} {v : Value} {N : Nat} (h : NumO w base v N) : Num w v N := by
  obtain ⟨zs, h1, h2, h3, h4⟩ := h; exact ⟨zs, h1.reads h2, h3, h4⟩
theorem NumO.below {w w' : World} {base : Nat} {v : Value} {N : Nat} (h : NumO w base v N) (hb : Add w w') : NumO w' base v N := by
  obtain ⟨zs, h1, h2⟩ := h; exact ⟨zs, h1.below hb, h2⟩
theorem NumO.base {w : World} {base base' : Nat} {v : Value} {N : Nat} (h : NumO w base v N) (hb : base' ≤ base) : NumO w base' v N := by
  obtain ⟨zs, h1, h2⟩ := h; exact ⟨zs, h1.base hb, h2⟩
/-- A call that returns the number N in a row of its own. -/
def RetO (w : World) (N : Nat) (e : Ending) (w' : World) : Prop := ∃ v, e = .returned v ∧ NumO w' w.heap.size v N ∧ Add w w'

theorem run_append_none_none {P : Program} (w : World) (t ty e : TypeId) (i : TypeInfo) (ht : P.underlying t = some (.slice e)) (hi : P.info? e = some i) (c : Nat) :
    (Builtin.append_ #[t, t] ty #[.slice none 0 0, .slice none 0 c]).run P w = .ok (.slice none 0 0) w := by
  simp [Builtin.append_, run_underlying ht, sizeOf, typeInfo, hi, Builtin.lenOf, Builtin.firstCells]
theorem wpList_append_none_none {P : Program} {w : World} {ops : Array Oper} {rest : List Oper} {o : Oper} {a : Act} {Q : Exit → Act → World → Prop} (hgd : o.guard = none) (s x : Operand) (t : TypeId)
    (ho : o.op = .call { callee := .builtin .append, args := #[s, x], argTypes := #[t, t] })
    (e : TypeId) (i : TypeInfo) (ht : P.underlying t = some (.slice e)) (hi : P.info? e = some i) (c : Nat)
    (hs : a.eval s = .slice none 0 0) (hx : a.eval x = .slice none 0 c)
    (h : wpList P ops Q rest (a.put o.dst (.slice none 0 0)) w) : wpList P ops Q (o :: rest) a w := by
  refine wpList_plain hgd fun K hK => ?_
  have hrun := run_append_none_none (P := P) w t o.type e i ht hi c
  unfold Oper.wp
  simp [execOp, ho, resolve, invoke, builtin, hs, hx, hrun, Result.andThen]
  exact hK _ _ h

theorem Reads.cell {w : World} {ao : Option Addr} {n c : Nat} {xs : List Nat} (h : Reads w (.slice ao n c) xs) {k : Nat} (hk : k < n) : ∃ b off, ao = some ⟨b, off, none⟩ ∧ w.cell? ⟨b, off + k, none⟩ = some (.int .u32 (xs.getD k 0 : Nat)) := by
  obtain ⟨ao', n', c', e, -, -, -, -, hr⟩ := h
  simp only [Value.slice.injEq] at e
  obtain ⟨rfl, rfl, rfl⟩ := e
  obtain ⟨b, off, e, g⟩ := hr (by omega)
  exact ⟨b, off, e, g k hk⟩
theorem reads_front {w : World} {b off : Nat} {n k : Nat} {xs : List Nat} (h : ∀ i, i < n → w.cell? ⟨b, off + i, none⟩ = some (.int .u32 (xs.getD i 0 : Nat))) (hk : k ≤ n) (hl : xs.length = n) :
    ∀ j u, ((xs.take k).map lim)[j]? = some u → w.cell? ((⟨b, off, none⟩ : Addr).add j) = some u := by
  intro j u hu
  have hj : j < k := by
    have := (List.getElem?_eq_some_iff.1 hu).1
    simp at this; omega
  have e : (⟨b, off, none⟩ : Addr).add j = ⟨b, off + j, none⟩ := by simp [Addr.add_lit]
  rw [e, h j (by omega)]
  have hjx : j < xs.length := by omega
  simp [hj, lim, hjx] at hu
  rw [← hu]
  simp [List.getD, hjx]
theorem lim_one (zs : List Nat) : ∀ u ∈ zs.map lim, u.oneCell' = true := by
  intro u hu
  obtain ⟨x, -, rfl⟩ := List.mem_map.1 hu
  rfl
end Go.Proofs.YtbeoeackahmpbaaGreatDoor

namespace Go.Proofs.YtbeoeackahmpbaaGreatDoor
open Go.RowKit NatM

theorem refTrim_any (v : Value) (xs : List Nat) (w : World) (h : Reads w v xs) (hs : xs.length ≤ 1000000) :
    Calls Tryz.prog 69 #[v] w (RetO w (val xs)) := by
  obtain ⟨i0, hi, hz0, hz1, hz2⟩ := info_parts info93
  obtain ⟨ao, n, c, rfl, hl, hc, hm, hx, hr⟩ := h
  unfold maxLen at hm
  have hmm : n ≤ 1000000 := by omega
  have HX := Lib.hid hx
  have HL := Lib.hid hl
  clear hl hs hx
  have hfin : ∀ (k : Nat) (v' : Value) (w' : World), tlen xs = k → w'.ownsRow w.heap.size 93 1 v' k ((xs.take k).map lim) → Add w w' → RetO w (val xs) (.returned v') w' := by
    intro k v' w' hk h1 h2
    have hl := HL.out
    have hkl : (xs.take k).length = k := by rw [List.length_take]; have := tlen_le xs; omega
    refine ⟨v', rfl, ⟨xs.take k, ?_, HX.out.take _, ?_, ?_⟩, h2⟩
    · unfold OwnL; rw [hkl]; exact h1
    · rw [← hk]; exact Canon.trim xs
    · rw [← hk]; exact val_trim xs
  have HF := Lib.hid hfin
  clear hfin
  go_enter Tryz.func69, Tryz.ntmps69
  go_wp2_with fail
  go_loop [3] (fun v => ∃ k : Nat, k ≤ n ∧ v = .int .i64 k ∧ tlen xs ≤ k) (fun v => (intOf v).toNat)
  case atStart => exact ⟨n, Nat.le_refl _, rfl, by rw [← HL.out]; exact tlen_le xs⟩
  case round =>
    obtain ⟨k, hk, rfl, ht⟩ := hrel
    by_cases h0 : k = 0
    · subst h0
      have h1 := HF.out 0 (.slice none 0 0) w (by omega) (World.ownsRow_nil _ _ _ _) (Below.refl _ _)
      cases ao with
      | none =>
        go_wp2_with (at_builtin; refine wpList_append_none_none rfl _ _ 35 rfl 93 i0 Tryz.underlying35 hi _ rfl rfl ?_)
        go_ret
        exact h1
      | some ad =>
        go_wp2_with (at_builtin; refine wpList_append_own _ rfl _ _ 35 rfl w.heap.size 93 i0 (.int .u32 0) 1 4 Tryz.underlying35 hi hz0 hz1 hz2 rfl (by decide) _ 0 [] rfl (World.ownsRow_nil _ _ _ _) ad 0 _ [] rfl rfl (by intro j u hu; simp at hu) (by intro u hu; simp at hu) (by unfold maxLen; omega) (by omega) (Nat.le_refl _) ?_)
        intro v' w' hown hgr hiff
        have hadd : Add w w' := (Below.refl _ _).grown hgr (Nat.le_refl _) (fun k hk => by simp [Value.ownBlock] at hk)
        have h2 := HF.out 0 v' w' (by omega) hown hadd
        clear hown hgr hiff
        go_wp2_with fail
        go_ret
        exact h2
    · obtain ⟨j, rfl⟩ : ∃ j, k = j + 1 := ⟨k - 1, by omega⟩
      obtain ⟨b, off, rfl, g⟩ := hr (by omega)
      have G := Lib.hid g
      have hcell := g j (by omega)
      clear g hr
      obtain ⟨x, hx'⟩ : ∃ x, x = xs.getD j 0 := ⟨_, rfl⟩
      rw [← hx'] at hcell
      have HX' := Lib.hid hx'
      clear hx'
      by_cases hz : x = 0
      · subst hz
        go_wp2_with fail
        go_round
        case rel => 
          refine ⟨j, by omega, by go_num, ?_⟩
          rcases Nat.lt_or_ge (tlen xs) (j + 1) with h1 | h1
          · omega
          · have h2 : tlen xs = j + 1 := by omega
            have := tlen_top xs (by omega)
            rw [h2] at this
            exact absurd HX'.out.symm this
        case measure => simp [intOf]
      · have hz1' : ((x : Int) == 0) = false := by simpa using hz
        have ht2 : tlen xs = j + 1 := by
          rcases Nat.lt_or_ge (tlen xs) (j + 1) with h1 | h1
          · have := tlen_above xs j (by omega)
            rw [← HX'.out] at this
            exact absurd this hz
          · omega
        have HT := Lib.hid ht2
        clear ht2
        have hnews := reads_front (k := j + 1) G.out hk HL.out
        have hnl : ((xs.take (j + 1)).map lim).length = (j + 1) * 1 := by rw [List.length_map, List.length_take, HL.out]; omega
        go_wp2_with (at_builtin; refine wpList_append_own _ rfl _ _ 35 rfl w.heap.size 93 i0 (.int .u32 0) 1 4 Tryz.underlying35 hi hz0 hz1 hz2 rfl (by decide) _ 0 [] rfl (World.ownsRow_nil _ _ _ _) ⟨b, off, none⟩ (j + 1) _ ((xs.take (j + 1)).map lim) rfl hnl hnews (lim_one _) (by unfold maxLen; omega) (by omega) (Nat.le_refl _) ?_)
        intro v' w' hown hgr hiff
        have hadd : Add w w' := (Below.refl _ _).grown hgr (Nat.le_refl _) (fun k hk => by simp [Value.ownBlock] at hk)
        have h2 := HF.out (j + 1) v' w' HT.out (by rw [List.map_take]; exact hown) hadd
        clear hown hgr hiff hnews hnl
        go_wp2_with fail
        go_ret
        exact h2

theorem refLarge_is (b : Bool) (v : Value) (xs : List Nat) (w : World) (h : Reads w v xs) (hs : xs.length ≤ 1000000) (hb : Hid (decide (pw 512 ≤ val xs) = b)) :
    Calls Tryz.prog 93 #[v] w (fun e w' => e = .returned (.bool b) ∧ Add w w') := by
  have HT := Lib.hid (refTrim_any v xs w h hs)
  go_enter Tryz.func93, Tryz.ntmps93
  go_wp2_with fail
  refine HT.out.mono ?_
  rintro e w1 ⟨v', rfl, ⟨zs, h1, h2, h3, h4⟩, hadd⟩
  obtain ⟨ao, c, rfl⟩ := h1.len
  have e1 : decide ((512 : Int) < (zs.length : Nat)) = b := by
    rw [← hb.out, decide_eq_decide, ← h4, ← tlen_gt_iff h2 512]
    unfold Canon at h3
    omega
  have E1 := Lib.hid e1
  clear e1 h1 h2 h3 h4
  go_wp2_with fail
  go_ret
  exact ⟨by rw [← E1.out]; rfl, hadd⟩
end Go.Proofs.YtbeoeackahmpbaaGreatDoor

namespace Go.Proofs.YtbeoeackahmpbaaGreatDoor
open Go.RowKit NatM

/-- k limbs of the sum are laid, c is the carry. -/
def PlusAt (xs ys zs : List Nat) (c : Nat) : Prop := val zs + pw zs.length * c = val (xs.take zs.length) + val (ys.take zs.length)
theorem plusAt_zero (xs ys : List Nat) : PlusAt xs ys [] 0 := by simp [PlusAt, val]
theorem plusAt_step {xs ys zs : List Nat} {c s c' : Nat} (h : PlusAt xs ys zs c) (e : s + 4294967296 * c' = c + xs.getD zs.length 0 + ys.getD zs.length 0) : PlusAt xs ys (zs ++ [s]) c' := by
  unfold PlusAt at *
  rw [List.length_append, List.length_singleton, val_append, val_take_succ, val_take_succ, pw_succ]
  simp only [val, Nat.mul_zero, Nat.add_zero]
  have e2 : pw zs.length * s + 4294967296 * pw zs.length * c' = pw zs.length * (s + 4294967296 * c') := by rw [Nat.mul_add, Nat.mul_comm 4294967296 (pw zs.length), Nat.mul_assoc]
  have e3 : pw zs.length * (c + xs.getD zs.length 0 + ys.getD zs.length 0) = pw zs.length * c + pw zs.length * xs.getD zs.length 0 + pw zs.length * ys.getD zs.length 0 := by rw [Nat.mul_add, Nat.mul_add]
  rw [e, e3] at e2
  omega
theorem plusAt_top {xs ys zs : List Nat} {c m : Nat} (h : PlusAt xs ys zs c) (hx : Limbs xs) (hy : Limbs ys) (h1 : xs.length ≤ m) (h2 : ys.length ≤ m) (h3 : zs.length = m + 1) : c = 0 := by
  unfold PlusAt at h
  rw [List.take_of_length_le (by omega), List.take_of_length_le (by omega), h3] at h
  have a1 := Nat.lt_of_lt_of_le (val_lt hx) (pw_le h1)
  have a2 := Nat.lt_of_lt_of_le (val_lt hy) (pw_le h2)
  have a3 := pw_succ m
  rcases Nat.eq_zero_or_pos c with h0 | h0
  · exact h0
  · have : pw (m + 1) * 1 ≤ pw (m + 1) * c := Nat.mul_le_mul_left _ h0
    omega
theorem plusAt_done {xs ys zs : List Nat} (h : PlusAt xs ys zs 0) (h1 : xs.length ≤ zs.length) (h2 : ys.length ≤ zs.length) : val zs = val xs + val ys := by
  unfold PlusAt at h
  rw [List.take_of_length_le (by omega), List.take_of_length_le (by omega)] at h
  omega

/-- What the loop of plus keeps. -/
def PlusSt (w : World) (xs ys : List Nat) (out carry i : Value) (wr : World) : Prop :=
  ∃ (zs : List Nat) (c : Nat), carry = .int .u64 (c : Nat) ∧ c ≤ 1 ∧ i = .int .i64 (zs.length : Nat) ∧ OwnL wr w.heap.size out zs ∧ Limbs zs ∧ PlusAt xs ys zs c ∧ zs.length ≤ max xs.length ys.length + 1 ∧ Add w wr

set_option maxRecDepth 100000 in
set_option maxHeartbeats 4000000 in
theorem refPlus_any (va vb : Value) (xs ys : List Nat) (w : World) (ha : Reads w va xs) (hb : Reads w vb ys) (hs : xs.length ≤ 900000) (hs' : ys.length ≤ 900000) :
    Calls Tryz.prog 94 #[va, vb] w (RetO w (val xs + val ys)) := by
  obtain ⟨i0, hi, hz0, hz1, hz2⟩ := info_parts info93
  have hst : PlusSt w xs ys (.slice none 0 0) (.int .u64 0) (.int .i64 0) w := ⟨[], 0, rfl, by decide, rfl, OwnL.nil _ _, Limbs.nil, plusAt_zero _ _, by simp, Below.refl _ _⟩
  obtain ⟨aa, na, ca, rfl, hla, hca, hma, hxa, hra⟩ := id ha
  obtain ⟨ab, nb', cb, rfl, hlb, hcb, hmb, hxb, hrb⟩ := id hb
  have HLA := Lib.hid hla
  have HLB := Lib.hid hlb
  have HRA := Lib.hid ha
  have HRB := Lib.hid hb
  have hna : na ≤ 900000 := by omega
  have hnb : nb' ≤ 900000 := by omega
  clear hla hlb hca hcb hma hmb hra hrb ha hb hs hs'
  go_enter Tryz.func94, Tryz.ntmps94
  go_wp2_with fail
  go_loopg [5, 6, 7] (max na nb' + 2) (fun r out carry i wr => ∃ ov : Value, ov = out ∧ PlusSt w xs ys ov carry i wr ∧ ∃ k : Nat, i = .int .i64 (k : Nat) ∧ k + r = max na nb' + 2)
  case atStart => exact ⟨_, rfl, hst, 0, rfl, by omega⟩
  case round =>
    clear hst
    obtain ⟨ov, rfl, ⟨zs, c, rfl, hc, hie, hown, hzl, hat, hzb, hadd⟩, k, rfl, hkr⟩ := hrel
    have hk : zs.length = k := by have := hie; simp at this; omega
    clear hie
    rw [HLA.out, HLB.out] at hzb
    have hkb : k ≤ max na nb' + 1 := by omega
    have HK := Lib.hid hk
    have HAT := Lib.hid hat
    obtain ⟨x, hxe⟩ : ∃ x, x = xs.getD k 0 := ⟨_, rfl⟩
    obtain ⟨y, hye⟩ : ∃ y, y = ys.getD k 0 := ⟨_, rfl⟩
    have hxl : x < 4294967296 := by rw [hxe]; exact hxa.getD _
    have hyl : y < 4294967296 := by rw [hye]; exact hxb.getD _
    have HXE := Lib.hid hxe
    have HYE := Lib.hid hye
    clear hat hk hzb hxe hye
    by_cases ca : k < na
    · have da : decide (k < na) = true := decide_eq_true ca
      by_cases cb : k < nb'
      · have db : decide (k < nb') = true := decide_eq_true cb
        obtain ⟨b1, o1, rfl, hc1⟩ := (HRA.out.mono hadd).cell ca
        rw [← HXE.out] at hc1
        obtain ⟨b2, o2, rfl, hc2⟩ := (HRB.out.mono hadd).cell cb
        rw [← HYE.out] at hc2
        obtain ⟨s, hs⟩ : ∃ s, s = c + x + y := ⟨_, rfl⟩
        obtain ⟨lo, hlo⟩ : ∃ lo, lo = s % 4294967296 := ⟨_, rfl⟩
        obtain ⟨c', hc'⟩ : ∃ c', c' = s / 4294967296 := ⟨_, rfl⟩
        have hse : lo + 4294967296 * c' = c + x + y := by omega
        have HSE := Lib.hid hse
        have hc1' : c' ≤ 1 := by omega
        have hlol : lo < 4294967296 := by omega
        have e1 : ((c : Int) + (x : Int) + (y : Int)) % 4294967296 = ((lo : Nat) : Int) := by omega
        have e2 : ((c : Int) + (x : Int) + (y : Int)) / 4294967296 = ((c' : Nat) : Int) := by omega
        have hkm : k < max na nb' + 1 := by omega
        clear hse hlo hc' hs
        go_wp2_with (at_builtin; refine wpList_append_own _ rfl _ _ 35 rfl w.heap.size 93 i0 (.int .u32 0) 1 4 Tryz.underlying35 hi hz0 hz1 hz2 rfl (by decide) _ _ _ rfl (World.ownsRow.alloc hown _) ⟨wr.heap.size, 0, none⟩ 1 1 [_] rfl rfl (cell_one_new _ _ _) (by intro u hu; simp at hu; subst hu; rfl) (by have := HK.out; unfold maxLen; omega) (by have := HK.out; omega) (by have := hadd.size; simp; omega) ?_)
        intro v' w3 hown3 hgr3 _
        have hown4 : OwnL w3 w.heap.size v' (zs ++ [lo]) := OwnL.grown hown3 rfl rfl
        have hadd4 : Add w w3 := Below.grown (Below.alloc hadd hadd.size _) hgr3 (by have := hadd.size; simp; omega) (fun k hk => (World.ownsRow.lt hown k hk).1)
        have hst4 : PlusSt w xs ys v' (.int .u64 (c' : Nat)) (.int .i64 (k + 1 : Nat)) w3 := ⟨zs ++ [lo], c', rfl, hc1', by rw [List.length_append, HK.out]; rfl, hown4, hzl.append (Limbs.cons hlol Limbs.nil), plusAt_step HAT.out (by rw [HK.out, ← HXE.out, ← HYE.out]; exact HSE.out), by rw [List.length_append, HK.out, HLA.out, HLB.out]; simp; omega, hadd4⟩
        clear hown3 hgr3 hown hadd hown4 hadd4
        go_wp2_with fail
        go_roundg (gk - 1)
        case measure => omega
        case rel => exact ⟨v', rfl, hst4, k + 1, by go_num, by omega⟩
      · have db : decide (k < nb') = false := decide_eq_false cb
        obtain ⟨b1, o1, rfl, hc1⟩ := (HRA.out.mono hadd).cell ca
        rw [← HXE.out] at hc1
        have hy0 : y = 0 := by rw [HYE.out]; simp [List.getD, List.getElem?_eq_none (show ys.length ≤ k by rw [HLB.out]; omega)]
        obtain ⟨s, hs⟩ : ∃ s, s = c + x + y := ⟨_, rfl⟩
        obtain ⟨lo, hlo⟩ : ∃ lo, lo = s % 4294967296 := ⟨_, rfl⟩
        obtain ⟨c', hc'⟩ : ∃ c', c' = s / 4294967296 := ⟨_, rfl⟩
        have hse : lo + 4294967296 * c' = c + x + y := by omega
        have HSE := Lib.hid hse
        have hc1' : c' ≤ 1 := by omega
        have hlol : lo < 4294967296 := by omega
        have e1 : ((c : Int) + (x : Int)) % 4294967296 = ((lo : Nat) : Int) := by omega
        have e2 : ((c : Int) + (x : Int)) / 4294967296 = ((c' : Nat) : Int) := by omega
        have hkm : k < max na nb' + 1 := by omega
        clear hse hlo hc' hs hy0
        go_wp2_with (at_builtin; refine wpList_append_own _ rfl _ _ 35 rfl w.heap.size 93 i0 (.int .u32 0) 1 4 Tryz.underlying35 hi hz0 hz1 hz2 rfl (by decide) _ _ _ rfl (World.ownsRow.alloc hown _) ⟨wr.heap.size, 0, none⟩ 1 1 [_] rfl rfl (cell_one_new _ _ _) (by intro u hu; simp at hu; subst hu; rfl) (by have := HK.out; unfold maxLen; omega) (by have := HK.out; omega) (by have := hadd.size; simp; omega) ?_)
        intro v' w3 hown3 hgr3 _
        have hown4 : OwnL w3 w.heap.size v' (zs ++ [lo]) := OwnL.grown hown3 rfl rfl
        have hadd4 : Add w w3 := Below.grown (Below.alloc hadd hadd.size _) hgr3 (by have := hadd.size; simp; omega) (fun k hk => (World.ownsRow.lt hown k hk).1)
        have hst4 : PlusSt w xs ys v' (.int .u64 (c' : Nat)) (.int .i64 (k + 1 : Nat)) w3 := ⟨zs ++ [lo], c', rfl, hc1', by rw [List.length_append, HK.out]; rfl, hown4, hzl.append (Limbs.cons hlol Limbs.nil), plusAt_step HAT.out (by rw [HK.out, ← HXE.out, ← HYE.out]; exact HSE.out), by rw [List.length_append, HK.out, HLA.out, HLB.out]; simp; omega, hadd4⟩
        clear hown3 hgr3 hown hadd hown4 hadd4
        go_wp2_with fail
        go_roundg (gk - 1)
        case measure => omega
        case rel => exact ⟨v', rfl, hst4, k + 1, by go_num, by omega⟩
    · have da : decide (k < na) = false := decide_eq_false ca
      by_cases cb : k < nb'
      · have db : decide (k < nb') = true := decide_eq_true cb
        have hx0 : x = 0 := by rw [HXE.out]; simp [List.getD, List.getElem?_eq_none (show xs.length ≤ k by rw [HLA.out]; omega)]
        obtain ⟨b2, o2, rfl, hc2⟩ := (HRB.out.mono hadd).cell cb
        rw [← HYE.out] at hc2
        obtain ⟨s, hs⟩ : ∃ s, s = c + x + y := ⟨_, rfl⟩
        obtain ⟨lo, hlo⟩ : ∃ lo, lo = s % 4294967296 := ⟨_, rfl⟩
        obtain ⟨c', hc'⟩ : ∃ c', c' = s / 4294967296 := ⟨_, rfl⟩
        have hse : lo + 4294967296 * c' = c + x + y := by omega
        have HSE := Lib.hid hse
        have hc1' : c' ≤ 1 := by omega
        have hlol : lo < 4294967296 := by omega
        have e1 : ((c : Int) + (y : Int)) % 4294967296 = ((lo : Nat) : Int) := by omega
        have e2 : ((c : Int) + (y : Int)) / 4294967296 = ((c' : Nat) : Int) := by omega
        have hkm : k < max na nb' + 1 := by omega
        clear hse hlo hc' hs hx0
        go_wp2_with (at_builtin; refine wpList_append_own _ rfl _ _ 35 rfl w.heap.size 93 i0 (.int .u32 0) 1 4 Tryz.underlying35 hi hz0 hz1 hz2 rfl (by decide) _ _ _ rfl (World.ownsRow.alloc hown _) ⟨wr.heap.size, 0, none⟩ 1 1 [_] rfl rfl (cell_one_new _ _ _) (by intro u hu; simp at hu; subst hu; rfl) (by have := HK.out; unfold maxLen; omega) (by have := HK.out; omega) (by have := hadd.size; simp; omega) ?_)
        intro v' w3 hown3 hgr3 _
        have hown4 : OwnL w3 w.heap.size v' (zs ++ [lo]) := OwnL.grown hown3 rfl rfl
        have hadd4 : Add w w3 := Below.grown (Below.alloc hadd hadd.size _) hgr3 (by have := hadd.size; simp; omega) (fun k hk => (World.ownsRow.lt hown k hk).1)
        have hst4 : PlusSt w xs ys v' (.int .u64 (c' : Nat)) (.int .i64 (k + 1 : Nat)) w3 := ⟨zs ++ [lo], c', rfl, hc1', by rw [List.length_append, HK.out]; rfl, hown4, hzl.append (Limbs.cons hlol Limbs.nil), plusAt_step HAT.out (by rw [HK.out, ← HXE.out, ← HYE.out]; exact HSE.out), by rw [List.length_append, HK.out, HLA.out, HLB.out]; simp; omega, hadd4⟩
        clear hown3 hgr3 hown hadd hown4 hadd4
        go_wp2_with fail
        go_roundg (gk - 1)
        case measure => omega
        case rel => exact ⟨v', rfl, hst4, k + 1, by go_num, by omega⟩
      · have db : decide (k < nb') = false := decide_eq_false cb
        by_cases hc0 : c = 0
        · subst hc0
          have hv := plusAt_done HAT.out (by rw [HK.out, HLA.out]; omega) (by rw [HK.out, HLB.out]; omega)
          have hrd := hown.reads hzl
          have HT := Lib.hid (refTrim_any ov zs wr hrd (by rw [HK.out]; omega))
          rw [hv] at HT
          clear hown hv hrd hzl
          go_wp2_with fail
          refine HT.out.mono ?_
          rintro e w4 ⟨v4, rfl, h4, hadd4⟩
          have hF : RetO w (val xs + val ys) (.returned v4) w4 := ⟨v4, rfl, h4.base hadd.size, Add.trans hadd hadd4⟩
          clear h4 hadd4 hadd
          go_wp2_with fail
          go_ret
          exact hF
        · have hcp : decide ((0 : Int) < (c : Nat)) = true := by simp; omega
          have hx0 : x = 0 := by rw [HXE.out]; simp [List.getD, List.getElem?_eq_none (show xs.length ≤ k by rw [HLA.out]; omega)]
          have hy0 : y = 0 := by rw [HYE.out]; simp [List.getD, List.getElem?_eq_none (show ys.length ≤ k by rw [HLB.out]; omega)]
          obtain ⟨s, hs⟩ : ∃ s, s = c + x + y := ⟨_, rfl⟩
          obtain ⟨lo, hlo⟩ : ∃ lo, lo = s % 4294967296 := ⟨_, rfl⟩
          obtain ⟨c', hc'⟩ : ∃ c', c' = s / 4294967296 := ⟨_, rfl⟩
          have hse : lo + 4294967296 * c' = c + x + y := by omega
          have HSE := Lib.hid hse
          have hc1' : c' ≤ 1 := by omega
          have hlol : lo < 4294967296 := by omega
          have e1 : ((c : Int)) % 4294967296 = ((lo : Nat) : Int) := by omega
          have e2 : ((c : Int)) / 4294967296 = ((c' : Nat) : Int) := by omega
          have hkm : k < max na nb' + 1 := by 
            rcases Nat.lt_or_ge k (max na nb' + 1) with h | h
            · exact h
            · exact absurd (plusAt_top (m := max na nb') HAT.out hxa hxb (by rw [HLA.out]; omega) (by rw [HLB.out]; omega) (by rw [HK.out]; omega)) hc0
          have hlc : lo = c := by omega
          clear hse hlo hc' hs hx0 hy0
          go_wp2_with (at_builtin; refine wpList_append_own _ rfl _ _ 35 rfl w.heap.size 93 i0 (.int .u32 0) 1 4 Tryz.underlying35 hi hz0 hz1 hz2 rfl (by decide) _ _ _ rfl (World.ownsRow.alloc hown _) ⟨wr.heap.size, 0, none⟩ 1 1 [_] rfl rfl (cell_one_new _ _ _) (by intro u hu; simp at hu; subst hu; rfl) (by have := HK.out; unfold maxLen; omega) (by have := HK.out; omega) (by have := hadd.size; simp; omega) ?_)
          intro v' w3 hown3 hgr3 _
          have hown4 : OwnL w3 w.heap.size v' (zs ++ [lo]) := OwnL.grown hown3 (by rw [hlc]; rfl) rfl
          have hadd4 : Add w w3 := Below.grown (Below.alloc hadd hadd.size _) hgr3 (by have := hadd.size; simp; omega) (fun k hk => (World.ownsRow.lt hown k hk).1)
          have hst4 : PlusSt w xs ys v' (.int .u64 (c' : Nat)) (.int .i64 (k + 1 : Nat)) w3 := ⟨zs ++ [lo], c', rfl, hc1', by rw [List.length_append, HK.out]; rfl, hown4, hzl.append (Limbs.cons hlol Limbs.nil), plusAt_step HAT.out (by rw [HK.out, ← HXE.out, ← HYE.out]; exact HSE.out), by rw [List.length_append, HK.out, HLA.out, HLB.out]; simp; omega, hadd4⟩
          clear hown3 hgr3 hown hadd hown4 hadd4
          go_wp2_with fail
          go_roundg (gk - 1)
          case measure => omega
          case rel => exact ⟨v', rfl, hst4, k + 1, by go_num, by omega⟩
end Go.Proofs.YtbeoeackahmpbaaGreatDoor

namespace Go.Proofs.YtbeoeackahmpbaaGreatDoor
open Go.RowKit NatM

/-- k limbs of the difference are laid, c is the borrow. -/
def MinusAt (xs ys zs : List Nat) (c : Nat) : Prop := val zs + val (ys.take zs.length) = val (xs.take zs.length) + pw zs.length * c
theorem minusAt_zero (xs ys : List Nat) : MinusAt xs ys [] 0 := by simp [MinusAt, val]
theorem minusAt_step {xs ys zs : List Nat} {c s c' : Nat} (h : MinusAt xs ys zs c) (e : s + c + ys.getD zs.length 0 = xs.getD zs.length 0 + 4294967296 * c') : MinusAt xs ys (zs ++ [s]) c' := by
  unfold MinusAt at *
  rw [List.length_append, List.length_singleton, val_append, val_take_succ, val_take_succ, pw_succ]
  simp only [val, Nat.mul_zero, Nat.add_zero]
  have e2 : pw zs.length * xs.getD zs.length 0 + 4294967296 * pw zs.length * c' = pw zs.length * (xs.getD zs.length 0 + 4294967296 * c') := by rw [Nat.mul_add, Nat.mul_comm 4294967296 (pw zs.length), Nat.mul_assoc]
  have e3 : pw zs.length * (s + c + ys.getD zs.length 0) = pw zs.length * s + pw zs.length * c + pw zs.length * ys.getD zs.length 0 := by rw [Nat.mul_add, Nat.mul_add]
  rw [← e, e3] at e2
  omega
theorem minusAt_done {xs ys zs : List Nat} {c : Nat} (h : MinusAt xs ys zs c) (hx : Limbs xs) (hz : Limbs zs) (h1 : zs.length = xs.length) (hle : val ys ≤ val xs) : val zs = val xs - val ys := by
  unfold MinusAt at h
  rw [h1, List.take_of_length_le (Nat.le_refl _)] at h
  have a1 := val_lt hx
  have a2 := val_lt hz
  rw [h1] at a2
  have e : val (ys.take xs.length) = val ys := by
    rcases Nat.lt_or_ge ys.length xs.length with g | g
    · rw [List.take_of_length_le (by omega)]
    · have h2 := val_take_drop ys xs.length g
      rcases Nat.eq_zero_or_pos (val (ys.drop xs.length)) with h3 | h3
      · rw [h3, Nat.mul_zero] at h2; omega
      · have : pw xs.length * 1 ≤ pw xs.length * val (ys.drop xs.length) := Nat.mul_le_mul_left _ h3
        omega
  rw [e] at h
  rcases Nat.eq_zero_or_pos c with h0 | h0
  · subst h0; omega
  · have : pw xs.length * 1 ≤ pw xs.length * c := Nat.mul_le_mul_left _ h0
    omega

/-- What the loop of minus keeps. -/
def MinusSt (w : World) (xs ys : List Nat) (out carry i : Value) (wr : World) : Prop :=
  ∃ (zs : List Nat) (c : Nat), carry = .int .u64 (c : Nat) ∧ c ≤ 1 ∧ i = .int .i64 (zs.length : Nat) ∧ OwnL wr w.heap.size out zs ∧ Limbs zs ∧ MinusAt xs ys zs c ∧ zs.length ≤ xs.length ∧ Add w wr

set_option maxRecDepth 100000 in
set_option maxHeartbeats 4000000 in
theorem refMinus_any (va vb : Value) (xs ys : List Nat) (w : World) (ha : Reads w va xs) (hb : Reads w vb ys) (hs : xs.length ≤ 900000) (hs' : ys.length ≤ 900000) (hle : val ys ≤ val xs) :
    Calls Tryz.prog 95 #[va, vb] w (RetO w (val xs - val ys)) := by
  obtain ⟨i0, hi, hz0, hz1, hz2⟩ := info_parts info93
  have hst : MinusSt w xs ys (.slice none 0 0) (.int .u64 0) (.int .i64 0) w := ⟨[], 0, rfl, by decide, rfl, OwnL.nil _ _, Limbs.nil, minusAt_zero _ _, by simp, Below.refl _ _⟩
  obtain ⟨aa, na, ca, rfl, hla, hca, hma, hxa, hra⟩ := id ha
  obtain ⟨ab, nb', cb, rfl, hlb, hcb, hmb, hxb, hrb⟩ := id hb
  have HLA := Lib.hid hla
  have HLB := Lib.hid hlb
  have HRA := Lib.hid ha
  have HRB := Lib.hid hb
  have HLE := Lib.hid hle
  have hna : na ≤ 900000 := by omega
  have hnb : nb' ≤ 900000 := by omega
  clear hla hlb hca hcb hma hmb hra hrb ha hb hs hs' hle
  go_enter Tryz.func95, Tryz.ntmps95
  go_wp2_with fail
  go_loopg [5, 6, 7] na (fun r out carry i wr => ∃ ov : Value, ov = out ∧ MinusSt w xs ys ov carry i wr ∧ ∃ k : Nat, i = .int .i64 (k : Nat) ∧ k + r = na)
  case atStart => exact ⟨_, rfl, hst, 0, rfl, by omega⟩
  case round =>
    clear hst
    obtain ⟨ov, rfl, ⟨zs, c, rfl, hc, hie, hown, hzl, hat, hzb, hadd⟩, k, rfl, hkr⟩ := hrel
    have hk : zs.length = k := by have := hie; simp at this; omega
    clear hie
    rw [HLA.out] at hzb
    have HK := Lib.hid hk
    have HAT := Lib.hid hat
    obtain ⟨x, hxe⟩ : ∃ x, x = xs.getD k 0 := ⟨_, rfl⟩
    obtain ⟨y, hye⟩ : ∃ y, y = ys.getD k 0 := ⟨_, rfl⟩
    have hxl : x < 4294967296 := by rw [hxe]; exact hxa.getD _
    have hyl : y < 4294967296 := by rw [hye]; exact hxb.getD _
    have HXE := Lib.hid hxe
    have HYE := Lib.hid hye
    clear hat hk hzb hxe hye
    by_cases ca : k < na
    · have da : decide (k < na) = true := decide_eq_true ca
      obtain ⟨b1, o1, rfl, hc1⟩ := (HRA.out.mono hadd).cell ca
      rw [← HXE.out] at hc1
      by_cases cb : k < nb'
      · have db : decide (k < nb') = true := decide_eq_true cb
        by_cases cxy : x < c + y
        · obtain ⟨b2, o2, rfl, hc2⟩ := (HRB.out.mono hadd).cell cb
          rw [← HYE.out] at hc2
          obtain ⟨lo, hlo⟩ : ∃ lo, lo = x + 4294967296 * 1 - (c + y) := ⟨_, rfl⟩
          have hse : lo + c + y = x + 4294967296 * 1 := by omega
          have HSE := Lib.hid hse
          have hlol : lo < 4294967296 := by omega
          have e1 : (((x : Int) + 4294967296) - ((c : Int) + (y : Int))) % 4294967296 = ((lo : Nat) : Int) := by omega
          have hlt : decide ((x : Int) < ((c : Int) + (y : Int))) = true := by simp; omega
          clear hse hlo cxy
          go_wp2_with (at_builtin; refine wpList_append_own _ rfl _ _ 35 rfl w.heap.size 93 i0 (.int .u32 0) 1 4 Tryz.underlying35 hi hz0 hz1 hz2 rfl (by decide) _ _ _ rfl (World.ownsRow.alloc hown _) ⟨wr.heap.size, 0, none⟩ 1 1 [_] rfl rfl (cell_one_new _ _ _) (by intro u hu; simp at hu; subst hu; rfl) (by have := HK.out; unfold maxLen; omega) (by have := HK.out; omega) (by have := hadd.size; simp; omega) ?_)
          intro v' w3 hown3 hgr3 _
          have hown4 : OwnL w3 w.heap.size v' (zs ++ [lo]) := OwnL.grown hown3 rfl rfl
          have hadd4 : Add w w3 := Below.grown (Below.alloc hadd hadd.size _) hgr3 (by have := hadd.size; simp; omega) (fun k hk => (World.ownsRow.lt hown k hk).1)
          have hst4 : MinusSt w xs ys v' (.int .u64 (1 : Nat)) (.int .i64 (k + 1 : Nat)) w3 := ⟨zs ++ [lo], 1, rfl, by decide, by rw [List.length_append, HK.out]; rfl, hown4, hzl.append (Limbs.cons hlol Limbs.nil), minusAt_step HAT.out (by rw [HK.out, ← HXE.out, ← HYE.out]; exact HSE.out), by rw [List.length_append, HK.out, HLA.out]; simp; omega, hadd4⟩
          clear hown3 hgr3 hown hadd hown4 hadd4
          go_wp2_with fail
          go_roundg (gk - 1)
          case measure => omega
          case rel => exact ⟨v', rfl, hst4, k + 1, by go_num, by omega⟩

        · obtain ⟨b2, o2, rfl, hc2⟩ := (HRB.out.mono hadd).cell cb
          rw [← HYE.out] at hc2
          obtain ⟨lo, hlo⟩ : ∃ lo, lo = x + 4294967296 * 0 - (c + y) := ⟨_, rfl⟩
          have hse : lo + c + y = x + 4294967296 * 0 := by omega
          have HSE := Lib.hid hse
          have EQ : Hid ((x : Int) - ((c : Int) + (y : Int)) = ((lo : Nat) : Int)) := Lib.hid (by omega)
          have hlol : lo < 4294967296 := by omega
          have e1 : ((x : Int) - ((c : Int) + (y : Int))) % 4294967296 = ((lo : Nat) : Int) := by omega
          have hlt : decide ((x : Int) < ((c : Int) + (y : Int))) = false := by simp; omega
          have hge : ((c : Int) + (y : Int)) ≤ (x : Int) := by omega
          clear hse hlo cxy
          go_wp2_with (at_builtin; refine wpList_append_own _ rfl _ _ 35 rfl w.heap.size 93 i0 (.int .u32 0) 1 4 Tryz.underlying35 hi hz0 hz1 hz2 rfl (by decide) _ _ _ rfl (World.ownsRow.alloc hown _) ⟨wr.heap.size, 0, none⟩ 1 1 [_] rfl rfl (cell_one_new _ _ _) (by intro u hu; simp at hu; subst hu; rfl) (by have := HK.out; unfold maxLen; omega) (by have := HK.out; omega) (by have := hadd.size; simp; omega) ?_)
          intro v' w3 hown3 hgr3 _
          have hown4 : OwnL w3 w.heap.size v' (zs ++ [lo]) := OwnL.grown hown3 (congrArg (fun z : Int => [Value.int .u32 z]) EQ.out) rfl
          have hadd4 : Add w w3 := Below.grown (Below.alloc hadd hadd.size _) hgr3 (by have := hadd.size; simp; omega) (fun k hk => (World.ownsRow.lt hown k hk).1)
          have hst4 : MinusSt w xs ys v' (.int .u64 (0 : Nat)) (.int .i64 (k + 1 : Nat)) w3 := ⟨zs ++ [lo], 0, rfl, by decide, by rw [List.length_append, HK.out]; rfl, hown4, hzl.append (Limbs.cons hlol Limbs.nil), minusAt_step HAT.out (by rw [HK.out, ← HXE.out, ← HYE.out]; exact HSE.out), by rw [List.length_append, HK.out, HLA.out]; simp; omega, hadd4⟩
          clear hown3 hgr3 hown hadd hown4 hadd4
          go_wp2_with fail
          go_roundg (gk - 1)
          case measure => omega
          case rel => exact ⟨v', rfl, hst4, k + 1, by go_num, by omega⟩

      · have db : decide (k < nb') = false := decide_eq_false cb
        by_cases cxy : x < c
        · have hy0 : y = 0 := by rw [HYE.out]; simp [List.getD, List.getElem?_eq_none (show ys.length ≤ k by rw [HLB.out]; omega)]
          obtain ⟨lo, hlo⟩ : ∃ lo, lo = x + 4294967296 * 1 - (c + y) := ⟨_, rfl⟩
          have hse : lo + c + y = x + 4294967296 * 1 := by omega
          have HSE := Lib.hid hse
          have hlol : lo < 4294967296 := by omega
          have e1 : (((x : Int) + 4294967296) - (c : Int)) % 4294967296 = ((lo : Nat) : Int) := by omega
          have hlt : decide (x < c) = true := by simp; omega
          clear hse hlo hy0 cxy
          go_wp2_with (at_builtin; refine wpList_append_own _ rfl _ _ 35 rfl w.heap.size 93 i0 (.int .u32 0) 1 4 Tryz.underlying35 hi hz0 hz1 hz2 rfl (by decide) _ _ _ rfl (World.ownsRow.alloc hown _) ⟨wr.heap.size, 0, none⟩ 1 1 [_] rfl rfl (cell_one_new _ _ _) (by intro u hu; simp at hu; subst hu; rfl) (by have := HK.out; unfold maxLen; omega) (by have := HK.out; omega) (by have := hadd.size; simp; omega) ?_)
          intro v' w3 hown3 hgr3 _
          have hown4 : OwnL w3 w.heap.size v' (zs ++ [lo]) := OwnL.grown hown3 rfl rfl
          have hadd4 : Add w w3 := Below.grown (Below.alloc hadd hadd.size _) hgr3 (by have := hadd.size; simp; omega) (fun k hk => (World.ownsRow.lt hown k hk).1)
          have hst4 : MinusSt w xs ys v' (.int .u64 (1 : Nat)) (.int .i64 (k + 1 : Nat)) w3 := ⟨zs ++ [lo], 1, rfl, by decide, by rw [List.length_append, HK.out]; rfl, hown4, hzl.append (Limbs.cons hlol Limbs.nil), minusAt_step HAT.out (by rw [HK.out, ← HXE.out, ← HYE.out]; exact HSE.out), by rw [List.length_append, HK.out, HLA.out]; simp; omega, hadd4⟩
          clear hown3 hgr3 hown hadd hown4 hadd4
          go_wp2_with fail
          go_roundg (gk - 1)
          case measure => omega
          case rel => exact ⟨v', rfl, hst4, k + 1, by go_num, by omega⟩

        · have hy0 : y = 0 := by rw [HYE.out]; simp [List.getD, List.getElem?_eq_none (show ys.length ≤ k by rw [HLB.out]; omega)]
          obtain ⟨lo, hlo⟩ : ∃ lo, lo = x + 4294967296 * 0 - (c + y) := ⟨_, rfl⟩
          have hse : lo + c + y = x + 4294967296 * 0 := by omega
          have HSE := Lib.hid hse
          have EQ : Hid ((x : Int) - (c : Int) = ((lo : Nat) : Int)) := Lib.hid (by omega)
          have hlol : lo < 4294967296 := by omega
          have e1 : ((x : Int) - (c : Int)) % 4294967296 = ((lo : Nat) : Int) := by omega
          have hlt : decide (x < c) = false := by simp; omega
          have hge : (c : Int) ≤ (x : Int) := by omega
          clear hse hlo hy0 cxy
          go_wp2_with (at_builtin; refine wpList_append_own _ rfl _ _ 35 rfl w.heap.size 93 i0 (.int .u32 0) 1 4 Tryz.underlying35 hi hz0 hz1 hz2 rfl (by decide) _ _ _ rfl (World.ownsRow.alloc hown _) ⟨wr.heap.size, 0, none⟩ 1 1 [_] rfl rfl (cell_one_new _ _ _) (by intro u hu; simp at hu; subst hu; rfl) (by have := HK.out; unfold maxLen; omega) (by have := HK.out; omega) (by have := hadd.size; simp; omega) ?_)
          intro v' w3 hown3 hgr3 _
          have hown4 : OwnL w3 w.heap.size v' (zs ++ [lo]) := OwnL.grown hown3 (congrArg (fun z : Int => [Value.int .u32 z]) EQ.out) rfl
          have hadd4 : Add w w3 := Below.grown (Below.alloc hadd hadd.size _) hgr3 (by have := hadd.size; simp; omega) (fun k hk => (World.ownsRow.lt hown k hk).1)
          have hst4 : MinusSt w xs ys v' (.int .u64 (0 : Nat)) (.int .i64 (k + 1 : Nat)) w3 := ⟨zs ++ [lo], 0, rfl, by decide, by rw [List.length_append, HK.out]; rfl, hown4, hzl.append (Limbs.cons hlol Limbs.nil), minusAt_step HAT.out (by rw [HK.out, ← HXE.out, ← HYE.out]; exact HSE.out), by rw [List.length_append, HK.out, HLA.out]; simp; omega, hadd4⟩
          clear hown3 hgr3 hown hadd hown4 hadd4
          go_wp2_with fail
          go_roundg (gk - 1)
          case measure => omega
          case rel => exact ⟨v', rfl, hst4, k + 1, by go_num, by omega⟩

    · have da : decide (k < na) = false := decide_eq_false ca
      have hv := minusAt_done HAT.out hxa hzl (by rw [HK.out, HLA.out]; omega) HLE.out
      have hrd := hown.reads hzl
      have HT := Lib.hid (refTrim_any ov zs wr hrd (by rw [HK.out]; omega))
      rw [hv] at HT
      clear hown hv hrd hzl
      go_wp2_with fail
      refine HT.out.mono ?_
      rintro e w4 ⟨v4, rfl, h4, hadd4⟩
      have hF : RetO w (val xs - val ys) (.returned v4) w4 := ⟨v4, rfl, h4.base hadd.size, Add.trans hadd hadd4⟩
      clear h4 hadd4 hadd
      go_wp2_with fail
      go_ret
      exact hF
end Go.Proofs.YtbeoeackahmpbaaGreatDoor
