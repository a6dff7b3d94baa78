/- The law ErasureMinors: its walk, for all arguments. -/
import Derived.Test.YtmlcenocjpjcfaaE12
import Derived.Test.YtmlcenocjpjcfaaE11
import Derived.Deep.AppendLies
import Derived.Deep.RegionLaw
namespace Go.Proofs.Ytmlcenocjpjcfaa
open Go.RowKit GfM

theorem info3 : (Try.prog.info? 3).map (fun i => (i.zero, i.size, i.bytes)) = some (some (.int .i64 0), 1, 8) := by kernel_rfl
/-- The first 8 places of ones. -/
def selTo (x : Nat) : Nat → List Nat
  | 0 => []
  | i + 1 => if x / 2 ^ i % 2 = 1 ∧ (selTo x i).length < 8 then selTo x i ++ [i] else selTo x i
theorem selTo_lt (x i : Nat) : ∀ y ∈ selTo x i, y < i := by
  induction i with
  | zero => intro y h; cases h
  | succ i ih =>
    intro y h
    rw [selTo] at h; split at h
    · rcases List.mem_append.1 h with h | h
      · have := ih y h; omega
      · rw [List.mem_singleton.1 h]; omega
    · have := ih y h; omega
theorem selTo_len (x i : Nat) : (selTo x i).length ≤ 8 := by
  induction i with
  | zero => exact Nat.zero_le _
  | succ i ih =>
    rw [selTo]; split
    · rename_i h; rw [List.length_append]; simp; omega
    · exact ih
theorem selTo_nodup (x i : Nat) : (selTo x i).Nodup := by
  induction i with
  | zero => exact List.nodup_nil
  | succ i ih =>
    rw [selTo]; split
    · refine List.nodup_append.2 ⟨ih, List.pairwise_singleton _ _, fun a ha b hb e => ?_⟩
      have := selTo_lt x i a ha
      rw [List.mem_singleton.1 hb] at e; omega
    · exact ih
def lI (x : Nat) : Value := .int .i64 (x : Nat)
/-- Two lists of numbers that a call makes by appending. -/
def PairL (w : World) (base : Nat) (v : Value) (xs : List Nat) (u : Value) (ys : List Nat) : Prop :=
  w.ownsRow base 3 1 v xs.length (xs.map lI) ∧ w.ownsRow base 3 1 u ys.length (ys.map lI) ∧ (v.ownBlock = none ∨ v.ownBlock ≠ u.ownBlock)
theorem PairL.swap {w : World} {base : Nat} {v u : Value} {xs ys : List Nat} (h : PairL w base v xs u ys) : PairL w base u ys v xs := by
  refine ⟨h.2.1, h.1, ?_⟩
  rcases h.2.2 with e | e
  · cases hu : u.ownBlock with
    | none => exact .inl rfl
    | some k => right; rw [e]; simp
  · exact .inr fun e2 => e e2.symm
theorem PairL.push {wr w3 : World} {base x : Nat} {v u v' : Value} {xs ys : List Nat} {o : Obj} (h : PairL wr base v xs u ys) (hg : (wr.alloc o).grownBy w3 v.ownBlock)
    (hown : w3.ownsRow base 3 1 v' (xs.length + 1) (xs.map lI ++ [lI x])) (hat : v'.ownBlock = v.ownBlock ∨ v'.ownBlock = some (wr.heap.size + 1)) : PairL w3 base v' (xs ++ [x]) u ys := by
  refine ⟨by rw [List.length_append, List.map_append]; exact hown, (World.ownsRow.alloc h.2.1 o).kept hg ?_, ?_⟩
  · exact h.swap.2.2
  · rcases hat with e | e
    · rw [e]; exact h.2.2
    · right
      rw [e]
      intro e2
      have := (ownsRow_block h.2.1 e2.symm).2
      omega
theorem PairL.addB {wr w3 w0 : World} {base : Nat} {v u : Value} {xs ys : List Nat} {o : Obj} (h : PairL wr base v xs u ys) (h0 : Add w0 wr) (hb : w0.heap.size ≤ base) (hg : (wr.alloc o).grownBy w3 v.ownBlock) : Add w0 w3 :=
  Below.grown (h0.alloc h0.size o) hg (by have := h0.size; simp; omega) (fun q hq => by have := (ownsRow_block h.1 hq).1; omega)

/-- The matrix of the coefficients in these rows and columns. -/
def minR (r c : List Nat) (i n : Nat) : List Nat := (List.range n).map fun j => coefZ (r.getD i 0 : Nat) (c.getD j 0 : Nat)
def minM (r c : List Nat) (n k : Nat) : List (List Nat) := (List.range k).map fun i => minR r c i n
theorem length_minR (r c : List Nat) (i n : Nat) : (minR r c i n).length = n := by simp [minR]
theorem minR_succ (r c : List Nat) (i n : Nat) : minR r c i (n + 1) = minR r c i n ++ [coefZ (r.getD i 0 : Nat) (c.getD n 0 : Nat)] := by simp [minR, List.range_succ]
theorem bys_minR (r c : List Nat) (i n : Nat) : Bys (minR r c i n) := by
  unfold minR
  intro x hx
  obtain ⟨j, _, rfl⟩ := List.mem_map.1 hx
  exact coefZ_lt _ _
theorem length_minM (r c : List Nat) (n k : Nat) : (minM r c n k).length = k := by simp [minM]
theorem minM_succ (r c : List Nat) (n k : Nat) : minM r c n (k + 1) = minM r c n k ++ [minR r c k n] := by simp [minM, List.range_succ]
theorem minM_get {r c : List Nat} {n k i : Nat} (h : i < k) : (minM r c n k).getD i [] = minR r c i n := by simp [minM, List.getD, h]
theorem minM_dim (r c : List Nat) (n : Nat) : Dim n n (minM r c n n) := by
  refine ⟨length_minM .., fun i hi => by rw [minM_get hi]; exact length_minR .., fun i => ?_⟩
  by_cases hi : i < n
  · rw [minM_get hi]; exact bys_minR r c i n
  · have : (minM r c n n).getD i [] = [] := by simp [minM, List.getD, Nat.le_of_not_lt hi]
    rw [this]; exact Bys.nil
theorem cS_list (p : Nat → Nat) (v : Nat → Nat) (r n : Nat) : cS ((List.range n).map fun j => (p j, v j)) r = sumX n fun j => gm (v j) (iv (r ^^^ p j)) := by
  induction n with
  | zero => rfl
  | succ n ih =>
    rw [List.range_succ, List.map_append, cS_append, ih, sumX]
    simp [cS]
theorem getD_nodup {l : List Nat} (h : l.Nodup) {i j : Nat} (hi : i < l.length) (hj : j < l.length) (e : l.getD i 0 = l.getD j 0) : i = j :=
  Classical.byContradiction fun hne => nodup_getD h hi hj hne e
theorem min_inv {r c : List Nat} {n : Nat} (hr : r.Nodup) (hc : c.Nodup) (hrl : n ≤ r.length) (hcl : n ≤ c.length) (hr64 : ∀ x ∈ r, x < 64) (hc64 : ∀ x ∈ c, x < 64) : ∃ R, invM (minM r c n n) n = some R := by
  cases hI : invM (minM r c n n) n with
  | some R => exact ⟨R, rfl⟩
  | none =>
    exfalso
    obtain ⟨v, j, hj, hv, hvb, hz⟩ := inv_none (minM_dim r c n) hI
    have hcau : ∀ p ∈ ((List.range n).map fun j => (c.getD j 0, v j)), p.2 = 0 := by
      refine cauchy _ ((List.range n).map fun i => 128 + r.getD i 0) (by simp) ?_ ?_ ?_ ?_ ?_ ?_
      · refine nodup_map (nodup_range n) (fun x hx y hy e => ?_)
        have := List.mem_range.1 hx
        have := List.mem_range.1 hy
        exact getD_nodup hr (by omega) (by omega) (by omega)
      · rw [List.map_map]
        refine nodup_map (nodup_range n) (fun x hx y hy e => ?_)
        have := List.mem_range.1 hx
        have := List.mem_range.1 hy
        exact getD_nodup hc (by omega) (by omega) e
      · intro x hx
        obtain ⟨i, hi, rfl⟩ := List.mem_map.1 hx
        have := hr64 _ (getD_mem (d := 0) (show i < r.length by have := List.mem_range.1 hi; omega))
        omega
      · intro p hp
        obtain ⟨i, hi, rfl⟩ := List.mem_map.1 hp
        have hi := List.mem_range.1 hi
        have := hc64 _ (getD_mem (d := 0) (show i < c.length by omega))
        exact ⟨by show c.getD i 0 < 256; omega, hvb i hi⟩
      · intro p hp x hx
        obtain ⟨i, hi, rfl⟩ := List.mem_map.1 hp
        obtain ⟨i2, hi2, rfl⟩ := List.mem_map.1 hx
        have := hc64 _ (getD_mem (d := 0) (show i < c.length by have := List.mem_range.1 hi; omega))
        show c.getD i 0 ≠ _
        omega
      · intro x hx
        obtain ⟨i, hi, rfl⟩ := List.mem_map.1 hx
        have hi := List.mem_range.1 hi
        have h64 := hr64 _ (getD_mem (d := 0) (show i < r.length by omega))
        rw [cS_list]
        refine Eq.trans (sumX_congr fun q hq => ?_) (hz i hi)
        have h65 := hc64 _ (getD_mem (d := 0) (show q < c.length by omega))
        have e : ent (minM r c n n) i q = coefZ (r.getD i 0 : Nat) (c.getD q 0 : Nat) := by
          show ((minM r c n n).getD i []).getD q 0 = _
          rw [minM_get hi]; simp [minR, List.getD, hq]
        rw [e, coefZ_in h64 h65, gm_comm (iv_lt _) (hvb q hq)]
    exact hv (hcau (c.getD j 0, v j) (List.mem_map.2 ⟨j, List.mem_range.2 hj, rfl⟩))
theorem own_slice {w : World} {base e n size : Nat} {v : Value} {xs : List Value} (h : w.ownsRow base e size v n xs) : ∃ ao c, v = .slice ao n c := by
  rcases h.2 with ⟨rfl, rfl⟩ | ⟨g, cap, cur, rfl, _⟩
  · exact ⟨_, _, rfl⟩
  · exact ⟨_, _, rfl⟩
theorem sel_skip {x q : Nat} (h : ¬ (x / 2 ^ q % 2 = 1 ∧ (selTo x q).length < 8)) : selTo x (q + 1) = selTo x q := by rw [selTo, if_neg h]
theorem sel_take {x q : Nat} (h : x / 2 ^ q % 2 = 1 ∧ (selTo x q).length < 8) : selTo x (q + 1) = selTo x q ++ [q] := by rw [selTo, if_pos h]
theorem own_cell {w w' : World} {base n cap k : Nat} {a : Option Addr} {X : List Nat} (h : w.ownsRow base 3 1 (.slice a n cap) n (X.map lI)) (hb : Add w w') (hk : k < n) : ∃ b, a = some ⟨b, 0, none⟩ ∧ w'.cell? ⟨b, k, none⟩ = some (.int .i64 (X.getD k 0 : Nat)) := by
  have h' := ownsRow_add h hb
  have hl : X.length = n := by have := h.1; simpa using this
  rcases h.2 with ⟨e, h0⟩ | ⟨g, c', cur, e, _⟩
  · omega
  · cases e
    refine ⟨g, rfl, ?_⟩
    rw [h'.cellAt k (by omega)]
    have : k < X.length := by omega
    simp [List.getD, this, lI]
/-- What a call made by appending bytes reads. -/
theorem owns_reads {w : World} {base n : Nat} {v : Value} {xs : List Nat} (h : w.ownsRow base 5 1 v n (xs.map lim)) (hb : Bys xs) : ∃ ao c, v = .slice ao n c ∧ Reads w v xs ∧ (∀ b off m c', v = .slice (some ⟨b, off, none⟩) m c' → base ≤ b) := by
  rcases h.2 with ⟨rfl, rfl⟩ | ⟨g, cap, cur, rfl, hbg, hgg, hn, hm, hs, ht⟩
  · have : xs = [] := List.eq_nil_of_length_eq_zero (by have := h.1; simpa using this)
    subst this
    exact ⟨none, 0, rfl, Reads.nil w, fun b off m c' e => by cases e⟩
  · exact ⟨_, cap, rfl, Reads.own h hn hm hb, fun b off m c' e => by cases e; exact hbg⟩

set_option maxRecDepth 100000 in
set_option maxHeartbeats 4000000 in
theorem minors_any {w : World} (rows cols : Nat) (hrows : rows < 18446744073709551616) (hcols : cols < 18446744073709551616) :
    Calls Try.prog 9 #[.int .u64 (rows : Nat), .int .u64 (cols : Nat)] w (LawB w) := by
  obtain ⟨i0, hi0, hz0, hz1, hz2⟩ := info_parts info5
  obtain ⟨i1, hi1, hy0, hy1, hy2⟩ := info_parts info32
  obtain ⟨i3, hi3, hx0, hx1, hx2⟩ := info_parts info3
  go_enter Try.func9, Try.ntmps9
  go_wp2_with fail
  go_loopw [5, 6, 7] (fun a b i wr => ∃ q : Nat, q ≤ 64 ∧ i = .int .i64 (q : Nat) ∧ PairL wr w.heap.size a (selTo rows q) b (selTo cols q) ∧ Add w wr) (fun _ _ i _ => 64 - (intOf i).toNat)
  case atStart => exact ⟨0, by omega, rfl, ⟨World.ownsRow_nil _ _ _ _, World.ownsRow_nil _ _ _ _, .inl rfl⟩, Below.refl _ _⟩
  case round =>
    obtain ⟨q, hq, rfl, hp, hadd⟩ := hrel
    by_cases h0 : q = 64
    · have hge : 64 ≤ q := by omega
      obtain ⟨X, eX⟩ : ∃ X, X = selTo rows q := ⟨_, rfl⟩
      obtain ⟨Y, eY⟩ : ∃ Y, Y = selTo cols q := ⟨_, rfl⟩
      rw [← eX, ← eY] at hp
      have HX : Hid (X.Nodup ∧ (∀ x ∈ X, x < 64) ∧ Y.Nodup ∧ ∀ x ∈ Y, x < 64) := Lib.hid (by rw [eX, eY]; exact ⟨selTo_nodup _ _, fun x hx => by have := selTo_lt _ _ x hx; omega, selTo_nodup _ _, fun x hx => by have := selTo_lt _ _ x hx; omega⟩)
      have hXl : X.length ≤ 8 := by rw [eX]; exact selTo_len _ _
      have hYl : Y.length ≤ 8 := by rw [eY]; exact selTo_len _ _
      obtain ⟨ar, cr, rfl⟩ := own_slice hp.1
      obtain ⟨ac, cc, rfl⟩ := own_slice hp.2.1
      obtain ⟨n, en⟩ : ∃ n, n = min X.length Y.length := ⟨_, rfl⟩
      have hnX : n ≤ X.length := by rw [en]; exact Nat.min_le_left _ _
      have hnY : n ≤ Y.length := by rw [en]; exact Nat.min_le_right _ _
      have hmin : (if Y.length < X.length then (Y.length : Int) else (X.length : Int)) = (n : Int) := by split <;> omega
      have HP := Lib.hid hp
      have HA := Lib.hid hadd
      clear hp hadd eX eY en h0
      rename World => wm
      by_cases hn : n = 0
      · have hb : ((n : Int) == 0) = true := by simp [hn]
        clear hn
        go_wp2_with fail
        refine (awake_any _).mono ?_
        rintro e w6 ⟨rfl, hadd6⟩
        have HF : Hid (Add w w6) := Lib.hid (Add.trans HA.out hadd6)
        clear hadd6
        go_wp2_with fail
        go_ret
        exact ⟨rfl, HF.out⟩
      · have hb : ((n : Int) == 0) = false := by rw [beq_eq_false_iff_ne]; omega
        have hn0 : 0 < n := by omega
        obtain ⟨R, hR⟩ := min_inv HX.out.1 HX.out.2.2.1 hnX hnY HX.out.2.1 HX.out.2.2.2
        have HRR := Lib.hid hR
        clear hn hR
        go_wp2_with fail
        try simp only [hmin]
        clear hmin hb hge
        go_loopw [9, 10] (fun a i wr => ∃ (k : Nat) (hs : List Value), k ≤ n ∧ i = .int .i64 (k : Nat) ∧ ListR wr wm.heap.size a hs (minM X Y n k) ∧ Add wm wr) (fun _ i _ => n - (intOf i).toNat)
        case atStart => exact ⟨0, [], Nat.zero_le _, rfl, ListR.nil _ _, Below.refl _ _⟩
        case round =>
          obtain ⟨k, hs, hk, rfl, hl, hadd⟩ := hrel
          have HL := Lib.hid hl
          have HADD := Lib.hid hadd
          have HLEN : Hid (hs.length = k) := Lib.hid (by rw [hl.2.1, length_minM])
          clear hl hadd
          by_cases hkn : k = n
          · have HL2 : Hid (ListR wr wm.heap.size u9 hs (minM X Y n n)) := Lib.hid (by have := HL.out; rw [hkn] at this; exact this)
            obtain ⟨aL, cL, rfl, hrows⟩ := HL2.out.rows
            rw [length_minM] at hrows ⊢
            have CI : Hid (Calls Try.prog 25 #[.slice aL n cL] wr (fun e w' => ∃ v vs, e = .returned (.tuple #[v, .int .i64 0]) ∧ RowsB w' v vs R ∧ Add wr w')) := Lib.hid (by
              have := invert_ok hrows (length_minM ..) hn0 (by omega) (dim_all (minM_dim X Y n))
              rw [HRR.out] at this; exact this)
            have hRl : R.length = n := (inv_some (minM_dim X Y n) HRR.out).1.1
            have HW : Hid (Add w wr) := Lib.hid (Add.trans HA.out HADD.out)
            clear hrows
            subst hkn
            go_wp2_with fail
            refine CI.out.mono ?_
            rintro e w6 ⟨v6, vs6, rfl, hr6, hadd6⟩
            obtain ⟨a6, c6, rfl, -⟩ := hr6.isSlice
            rw [hRl] at hr6 ⊢
            have HW6 : Hid (Add w w6) := Lib.hid (Add.trans HW.out hadd6)
            clear hr6 hadd6 CI hRl
            go_wp2_with fail
            refine (awake_any _).mono ?_
            rintro e w7 ⟨rfl, hadd7⟩
            have HF : Hid (Add w w7) := Lib.hid (Add.trans HW6.out hadd7)
            clear hadd7
            go_wp2_with fail
            go_ret
            exact ⟨rfl, HF.out⟩
          · have hlt : k < n := by omega
            clear hkn
            rename World => wk
            go_wp2_with fail
            go_loopw [11, 12] (fun o i wx => ∃ j : Nat, j ≤ n ∧ i = .int .i64 (j : Nat) ∧ wx.ownsRow wk.heap.size 5 1 o j ((minR X Y k j).map lim) ∧ Add wk wx) (fun _ i _ => n - (intOf i).toNat)
            case atStart => exact ⟨0, Nat.zero_le _, rfl, World.ownsRow_nil _ _ _ _, Below.refl _ _⟩
            case round =>
              obtain ⟨j, hj, rfl, hrow, hg⟩ := hrel
              rename World => wx
              have HROW := Lib.hid hrow
              have HG := Lib.hid hg
              clear hrow hg
              by_cases hjn : j = n
              · have hjn := hjn.symm
                subst hjn
                obtain ⟨ao, co, rfl, hrd, hbl⟩ := owns_reads HROW.out (bys_minR X Y k n)
                have hl2 := HL.out.add HG.out
                have hav : AwayV (.slice ao n co) (minR X Y k n) u9 := by
                  intro b off n' c' e _ e2
                  have h1 := hbl b off n' c' e
                  have h2 := (ownsRow_block HL.out.1 e2.symm).2
                  omega
                have HPUSH : Hid (∀ v' w3 o, (wx.alloc o).grownBy w3 u9.ownBlock → w3.ownsRow wm.heap.size 32 1 v' (hs.length + 1) (hs ++ [.slice ao n co]) → (v'.ownBlock = u9.ownBlock ∨ v'.ownBlock = some (wx.heap.size + 1)) → ListR w3 wm.heap.size v' (hs ++ [.slice ao n co]) (minM X Y n (k + 1)) ∧ Add wm w3) := Lib.hid fun v' w3 o h1 h2 h3 => by
                  rw [minM_succ]
                  exact ⟨hl2.push hrd hav h1 h2 h3, hl2.addB (Add.trans HADD.out HG.out) (Nat.le_refl _) h1⟩
                have hownV := hl2.1
                have hsz := (Add.trans HADD.out HG.out).size
                have hgk : hs.length ≤ 8 := by rw [HLEN.out]; omega
                clear hl2 hrd hbl hav
                go_wp2_with (at_builtin; refine wpList_append_own_at _ rfl _ _ 22 rfl wm.heap.size 32 i1 (.slice none 0 0) 1 24 Try.underlying22 hi1 hy0 hy1 hy2 rfl (by decide) _ _ _ rfl (World.ownsRow.alloc hownV _) ⟨wx.heap.size, 0, none⟩ 1 1 [_] rfl rfl (Go.cell_one_new _ _ _) (by intro u hu; simp at hu; subst hu; rfl) (by unfold maxLen; omega) (by omega) (by simp; omega) ?_)
                intro v' w3 hown3 hgr3 _ hat
                have HEND := Lib.hid (HPUSH.out v' w3 _ hgr3 hown3 hat)
                clear hown3 hgr3 hownV hat
                go_wp2_with fail
                go_roundw
                case rel => exact ⟨k + 1, _, by omega, by go_num, HEND.out.1, HEND.out.2⟩
                case measure => simp [intOf]; omega
              · have hjlt : j < n := by omega
                have hAx : Add wm wx := Add.trans HADD.out HG.out
                have hcx : ∃ b, ar = some ⟨b, 0, none⟩ ∧ wx.cell? ⟨b, k, none⟩ = some (.int .i64 (X.getD k 0 : Nat)) := own_cell HP.out.1 hAx (by omega)
                have hcy : ∃ b, ac = some ⟨b, 0, none⟩ ∧ wx.cell? ⟨b, j, none⟩ = some (.int .i64 (Y.getD j 0 : Nat)) := own_cell HP.out.2.1 hAx (by omega)
                obtain ⟨bx, rfl, hcx⟩ := hcx
                obtain ⟨b2, rfl, hcy⟩ := hcy
                obtain ⟨x, ex⟩ : ∃ x, x = X.getD k 0 := ⟨_, rfl⟩
                obtain ⟨y, ey⟩ : ∃ y, y = Y.getD j 0 := ⟨_, rfl⟩
                rw [← ex] at hcx
                rw [← ey] at hcy
                obtain ⟨c, ec⟩ : ∃ c, c = coefZ (x : Nat) (y : Nat) := ⟨_, rfl⟩
                have C1 : Hid (∀ w, Calls Try.prog 16 #[.int .i64 (x : Nat), .int .i64 (y : Nat)] w (RetB w c)) := Lib.hid fun w => by rw [ec]; exact coef_any _ _ w
                have HNEXT : Hid ((minR X Y k j).map lim ++ [lim c] = (minR X Y k (j + 1)).map lim) := Lib.hid (by rw [minR_succ, List.map_append, ← ex, ← ey, ← ec]; rfl)
                have hlx : k < X.length := by omega
                have hly : j < Y.length := by omega
                have HOWN : Hid (∀ w', Add wx w' → w'.ownsRow wk.heap.size 5 1 u11 j ((minR X Y k j).map lim)) := Lib.hid fun w' g => ownsRow_add HROW.out g
                have HB : Hid (∀ q, u11.ownBlock = some q → wk.heap.size ≤ q) := Lib.hid fun q hq => (ownsRow_block HROW.out hq).1
                have hszx := HG.out.size
                have HE : Hid (∀ g cap w0 w3, Add wx w0 → w3.ownsRow wk.heap.size 5 1 (.slice (some ⟨g, 0, none⟩) (j + 1) cap) (j + 1) ((minR X Y k j).map lim ++ [lim c]) → w0.grownBy w3 u11.ownBlock → w3.ownsRow wk.heap.size 5 1 (.slice (some ⟨g, 0, none⟩) (j + 1) cap) (j + 1) ((minR X Y k (j + 1)).map lim) ∧ Add wk w3) := Lib.hid fun g cap w0 w3 h1 h2 h3 => ⟨by rw [← HNEXT.out]; exact h2, Below.grown (Add.trans HG.out h1) h3 (by have := h1.size; omega) (fun q hq => HB.out q hq)⟩
                clear ex ey ec hjn hAx
                go_wp2_with fail
                go_region_law (first
                  | (refine step_append_lies _ rfl _ _ 32 rfl wk.heap.size 5 i0 (.int .u8 0) 1 1 Try.underlying32 hi0 hz0 hz1 hz2 rfl (by decide) u11 j ((minR X Y k j).map lim) rfl (HOWN.out _ (by first | exact Below.drew ((Below.refl _ _).alloc (Nat.le_refl _) _) | exact (Below.drew (Below.refl _ _)).alloc (Nat.le_refl _) _)) ⟨wx.heap.size, 0, none⟩ 1 1 [lim c] (by simp [Act.eval]) rfl (fun j' u hj => Go.cell_one_new wx (lim c) 5 j' u hj) (by intro u hu; simp at hu; subst hu; rfl) (by omega) (by unfold maxLen; omega) (by omega) (by simp; omega) _ rfl ?_; intro gc cc3 wc hownc hgrc hatc hltc)
                  | (go_simp; go_at_call 16; refine (C1.out _).mono ?_; rintro e w' ⟨rfl, rfl⟩))
                all_goals
                  have HEND := Lib.hid (HE.out gc cc3 _ wc (by first | exact Below.drew ((Below.refl _ _).alloc (Nat.le_refl _) _) | exact (Below.drew (Below.refl _ _)).alloc (Nat.le_refl _) _) hownc hgrc)
                  clear hownc hgrc hatc hltc
                  go_wp2_with fail
                  go_roundw
                  case rel => exact ⟨j + 1, by omega, by go_num, HEND.out.1, HEND.out.2⟩
                  case measure => simp [intOf]; omega
    · have hlt : q < 64 := by omega
      obtain ⟨x, ex⟩ : ∃ x, x = rows / 2 ^ q := ⟨_, rfl⟩
      obtain ⟨y, ey⟩ : ∃ y, y = cols / 2 ^ q := ⟨_, rfl⟩
      have hxi : (rows : Int) / 2 ^ q = (x : Int) := by rw [ex]; simp
      have hyi : (cols : Int) / 2 ^ q = (y : Int) := by rw [ey]; simp
      have hx64 : x < 18446744073709551616 := by rw [ex]; exact Nat.lt_of_le_of_lt (Nat.div_le_self _ _) hrows
      have hy64 : y < 18446744073709551616 := by rw [ey]; exact Nat.lt_of_le_of_lt (Nat.div_le_self _ _) hcols
      have handx := u64_and_nat x 1 hx64 (by decide)
      rw [show ((1 : Nat) : Int) = 1 from rfl, Nat.and_one_is_mod] at handx
      have handy := u64_and_nat y 1 hy64 (by decide)
      rw [show ((1 : Nat) : Int) = 1 from rfl, Nat.and_one_is_mod] at handy
      have SR1 : Hid (¬ (x % 2 = 1 ∧ (selTo rows q).length < 8) → selTo rows (q + 1) = selTo rows q) := Lib.hid fun h => sel_skip (by rw [← ex]; exact h)
      have SR2 : Hid (x % 2 = 1 ∧ (selTo rows q).length < 8 → selTo rows (q + 1) = selTo rows q ++ [q]) := Lib.hid fun h => sel_take (by rw [← ex]; exact h)
      have SC1 : Hid (¬ (y % 2 = 1 ∧ (selTo cols q).length < 8) → selTo cols (q + 1) = selTo cols q) := Lib.hid fun h => sel_skip (by rw [← ey]; exact h)
      have SC2 : Hid (y % 2 = 1 ∧ (selTo cols q).length < 8 → selTo cols (q + 1) = selTo cols q ++ [q]) := Lib.hid fun h => sel_take (by rw [← ey]; exact h)
      obtain ⟨X, eX⟩ : ∃ X, X = selTo rows q := ⟨_, rfl⟩
      obtain ⟨Y, eY⟩ : ∃ Y, Y = selTo cols q := ⟨_, rfl⟩
      have hXl : X.length ≤ 8 := by rw [eX]; exact selTo_len _ _
      have hYl : Y.length ≤ 8 := by rw [eY]; exact selTo_len _ _
      rw [← eX] at hp SR1 SR2
      rw [← eY] at hp SC1 SC2
      obtain ⟨ar, cr, rfl⟩ := own_slice hp.1
      obtain ⟨ac, cc, rfl⟩ := own_slice hp.2.1
      have HP := Lib.hid hp
      have HA := Lib.hid hadd
      have hsz := hadd.size
      clear hp hadd ex ey h0 eX eY hx64 hy64
      rcases Nat.mod_two_eq_zero_or_one x with h1 | h1
      · rw [h1] at handx
        have e1 := SR1.out (by rw [h1]; omega)
        clear h1
        rcases Nat.mod_two_eq_zero_or_one y with h2 | h2
        · rw [h2] at handy
          have e2 := SC1.out (by rw [h2]; omega)
          have HN : Hid (PairL wr w.heap.size (.slice ar X.length cr) (selTo rows (q + 1)) (.slice ac Y.length cc) (selTo cols (q + 1)) ∧ Add w wr) := Lib.hid ⟨by rw [e1, e2]; exact HP.out, HA.out⟩
          clear h2 e1 e2
          go_wp2_with fail
          go_roundw
          case rel => exact ⟨q + 1, by omega, by go_num, HN.out.1, HN.out.2⟩
          case measure => simp [intOf]; omega
        · rw [h2] at handy
          by_cases hyl : Y.length < 8
          · have d2 : decide ((Y.length : Int) < 8) = true := decide_eq_true (by omega)
            have e2 := SC2.out ⟨h2, hyl⟩
            have hownC := HP.out.2.1
            have hszc := HA.out.size
            clear h2
            go_wp2_with (at_builtin; refine wpList_append_own_at _ rfl _ _ 48 rfl w.heap.size 3 i3 (.int .i64 0) 1 8 Try.underlying48 hi3 hx0 hx1 hx2 rfl (by decide) _ _ _ rfl (World.ownsRow.alloc hownC _) ⟨wr.heap.size, 0, none⟩ 1 1 [lI q] rfl rfl (Go.cell_one_new _ _ _) (by intro u hu; simp at hu; subst hu; rfl) (by unfold maxLen; omega) (by omega) (by simp; omega) ?_)
            intro v2 w5 hown5 hgr5 _ hat5
            have HN : Hid (PairL w5 w.heap.size (.slice ar X.length cr) (selTo rows (q + 1)) v2 (selTo cols (q + 1)) ∧ Add w w5) := Lib.hid ⟨by rw [e1, e2]; exact (HP.out.swap.push hgr5 hown5 hat5).swap, HP.out.swap.addB HA.out (Nat.le_refl _) hgr5⟩
            clear hown5 hgr5 hat5 hownC e1 e2 hyl
            go_wp2_with fail
            go_roundw
            case rel => exact ⟨q + 1, by omega, by go_num, HN.out.1, HN.out.2⟩
            case measure => simp [intOf]; omega
          · have d2 : decide ((Y.length : Int) < 8) = false := decide_eq_false (by omega)
            have e2 := SC1.out (by omega)
            have HN : Hid (PairL wr w.heap.size (.slice ar X.length cr) (selTo rows (q + 1)) (.slice ac Y.length cc) (selTo cols (q + 1)) ∧ Add w wr) := Lib.hid ⟨by rw [e1, e2]; exact HP.out, HA.out⟩
            clear h2 e1 e2 hyl
            go_wp2_with fail
            go_roundw
            case rel => exact ⟨q + 1, by omega, by go_num, HN.out.1, HN.out.2⟩
            case measure => simp [intOf]; omega
      · rw [h1] at handx
        by_cases hxl : X.length < 8
        · have d1 : decide ((X.length : Int) < 8) = true := decide_eq_true (by omega)
          have e1 := SR2.out ⟨h1, hxl⟩
          have hownR := HP.out.1
          clear h1
          go_wp2_with (at_builtin; refine wpList_append_own_at _ rfl _ _ 48 rfl w.heap.size 3 i3 (.int .i64 0) 1 8 Try.underlying48 hi3 hx0 hx1 hx2 rfl (by decide) _ _ _ rfl (World.ownsRow.alloc hownR _) ⟨wr.heap.size, 0, none⟩ 1 1 [lI q] rfl rfl (Go.cell_one_new _ _ _) (by intro u hu; simp at hu; subst hu; rfl) (by unfold maxLen; omega) (by omega) (by simp; omega) ?_)
          intro v1 w4 hown4 hgr4 _ hat4
          have HP4 : Hid (PairL w4 w.heap.size v1 (X ++ [q]) (.slice ac Y.length cc) Y) := Lib.hid (HP.out.push hgr4 hown4 hat4)
          have HA4 : Hid (Add w w4) := Lib.hid (HP.out.addB HA.out (Nat.le_refl _) hgr4)
          clear hown4 hgr4 hat4 hownR hxl
          rcases Nat.mod_two_eq_zero_or_one y with h2 | h2
          · rw [h2] at handy
            have e2 := SC1.out (by rw [h2]; omega)
            have HN : Hid (PairL w4 w.heap.size v1 (selTo rows (q + 1)) (.slice ac Y.length cc) (selTo cols (q + 1)) ∧ Add w w4) := Lib.hid ⟨by rw [e1, e2]; exact HP4.out, HA4.out⟩
            clear h2 e1 e2
            go_wp2_with fail
            go_roundw
            case rel => exact ⟨q + 1, by omega, by go_num, HN.out.1, HN.out.2⟩
            case measure => simp [intOf]; omega
          · rw [h2] at handy
            by_cases hyl : Y.length < 8
            · have d2 : decide ((Y.length : Int) < 8) = true := decide_eq_true (by omega)
              have e2 := SC2.out ⟨h2, hyl⟩
              have hownC := HP4.out.2.1
              have hszc := HA4.out.size
              clear h2
              go_wp2_with (at_builtin; refine wpList_append_own_at _ rfl _ _ 48 rfl w.heap.size 3 i3 (.int .i64 0) 1 8 Try.underlying48 hi3 hx0 hx1 hx2 rfl (by decide) _ _ _ rfl (World.ownsRow.alloc hownC _) ⟨w4.heap.size, 0, none⟩ 1 1 [lI q] rfl rfl (Go.cell_one_new _ _ _) (by intro u hu; simp at hu; subst hu; rfl) (by unfold maxLen; omega) (by omega) (by simp; omega) ?_)
              intro v2 w5 hown5 hgr5 _ hat5
              have HN : Hid (PairL w5 w.heap.size v1 (selTo rows (q + 1)) v2 (selTo cols (q + 1)) ∧ Add w w5) := Lib.hid ⟨by rw [e1, e2]; exact (HP4.out.swap.push hgr5 hown5 hat5).swap, HP4.out.swap.addB HA4.out (Nat.le_refl _) hgr5⟩
              clear hown5 hgr5 hat5 hownC e1 e2 hyl
              go_wp2_with fail
              go_roundw
              case rel => exact ⟨q + 1, by omega, by go_num, HN.out.1, HN.out.2⟩
              case measure => simp [intOf]; omega
            · have d2 : decide ((Y.length : Int) < 8) = false := decide_eq_false (by omega)
              have e2 := SC1.out (by omega)
              have HN : Hid (PairL w4 w.heap.size v1 (selTo rows (q + 1)) (.slice ac Y.length cc) (selTo cols (q + 1)) ∧ Add w w4) := Lib.hid ⟨by rw [e1, e2]; exact HP4.out, HA4.out⟩
              clear h2 e1 e2 hyl
              go_wp2_with fail
              go_roundw
              case rel => exact ⟨q + 1, by omega, by go_num, HN.out.1, HN.out.2⟩
              case measure => simp [intOf]; omega
        · have d1 : decide ((X.length : Int) < 8) = false := decide_eq_false (by omega)
          have e1 := SR1.out (by omega)
          clear h1 hxl
          rcases Nat.mod_two_eq_zero_or_one y with h2 | h2
          · rw [h2] at handy
            have e2 := SC1.out (by rw [h2]; omega)
            have HN : Hid (PairL wr w.heap.size (.slice ar X.length cr) (selTo rows (q + 1)) (.slice ac Y.length cc) (selTo cols (q + 1)) ∧ Add w wr) := Lib.hid ⟨by rw [e1, e2]; exact HP.out, HA.out⟩
            clear h2 e1 e2
            go_wp2_with fail
            go_roundw
            case rel => exact ⟨q + 1, by omega, by go_num, HN.out.1, HN.out.2⟩
            case measure => simp [intOf]; omega
          · rw [h2] at handy
            by_cases hyl : Y.length < 8
            · have d2 : decide ((Y.length : Int) < 8) = true := decide_eq_true (by omega)
              have e2 := SC2.out ⟨h2, hyl⟩
              have hownC := HP.out.2.1
              have hszc := HA.out.size
              clear h2
              go_wp2_with (at_builtin; refine wpList_append_own_at _ rfl _ _ 48 rfl w.heap.size 3 i3 (.int .i64 0) 1 8 Try.underlying48 hi3 hx0 hx1 hx2 rfl (by decide) _ _ _ rfl (World.ownsRow.alloc hownC _) ⟨wr.heap.size, 0, none⟩ 1 1 [lI q] rfl rfl (Go.cell_one_new _ _ _) (by intro u hu; simp at hu; subst hu; rfl) (by unfold maxLen; omega) (by omega) (by simp; omega) ?_)
              intro v2 w5 hown5 hgr5 _ hat5
              have HN : Hid (PairL w5 w.heap.size (.slice ar X.length cr) (selTo rows (q + 1)) v2 (selTo cols (q + 1)) ∧ Add w w5) := Lib.hid ⟨by rw [e1, e2]; exact (HP.out.swap.push hgr5 hown5 hat5).swap, HP.out.swap.addB HA.out (Nat.le_refl _) hgr5⟩
              clear hown5 hgr5 hat5 hownC e1 e2 hyl
              go_wp2_with fail
              go_roundw
              case rel => exact ⟨q + 1, by omega, by go_num, HN.out.1, HN.out.2⟩
              case measure => simp [intOf]; omega
            · have d2 : decide ((Y.length : Int) < 8) = false := decide_eq_false (by omega)
              have e2 := SC1.out (by omega)
              have HN : Hid (PairL wr w.heap.size (.slice ar X.length cr) (selTo rows (q + 1)) (.slice ac Y.length cc) (selTo cols (q + 1)) ∧ Add w wr) := Lib.hid ⟨by rw [e1, e2]; exact HP.out, HA.out⟩
              clear h2 e1 e2 hyl
              go_wp2_with fail
              go_roundw
              case rel => exact ⟨q + 1, by omega, by go_num, HN.out.1, HN.out.2⟩
              case measure => simp [intOf]; omega
theorem u64_of {z : Int} (h : (Lit.int .u64 z).wf = true) : ∃ n : Nat, n < 18446744073709551616 ∧ z = (n : Nat) := by
  have h1 : IntKind.u64.min = 0 := rfl
  have h2 : IntKind.u64.max = 18446744073709551615 := rfl
  simp only [Lit.wf, Bool.and_eq_true, decide_eq_true_eq] at h
  exact ⟨z.toNat, by omega, by omega⟩
end Go.Proofs.Ytmlcenocjpjcfaa
