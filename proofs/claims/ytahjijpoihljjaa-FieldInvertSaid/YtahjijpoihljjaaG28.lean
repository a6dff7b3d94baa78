/- The law FieldInvert: its walk, for all arguments. -/
import Derived.Test.YtahjijpoihljjaaG27
import Derived.Test.YtahjijpoihljjaaG25
namespace Go.Proofs.Ytahjijpoihljjaa
open Go.RowKit GfM

set_option maxRecDepth 100000 in
set_option maxHeartbeats 2000000 in
/-- What the reference refuses. -/
theorem refInvert_bad {w : World} {v : Value} {vs : List Value} {rs : List (List Nat)} (h : RowsB w v vs rs) (hok : sqOk rs = false) :
    Calls Try.prog 27 #[v] w (InvE w) := by
  obtain ⟨ao, cr, rfl, hm⟩ := h.isSlice
  unfold maxLen at hm
  obtain ⟨n, en⟩ : ∃ n, n = rs.length := ⟨_, rfl⟩
  rw [← en] at h hm ⊢
  by_cases h0 : n < 1
  · clear h hok en
    go_enter Try.func27, Try.ntmps27
    go_wp2_with fail
    go_ret2
    exact ⟨rfl, Below.refl _ _⟩
  · by_cases h32 : 32 < n
    · clear h hok en
      go_enter Try.func27, Try.ntmps27
      go_wp2_with fail
      go_ret2
      exact ⟨rfl, Below.refl _ _⟩
    · obtain ⟨i0, hi, hz0, hz1, hz2⟩ := info_parts info5
      obtain ⟨i1, hi1, hy0, hy1, hy2⟩ := info_parts info34
      have hal : allLen n rs = false := by
        unfold sqOk at hok
        rw [← en] at hok
        have h00 : ¬ n = 0 := by omega
        simpa [h00, h32] using hok
      have h1 : 0 < n := by omega
      have h33 : n ≤ 32 := by omega
      have HR := Lib.hid h
      have HAL := Lib.hid hal
      have EN := Lib.hid en
      have hd1 : decide (n < 1) = false := decide_eq_false (by omega)
      have hd32 : decide (32 < n) = false := decide_eq_false (by omega)
      clear h hok hal en h0 h32
      go_enter Try.func27, Try.ntmps27
      go_wp2_with fail
      go_loopw [5, 6] (fun t i wr => ∃ k : Nat, k ≤ n ∧ i = .int .i64 (k : Nat) ∧ (∃ hs, wr.ownsRow w.heap.size 34 1 t k hs) ∧ allLen n (rs.take k) = true ∧ Add w wr) (fun _ i _ => n - (intOf i).toNat)
      case atStart => exact ⟨0, Nat.zero_le _, rfl, ⟨[], World.ownsRow_nil _ _ _ _⟩, rfl, Below.refl _ _⟩
      case round =>
        obtain ⟨k, hk, rfl, ⟨hs, hown⟩, hal, hadd⟩ := hrel
        by_cases hkn : k = n
        · exfalso
          rw [hkn, EN.out, List.take_length, ← EN.out, HAL.out] at hal
          cases hal
        · rename World => wk
          have hlt : k < n := by omega
          obtain ⟨b, off, a, l, c, rfl, -, el, hl, hcell, hrd⟩ := (HR.out.mono hadd).row hlt
          have HADD := Lib.hid hadd
          have HOWN := Lib.hid hown
          have HALK := Lib.hid hal
          have HL := Lib.hid el
          clear hadd hown hal el hkn
          by_cases hln : l = n
          · have HLN := Lib.hid hln
            have hln := hln.symm
            subst hln
            obtain ⟨b', off', rfl, -⟩ := hrd.cell h1
            obtain ⟨xs, exs⟩ : ∃ xs, xs = rs.getD k [] := ⟨_, rfl⟩
            rw [← exs] at hrd
            have hxl : xs.length = n := by rw [exs]; exact HL.out.symm
            have HCELLS := Lib.hid (cells_of_reads hrd)
            have HXL := Lib.hid hxl
            clear hrd exs hxl
            go_wp2_with (at_builtin; refine wpList_append_own _ rfl _ _ 34 rfl wk.heap.size 5 i0 (.int .u8 0) 1 1 Try.underlying34 hi hz0 hz1 hz2 rfl (by decide) (.slice none 0 0) 0 [] rfl (World.ownsRow_nil _ _ _ _) ⟨b', off', none⟩ n c (xs.map lim) rfl (by rw [List.length_map, HXL.out, Nat.mul_one]) HCELLS.out (lim_one xs) (by unfold maxLen; omega) (by omega) (Nat.le_refl _) ?_)
            intro v1 w1 hown1 hgr1 _
            have HV1 : Hid (∃ ys, w1.ownsRow wk.heap.size 5 1 v1 (n + 0) ys) := Lib.hid ⟨_, hown1⟩
            have HAD1 : Hid (Add wk w1) := Lib.hid ((Below.refl _ _).grown hgr1 (Nat.le_refl _) (fun q hq => by cases hq))
            clear hown1 hgr1
            go_wp2_with fail
            go_loopw [7, 8] (fun r i wr => ∃ j : Nat, j ≤ n ∧ i = .int .i64 (j : Nat) ∧ (∃ ys, wr.ownsRow wk.heap.size 5 1 r (n + j) ys) ∧ Add wk wr) (fun _ i _ => n - (intOf i).toNat)
            case atStart => exact ⟨0, Nat.zero_le _, rfl, HV1.out, HAD1.out⟩
            case round =>
              obtain ⟨j, hj, rfl, ⟨ys, hrow⟩, hadj⟩ := hrel
              have HADJ := Lib.hid hadj
              have hsz := hadj.size
              by_cases hjn : j = n
              · have hownV := below_own HOWN.out hadj
                have hsz2 := HADD.out.size
                have HADD2 := Lib.hid (Add.trans HADD.out hadj)
                have hone : u7.oneCell' = true := by
                  rcases hrow.2 with ⟨rfl, _⟩ | ⟨g', cap', cur, rfl, _⟩ <;> rfl
                have HONE := Lib.hid hone
                obtain ⟨ao7, n7, c7, e7⟩ : ∃ ao n7 c, u7 = .slice ao n7 c := by
                  rcases hrow.2 with ⟨rfl, _⟩ | ⟨g', cap', cur, rfl, _⟩ <;> exact ⟨_, _, _, rfl⟩
                subst e7
                have hjn := hjn.symm
                clear hrow hadj
                subst hjn
                go_wp2_with (at_builtin; refine wpList_append_own _ rfl _ _ 35 rfl w.heap.size 34 i1 (.slice none 0 0) 1 24 Try.underlying35 hi1 hy0 hy1 hy2 rfl (by decide) _ _ _ rfl (World.ownsRow.alloc hownV _) ⟨wr.heap.size, 0, none⟩ 1 1 [_] rfl rfl (Go.cell_one_new _ _ _) (by intro u hu; simp at hu; subst hu; rfl) (by unfold maxLen; omega) (by omega) (by simp; omega) ?_)
                intro v' w3 hown3 hgr3 _
                have HEND : Hid ((∃ hs, w3.ownsRow w.heap.size 34 1 v' (k + 1) hs) ∧ Add w w3) := Lib.hid ⟨⟨_, hown3⟩, Below.grown (HADD2.out.alloc HADD2.out.size _) hgr3 (by have := HADD2.out.size; simp; omega) (fun q hq => (own_baseE hownV hq).1)⟩
                clear hown3 hgr3 hownV
                go_wp2_with fail
                go_roundw
                case rel => exact ⟨k + 1, by omega, by go_num, HEND.out.1, allLen_take (by rw [← EN.out]; exact hlt) HALK.out HL.out.symm, HEND.out.2⟩
                case measure => simp [intOf]; omega
              · have hjlt : j < n := by omega
                have hownV := hrow
                clear hrow hadj hjn
                by_cases hkj : k = j
                · have hb : ((k : Int) == (j : Int)) = true := by simp [hkj]
                  clear hkj
                  go_wp2_with (at_builtin; refine wpList_append_own _ rfl _ _ 34 rfl wk.heap.size 5 i0 (.int .u8 0) 1 1 Try.underlying34 hi hz0 hz1 hz2 rfl (by decide) _ _ _ rfl (World.ownsRow.alloc hownV _) ⟨wr.heap.size, 0, none⟩ 1 1 [_] rfl rfl (Go.cell_one_new _ _ _) (by intro u hu; simp at hu; subst hu; rfl) (by unfold maxLen; omega) (by omega) (by simp; omega) ?_)
                  intro v' w3 hown3 hgr3 _
                  have HEND : Hid ((∃ xs, w3.ownsRow wk.heap.size 5 1 v' (n + (j + 1)) xs) ∧ Add wk w3) := Lib.hid ⟨⟨_, hown3⟩, Below.grown (HADJ.out.alloc HADJ.out.size _) hgr3 (by have := HADJ.out.size; simp; omega) (fun q hq => (own_baseE hownV hq).1)⟩
                  clear hown3 hgr3 hownV
                  go_wp2_with fail
                  go_roundw
                  case rel => exact ⟨j + 1, by omega, by go_num, HEND.out.1, HEND.out.2⟩
                  case measure => simp [intOf]; omega
                · have hb : ((k : Int) == (j : Int)) = false := by rw [beq_eq_false_iff_ne]; omega
                  clear hkj
                  go_wp2_with (at_builtin; refine wpList_append_own _ rfl _ _ 34 rfl wk.heap.size 5 i0 (.int .u8 0) 1 1 Try.underlying34 hi hz0 hz1 hz2 rfl (by decide) _ _ _ rfl (World.ownsRow.alloc hownV _) ⟨wr.heap.size, 0, none⟩ 1 1 [_] rfl rfl (Go.cell_one_new _ _ _) (by intro u hu; simp at hu; subst hu; rfl) (by unfold maxLen; omega) (by omega) (by simp; omega) ?_)
                  intro v' w3 hown3 hgr3 _
                  have HEND : Hid ((∃ xs, w3.ownsRow wk.heap.size 5 1 v' (n + (j + 1)) xs) ∧ Add wk w3) := Lib.hid ⟨⟨_, hown3⟩, Below.grown (HADJ.out.alloc HADJ.out.size _) hgr3 (by have := HADJ.out.size; simp; omega) (fun q hq => (own_baseE hownV hq).1)⟩
                  clear hown3 hgr3 hownV
                  go_wp2_with fail
                  go_roundw
                  case rel => exact ⟨j + 1, by omega, by go_num, HEND.out.1, HEND.out.2⟩
                  case measure => simp [intOf]; omega
          · have hne : ((l : Int) != (n : Int)) = true := by simp only [bne_iff_ne, ne_eq]; omega
            clear hln hrd
            go_wp2_with fail
            go_ret2
            exact ⟨rfl, HADD.out⟩

theorem fieldInvert_long {w : World} {v : Value} {vs : List Value} {rs : List (List Nat)} (h : RowsB w v vs rs) (hr : Reach rs) (hl : longR rs = true) :
    Calls Try.prog 7 #[v] w (LawB w) := by
  have CL : Hid (Calls Try.prog 23 #[v] w (RetBo w true)) := Lib.hid (by have := longR_any h hr; rw [hl] at this; exact this)
  clear h hr hl
  go_enter Try.func7, Try.ntmps7
  go_wp2_with first | (go_at_call 23; (with_reducible refine CL.out.mono ?_); rintro e w' ⟨rfl, rfl⟩) | (go_at_call 22; refine (awake_any _).mono ?_; rintro e w' ⟨rfl, rfl⟩)
  go_ret
  exact ⟨rfl, Below.refl _ _⟩
theorem sameNil (w : World) : Calls Try.prog 28 #[.slice none 0 0, .slice none 0 0] w (QT w) :=
  sameRows_any (vs := []) (vs2 := []) (rs := []) ⟨none, 0, 0, rfl, rfl, rfl, Nat.le_refl _, by unfold maxLen; omega, fun h => by omega, fun i hi => by omega⟩ ⟨none, 0, 0, rfl, rfl, rfl, Nat.le_refl _, by unfold maxLen; omega, fun h => by omega, fun i hi => by omega⟩ (fun k hk => by simp at hk)
set_option maxRecDepth 100000 in
theorem fieldInvert_err {w : World} {v : Value} (er : Int) (CL : Hid (Calls Try.prog 23 #[v] w (RetBo w false)))
    (C1 : Hid (Calls Try.prog 26 #[v] w (fun e w' => e = .returned (.tuple #[.slice none 0 0, .int .i64 er]) ∧ Add w w')))
    (C2 : Hid (∀ w', Add w w' → Calls Try.prog 27 #[v] w' (fun e w2 => e = .returned (.tuple #[.slice none 0 0, .int .i64 er]) ∧ Add w' w2))) :
    Calls Try.prog 7 #[v] w (LawB w) := by
  go_enter Try.func7, Try.ntmps7
  go_wp2_with (go_at_call 23; (with_reducible refine CL.out.mono ?_); rintro e w' ⟨rfl, rfl⟩)
  refine C1.out.mono ?_
  rintro e w1 ⟨rfl, k1⟩
  go_wp2_with fail
  refine (C2.out _ k1).mono ?_
  rintro e w2 ⟨rfl, k2⟩
  have K := Lib.hid (Add.trans k1 k2)
  clear k1 k2
  go_wp2_with first | (go_at_call 28; refine (sameNil _).mono ?_; rintro e w' ⟨rfl, q, rfl⟩) | (go_at_call 22; refine (awake_any _).mono ?_; rintro e w' ⟨rfl, rfl⟩)
  go_ret
  exact ⟨rfl, below_drewN K.out _⟩
set_option maxRecDepth 100000 in
theorem fieldInvert_some {w : World} {v : Value} {R : List (List Nat)} (hp : ∀ k, k < R.length → 0 < (R.getD k []).length) (CL : Hid (Calls Try.prog 23 #[v] w (RetBo w false)))
    (C1 : Hid (Calls Try.prog 26 #[v] w (fun e w' => ∃ v2 vs, e = .returned (.tuple #[v2, .int .i64 0]) ∧ RowsB w' v2 vs R ∧ Add w w')))
    (C2 : Hid (∀ w', Add w w' → Calls Try.prog 27 #[v] w' (fun e w2 => ∃ v2 vs, e = .returned (.tuple #[v2, .int .i64 0]) ∧ RowsB w2 v2 vs R ∧ Add w' w2))) :
    Calls Try.prog 7 #[v] w (LawB w) := by
  have HP := Lib.hid hp
  clear hp
  go_enter Try.func7, Try.ntmps7
  go_wp2_with (go_at_call 23; (with_reducible refine CL.out.mono ?_); rintro e w' ⟨rfl, rfl⟩)
  refine C1.out.mono ?_
  rintro e w1 ⟨x, vsx, rfl, hx, k1⟩
  have HX := Lib.hid hx
  obtain ⟨aox, cx, rfl, -⟩ := hx.isSlice
  clear hx
  go_wp2_with fail
  refine (C2.out _ k1).mono ?_
  rintro e w2 ⟨y, vsy, rfl, hy, k2⟩
  have CS := Lib.hid (sameRows_any (HX.out.mono k2) hy HP.out)
  obtain ⟨aoy, cy, rfl, -⟩ := hy.isSlice
  have K := Lib.hid (Add.trans k1 k2)
  clear k1 k2 hy
  go_wp2_with first | (go_at_call 28; refine CS.out.mono ?_; rintro e w' ⟨rfl, q, rfl⟩) | (go_at_call 22; refine (awake_any _).mono ?_; rintro e w' ⟨rfl, rfl⟩)
  go_ret
  exact ⟨rfl, below_drewN K.out _⟩
theorem dim_of {w : World} {v : Value} {vs : List Value} {rs : List (List Nat)} {n : Nat} (h : RowsB w v vs rs) (hn : rs.length = n) (hal : allLen n rs = true) : Dim n n rs := by
  refine ⟨hn, fun i hi => allLen_get hal (by omega), fun k => ?_⟩
  by_cases hk : k < n
  · obtain ⟨ao, c, rfl, -⟩ := h.isSlice
    obtain ⟨_, _, _, _, _, _, _, _, _, _, hrd⟩ := h.row (k := k) (by omega)
    exact hrd.limbs
  · have e : rs.getD k [] = [] := by simp [List.getD, hn, Nat.le_of_not_lt hk]
    rw [e]; exact Bys.nil
theorem fieldInvert_any {w : World} {v : Value} {vs : List Value} {rs : List (List Nat)} (h : RowsB w v vs rs) (hr : Reach rs) :
    Calls Try.prog 7 #[v] w (LawB w) := by
  cases hl : longR rs with
  | true => exact fieldInvert_long h hr hl
  | false =>
    have CL : Hid (Calls Try.prog 23 #[v] w (RetBo w false)) := Lib.hid (by have := longR_any h hr; rw [hl] at this; exact this)
    cases hok : sqOk rs with
    | false => exact fieldInvert_err 1 CL (Lib.hid (invert_bad h hok)) (Lib.hid fun w' k => refInvert_bad (h.mono k) hok)
    | true =>
      unfold sqOk at hok
      simp only [Bool.and_eq_true, Bool.not_eq_true', beq_eq_false_iff_ne, decide_eq_false_iff_not] at hok
      obtain ⟨⟨h1, h2⟩, h3⟩ := hok
      have hd := dim_of h rfl h3
      have c1 := invert_ok h rfl (by omega) (by omega) h3
      have c2 := fun w' (k : Add w w') => refInvert_ok (h.mono k) hd (by omega) (by omega)
      cases hi : invM rs rs.length with
      | none =>
        rw [hi] at c1
        refine fieldInvert_err 9 CL (Lib.hid c1) (Lib.hid fun w' k => ?_)
        have := c2 w' k; rw [hi] at this; exact this
      | some R =>
        rw [hi] at c1
        obtain ⟨hdR, -, -⟩ := inv_some hd hi
        refine fieldInvert_some (fun k hk => ?_) CL (Lib.hid c1) (Lib.hid fun w' k => ?_)
        · rw [hdR.2.1 k (by rw [← hdR.1]; exact hk)]; omega
        · have := c2 w' k; rw [hi] at this; exact this
end Go.Proofs.Ytahjijpoihljjaa
