/- The law ErasureDecode: its walk, for all arguments. -/
import Derived.Test.YtmlcenocjpjcfaaE30
namespace Go.Proofs.Ytmlcenocjpjcfaa
open Go.RowKit GfM

set_option maxRecDepth 100000 in
set_option maxHeartbeats 4000000 in
theorem decode_law {w : World} {v : Value} {ix : List Int} {vs : List Value} {rs : List (List Nat)} (h : FragsB w v ix vs rs) (k m i : Int) :
    Calls Try.prog 4 #[.int .i64 k, .int .i64 m, v, .int .i64 i] w (LawB w) := by
  obtain ⟨i1, hi1, hy0, hy1, hy2⟩ := info_parts info32
  obtain ⟨ao, c, rfl, hm, hxl, -⟩ := h.isSlice
  unfold maxLen at hm
  obtain ⟨l, hl⟩ : ∃ l, l = rs.length := ⟨_, rfl⟩
  rw [← hl] at h hm hxl ⊢
  have HL := Lib.hid hl
  have HFR := Lib.hid h
  have HVL : Hid (vs.length = l) := Lib.hid (by obtain ⟨_, n', _, e, _, hv, _⟩ := h; cases e; exact hv)
  have HBOTH : Hid (l ≤ 30 → longE rs = false → Both w k m (.slice ao l c) i) := Lib.hid fun h30 hlo => both_any h (by rw [← hl]; exact h30) (longE_false hlo).2 k m i
  clear h hl hxl
  go_enter Try.func4, Try.ntmps4
  go_wp2_with fail
  go_loopw [9, 10] (fun a j wr => ∃ q : Nat, q ≤ l ∧ q ≤ 40 ∧ j = .int .i64 (q : Nat) ∧ wr.ownsRow w.heap.size 32 1 a q (vs.take q) ∧ Add w wr) (fun _ j _ => l - (intOf j).toNat)
  case atStart => exact ⟨0, Nat.zero_le _, Nat.zero_le _, rfl, World.ownsRow_nil _ _ _ _, Below.refl _ _⟩
  case round =>
    obtain ⟨q, hq, hq40, rfl, hown, hadd⟩ := hrel
    have HTL : Hid ((vs.take q).length = q) := Lib.hid (by rw [List.length_take, HVL.out]; omega)
    by_cases hend : q = l ∨ q = 40
    · have hli := listR_frags HFR.out hq hadd (Nat.le_refl _) (vb := u9) (by rw [HTL.out]; exact hown)
      obtain ⟨ar, cr, er, hr⟩ := hli.rows
      have hrl : (rs.take q).length = q := by rw [List.length_take, ← HL.out]; omega
      rw [hrl] at er
      have CL0 := longE_any hr
      have HADD := Lib.hid hadd
      have HL30 : Hid (longE (rs.take q) = false → q ≤ 30) := Lib.hid fun e => by have := (longE_false e).1; rw [hrl] at this; exact this
      have HFULL : Hid (q = l → rs.take q = rs) := Lib.hid fun e => List.take_of_length_le (by rw [← HL.out]; omega)
      have hge : q = l ∨ 40 ≤ q := by omega
      clear hown hadd hli hr hrl hend
      subst er
      cases hlo : longE (rs.take q) with
      | true =>
        rw [hlo] at CL0
        have CL := Lib.hid CL0
        clear CL0 hlo
        by_cases hql : q = l
        · clear hge
          subst hql
          go_wp2_with (go_at_call 11; (with_reducible refine CL.out.mono ?_); rintro e w' ⟨rfl, rfl⟩)
          refine (awake_any _).mono ?_
          rintro e w3 ⟨rfl, hadd3⟩
          have HF : Hid (Add w w3) := Lib.hid (Add.trans HADD.out hadd3)
          clear hadd3
          go_wp2_with fail
          go_ret
          exact ⟨rfl, HF.out⟩
        · have hlt : q < l := by omega
          have h40 : 40 ≤ q := by omega
          clear hge hql
          go_wp2_with (go_at_call 11; (with_reducible refine CL.out.mono ?_); rintro e w' ⟨rfl, rfl⟩)
          refine (awake_any _).mono ?_
          rintro e w3 ⟨rfl, hadd3⟩
          have HF : Hid (Add w w3) := Lib.hid (Add.trans HADD.out hadd3)
          clear hadd3
          go_wp2_with fail
          go_ret
          exact ⟨rfl, HF.out⟩
      | false =>
        rw [hlo] at CL0
        have CL := Lib.hid CL0
        have h30 := HL30.out hlo
        have hql : q = l := by omega
        have hlo2 : longE rs = false := by rw [HFULL.out hql] at hlo; exact hlo
        obtain ⟨R, er, xs, ex, k1, k2, k3, k4⟩ := HBOTH.out (by omega) hlo2
        have C1 := Lib.hid k1
        have C2 := Lib.hid k2
        have C3 := Lib.hid k3
        have C4 := Lib.hid k4
        have hee : (er == er) = true := by simp
        have hxx : (ex == ex) = true := by simp
        clear CL0 hlo hlo2 hge k1 k2 k3 k4 HBOTH
        subst hql
        go_wp2_with (go_at_call 11; (with_reducible refine CL.out.mono ?_); rintro e w' ⟨rfl, rfl⟩)
        refine (C1.out _ HADD.out).mono ?_
        rintro e w1 ⟨x, vsx, rfl, hx, j1⟩
        have HX := Lib.hid hx
        obtain ⟨aox, cx, rfl, -⟩ := hx.isSlice
        have j01 := Add.trans HADD.out j1
        clear hx
        go_wp2_with fail
        refine (C2.out _ j01).mono ?_
        rintro e w2 ⟨y, vsy, rfl, hy, j2⟩
        have HY := Lib.hid hy
        obtain ⟨aoy, cy, rfl, -⟩ := hy.isSlice
        have j02 := Add.trans j01 j2
        clear hy
        go_wp2_with fail
        refine (C3.out _ j02).mono ?_
        rintro e w3 ⟨a3, l3, c3, rfl, hr3, j3⟩
        have j03 := Add.trans j02 j3
        go_wp2_with fail
        refine (C4.out _ j03).mono ?_
        rintro e w4 ⟨a4, l4, c4, rfl, hr4, j4⟩
        have j04 := Add.trans j03 j4
        have CS := Lib.hid (sameAll_any ((HX.out.mono (Add.trans j2 j3)).mono j4) ((HY.out.mono j3).mono j4))
        have hcv3 : ∀ q, (convert 32 9 (.slice a3 l3 c3)).run Try.prog (w4.drewN q) = .ok (.string (strOf xs)) (w4.drewN q) := fun q => conv_all ((hr3.mono j4).mono (below_drewN (Below.refl _ _) q))
        have hcv4 : ∀ q, (convert 32 9 (.slice a4 l4 c4)).run Try.prog (w4.drewN q) = .ok (.string (strOf xs)) (w4.drewN q) := fun q => conv_all (hr4.mono (below_drewN (Below.refl _ _) q))
        obtain ⟨sj, esj⟩ : ∃ sj, sj = strOf xs := ⟨_, rfl⟩
        rw [← esj] at hcv3 hcv4
        have K4 := Lib.hid j04
        clear j1 j01 j2 j02 j3 j03 j4 j04 hr3 hr4 esj
        go_wp2_with (go_at_call 15; (with_reducible refine CS.out.mono ?_); rintro e w' ⟨rfl, nq, rfl⟩)
        refine (awake_any _).mono ?_
        rintro e w5 ⟨rfl, hadd5⟩
        have HF : Hid (Add w w5) := Lib.hid (Add.trans (below_drewN K4.out _) hadd5)
        clear hadd5
        go_wp2_with fail
        go_ret
        exact ⟨rfl, HF.out⟩
    · have hlt : q < l := by omega
      have h40 : q < 40 := by omega
      obtain ⟨b, off, a, lx, cc, rfl, ev, -, -, hcI, hcD, -⟩ := (HFR.out.mono hadd).frag hlt
      have hqv : q < vs.length := by rw [HVL.out]; exact hlt
      have HTK : Hid (vs.take (q + 1) = vs.take q ++ [.slice a lx cc]) := Lib.hid (by
        rw [List.take_succ_eq_append_getElem hqv, ← ev]
        simp [List.getD, hqv])
      have HADD := Lib.hid hadd
      have HOW := Lib.hid hown
      have hsz := hadd.size
      have HAB : Hid (∀ o w3, (wr.alloc o).grownBy w3 u9.ownBlock → Add w w3) := Lib.hid fun o w3 hg => Below.grown (add_al HADD.out) hg (by have := HADD.out.size; simp; omega) (fun q' hq' => (ownsRow_block HOW.out hq').1)
      clear hend hadd hcI ev hqv
      go_wp2_with (at_builtin; refine wpList_append_own_at _ rfl _ _ 22 rfl w.heap.size 32 i1 (.slice none 0 0) 1 24 Try.underlying22 hi1 hy0 hy1 hy2 rfl (by decide) _ _ _ rfl (World.ownsRow.alloc hown _) ⟨wr.heap.size, 0, none⟩ 1 1 [_] rfl rfl (Go.cell_one_new _ _ _) (by intro u hu; simp at hu; subst hu; rfl) (by unfold maxLen; omega) (by omega) (by simp; omega) ?_)
      intro v' w3 hown3 hgr3 _ hat
      have HEND : Hid (w3.ownsRow w.heap.size 32 1 v' (q + 1) (vs.take (q + 1)) ∧ Add w w3) := Lib.hid ⟨by rw [HTK.out]; exact hown3, HAB.out _ _ hgr3⟩
      clear hown3 hgr3 hown hat
      go_wp2_with fail
      go_roundw
      case rel => exact ⟨q + 1, by omega, by omega, by go_num, HEND.out.1, HEND.out.2⟩
      case measure => simp [intOf]; omega
end Go.Proofs.Ytmlcenocjpjcfaa
