/- natural.Parse, for every text. -/
import Derived.Test.YtjgaeodihijalaaDoorW24
import Derived.Test.YtjgaeodihijalaaDoorR5
namespace Go.Proofs.YtjgaeodihijalaaDoor
open Go.RowKit NatM Go.Proofs.YtjgaeodihijalaaDoor.Api

open Classical in
/-- What Parse answers. -/
noncomputable def parseS (s : ByteArray) : Nat × Nat :=
  if 5000 < s.size then (0, 2) else if ¬ isNum s then (0, 6) else if pw 512 ≤ dval 0 s.data.toList then (0, 2) else (dval 0 s.data.toList, 0)

theorem okP_res {w : World} {N : Nat} {e : Ending} {w' : World} (h : OkP w N e w') : ResP w (N, 0) e w' := by
  obtain ⟨v, rfl, h1, h2⟩ := h
  exact ⟨v, rfl, h1, h2⟩
theorem errP_res {w : World} {k : Nat} {e : Ending} {w' : World} (h : ErrP w (k : Nat) e w') : ResP w (0, k) e w' := by
  obtain ⟨rfl, h2⟩ := h
  exact ⟨_, rfl, Num.nil _, h2⟩
theorem ResP.of_add {w w1 : World} {p : Nat × Nat} {e : Ending} {w' : World} (h : ResP w1 p e w') (ha : Add w w1) : ResP w p e w' := by
  obtain ⟨v, rfl, h1, h2⟩ := h
  exact ⟨v, rfl, h1, Add.trans ha h2⟩
/-- checked, whatever it is asked. -/
theorem checked_res (v : Value) (xs : List Nat) (w : World) (h : Reads w v xs) :
    Calls Tryd.prog 53 #[v] w (ResP w (if pw 512 ≤ val xs then (0, 2) else (val xs, 0))) := by
  by_cases hb : pw 512 ≤ val xs
  · rw [if_pos hb]
    exact (checked_big v xs w h hb).mono fun e w' g => errP_res (k := 2) g
  · rw [if_neg hb]
    exact (checked_ok v xs w h (by omega)).mono fun e w' g => okP_res g

set_option maxRecDepth 100000 in
set_option maxHeartbeats 4000000 in
theorem parse_any (s : ByteArray) (w : World) (hs : s.size ≤ 1000000) :
    Calls Tryd.prog 40 #[.string s] w (ResP w (parseS s)) := by
  by_cases h5 : 5000 < s.size
  · have hS : parseS s = (0, 2) := by unfold parseS; rw [if_pos h5]
    have HS := Lib.hid hS
    have d5 : decide (5000 < s.size) = true := by simp; omega
    clear hS
    go_enter Tryd.func40, Tryd.ntmps40
    go_wp2_with fail
    go_ret2
    rw [HS.out]
    exact ⟨_, rfl, Num.nil _, Below.refl _ _⟩
  · have d5 : decide (5000 < s.size) = false := by simp; omega
    by_cases hn : isNum s
    · have hS : parseS s = if pw 512 ≤ dval 0 s.data.toList then (0, 2) else (dval 0 s.data.toList, 0) := by
        unfold parseS; rw [if_neg h5, if_neg (by simpa using hn)]
      rw [hS]
      obtain ⟨T, hT⟩ : ∃ T, T = dval 0 s.data.toList := ⟨_, rfl⟩
      rw [← hT]
      obtain ⟨p, hp⟩ : ∃ p, p = if pw 512 ≤ T then (0, 2) else (T, 0) := ⟨_, rfl⟩
      rw [← hp]
      have HP := Lib.hid hp
      clear hp
      obtain ⟨i0, hi, hz0, hz1, hz2⟩ := info_parts info44
      obtain ⟨n, hne⟩ : ∃ n : Nat, n = s.size / 9 + 1 := ⟨_, rfl⟩
      have hni : (s.size : Int) / 9 + 1 = (n : Int) := by omega
      have hn7 : n ≤ 600 := by omega
      have hlt : Hid (T < pw n) := Lib.hid (by
        have h1 := dval_lt0 hn.2
        rw [← hT] at h1
        have h2 : s.data.toList.length = s.size := by simp
        rw [h2] at h1
        exact Nat.lt_of_lt_of_le h1 (ten_pw _ _ (by omega)))
      have HT := Lib.hid hT
      have HN := Lib.hid hn
      have hlen := Lib.hid hne
      clear hS hn hT hne
      go_enter Tryd.func40, Tryd.ntmps40
      go_wp2_with fail
      refine (onlyDigits_any s w hs).mono ?_
      rintro e w1 ⟨b, rfl, hb, q, rfl⟩
      obtain rfl : b = true := hb.2 HN.out
      clear hb
      go_wp2_with (at_make; refine wpList_make_full _ rfl _ _ 23 rfl w.heap.size 44 i0 (.int .u32 0) 1 Tryd.underlying23 hi hz0 hz1 _ _ _ _ n rfl rfl (by omega) (by omega) (by rw [hz2]; omega) (by unfold maxLen; omega) (Nat.le_refl _) ?_)
      intro w1 hown hgr
      have hadd : Add w w1 := (below_drewN (Below.refl _ _) q).grown hgr (Nat.le_refl _) (by simp)
      have hown := Own.made hown
      have hlt0 := hown.lt
      clear hgr
      obtain ⟨g, hg⟩ : ∃ g, g = w.heap.size := ⟨_, rfl⟩
      have hrow := hown.row
      have hzl := hown.length
      go_wp2_with fail
      go_loopw [0] (fun sv wr => ∃ (t : ByteArray) (zs : List Nat), sv = .string t ∧ t.size ≤ s.size ∧ Hid (AllDig t.data.toList) ∧ Hid (dval (val zs) t.data.toList = T) ∧ Row wr w.heap.size zs ∧ zs.length = n ∧ Hid (Limbs zs) ∧ Add w wr) (fun sv _ => Lib.strSize sv)
      case atStart => exact ⟨s, _, rfl, Nat.le_refl _, Lib.hid HN.out.2, Lib.hid (by rw [val_replicate]; exact HT.out.symm), hrow, hzl, Lib.hid (Limbs.replicate _), hadd⟩
      case round =>
        clear hrow hzl hown hadd
        obtain ⟨t, zs, rfl, hts, htd, htv, hrow, hzl, hzs, hadd⟩ := hrel
        by_cases h0 : 0 < t.size
        · obtain ⟨m, hm⟩ : ∃ m : Nat, min (t.size : Int) 9 = (m : Int) := ⟨min t.size 9, by omega⟩
          have hm9 : m ≤ 9 := by omega
          have hmt : m ≤ t.size := by omega
          have hm0 : 0 < m := by omega
          have q1 : (t.extract 0 m).data.toList = t.data.toList.take m := by rw [extract_list]; simp
          have q2 : (t.extract m t.size).data.toList = t.data.toList.drop m := by rw [extract_list]; exact List.take_of_length_le (by simp)
          have q3 : (t.extract 0 m).size = m := by simp; omega
          have q4 : (t.extract m t.size).size = t.size - m := by simp
          have hle : dval (val zs) (t.data.toList.take m) ≤ T := by
            rw [← htv.out]
            have := dval_mono (val zs) (t.data.toList.take m) (t.data.toList.drop m)
            rwa [List.take_append_drop] at this
          obtain ⟨U, hU⟩ : ∃ U, dval (val zs) (t.data.toList.take m) = U := ⟨_, rfl⟩
          have hU2 : Hid (dval U (t.data.toList.drop m) = T) := Lib.hid (by rw [← hU, dval_take_drop]; exact htv.out)
          have HC := Lib.hid (appendGroup_any w.heap.size n zs (t.extract 0 m) U wr hrow hzl (by omega) hzs.out (by rw [q1]; exact htd.out.take _) (by omega) (Lib.hid (by rw [q1]; exact hU)) (Lib.hid (Nat.lt_of_le_of_lt (by rw [← hU]; exact hle) hlt.out)))
          have Q2 := Lib.hid q2
          have Q4 := Lib.hid q4
          have hd2 : Hid (AllDig (t.data.toList.drop m)) := Lib.hid (htd.out.drop _)
          clear q1 q2 q3 q4 hle hU htv hrow hzl hzs htd
          go_wp2_with fail
          refine HC.out.mono ?_
          rintro e w2 ⟨us, rfl, hr2, hl2, hx2, hv2, hgr2⟩
          have hadd2 : Add w w2 := Below.grown hadd hgr2 hadd.size (fun k hk => by cases hk; exact Nat.le_refl _)
          have HV2 := Lib.hid hv2
          have HX2 := Lib.hid hx2
          clear HC hgr2 hadd hv2 hx2
          go_wp2_with fail
          go_roundw
          case rel => exact ⟨t.extract m t.size, us, rfl, by rw [Q4.out]; omega, Lib.hid (by rw [Q2.out]; exact hd2.out), Lib.hid (by rw [Q2.out, HV2.out]; exact hU2.out), hr2, hl2, HX2, hadd2⟩
          case measure => show (t.extract m t.size).size < t.size; rw [Q4.out]; omega
        · have ht0 : t.data.toList = [] := by
            apply List.eq_nil_of_length_eq_zero
            simp only [Array.length_toList]
            show t.size = 0
            omega
          have hv : val zs = T := by have := htv.out; rwa [ht0, dval_nil] at this
          have hz : t.size = 0 := by omega
          have HC := Lib.hid (checked_res _ _ wr (hrow.reads (m := n) (c := n) (by omega) (Nat.le_refl _) (by unfold maxLen; omega) hzs.out))
          rw [List.take_of_length_le (by omega), hv, ← HP.out] at HC
          clear ht0 hv htv hrow hzs
          go_wp2_with fail
          refine HC.out.mono ?_
          intro e w2 hres
          have hF := hres.of_add hadd
          obtain ⟨v, rfl, h1, h2⟩ := hres
          clear h1 h2 HC
          go_wp2_with fail
          go_ret2
          exact hF
    · have hS : parseS s = (0, 6) := by unfold parseS; rw [if_neg h5, if_pos hn]
      have HS := Lib.hid hS
      have HN := Lib.hid hn
      clear hS hn
      go_enter Tryd.func40, Tryd.ntmps40
      go_wp2_with fail
      refine (onlyDigits_any s w hs).mono ?_
      rintro e w1 ⟨b, rfl, hb, q, rfl⟩
      obtain rfl : b = false := by
        cases b
        · rfl
        · exact absurd (hb.1 rfl) HN.out
      clear hb
      go_wp2_with fail
      go_ret2
      rw [HS.out]
      exact ⟨_, rfl, Num.nil _, below_drewN (Below.refl _ _) q⟩
end Go.Proofs.YtjgaeodihijalaaDoor
