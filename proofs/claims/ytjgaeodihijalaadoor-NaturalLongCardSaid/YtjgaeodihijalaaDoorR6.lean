/- The reference's Make and Parse. -/
import Derived.Test.YtjgaeodihijalaaDoorW25
namespace Go.Proofs.YtjgaeodihijalaaDoor
open Go.RowKit NatM Go.Proofs.YtjgaeodihijalaaDoor.Api

theorem reads_lit (w : World) (g : Nat) (hg : w.heap.size = g) (x : Nat) (z : Int) (hz : z = (x : Nat)) (hx : x < 4294967296) : Reads (w.alloc (.cells #[.int .u32 z] 44)) (.slice (some ⟨g, 0, none⟩) 1 1) [x] := by
  subst hg
  subst hz
  have hrow : Row (w.alloc (.cells #[.int .u32 (x : Int)] 44)) w.heap.size [x] := heap_alloc_new w _
  exact hrow.reads (m := 1) (c := 1) (Nat.le_refl _) (Nat.le_refl _) (by unfold maxLen; omega) (Limbs.cons hx Limbs.nil)
theorem add_drew_alloc (w : World) (o : Obj) : Add w (w.drew.alloc o) := (Below.drew (Below.refl _ _)).alloc (by simp) _
theorem lt_pw1 {x : Nat} (h : x < 4294967296) : x < pw 1 := by rw [show pw 1 = 4294967296 from by decide]; exact h
theorem add_alloc_drew (w : World) (o : Obj) : Add w (w.alloc o).drew := Below.drew ((Below.refl _ _).alloc (Nat.le_refl _) _)
theorem refPlusN {v1 v2 : Value} {A B : Nat} {w : World} (h1 : Num w v1 A) (h2 : Num w v2 B) (h : Hid (A < pw 2000 ∧ B < pw 2000)) : Calls Tryd.prog 57 #[v1, v2] w (RetO w (A + B)) := by
  obtain ⟨xs, r1, -, rfl, l1⟩ := num_reads h1 h.out.1
  obtain ⟨ys, r2, -, rfl, l2⟩ := num_reads h2 h.out.2
  exact refPlus_any v1 v2 xs ys w r1 r2 (by omega) (by omega)
theorem refTimesN {v1 v2 : Value} {A B : Nat} {w : World} (h1 : Num w v1 A) (h2 : Num w v2 B) (h : Hid (A < pw 2000 ∧ B < pw 2000)) : Calls Tryd.prog 62 #[v1, v2] w (RetO w (A * B)) := by
  obtain ⟨xs, r1, -, rfl, l1⟩ := num_reads h1 h.out.1
  obtain ⟨ys, r2, -, rfl, l2⟩ := num_reads h2 h.out.2
  exact refTimes_any v1 v2 xs ys w r1 r2 (by omega) (by omega)
theorem refMinusN {v1 v2 : Value} {A B : Nat} {w : World} (h1 : Num w v1 A) (h2 : Num w v2 B) (h : Hid (A < pw 2000 ∧ B ≤ A)) : Calls Tryd.prog 60 #[v1, v2] w (RetO w (A - B)) := by
  obtain ⟨xs, r1, -, rfl, l1⟩ := num_reads h1 h.out.1
  obtain ⟨ys, r2, -, rfl, l2⟩ := num_reads h2 (Nat.lt_of_le_of_lt h.out.2 h.out.1)
  exact refMinus_any v1 v2 xs ys w r1 r2 (by omega) (by omega) h.out.2
theorem refCmpN {v1 v2 : Value} {A B : Nat} {w : World} (h1 : Num w v1 A) (h2 : Num w v2 B) (h : Hid (A < pw 2000 ∧ B < pw 2000)) : Calls Tryd.prog 30 #[v1, v2] w (IntIs w (cmpI A B)) := by
  obtain ⟨xs, r1, -, rfl, l1⟩ := num_reads h1 h.out.1
  obtain ⟨ys, r2, -, rfl, l2⟩ := num_reads h2 h.out.2
  exact refCmp_any v1 v2 xs ys w r1 r2 (by omega) (by omega)
theorem refTrimN {v1 : Value} {A : Nat} {w : World} (h1 : Num w v1 A) (h : Hid (A < pw 2000)) : Calls Tryd.prog 36 #[v1] w (RetO w A) := by
  obtain ⟨xs, r1, -, rfl, l1⟩ := num_reads h1 h.out
  exact refTrim_any v1 xs w r1 (by omega)
theorem refLargeN (b : Bool) {v1 : Value} {A : Nat} {w : World} (h1 : Num w v1 A) (h : Hid (A < pw 2000)) (hb : Hid (decide (pw 512 ≤ A) = b)) : Calls Tryd.prog 56 #[v1] w (fun e w' => e = .returned (.bool b) ∧ Add w w') := by
  obtain ⟨xs, r1, -, rfl, l1⟩ := num_reads h1 h.out
  exact refLarge_is b v1 xs w r1 (by omega) hb
theorem num_lit (w : World) (g : Nat) (hg : w.heap.size = g) (x : Nat) (z : Int) (hz : z = (x : Nat)) (hx : x < 4294967296) (h0 : x ≠ 0) : Num (w.alloc (.cells #[.int .u32 z] 44)) (.slice (some ⟨g, 0, none⟩) 1 1) x := by
  refine ⟨[x], reads_lit w g hg x z hz hx, ?_, by simp [val]⟩
  simp [Canon, tlen, h0]
theorem refMake_any (z : Int) (w : World) (h0 : 0 ≤ z) (hv : z < 18446744073709551616) :
    Calls Tryd.prog 34 #[.int .u64 z] w (RetO w z.toNat) := by
  obtain ⟨v, rfl⟩ := Int.eq_ofNat_of_zero_le h0
  have hr := reads_two w (v % 4294967296) (v / 4294967296) (by omega) (by omega)
  have e1 : ((v % 4294967296 : Nat) : Int) = (v : Int) % 4294967296 := by omega
  have e2 : ((v / 4294967296 : Nat) : Int) = (v : Int) / 4294967296 := by omega
  rw [e1, e2] at hr
  clear e1 e2
  have hval : val [v % 4294967296, v / 4294967296] = (Int.ofNat v).toNat := by
    simp only [val, Int.ofNat_eq_natCast, Int.toNat_natCast]; omega
  have HC := Lib.hid (refTrim_any _ _ _ hr (by simp))
  rw [hval] at HC
  clear hval hr
  go_enter Tryd.func34, Tryd.ntmps34
  go_wp2_with fail
  refine HC.out.mono ?_; rintro e w' ⟨v', rfl, h1, h2⟩
  have hF : RetO w (Int.ofNat v).toNat (.returned v') w' := ⟨v', rfl, h1.base (by simp), Add.trans ((Below.refl _ _).alloc (Nat.le_refl _) _) h2⟩
  clear HC h1 h2
  go_wp2_with fail
  go_ret
  exact hF

set_option maxRecDepth 100000 in
set_option maxHeartbeats 4000000 in
theorem refParse_any (s : ByteArray) (w : World) (hs : s.size ≤ 1000000) :
    Calls Tryd.prog 41 #[.string s] w (ResP w (parseS s)) := by
  obtain ⟨p, hp⟩ : ∃ p, p = parseS s := ⟨_, rfl⟩
  rw [← hp]
  have HP := Lib.hid hp
  clear hp
  by_cases h5 : 5000 < s.size
  · have HS : Hid (p = (0, 2)) := Lib.hid (by rw [HP.out]; unfold parseS; rw [if_pos h5])
    have d5 : decide (5000 < s.size) = true := by simp; omega
    go_enter Tryd.func41, Tryd.ntmps41
    go_wp2_with fail
    go_ret2
    rw [HS.out]
    exact ⟨_, rfl, Num.nil _, Below.refl _ _⟩
  · have d5 : decide (5000 < s.size) = false := by simp; omega
    have H6 : Hid (¬ isNum s → p = (0, 6)) := Lib.hid (fun hn => by rw [HP.out]; unfold parseS; rw [if_neg h5, if_pos hn])
    have H2 : Hid (isNum s → pw 512 ≤ dval 0 s.data.toList → p = (0, 2)) := Lib.hid (fun hn hb => by rw [HP.out]; unfold parseS; rw [if_neg h5, if_neg (by simpa using hn), if_pos hb])
    have H0 : Hid (isNum s → ¬ pw 512 ≤ dval 0 s.data.toList → p = (dval 0 s.data.toList, 0)) := Lib.hid (fun hn hb => by rw [HP.out]; unfold parseS; rw [if_neg h5, if_neg (by simpa using hn), if_neg hb])
    clear HP
    have hs5 : s.size ≤ 5000 := by omega
    by_cases h0 : s.size = 0
    · have HS : Hid (p = (0, 6)) := Lib.hid (H6.out (fun h => h.1 h0))
      have hd0 : ((s.size : Int) == 0) = true := by rw [h0]; rfl
      go_enter Tryd.func41, Tryd.ntmps41
      go_wp2_with fail
      go_ret2
      rw [HS.out]
      exact ⟨_, rfl, Num.nil _, Below.refl _ _⟩
    · have hd0 : ((s.size : Int) == 0) = false := by rw [beq_eq_false_iff_ne]; omega
      have HZ := Lib.hid h0
      clear h0
      go_enter Tryd.func41, Tryd.ntmps41
      go_wp2_with fail
      go_loopw [4] (fun i wr => ∃ k : Nat, k ≤ s.size ∧ i = .int .i64 (k : Nat) ∧ Hid (AllDig (s.data.toList.take k)) ∧ w = wr) (fun i _ => s.size - (intOf i).toNat)
      case atStart => exact ⟨0, Nat.zero_le _, rfl, Lib.hid (by rw [List.take_zero]; exact AllDig.nil), rfl⟩
      case round =>
        obtain ⟨k, hk, rfl, hd, rfl⟩ := hrel
        by_cases hlt : k < s.size
        · by_cases h1 : (s[k]).toNat < 48
          · have hS : Hid (p = (0, 6)) := Lib.hid (H6.out (fun h => by
              have := h.2 _ (byte_mem hlt)
              unfold IsDig at this; omega))
            have d1 : decide ((s[k]).toNat < 48) = true := decide_eq_true h1
            go_wp2_with fail
            go_ret2
            rw [hS.out]
            exact ⟨_, rfl, Num.nil _, Below.refl _ _⟩
          · by_cases h2 : 57 < (s[k]).toNat
            · have hS : Hid (p = (0, 6)) := Lib.hid (H6.out (fun h => by
                have := h.2 _ (byte_mem hlt)
                unfold IsDig at this; omega))
              have d1 : decide ((s[k]).toNat < 48) = false := decide_eq_false h1
              have d2 : decide (57 < (s[k]).toNat) = true := decide_eq_true h2
              go_wp2_with fail
              go_ret2
              rw [hS.out]
              exact ⟨_, rfl, Num.nil _, Below.refl _ _⟩
            · have d1 : decide ((s[k]).toNat < 48) = false := decide_eq_false h1
              have d2 : decide (57 < (s[k]).toNat) = false := decide_eq_false h2
              have hd2 : Hid (AllDig (s.data.toList.take (k + 1))) := Lib.hid (by
                rw [byte_take hlt]
                intro b hb
                rcases List.mem_append.1 hb with h | h
                · exact hd.out b h
                · simp at h; subst h; unfold IsDig; omega)
              go_wp2_with fail
              go_roundw
              case rel => exact ⟨k + 1, by omega, by go_num, hd2, by trivial⟩
              case measure => simp [intOf]; omega
        · obtain rfl : k = s.size := by omega
          have hall : AllDig s.data.toList := by
            have := hd.out
            rwa [List.take_of_length_le (by simp)] at this
          have HN := Lib.hid (show isNum s from ⟨HZ.out, hall⟩)
          clear hd hall
          go_wp2_with fail
          go_loopw [5, 6] (fun o i wr => ∃ (ov : Value) (k V : Nat), ov = o ∧ k ≤ s.size ∧ i = .int .i64 (k : Nat) ∧ Hid (V = dval 0 (s.data.toList.take k)) ∧ Hid (V < pw 512) ∧ NumO wr w.heap.size ov V ∧ Add w wr) (fun _ i _ => s.size - (intOf i).toNat)
          case atStart => exact ⟨_, 0, 0, rfl, Nat.zero_le _, rfl, Lib.hid (by rw [List.take_zero, dval_nil]), Lib.hid (pw_pos 512), ⟨[], OwnL.nil _ _, Limbs.nil, Canon.nil, rfl⟩, Below.refl _ _⟩
          case round =>
            obtain ⟨ov, k, V, rfl, hk, rfl, hV, hVb, hno, hadd⟩ := hrel
            by_cases hlt : k < s.size
            · have hb := HN.out.2 _ (byte_mem hlt)
              unfold IsDig at hb
              obtain ⟨hb1, hb2⟩ := hb
              obtain ⟨b, hbe⟩ : ∃ b, (s[k]).toNat = b := ⟨_, rfl⟩
              rw [hbe] at hb1 hb2
              obtain ⟨d, hd⟩ : ∃ d, d = b - 48 := ⟨_, rfl⟩
              have ew1 : IntKind.u8.wrap ((b : Int) - 48) = (d : Int) := by rw [IntKind.wrap_u8']; omega
              have ew2 : IntKind.u64.wrap (d : Int) = (d : Int) := by rw [IntKind.wrap_u64]; omega
              have hd9 : d ≤ 9 := by omega
              have n10 := (num_lit wr wr.heap.size rfl 10 10 rfl (by decide) (by decide)).mono (Below.drew (Below.refl _ _))
              have F1 : Hid (V < pw 2000 ∧ 10 < pw 2000) := Lib.hid ⟨lt_up hVb.out (by decide), lt_up (show 10 < pw 1 by decide) (by decide)⟩
              have nv := hno.num.mono (add_alloc_drew wr (.cells #[.int .u32 10] 44))
              have HC1 := Lib.hid (refTimesN nv n10 F1)
              have F2 : Hid (V * 10 < pw 2000 ∧ d < pw 2000) := Lib.hid ⟨lt_up (lt_mul (i := 512) (j := 1) hVb.out (by decide)) (by decide), Nat.lt_of_lt_of_le (show d < pw 1 from lt_pw1 (by omega)) (pw_le (by decide))⟩
              have hV' : Hid (V * 10 + d = dval 0 (s.data.toList.take (k + 1))) := Lib.hid (by rw [byte_take hlt, dval_snoc, ← hV.out, hbe]; omega)
              have hVm : Hid (dval 0 (s.data.toList.take (k + 1)) ≤ dval 0 s.data.toList) := Lib.hid (by
                have := dval_mono 0 (s.data.toList.take (k + 1)) (s.data.toList.drop (k + 1))
                rwa [List.take_append_drop] at this)
              have hA0 := Add.trans hadd (add_alloc_drew wr (.cells #[.int .u32 10] 44))
              clear hV nv n10 F1 hno hadd hd
              go_wp2_with fail
              go_region_with (first
                | (go_at_call 62; refine HC1.out.mono ?_; rintro e w1 ⟨v1, rfl, n1, h1⟩)
                | (go_at_call 34; refine (refMake_any _ _ (by omega) (by omega)).mono ?_; rintro e w2 ⟨v2, rfl, n2, h2⟩; rw [Int.toNat_natCast] at n2)
                | (go_at_call 57; refine (refPlusN (n1.num.mono h2) n2.num F2).mono ?_; rintro e w3 ⟨v3, rfl, n3, h3⟩))
              all_goals
                rw [hV'.out] at n3
                have hA3 := Add.trans hA0 (Add.trans h1 (Add.trans h2 h3))
                have hb3 : w.heap.size ≤ w2.heap.size := Nat.le_trans hA0.size (Nat.le_trans h1.size h2.size)
                replace n3 := n3.base hb3
                have F3 : Hid (dval 0 (s.data.toList.take (k + 1)) < pw 2000) := Lib.hid (by rw [← hV'.out]; have := F2.out; exact lt_up (lt_add (i := 1024) (lt_up (lt_mul (i := 512) (j := 1) hVb.out (by decide)) (by decide)) (Nat.lt_of_lt_of_le (show d < pw 1 from lt_pw1 (by omega)) (pw_le (by decide)))) (by decide))
                obtain ⟨V', hV'e⟩ : ∃ V', V' = dval 0 (s.data.toList.take (k + 1)) := ⟨_, rfl⟩
                rw [← hV'e] at n3 F3 hVm
                have HVE := Lib.hid hV'e
                clear hV' hV'e n1 n2 h1 h2 h3 hA0 HC1 F2 hb3
                by_cases hbig : pw 512 ≤ V'
                · have HS := Lib.hid (H2.out HN.out (Nat.le_trans hbig hVm.out))
                  have HL := Lib.hid (refLargeN true n3.num F3 (Lib.hid (decide_eq_true hbig)))
                  clear hbig n3
                  go_wp2_with fail
                  refine HL.out.mono ?_
                  rintro e w4 ⟨rfl, h4⟩
                  go_wp2_with fail
                  go_ret2
                  rw [HS.out]
                  exact ⟨_, rfl, Num.nil _, Add.trans hA3 h4⟩
                · have HL := Lib.hid (refLargeN false n3.num F3 (Lib.hid (decide_eq_false hbig)))
                  have hb' : Hid (V' < pw 512) := Lib.hid (by omega)
                  clear hbig
                  go_wp2_with fail
                  refine HL.out.mono ?_
                  rintro e w4 ⟨rfl, h4⟩
                  have n4 := n3.below h4
                  clear n3
                  go_wp2_with fail
                  go_roundw
                  case rel => exact ⟨v3, k + 1, V', rfl, by omega, by go_num, HVE, hb', n4, Add.trans hA3 h4⟩
                  case measure => simp [intOf]; omega
            · obtain rfl : k = s.size := by omega
              have hVe : V = dval 0 s.data.toList := by rw [hV.out, List.take_of_length_le (by simp)]
              have HS := Lib.hid (H0.out HN.out (by rw [← hVe]; have := hVb.out; omega))
              rw [← hVe] at HS
              have hF : ResP w p (.returned (.tuple #[ov, .int .i64 0])) wr := by rw [HS.out]; exact ⟨_, rfl, hno.num, hadd⟩
              clear hV hVe hno hadd
              go_wp2_with fail
              go_ret2
              exact hF
end Go.Proofs.YtjgaeodihijalaaDoor
