/- The law FractionLimits: its walk, for all arguments.
(With the texts that are joined here: The helper wide of law 2: a number of so many limbs, of which the first is odd.) -/
import Derived.Test.YtfoffjnffkgnaaaGreatDoorZG
import Derived.Test.YtfoffjnffkgnaaaGreatDoorW3
import Derived.Test.YtfoffjnffkgnaaaGreatDoorZF

namespace Go.Proofs.YtfoffjnffkgnaaaGreatDoor
open Go.RowKit NatM Go.Proofs.YtfoffjnffkgnaaaGreatDoor.Api

/-- The number that wide makes. -/
def wideL (n f : Nat) : List Nat := (List.replicate n 4294967295).set 0 (f ||| 1)
theorem or_lt {f : Nat} (hf : f < 4294967296) : f ||| 1 < 4294967296 := Nat.or_lt_two_pow (n := 32) hf (by decide)
theorem wideL_limbs {n f : Nat} (hf : f < 4294967296) : Limbs (wideL n f) := by
  refine Limbs.set ?_ 0 _ (or_lt hf)
  intro y hy
  rw [List.eq_of_mem_replicate hy]; decide
theorem wideL_length (n f : Nat) : (wideL n f).length = n := by simp [wideL]
theorem val_max (k : Nat) : val (List.replicate k 4294967295) + 1 = pw k := by
  induction k with
  | zero => simp [val]; decide
  | succ k ih => rw [List.replicate_succ, pw_succ]; simp only [val]; omega
theorem wideL_val (m f : Nat) : val (wideL (m + 1) f) + 4294967296 = (f ||| 1) + pw (m + 1) := by
  have h1 : wideL (m + 1) f = (f ||| 1) :: List.replicate m 4294967295 := by simp [wideL, List.replicate_succ]
  have h2 := val_max m
  rw [h1, pw_succ]; simp only [val]; omega
def WideP (w : World) (n f : Nat) (e : Ending) (w' : World) : Prop :=
  ∃ an cn, e = .returned (.slice an n cn) ∧ Reads w' (.slice an n cn) (wideL n f) ∧ Add w w'
set_option maxRecDepth 100000 in
set_option maxHeartbeats 1000000 in
theorem wide_any (n f : Nat) (w : World) (h1 : 1 ≤ n) (hn : n ≤ 1000) (hf : f < 4294967296) :
    Calls Tryz.prog 46 #[.int .i64 (n : Nat), .int .u32 (f : Nat)] w (WideP w n f) := by
  obtain ⟨i0, hi, hz0, hz1, hz2⟩ := info_parts info50
  have HF := Lib.hid hf
  have H1 := Lib.hid h1
  clear hf h1
  go_enter Tryz.func46, Tryz.ntmps46
  go_wp2_with (at_make; refine wpList_make_full _ rfl _ _ 23 rfl w.heap.size 50 i0 (.int .u32 0) 1 Tryz.underlying23 hi hz0 hz1 _ _ _ _ n rfl rfl (by omega) (by omega) (by rw [hz2]; omega) (by unfold maxLen; omega) (Nat.le_refl _) ?_)
  intro w1 hown hgr
  have hadd : Add w w1 := (Below.refl _ _).grown hgr (Nat.le_refl _) (by simp)
  have hown := Own.made hown
  clear hgr
  go_wp2_with fail
  go_loopw [6] (fun i wr => ∃ (k : Nat) (zs : List Nat), k ≤ n ∧ i = .int .i64 k ∧ Own wr w.heap.size w.heap.size n zs ∧ Hid (∀ j, j < k → zs[j]? = some 4294967295) ∧ Add w wr) (fun i _ => n - (intOf i).toNat)
  case atStart => exact ⟨0, _, Nat.zero_le _, rfl, hown, Lib.hid (fun j h => by omega), hadd⟩
  case round =>
    obtain ⟨k, zs, hk, rfl, hown, hpre, hadd⟩ := hrel
    have hz := hown.length
    by_cases hlt' : k < n
    · have hcell := hown.cell k (by omega)
      have hfree := hown.free k
      clear hz
      go_wp2_with fail
      go_roundw
      case rel =>
        have hz := hown.length
        have hadd2 : Add w (wr.setCell ⟨w.heap.size, k, none⟩ (.int .u32 (4294967295 : Nat))) := Below.setCell hadd (Nat.le_refl _) _
        have hown2 : Own (wr.setCell ⟨w.heap.size, k, none⟩ (.int .u32 (4294967295 : Nat))) w.heap.size w.heap.size n (zs.set k 4294967295) := Own.set (w := wr) hown k _
        refine ⟨k + 1, _, by omega, by go_num, hown2, Lib.hid fun j hj => ?_, hadd2⟩
        rw [List.getElem?_set]
        by_cases e : k = j
        · rw [if_pos e, if_pos (by omega)]
        · rw [if_neg e]; exact hpre.out j (by omega)
      case measure => simp only [intOf]; omega
    · obtain rfl : k = n := by omega
      have hcell := hown.cell 0 (by have := H1.out; omega)
      have hfree := hown.free 0
      have hzs : zs = List.replicate k 4294967295 := by
        apply List.ext_getElem?
        intro j
        rcases Nat.lt_or_ge j k with h | h
        · rw [hpre.out j h]; simp [h]
        · rw [List.getElem?_eq_none (by omega), List.getElem?_eq_none (by simp; exact h)]
      have HZ := Lib.hid hzs
      have d0 : decide ((0 : Int) < (k : Int)) = true := by have := H1.out; simp; omega
      clear hzs hpre hz hlt'
      go_wp2_with fail
      go_ret
      have e1 : bits BinOp.or IntKind.u32 (f : Int) 1 = ((f ||| 1 : Nat) : Int) := u32_or_nat f 1 HF.out (by decide)
      rw [e1]
      have hown2 : Own (wr.setCell ⟨w.heap.size, 0, none⟩ (.int .u32 (f ||| 1 : Nat))) w.heap.size w.heap.size k (zs.set 0 (f ||| 1)) := Own.set (w := wr) hown 0 _
      rw [HZ.out] at hown2
      exact ⟨_, _, rfl, hown2.reads (by unfold maxLen; omega) (wideL_limbs HF.out), Below.setCell hadd (Nat.le_refl _) _⟩

theorem litNv (w : World) (g b : Nat) (hg : w.heap.size = g) (hb : b < 4294967296) : Nv (w.alloc (.cells #[.int .u32 (b : Nat)] 50)) (.slice (some ⟨g, 0, none⟩) 1 1) b := by
  subst hg
  have hrow : Row (w.alloc (.cells #[.int .u32 (b : Nat)] 50)) w.heap.size [b] := heap_alloc_new w _
  exact ⟨[b], hrow.reads (m := 1) (c := 1) (by simp) (Nat.le_refl _) (by unfold maxLen; omega) (Limbs.cons hb Limbs.nil), by simp [val], by simp⟩
end Go.Proofs.YtfoffjnffkgnaaaGreatDoor

namespace Go.Proofs.YtfoffjnffkgnaaaGreatDoor.LimF
open Go.Proofs.YtfoffjnffkgnaaaGreatDoor Go.RowKit NatM Go.Proofs.YtfoffjnffkgnaaaGreatDoor.Api
theorem fracT_mk {w : World} {b : Bool} {N D : Nat} {an n cn ad d cd} (h1 : Num w (.slice an n cn) N) (h2 : Num w (.slice ad d cd) D) : FracT w (.agg #[.bool b, .slice an n cn, .slice ad d cd]) (b, N, D) := ⟨an, n, cn, ad, d, cd, rfl, h1, h2⟩
/-- A result of which the parts have names. -/
def ResE (w : World) (s : Bool) (N D c : Nat) (e : Ending) (w' : World) : Prop := ∃ a n k a' n' k', e = .returned (.tuple #[.agg #[.bool s, .slice a n k, .slice a' n' k'], .int .i64 (c : Nat)]) ∧ Num w' (.slice a n k) N ∧ Num w' (.slice a' n' k') D ∧ Add w w'
theorem resE {w : World} {p : Tri × Nat} {s : Bool} {N D c : Nat} {e : Ending} {w' : World} (g : ResF w p e w') (h : Hid (p = ((s, N, D), c))) : ResE w s N D c e w' := by
  obtain ⟨v, he, ⟨a, n, k, a', n', k', rfl, h1, h2⟩, h3⟩ := g
  have e1 := h.out
  subst e1
  exact ⟨a, n, k, a', n', k', he, h1, h2, h3⟩
theorem wide_nv {w : World} {an cn} {n f : Nat} (h : Reads w (.slice an n cn) (wideL n f)) (hn : n ≤ 1000) : Nv w (.slice an n cn) (val (wideL n f)) :=
  ⟨_, h, rfl, by rw [wideL_length]; omega⟩
theorem wide_ok {N a : Nat} (hN : 127 ≤ N ∧ N ≤ 129) (ha : a < 4294967296) : okF (false, val (wideL N a), 1) = decide ((N : Int) ≤ 128) := by
  have hlt := val_lt (wideL_limbs (n := N) ha)
  rw [wideL_length] at hlt
  by_cases h : N ≤ 128
  · rw [decide_eq_true (by omega)]
    exact okF_iff.2 ⟨by simp, Nat.lt_of_lt_of_le hlt (pw_le h), Nat.lt_of_lt_of_le (by decide : 1 < pw 1) (pw_le (by decide))⟩
  · rw [decide_eq_false (by omega)]
    obtain rfl : N = 129 := by omega
    have h1 := wideL_val 128 a
    have h2 := pw_succ 128
    have h3 : pw 1 ≤ pw 128 := pw_le (by decide)
    have h4 : pw 1 = 4294967296 := by decide
    cases e : okF (false, val (wideL 129 a), 1) with
    | false => rfl
    | true =>
      have h5 := (okF_iff.1 e).2.1
      have h6 : val (wideL (128 + 1) a) < pw 128 := h5
      omega
set_option maxRecDepth 100000 in
set_option maxHeartbeats 20000000 in
theorem limF_any {n m a c : Nat} (w : World) (hn : n < 256) (hm : m < 256) (ha : a < 4294967296) (hc : c < 4294967296) (hT : Tab w) :
    Calls Tryz.prog 9 #[.int .u8 (n : Nat), .int .u8 (m : Nat), .int .u32 (a : Nat), .int .u32 (c : Nat)] w (LawP w) := by
  obtain ⟨N, hN⟩ : ∃ N, N = 127 + n % 3 := ⟨_, rfl⟩
  obtain ⟨M, hM⟩ : ∃ M, M = 1 + m % 2 := ⟨_, rfl⟩
  obtain ⟨f, hf⟩ : ∃ f, f = (a + 2) % 4294967296 := ⟨_, rfl⟩
  have hN1 : 127 ≤ N ∧ N ≤ 129 := by omega
  have hM1 : 1 ≤ M ∧ M ≤ 2 := by omega
  have hf1 : f < 4294967296 := by omega
  have W1 : Hid (Calls Tryz.prog 46 #[.int .i64 (127 + (n : Int) % 3), .int .u32 (a : Nat)] w (WideP w N a)) := Lib.hid (by
    have e : (127 + (n : Int) % 3) = ((N : Nat) : Int) := by omega
    rw [e]; exact wide_any N a w (by omega) (by omega) ha)
  have W2 : Hid (∀ w, Calls Tryz.prog 46 #[.int .i64 (1 + (m : Int) % 2), .int .u32 (((a : Int) + 2) % 4294967296)] w (WideP w M f)) := Lib.hid (fun w => by
    have e : (1 + (m : Int) % 2) = ((M : Nat) : Int) := by omega
    have e2 : (((a : Int) + 2) % 4294967296) = ((f : Nat) : Int) := by omega
    rw [e, e2]; exact wide_any M f w (by omega) (by omega) hf1)
  obtain ⟨ov, hov⟩ : ∃ ov, decide ((N : Int) ≤ 128) = ov := ⟨_, rfl⟩
  have DOV := Lib.hid hov
  have OV := Lib.hid ((wide_ok hN1 ha).trans hov)
  have HN := Lib.hid hN1
  have HM := Lib.hid hM1
  have HC := Lib.hid hc
  clear hN hM hN1 hM1 hf hf1 hov
  go_enter Tryz.func9, Tryz.ntmps9
  go_wp2_with fail
  refine W1.out.mono ?_
  rintro e w1 ⟨an, cn, rfl, rx, T⟩
  replace hT := hT.mono T
  clear W1
  have t1 : Add w1 (w1.alloc (.cells #[.int .u32 1] 50)) := add_new _ _
  have n1 := litNv w1 w1.heap.size 1 rfl (by decide)
  obtain ⟨t2, hX⟩ := laid_var (w1.alloc (.cells #[.int .u32 1] 50)) false an N cn (some ⟨w1.heap.size, 0, none⟩) 1 1
  have t3 : Add ((w1.alloc (.cells #[.int .u32 1] 50)).alloc (.cells #[.bool false, .slice an N cn, .slice (some ⟨w1.heap.size, 0, none⟩) 1 1] 25)) (((w1.alloc (.cells #[.int .u32 1] 50)).alloc (.cells #[.bool false, .slice an N cn, .slice (some ⟨w1.heap.size, 0, none⟩) 1 1] 25)).alloc (.cells #[.int .u32 (c : Nat)] 50)) := add_new _ _
  have n2 := litNv ((w1.alloc (.cells #[.int .u32 1] 50)).alloc (.cells #[.bool false, .slice an N cn, .slice (some ⟨w1.heap.size, 0, none⟩) 1 1] 25)) (w1.heap.size + 1 + 1) c (by simp) HC.out
  have e1 : (w1.alloc (.cells #[.int .u32 1] 50)).heap.size = w1.heap.size + 1 := by simp
  rw [e1] at hX
  replace hX := hX.mono t3
  have n1 : Nv (((w1.alloc (.cells #[.int .u32 1] 50)).alloc (.cells #[.bool false, .slice an N cn, .slice (some ⟨w1.heap.size, 0, none⟩) 1 1] 25)).alloc (.cells #[.int .u32 (c : Nat)] 50)) (.slice (some ⟨w1.heap.size, 0, none⟩) 1 1) 1 := Nv.mono (Nv.mono n1 t2) t3
  replace T := Add.trans (Add.trans (Add.trans T t1) t2) t3
  replace rx := ((rx.mono t1).mono t2).mono t3
  replace hT := ((hT.mono t1).mono t2).mono t3
  clear t1 t2 t3 e1
  obtain ⟨WX, hWX⟩ : ∃ WX, WX = (((w1.alloc (.cells #[.int .u32 1] 50)).alloc (.cells #[.bool false, .slice an N cn, .slice (some ⟨w1.heap.size, 0, none⟩) 1 1] 25)).alloc (.cells #[.int .u32 (c : Nat)] 50)) := ⟨_, rfl⟩
  rw [← hWX] at hX n1 n2 T rx hT
  go_wp2_with fail
  rw [← hWX]
  refine (W2.out WX).mono ?_
  rintro e w2 ⟨ad, cd, rfl, ry, t1⟩
  replace hT := hT.mono t1
  replace hX := hX.mono t1
  replace n1 := n1.mono t1
  replace n2 := n2.mono t1
  replace rx := rx.mono t1
  replace T := Add.trans T t1
  clear t1 hWX W2
  have nx := wide_nv rx (by have := HN.out; omega)
  have ny := wide_nv ry (by have := HM.out; omega)
  obtain ⟨x, ex⟩ : ∃ x : Tri, (false, val (wideL N a), 1) = x := ⟨_, rfl⟩
  obtain ⟨y, ey⟩ : ∃ y : Tri, (false, c, val (wideL M f)) = y := ⟨_, rfl⟩
  have qx : FracA w2 (.agg #[.bool false, .slice an N cn, .slice (some ⟨w1.heap.size, 0, none⟩) 1 1]) x := by
    rw [← ex]; exact ⟨_, _, _, _, _, _, rfl, nx, n1⟩
  have qy : FracA w2 (.agg #[.bool false, .slice (some ⟨w1.heap.size + 1 + 1, 0, none⟩) 1 1, .slice ad M cd]) y := by
    rw [← ey]; exact ⟨_, _, _, _, _, _, rfl, n2, ny⟩
  have R7 : Hid (okF x = ov) := Lib.hid (by rw [← ex]; exact OV.out)
  clear ex ey nx ny n1 n2 rx ry OV HN HM HC hn hm ha hc
  obtain ⟨tt, hY⟩ := laid_var w2 false (some ⟨w1.heap.size + 1 + 1, 0, none⟩) 1 1 ad M cd
  replace hT := hT.mono tt
  replace hX := hX.mono tt
  replace qx := qx.mono tt
  replace qy := qy.mono tt
  replace T := Add.trans T tt
  clear tt
  obtain ⟨s1, N1, D1, c1, e1⟩ : ∃ s N D c, mulF x y = ((s, N, D), c) := ⟨_, _, _, _, rfl⟩
  have R1 := Lib.hid e1
  clear e1
  obtain ⟨s2, N2, D2, c2, e2⟩ : ∃ s N D c, addF x y = ((s, N, D), c) := ⟨_, _, _, _, rfl⟩
  have R2 := Lib.hid e2
  clear e2
  obtain ⟨s3, N3, D3, c3, e3⟩ : ∃ s N D c, quoF y x = ((s, N, D), c) := ⟨_, _, _, _, rfl⟩
  have R3 := Lib.hid e3
  clear e3
  have ha0 := hX.c0
  have ha1 := hX.c1
  have ha2 := hX.c2
  have hb0 := hY.c0
  have hb1 := hY.c1
  have hb2 := hY.c2
  go_wp2_with fail
  refine ((mulN' _ qx qy hT (Lib.hid rfl)).mono fun _ _ g => resE g R1).mono ?_
  rintro e w3 ⟨aA2, nA2, cA2, eA2, mA2, kA2, rfl, uA, vA, h3⟩
  replace hT := hT.mono h3
  replace hX := hX.mono h3
  replace hY := hY.mono h3
  replace qx := qx.mono h3
  replace qy := qy.mono h3
  replace T := Add.trans T h3
  clear h3 ha0 ha1 ha2 hb0 hb1 hb2 
  obtain ⟨tt, hA⟩ := laid_var w3 s1 aA2 nA2 cA2 eA2 mA2 kA2
  replace hT := hT.mono tt
  replace hX := hX.mono tt
  replace hY := hY.mono tt
  replace qx := qx.mono tt
  replace qy := qy.mono tt
  replace uA := uA.mono tt
  replace vA := vA.mono tt
  replace T := Add.trans T tt
  clear tt
  have ha0 := hX.c0
  have ha1 := hX.c1
  have ha2 := hX.c2
  have hb0 := hY.c0
  have hb1 := hY.c1
  have hb2 := hY.c2
  go_wp2_with fail
  refine ((refMulN2 _ qx qy (Lib.hid rfl)).mono fun _ _ g => resE g R1).mono ?_
  rintro e w4 ⟨aB3, nB3, cB3, eB3, mB3, kB3, rfl, uB, vB, h4⟩
  replace hT := hT.mono h4
  replace hX := hX.mono h4
  replace hY := hY.mono h4
  replace qx := qx.mono h4
  replace qy := qy.mono h4
  replace uA := uA.mono h4
  replace vA := vA.mono h4
  replace hA := hA.mono h4
  replace T := Add.trans T h4
  clear h4 ha0 ha1 ha2 hb0 hb1 hb2 
  obtain ⟨tt, hB⟩ := laid_var w4 s1 aB3 nB3 cB3 eB3 mB3 kB3
  replace hT := hT.mono tt
  replace hX := hX.mono tt
  replace hY := hY.mono tt
  replace qx := qx.mono tt
  replace qy := qy.mono tt
  replace uA := uA.mono tt
  replace vA := vA.mono tt
  replace hA := hA.mono tt
  replace uB := uB.mono tt
  replace vB := vB.mono tt
  replace T := Add.trans T tt
  clear tt
  have ha0 := hX.c0
  have ha1 := hX.c1
  have ha2 := hX.c2
  have hb0 := hY.c0
  have hb1 := hY.c1
  have hb2 := hY.c2
  go_wp2_with fail
  refine ((addN' _ qx qy hT (Lib.hid rfl)).mono fun _ _ g => resE g R2).mono ?_
  rintro e w5 ⟨aC4, nC4, cC4, eC4, mC4, kC4, rfl, uC, vC, h5⟩
  replace hT := hT.mono h5
  replace hX := hX.mono h5
  replace hY := hY.mono h5
  replace qx := qx.mono h5
  replace qy := qy.mono h5
  replace uA := uA.mono h5
  replace vA := vA.mono h5
  replace hA := hA.mono h5
  replace uB := uB.mono h5
  replace vB := vB.mono h5
  replace hB := hB.mono h5
  replace T := Add.trans T h5
  clear h5 ha0 ha1 ha2 hb0 hb1 hb2 
  obtain ⟨tt, hC⟩ := laid_var w5 s2 aC4 nC4 cC4 eC4 mC4 kC4
  replace hT := hT.mono tt
  replace hX := hX.mono tt
  replace hY := hY.mono tt
  replace qx := qx.mono tt
  replace qy := qy.mono tt
  replace uA := uA.mono tt
  replace vA := vA.mono tt
  replace hA := hA.mono tt
  replace uB := uB.mono tt
  replace vB := vB.mono tt
  replace hB := hB.mono tt
  replace uC := uC.mono tt
  replace vC := vC.mono tt
  replace T := Add.trans T tt
  clear tt
  have ha0 := hX.c0
  have ha1 := hX.c1
  have ha2 := hX.c2
  have hb0 := hY.c0
  have hb1 := hY.c1
  have hb2 := hY.c2
  go_wp2_with fail
  refine ((refAddN2 _ qx qy (Lib.hid rfl)).mono fun _ _ g => resE g R2).mono ?_
  rintro e w6 ⟨aD5, nD5, cD5, eD5, mD5, kD5, rfl, uD, vD, h6⟩
  replace hT := hT.mono h6
  replace hX := hX.mono h6
  replace hY := hY.mono h6
  replace qx := qx.mono h6
  replace qy := qy.mono h6
  replace uA := uA.mono h6
  replace vA := vA.mono h6
  replace hA := hA.mono h6
  replace uB := uB.mono h6
  replace vB := vB.mono h6
  replace hB := hB.mono h6
  replace uC := uC.mono h6
  replace vC := vC.mono h6
  replace hC := hC.mono h6
  replace T := Add.trans T h6
  clear h6 ha0 ha1 ha2 hb0 hb1 hb2 
  obtain ⟨tt, hD⟩ := laid_var w6 s2 aD5 nD5 cD5 eD5 mD5 kD5
  replace hT := hT.mono tt
  replace hX := hX.mono tt
  replace hY := hY.mono tt
  replace qx := qx.mono tt
  replace qy := qy.mono tt
  replace uA := uA.mono tt
  replace vA := vA.mono tt
  replace hA := hA.mono tt
  replace uB := uB.mono tt
  replace vB := vB.mono tt
  replace hB := hB.mono tt
  replace uC := uC.mono tt
  replace vC := vC.mono tt
  replace hC := hC.mono tt
  replace uD := uD.mono tt
  replace vD := vD.mono tt
  replace T := Add.trans T tt
  clear tt
  have ha0 := hX.c0
  have ha1 := hX.c1
  have ha2 := hX.c2
  have hb0 := hY.c0
  have hb1 := hY.c1
  have hb2 := hY.c2
  go_wp2_with fail
  refine ((quoN' _ qy qx hT (Lib.hid rfl)).mono fun _ _ g => resE g R3).mono ?_
  rintro e w7 ⟨aE6, nE6, cE6, eE6, mE6, kE6, rfl, uE, vE, h7⟩
  replace hT := hT.mono h7
  replace hX := hX.mono h7
  replace hY := hY.mono h7
  replace qx := qx.mono h7
  replace qy := qy.mono h7
  replace uA := uA.mono h7
  replace vA := vA.mono h7
  replace hA := hA.mono h7
  replace uB := uB.mono h7
  replace vB := vB.mono h7
  replace hB := hB.mono h7
  replace uC := uC.mono h7
  replace vC := vC.mono h7
  replace hC := hC.mono h7
  replace uD := uD.mono h7
  replace vD := vD.mono h7
  replace hD := hD.mono h7
  replace T := Add.trans T h7
  clear h7 ha0 ha1 ha2 hb0 hb1 hb2 
  obtain ⟨tt, hE⟩ := laid_var w7 s3 aE6 nE6 cE6 eE6 mE6 kE6
  replace hT := hT.mono tt
  replace hX := hX.mono tt
  replace hY := hY.mono tt
  replace qx := qx.mono tt
  replace qy := qy.mono tt
  replace uA := uA.mono tt
  replace vA := vA.mono tt
  replace hA := hA.mono tt
  replace uB := uB.mono tt
  replace vB := vB.mono tt
  replace hB := hB.mono tt
  replace uC := uC.mono tt
  replace vC := vC.mono tt
  replace hC := hC.mono tt
  replace uD := uD.mono tt
  replace vD := vD.mono tt
  replace hD := hD.mono tt
  replace uE := uE.mono tt
  replace vE := vE.mono tt
  replace T := Add.trans T tt
  clear tt
  have ha0 := hX.c0
  have ha1 := hX.c1
  have ha2 := hX.c2
  have hb0 := hY.c0
  have hb1 := hY.c1
  have hb2 := hY.c2
  go_wp2_with fail
  refine ((refQuoN2 _ qy qx (Lib.hid rfl)).mono fun _ _ g => resE g R3).mono ?_
  rintro e w8 ⟨aF7, nF7, cF7, eF7, mF7, kF7, rfl, uF, vF, h8⟩
  replace hT := hT.mono h8
  replace hX := hX.mono h8
  replace hY := hY.mono h8
  replace qx := qx.mono h8
  replace qy := qy.mono h8
  replace uA := uA.mono h8
  replace vA := vA.mono h8
  replace hA := hA.mono h8
  replace uB := uB.mono h8
  replace vB := vB.mono h8
  replace hB := hB.mono h8
  replace uC := uC.mono h8
  replace vC := vC.mono h8
  replace hC := hC.mono h8
  replace uD := uD.mono h8
  replace vD := vD.mono h8
  replace hD := hD.mono h8
  replace uE := uE.mono h8
  replace vE := vE.mono h8
  replace hE := hE.mono h8
  replace T := Add.trans T h8
  clear h8 ha0 ha1 ha2 hb0 hb1 hb2 
  obtain ⟨tt, hF⟩ := laid_var w8 s3 aF7 nF7 cF7 eF7 mF7 kF7
  replace hT := hT.mono tt
  replace hX := hX.mono tt
  replace hY := hY.mono tt
  replace qx := qx.mono tt
  replace qy := qy.mono tt
  replace uA := uA.mono tt
  replace vA := vA.mono tt
  replace hA := hA.mono tt
  replace uB := uB.mono tt
  replace vB := vB.mono tt
  replace hB := hB.mono tt
  replace uC := uC.mono tt
  replace vC := vC.mono tt
  replace hC := hC.mono tt
  replace uD := uD.mono tt
  replace vD := vD.mono tt
  replace hD := hD.mono tt
  replace uE := uE.mono tt
  replace vE := vE.mono tt
  replace hE := hE.mono tt
  replace uF := uF.mono tt
  replace vF := vF.mono tt
  replace T := Add.trans T tt
  clear tt
  go_wp2_with fail
  obtain ⟨W5, hW5⟩ : ∃ W5, W5 = (w8.alloc (.cells #[.bool s3, .slice aF7 nF7 cF7, .slice eF7 mF7 kF7] 25)) := ⟨_, rfl⟩
  rw [← hW5] at hT hX hY qx qy uA vA hA uB vB hB uC vC hC uD vD hD uE vE hE uF vF hF T ⊢
  clear hW5
  have K0 : Hid (∀ w', Add W5 w' → w'.cell? ⟨w3.heap.size, 0, none⟩ = some (.bool s1) ∧ w'.cell? ⟨w3.heap.size, 1, none⟩ = some (.slice aA2 nA2 cA2) ∧ w'.cell? ⟨w3.heap.size, 2, none⟩ = some (.slice eA2 mA2 kA2) ∧ w'.cell? ⟨w4.heap.size, 0, none⟩ = some (.bool s1) ∧ w'.cell? ⟨w4.heap.size, 1, none⟩ = some (.slice aB3 nB3 cB3) ∧ w'.cell? ⟨w4.heap.size, 2, none⟩ = some (.slice eB3 mB3 kB3) ∧ w'.cell? ⟨w5.heap.size, 0, none⟩ = some (.bool s2) ∧ w'.cell? ⟨w5.heap.size, 1, none⟩ = some (.slice aC4 nC4 cC4) ∧ w'.cell? ⟨w5.heap.size, 2, none⟩ = some (.slice eC4 mC4 kC4) ∧ w'.cell? ⟨w6.heap.size, 0, none⟩ = some (.bool s2) ∧ w'.cell? ⟨w6.heap.size, 1, none⟩ = some (.slice aD5 nD5 cD5) ∧ w'.cell? ⟨w6.heap.size, 2, none⟩ = some (.slice eD5 mD5 kD5) ∧ w'.cell? ⟨w7.heap.size, 0, none⟩ = some (.bool s3) ∧ w'.cell? ⟨w7.heap.size, 1, none⟩ = some (.slice aE6 nE6 cE6) ∧ w'.cell? ⟨w7.heap.size, 2, none⟩ = some (.slice eE6 mE6 kE6) ∧ w'.cell? ⟨w8.heap.size, 0, none⟩ = some (.bool s3) ∧ w'.cell? ⟨w8.heap.size, 1, none⟩ = some (.slice aF7 nF7 cF7) ∧ w'.cell? ⟨w8.heap.size, 2, none⟩ = some (.slice eF7 mF7 kF7) ∧ w'.cell? ⟨w1.heap.size + 1, 0, none⟩ = some (.bool false) ∧ w'.cell? ⟨w1.heap.size + 1, 1, none⟩ = some (.slice an N cn) ∧ w'.cell? ⟨w1.heap.size + 1, 2, none⟩ = some (.slice (some ⟨w1.heap.size, 0, none⟩) 1 1)) := Lib.hid fun w' a => ⟨(hA.mono a).c0, (hA.mono a).c1, (hA.mono a).c2, (hB.mono a).c0, (hB.mono a).c1, (hB.mono a).c2, (hC.mono a).c0, (hC.mono a).c1, (hC.mono a).c2, (hD.mono a).c0, (hD.mono a).c1, (hD.mono a).c2, (hE.mono a).c0, (hE.mono a).c1, (hE.mono a).c2, (hF.mono a).c0, (hF.mono a).c1, (hF.mono a).c2, (hX.mono a).c0, (hX.mono a).c1, (hX.mono a).c2⟩
  have C1 : Hid (∀ w', Add W5 w' → Calls Tryz.prog 22 #[.agg #[.bool s1, .slice aA2 nA2 cA2, .slice eA2 mA2 kA2], .agg #[.bool s1, .slice aB3 nB3 cB3, .slice eB3 mB3 kB3]] w' (BoolIs w' true)) := Lib.hid fun w' a => sameF true (fracT_mk (b := s1) (uA.mono a) (vA.mono a)) (fracT_mk (b := s1) (uB.mono a) (vB.mono a)) (Lib.hid (decide_eq_true rfl))
  have C2 : Hid (∀ w', Add W5 w' → Calls Tryz.prog 22 #[.agg #[.bool s2, .slice aC4 nC4 cC4, .slice eC4 mC4 kC4], .agg #[.bool s2, .slice aD5 nD5 cD5, .slice eD5 mD5 kD5]] w' (BoolIs w' true)) := Lib.hid fun w' a => sameF true (fracT_mk (b := s2) (uC.mono a) (vC.mono a)) (fracT_mk (b := s2) (uD.mono a) (vD.mono a)) (Lib.hid (decide_eq_true rfl))
  have C3 : Hid (∀ w', Add W5 w' → Calls Tryz.prog 22 #[.agg #[.bool s3, .slice aE6 nE6 cE6, .slice eE6 mE6 kE6], .agg #[.bool s3, .slice aF7 nF7 cF7, .slice eF7 mF7 kF7]] w' (BoolIs w' true)) := Lib.hid fun w' a => sameF true (fracT_mk (b := s3) (uE.mono a) (vE.mono a)) (fracT_mk (b := s3) (uF.mono a) (vF.mono a)) (Lib.hid (decide_eq_true rfl))
  have C4 : Hid (∀ w', Add W5 w' → Calls Tryz.prog 31 #[.agg #[.bool false, .slice an N cn, .slice (some ⟨w1.heap.size, 0, none⟩) 1 1]] w' (BoolIs w' ov)) := Lib.hid fun w' a => validN ov (qx.mono a) R7
  have C5 : Hid (∀ w', Add W5 w' → Calls Tryz.prog 17 #[] w' (Awake2P w')) := Lib.hid fun w' a => awake2_any w' (hT.mono a)
  have dov := DOV.out
  have gA0 := hA.c0
  have gA1 := hA.c1
  have gA2 := hA.c2
  have gB0 := hB.c0
  have gB1 := hB.c1
  have gB2 := hB.c2
  have gC0 := hC.c0
  have gC1 := hC.c1
  have gC2 := hC.c2
  have gD0 := hD.c0
  have gD1 := hD.c1
  have gD2 := hD.c2
  have gE0 := hE.c0
  have gE1 := hE.c1
  have gE2 := hE.c2
  have gF0 := hF.c0
  have gF1 := hF.c1
  have gF2 := hF.c2
  have gX0 := hX.c0
  have gX1 := hX.c1
  have gX2 := hX.c2
  clear hT hX hY qx qy uA vA hA uB vB hB uC vC hC uD vD hD uE vE hE uF vF hF R7
  go_region_held3 (fun w' => w'.cell? ⟨w3.heap.size, 0, none⟩ = some (.bool s1) ∧ w'.cell? ⟨w3.heap.size, 1, none⟩ = some (.slice aA2 nA2 cA2) ∧ w'.cell? ⟨w3.heap.size, 2, none⟩ = some (.slice eA2 mA2 kA2) ∧ w'.cell? ⟨w4.heap.size, 0, none⟩ = some (.bool s1) ∧ w'.cell? ⟨w4.heap.size, 1, none⟩ = some (.slice aB3 nB3 cB3) ∧ w'.cell? ⟨w4.heap.size, 2, none⟩ = some (.slice eB3 mB3 kB3) ∧ w'.cell? ⟨w5.heap.size, 0, none⟩ = some (.bool s2) ∧ w'.cell? ⟨w5.heap.size, 1, none⟩ = some (.slice aC4 nC4 cC4) ∧ w'.cell? ⟨w5.heap.size, 2, none⟩ = some (.slice eC4 mC4 kC4) ∧ w'.cell? ⟨w6.heap.size, 0, none⟩ = some (.bool s2) ∧ w'.cell? ⟨w6.heap.size, 1, none⟩ = some (.slice aD5 nD5 cD5) ∧ w'.cell? ⟨w6.heap.size, 2, none⟩ = some (.slice eD5 mD5 kD5) ∧ w'.cell? ⟨w7.heap.size, 0, none⟩ = some (.bool s3) ∧ w'.cell? ⟨w7.heap.size, 1, none⟩ = some (.slice aE6 nE6 cE6) ∧ w'.cell? ⟨w7.heap.size, 2, none⟩ = some (.slice eE6 mE6 kE6) ∧ w'.cell? ⟨w8.heap.size, 0, none⟩ = some (.bool s3) ∧ w'.cell? ⟨w8.heap.size, 1, none⟩ = some (.slice aF7 nF7 cF7) ∧ w'.cell? ⟨w8.heap.size, 2, none⟩ = some (.slice eF7 mF7 kF7) ∧ w'.cell? ⟨w1.heap.size + 1, 0, none⟩ = some (.bool false) ∧ w'.cell? ⟨w1.heap.size + 1, 1, none⟩ = some (.slice an N cn) ∧ w'.cell? ⟨w1.heap.size + 1, 2, none⟩ = some (.slice (some ⟨w1.heap.size, 0, none⟩) 1 1))
    (first | exact K0.out _ (Below.drew (Below.refl _ _)) | exact K0.out _ a2 | exact K0.out _ a3 | exact K0.out _ a4 | exact K0.out _ a5 | exact K0.out _ a6 | go_keep)
    (first | (go_at_call 22; ((with_reducible refine (C1.out _ (Below.drew (Below.refl _ _))).mono ?_); rintro e z1 ⟨rfl, hq1⟩; have a2 := Add.trans (Below.drew (Below.refl _ _) : Add W5 (World.drew W5)) hq1))
           | (go_at_call 22; ((with_reducible refine (C2.out _ a2).mono ?_); rintro e z2 ⟨rfl, hq2⟩; have a3 := Add.trans a2 hq2))
           | (go_at_call 22; ((with_reducible refine (C3.out _ a3).mono ?_); rintro e z3 ⟨rfl, hq3⟩; have a4 := Add.trans a3 hq3))
           | (go_at_call 31; ((with_reducible refine (C4.out _ a4).mono ?_); rintro e z4 ⟨rfl, hq4⟩; have a5 := Add.trans a4 hq4))
           | (go_at_call 17; ((with_reducible refine (C5.out _ a5).mono ?_); rintro e z5 ⟨rfl, hq5⟩; have a6 := Add.trans a5 hq5)))
  go_wp2_with fail
  go_ret
  exact ⟨rfl, Add.trans T a6⟩
theorem byteU8 {z : Int} (h : (Lit.int .u8 z).wf = true) : ∃ n : Nat, n < 256 ∧ z = (n : Int) := by
  have h1 : IntKind.u8.min = 0 := rfl
  have h2 : IntKind.u8.max = 255 := rfl
  simp only [Lit.wf, Bool.and_eq_true, decide_eq_true_eq] at h
  exact ⟨z.toNat, by omega, by omega⟩
theorem wordU32 {z : Int} (h : (Lit.int .u32 z).wf = true) : ∃ n : Nat, n < 4294967296 ∧ z = (n : Int) := by
  have h1 : IntKind.u32.min = 0 := rfl
  have h2 : IntKind.u32.max = 4294967295 := rfl
  simp only [Lit.wf, Bool.and_eq_true, decide_eq_true_eq] at h
  exact ⟨z.toNat, by omega, by omega⟩
end Go.Proofs.YtfoffjnffkgnaaaGreatDoor.LimF
