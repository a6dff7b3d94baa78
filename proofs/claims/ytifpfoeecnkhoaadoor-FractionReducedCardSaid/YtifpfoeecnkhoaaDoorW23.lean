/- Gcd. -/
import Derived.Test.YtifpfoeecnkhoaaDoorW22
namespace Go.Proofs.YtifpfoeecnkhoaaDoor
open Go.RowKit NatM

theorem gcd_big (va vb : Value) (xs ys : List Nat) (w : World) (ha : Reads w va xs) (hb : Reads w vb ys) (hAB : pw 512 ≤ val xs ∨ pw 512 ≤ val ys) :
    Calls Tryd.prog 51 #[va, vb] w (ErrP w 2) := by
  by_cases hA : pw 512 ≤ val xs
  · have LA := big_large ha hA
    clear hA hAB
    go_enter Tryd.func51, Tryd.ntmps51
    go_wp2_with fail
    refine (large_is true _ _ _ ha LA.out).mono ?_; rintro e w' ⟨rfl, rfl⟩
    go_wp2_with fail
    go_ret2
    exact ⟨rfl, Below.refl _ _⟩
  · have LA := small_large ha (by omega)
    have LB := big_large hb (by omega)
    clear hA hAB
    go_enter Tryd.func51, Tryd.ntmps51
    go_wp2_with fail
    refine (large_is false _ _ _ ha LA.out).mono ?_; rintro e w' ⟨rfl, rfl⟩
    go_wp2_with fail
    refine (large_is true _ _ _ hb LB.out).mono ?_; rintro e w' ⟨rfl, rfl⟩
    go_wp2_with fail
    go_ret2
    exact ⟨rfl, Below.refl _ _⟩

theorem own_at {w : World} {base g n : Nat} {xs : List Nat} (h : Own w base g n (trim xs)) (hx : Limbs xs) (hl : n ≤ 1000002) : At w base g n (trim xs) (val xs) := by
  have hn := h.length
  refine ⟨h.lt.1, h.row, by omega, by omega, hx.take _, ?_, ?_⟩
  · rw [List.take_of_length_le (by omega)]; exact Canon.trim _
  · rw [List.take_of_length_le (by omega), val_trim]
theorem At.base {w : World} {base base' g m : Nat} {zs : List Nat} {N : Nat} (h : At w base g m zs N) (hb : base' ≤ base) : At w base' g m zs N := ⟨by have := h.1; omega, h.2⟩

/-- The end of Gcd: b has at most two limbs. -/
def GcdSt (w : World) (G : Nat) (R : Nat) (v1 v2 : Value) (wr : World) : Prop :=
  ∃ A' B', Pair wr w.heap.size v1 v2 A' B' ∧ B' = R ∧ B' ≤ A' ∧ A' < pw 512 ∧ Nat.gcd A' B' = G ∧ Add w wr
theorem word_val {ys : List Nat} (h : Limbs ys) (hl : ys.length ≤ 2) : ys.getD 0 0 + 4294967296 * ys.getD 1 0 = val ys := by
  match ys, hl with
  | [], _ => rfl
  | [a], _ => simp [val]
  | [a, b], _ => simp [val]
set_option maxRecDepth 100000 in
set_option maxHeartbeats 4000000 in
theorem gcd_ok (va vb : Value) (xs ys : List Nat) (w : World) (ha : Reads w va xs) (hb : Reads w vb ys) (hs : xs.length ≤ 1000000) (hs' : ys.length ≤ 1000000) (hA : val xs < pw 512) (hB : val ys < pw 512) :
    Calls Tryd.prog 51 #[va, vb] w (OkP w (Nat.gcd (val xs) (val ys))) := by
  have LA := small_large ha hA
  have LB := small_large hb hB
  have l1 := tlen_le xs
  have l2 := tlen_le ys
  have hx := Lib.hid ha.limbs
  have hy := Lib.hid hb.limbs
  obtain ⟨A, hAe⟩ : ∃ A, A = val xs := ⟨_, rfl⟩
  obtain ⟨B, hBe⟩ : ∃ B, B = val ys := ⟨_, rfl⟩
  obtain ⟨G, hG⟩ : ∃ G, G = Nat.gcd A B := ⟨_, rfl⟩
  rw [← hAe, ← hBe, ← hG]
  rw [← hAe] at hA
  rw [← hBe] at hB
  have HA := Lib.hid hA
  have HB := Lib.hid hB
  have HG := Lib.hid hG
  have HAE := Lib.hid hAe
  have HBE := Lib.hid hBe
  clear hA hB hG hAe hBe
  go_enter Tryd.func51, Tryd.ntmps51
  go_wp2_with fail
  refine (large_is false _ _ _ ha LA.out).mono ?_; rintro e w' ⟨rfl, rfl⟩
  go_wp2_with fail
  refine (large_is false _ _ _ hb LB.out).mono ?_; rintro e w' ⟨rfl, rfl⟩
  go_wp2_with fail
  refine (trim_any _ _ _ ha hs).mono ?_; rintro e w1 ⟨ga, na, rfl, ho1, hn1, hadd1⟩
  have bn1 : na ≤ 1000000 := by omega
  clear hn1
  go_wp2_with fail
  refine (trim_any _ _ _ (hb.mono hadd1) hs').mono ?_; rintro e w2 ⟨gb, nb', rfl, ho2, hn2, hadd2⟩
  have bn2 : nb' ≤ 1000000 := by omega
  clear hn2
  have hne : ga ≠ gb := by have := ho1.lt.2; have := ho2.lt.1; omega
  have a1 := (own_at ho1 hx.out (by omega)).below hadd2
  have a2 := (own_at ho2 hy.out (by omega)).base hadd1.size
  rw [← HAE.out] at a1
  rw [← HBE.out] at a2
  have hadd := Add.trans hadd1 hadd2
  have r1 := a1.reads
  have r2 := a2.reads
  have e1 : val ((trim xs).take na) = A := a1.2.2.2.2.2.2
  have e2 : val ((trim ys).take nb') = B := a2.2.2.2.2.2.2
  have E1 := Lib.hid e1
  have E2 := Lib.hid e2
  clear ho1 ho2 hadd1 hadd2 e1 e2 ha hb l1 l2 hs hs'
  go_wp2_with fail
  refine (cmp_any _ _ _ _ _ r1 r2).mono ?_
  rw [E1.out, E2.out]
  rintro e w3 ⟨rfl, q, rfl⟩
  by_cases hlt : A < B
  · have hc0 : decide (cmpI A B < 0) = true := by rw [decide_eq_true_iff, cmp_neg]; exact hlt
    have HLT := Lib.hid hlt
    clear hlt
    go_wp2_with fail
    have hst : GcdSt w G A (.slice (some ⟨gb, 0, none⟩) nb' nb') (.slice (some ⟨ga, 0, none⟩) na na) (w2.drewN q) :=
      ⟨B, A, ⟨gb, ga, nb', na, _, _, rfl, rfl, fun e => hne e.symm, (a2).below (below_drewN (Below.refl _ _) _), (a1).below (below_drewN (Below.refl _ _) _)⟩, rfl, Nat.le_of_lt HLT.out, HB.out, by rw [HG.out]; exact Nat.gcd_comm _ _, below_drewN hadd _⟩
    clear a1 a2 r1 r2 hadd hne hc0
    go_loopg [0, 1] A (fun R v1 v2 wr => GcdSt w G R v1 v2 wr)
    case atStart => exact hst
    case round =>
      clear hst
      obtain ⟨A', B', ⟨ga', gb', m, n, xs', ys', rfl, rfl, hne', hA1, hB1⟩, hBR, hle, h512, hg, hadd'⟩ := hrel
      have hmm := hA1.len h512
      have hnn := hB1.len (Nat.lt_of_le_of_lt hle h512)
      have HG' := Lib.hid hg
      have H512 := Lib.hid h512
      have HLE := Lib.hid hle
      have HBR := Lib.hid hBR
      clear hg h512 hle hBR
      by_cases h2 : 2 < n
      · have HC := Lib.hid (nearer_any ga' gb' m n w.heap.size A' B' xs' ys' wr hA1 hB1 hne' HLE.out H512.out h2)
        clear hA1 hB1
        go_wp2_with fail
        refine HC.out.mono ?_
        rintro e w5 ⟨v1, v2, A2, B2, rfl, hp, hlt2, hle2, hA2, hg2, hb2⟩
        have hst2 : GcdSt w G B2 v1 v2 w5 := ⟨A2, B2, hp, rfl, hle2, Nat.lt_of_le_of_lt hA2 (Nat.lt_of_le_of_lt HLE.out H512.out), by rw [hg2]; exact HG'.out, Below.trans hadd' hb2⟩
        have hltk : B2 < gk := by rw [← HBR.out]; exact hlt2
        clear hp hlt2 hle2 hA2 hg2 hb2 hadd'
        go_wp2_with fail
        go_roundg B2
        case measure => exact hltk
        case rel => exact hst2
      · have vB : val (ys'.take n) = B' := hB1.2.2.2.2.2.2
        have vA : val (xs'.take m) = A' := hA1.2.2.2.2.2.2
        have VB := Lib.hid vB
        have VA := Lib.hid vA
        clear vA vB
        by_cases h0 : n = 0
        · subst h0
          have hB0 : B' = 0 := by rw [← VB.out]; simp [val]
          have hAG : A' = G := by rw [← HG'.out, hB0, Nat.gcd_zero_right]
          have hN : Num wr (.slice (some ⟨ga', 0, none⟩) m m) G := ⟨_, hA1.reads, hA1.2.2.2.2.2.1, by rw [VA.out]; exact hAG⟩
          clear hA1 hB1 hB0 hAG
          go_wp2_with fail
          go_ret2
          exact ⟨_, rfl, hN, hadd'⟩
        · have hBp : B' ≠ 0 := by
            intro h
            have := hB1.len (k := 0) (by rw [h]; exact pw_pos 0)
            omega
          have hl2 : ((ys'.take n).length ≤ 2) := by rw [List.length_take]; omega
          have hlB := hB1.2.2.2.2.1.take n
          have HB1 := Lib.hid hB1
          have HDV := Lib.hid (divide_any _ _ _ _ wr hA1.reads hB1.reads (by rw [List.length_take]; omega) (by rw [List.length_take]; omega) hB1.2.2.2.2.2.1 (by rw [VB.out]; exact hBp))
          rw [VA.out, VB.out] at HDV
          have hne0 : ((n : Int) == 0) = false := by simp; omega
          clear hA1 hB1
          go_wp2_with fail
          refine HDV.out.mono ?_
          rintro e w5 ⟨vq, vr, rfl, -, hr, hadd5⟩
          have hb5 := (HB1.out.below hadd5).reads
          obtain ⟨gr, zr, mr, rfl, hr1, hr2, hr3, hr4, hr5, hr6, hr7⟩ := hr
          have hrr : Reads w5 (.slice (some ⟨gr, 0, none⟩) mr mr) (zr.take mr) := hr2.reads hr3 (Nat.le_refl _) (by unfold maxLen; omega) hr5
          have hRB : A' % B' < B' := Nat.mod_lt _ (Nat.pos_of_ne_zero hBp)
          have hB2 : B' < pw 2 := by
            rw [← VB.out]
            have h1 := val_lt hlB
            exact Nat.lt_of_lt_of_le h1 (pw_le hl2)
          have hmr2 : (zr.take mr).length ≤ 2 := by
            have h1 := tlen_le_of_val (xs := zr.take mr) 2 (by rw [hr7]; omega)
            unfold Canon at hr6
            omega
          have e2 := word_val (hr5.take mr) hmr2
          have e1 := word_val hlB hl2
          rw [hr7] at e2
          rw [VB.out] at e1
          have hp2 : pw 2 = 18446744073709551616 := by decide
          have hgl : Nat.gcd B' (A' % B') < 18446744073709551616 := Nat.lt_of_le_of_lt (Nat.gcd_le_left _ (Nat.pos_of_ne_zero hBp)) (by omega)
          have hgG : Nat.gcd B' (A' % B') = G := by rw [← HG'.out, Nat.gcd_comm B', ← Nat.gcd_rec, Nat.gcd_comm]
          obtain ⟨rr, hrre⟩ : ∃ rr, rr = A' % B' := ⟨_, rfl⟩
          rw [← hrre] at hgl hgG e2 hRB
          have HGG := Lib.hid hgG
          have hWB := word_fn _ _ 0 B' w5 hb5 (by omega) (Lib.hid e1.symm)
          have hWR := word_fn _ _ 0 rr w5 hrr (by omega) (Lib.hid e2.symm)
          have HWB := Lib.hid hWB
          have HWR := Lib.hid hWR
          have hB64 : B' < 18446744073709551616 := by omega
          have hR64 : rr < 18446744073709551616 := by omega
          have hadd6 := Add.trans hadd' hadd5
          rw [hgG] at hgl
          clear hWB hWR e1 e2 hr1 hr2 hr3 hr4 hr5 hr6 hr7 hrre hgG hb5 hrr hRB hmr2 hl2 hlB HB1 hadd' hadd5 h0 hBp hB2
          go_wp2_with fail
          refine HWB.out.mono ?_
          rintro e wy ⟨rfl, rfl⟩
          go_wp2_with fail
          refine HWR.out.mono ?_
          rintro e wy ⟨rfl, rfl⟩
          go_wp2_with fail
          refine (gcdOfWords_any _ _ _ hB64 hR64).mono ?_
          rintro e w6 ⟨rfl, hadd7⟩
          rw [HGG.out]
          go_wp2_with fail
          refine (make_any _ _ (by omega) (by omega)).mono ?_
          rintro e w7 ⟨v, rfl, hv, hadd8⟩
          rw [Int.toNat_natCast] at hv
          have hadd9 := Add.trans hadd6 (Add.trans hadd7 hadd8)
          clear hadd6 hadd7 hadd8
          go_wp2_with fail
          go_ret2
          exact ⟨_, rfl, hv, hadd9⟩
  · have hc0 : decide (cmpI A B < 0) = false := by rw [decide_eq_false_iff_not, cmp_neg]; exact hlt
    have HLT : Hid (B ≤ A) := Lib.hid (by omega)
    clear hlt
    go_wp2_with fail
    have hst : GcdSt w G B (.slice (some ⟨ga, 0, none⟩) na na) (.slice (some ⟨gb, 0, none⟩) nb' nb') (w2.drewN q) :=
      ⟨A, B, ⟨ga, gb, na, nb', _, _, rfl, rfl, hne, (a1).below (below_drewN (Below.refl _ _) _), (a2).below (below_drewN (Below.refl _ _) _)⟩, rfl, HLT.out, HA.out, HG.out.symm, below_drewN hadd _⟩
    clear a1 a2 r1 r2 hadd hne hc0
    go_loopg [0, 1] B (fun R v1 v2 wr => GcdSt w G R v1 v2 wr)
    case atStart => exact hst
    case round =>
      clear hst
      obtain ⟨A', B', ⟨ga', gb', m, n, xs', ys', rfl, rfl, hne', hA1, hB1⟩, hBR, hle, h512, hg, hadd'⟩ := hrel
      have hmm := hA1.len h512
      have hnn := hB1.len (Nat.lt_of_le_of_lt hle h512)
      have HG' := Lib.hid hg
      have H512 := Lib.hid h512
      have HLE := Lib.hid hle
      have HBR := Lib.hid hBR
      clear hg h512 hle hBR
      by_cases h2 : 2 < n
      · have HC := Lib.hid (nearer_any ga' gb' m n w.heap.size A' B' xs' ys' wr hA1 hB1 hne' HLE.out H512.out h2)
        clear hA1 hB1
        go_wp2_with fail
        refine HC.out.mono ?_
        rintro e w5 ⟨v1, v2, A2, B2, rfl, hp, hlt2, hle2, hA2, hg2, hb2⟩
        have hst2 : GcdSt w G B2 v1 v2 w5 := ⟨A2, B2, hp, rfl, hle2, Nat.lt_of_le_of_lt hA2 (Nat.lt_of_le_of_lt HLE.out H512.out), by rw [hg2]; exact HG'.out, Below.trans hadd' hb2⟩
        have hltk : B2 < gk := by rw [← HBR.out]; exact hlt2
        clear hp hlt2 hle2 hA2 hg2 hb2 hadd'
        go_wp2_with fail
        go_roundg B2
        case measure => exact hltk
        case rel => exact hst2
      · have vB : val (ys'.take n) = B' := hB1.2.2.2.2.2.2
        have vA : val (xs'.take m) = A' := hA1.2.2.2.2.2.2
        have VB := Lib.hid vB
        have VA := Lib.hid vA
        clear vA vB
        by_cases h0 : n = 0
        · subst h0
          have hB0 : B' = 0 := by rw [← VB.out]; simp [val]
          have hAG : A' = G := by rw [← HG'.out, hB0, Nat.gcd_zero_right]
          have hN : Num wr (.slice (some ⟨ga', 0, none⟩) m m) G := ⟨_, hA1.reads, hA1.2.2.2.2.2.1, by rw [VA.out]; exact hAG⟩
          clear hA1 hB1 hB0 hAG
          go_wp2_with fail
          go_ret2
          exact ⟨_, rfl, hN, hadd'⟩
        · have hBp : B' ≠ 0 := by
            intro h
            have := hB1.len (k := 0) (by rw [h]; exact pw_pos 0)
            omega
          have hl2 : ((ys'.take n).length ≤ 2) := by rw [List.length_take]; omega
          have hlB := hB1.2.2.2.2.1.take n
          have HB1 := Lib.hid hB1
          have HDV := Lib.hid (divide_any _ _ _ _ wr hA1.reads hB1.reads (by rw [List.length_take]; omega) (by rw [List.length_take]; omega) hB1.2.2.2.2.2.1 (by rw [VB.out]; exact hBp))
          rw [VA.out, VB.out] at HDV
          have hne0 : ((n : Int) == 0) = false := by simp; omega
          clear hA1 hB1
          go_wp2_with fail
          refine HDV.out.mono ?_
          rintro e w5 ⟨vq, vr, rfl, -, hr, hadd5⟩
          have hb5 := (HB1.out.below hadd5).reads
          obtain ⟨gr, zr, mr, rfl, hr1, hr2, hr3, hr4, hr5, hr6, hr7⟩ := hr
          have hrr : Reads w5 (.slice (some ⟨gr, 0, none⟩) mr mr) (zr.take mr) := hr2.reads hr3 (Nat.le_refl _) (by unfold maxLen; omega) hr5
          have hRB : A' % B' < B' := Nat.mod_lt _ (Nat.pos_of_ne_zero hBp)
          have hB2 : B' < pw 2 := by
            rw [← VB.out]
            have h1 := val_lt hlB
            exact Nat.lt_of_lt_of_le h1 (pw_le hl2)
          have hmr2 : (zr.take mr).length ≤ 2 := by
            have h1 := tlen_le_of_val (xs := zr.take mr) 2 (by rw [hr7]; omega)
            unfold Canon at hr6
            omega
          have e2 := word_val (hr5.take mr) hmr2
          have e1 := word_val hlB hl2
          rw [hr7] at e2
          rw [VB.out] at e1
          have hp2 : pw 2 = 18446744073709551616 := by decide
          have hgl : Nat.gcd B' (A' % B') < 18446744073709551616 := Nat.lt_of_le_of_lt (Nat.gcd_le_left _ (Nat.pos_of_ne_zero hBp)) (by omega)
          have hgG : Nat.gcd B' (A' % B') = G := by rw [← HG'.out, Nat.gcd_comm B', ← Nat.gcd_rec, Nat.gcd_comm]
          obtain ⟨rr, hrre⟩ : ∃ rr, rr = A' % B' := ⟨_, rfl⟩
          rw [← hrre] at hgl hgG e2 hRB
          have HGG := Lib.hid hgG
          have hWB := word_fn _ _ 0 B' w5 hb5 (by omega) (Lib.hid e1.symm)
          have hWR := word_fn _ _ 0 rr w5 hrr (by omega) (Lib.hid e2.symm)
          have HWB := Lib.hid hWB
          have HWR := Lib.hid hWR
          have hB64 : B' < 18446744073709551616 := by omega
          have hR64 : rr < 18446744073709551616 := by omega
          have hadd6 := Add.trans hadd' hadd5
          rw [hgG] at hgl
          clear hWB hWR e1 e2 hr1 hr2 hr3 hr4 hr5 hr6 hr7 hrre hgG hb5 hrr hRB hmr2 hl2 hlB HB1 hadd' hadd5 h0 hBp hB2
          go_wp2_with fail
          refine HWB.out.mono ?_
          rintro e wy ⟨rfl, rfl⟩
          go_wp2_with fail
          refine HWR.out.mono ?_
          rintro e wy ⟨rfl, rfl⟩
          go_wp2_with fail
          refine (gcdOfWords_any _ _ _ hB64 hR64).mono ?_
          rintro e w6 ⟨rfl, hadd7⟩
          rw [HGG.out]
          go_wp2_with fail
          refine (make_any _ _ (by omega) (by omega)).mono ?_
          rintro e w7 ⟨v, rfl, hv, hadd8⟩
          rw [Int.toNat_natCast] at hv
          have hadd9 := Add.trans hadd6 (Add.trans hadd7 hadd8)
          clear hadd6 hadd7 hadd8
          go_wp2_with fail
          go_ret2
          exact ⟨_, rfl, hv, hadd9⟩
end Go.Proofs.YtifpfoeecnkhoaaDoor
