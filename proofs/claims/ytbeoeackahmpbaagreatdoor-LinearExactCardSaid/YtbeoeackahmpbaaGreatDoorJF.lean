/- divide and Div return the quotient and the remainder. | Div: its errors and its results. | Div, Shift and Bits, said of numbers alone. | word, gcdOfWords, size. | window: the digits of a number from one on. | apply: two rows replaced by combinations of them. -/
import Derived.Test.YtbeoeackahmpbaaGreatDoorJE
import Derived.Test.YtbeoeackahmpbaaGreatDoorJA

namespace Go.Proofs.YtbeoeackahmpbaaGreatDoor
open Go.RowKit NatM

/-- v is a slice of a row of the call's own, the canonical limbs of N. -/
def NumOwn (w : World) (base : Nat) (v : Value) (N : Nat) : Prop :=
  ∃ g zs m, v = .slice (some ⟨g, 0, none⟩) m m ∧ base ≤ g ∧ Row w g zs ∧ m ≤ zs.length ∧ zs.length ≤ 1000002 ∧ Limbs zs ∧ Canon (zs.take m) ∧ val (zs.take m) = N
theorem NumOwn.num {w : World} {base : Nat} {v : Value} {N : Nat} (h : NumOwn w base v N) : Num w v N := by
  obtain ⟨g, zs, m, rfl, -, hr, hm, hl, hx, hc, hv⟩ := h
  exact ⟨_, hr.reads hm (Nat.le_refl _) (by unfold maxLen; omega) hx, hc, hv⟩
theorem NumOwn.mono {w w' : World} {base : Nat} {v : Value} {N : Nat} (h : NumOwn w base v N) (hb : Add w w') : NumOwn w' base v N := by
  obtain ⟨g, zs, m, rfl, h1, hr, hm, hl, hx, hc, hv⟩ := h
  exact ⟨g, zs, m, rfl, h1, hr.below hb, hm, hl, hx, hc, hv⟩

def CutOwnP (w : World) (base N : Nat) (e : Ending) (w' : World) : Prop := ∃ v, e = .returned v ∧ w = w' ∧ NumOwn w base v N
theorem cut_own (g m c base : Nat) (zs : List Nat) (w : World) (hr : Row w g zs) (hm : m ≤ zs.length) (hc : m ≤ c) (hc' : c ≤ 10000000) (hl : zs.length ≤ 1000002) (hx : Limbs zs) (hb : base ≤ g) :
    Calls Tryz.prog 99 #[.slice (some ⟨g, 0, none⟩) m c] w (CutOwnP w base (val (zs.take m))) := by
  refine (cut_any _ _ w (hr.reads hm hc (by unfold maxLen; omega) hx)).mono ?_
  rintro e w' ⟨v', rfl, rfl, hv', ao, c', hao, rfl⟩
  simp only [Value.slice.injEq] at hao
  obtain ⟨rfl, h2, -⟩ := hao
  have hle : tlen (zs.take m) ≤ m := by have := tlen_le (zs.take m); omega
  have ht : zs.take (tlen (zs.take m)) = trim (zs.take m) := by unfold trim; rw [List.take_take, Nat.min_eq_left hle]
  exact ⟨_, rfl, rfl, g, zs, _, rfl, hb, hr, by omega, hl, hx, by rw [ht]; exact Canon.trim _, by rw [ht, val_trim]⟩

/-- What divide returns. -/
def DivideP (w : World) (A B : Nat) (e : Ending) (w' : World) : Prop :=
  ∃ vq vr, e = .returned (.tuple #[vq, vr]) ∧ Num w' vq (A / B) ∧ NumOwn w' w.heap.size vr (A % B) ∧ Add w w'

theorem divide_less (va vb : Value) (xs ys : List Nat) (w : World) (ha : Reads w va xs) (hb : Reads w vb ys) (hs : xs.length ≤ 1000000) (hlt : val xs < val ys) :
    Calls Tryz.prog 135 #[va, vb] w (DivideP w (val xs) (val ys)) := by
  have hc0 : decide (cmpI (val xs) (val ys) < 0) = true := by rw [decide_eq_true_iff, cmp_neg]; omega
  have HLT := Lib.hid hlt
  have l1 := tlen_le xs
  have HX := Lib.hid ha.limbs
  clear hlt
  go_enter Tryz.func135, Tryz.ntmps135
  go_wp2_with fail
  refine (cmp_any _ _ _ _ _ ha hb).mono ?_; rintro e w1 ⟨rfl, q, rfl⟩
  go_wp2_with fail
  refine (trim_any _ _ _ (reads_drewN ha q) hs).mono ?_
  rintro e w2 ⟨g, n, rfl, hown, hn, hadd⟩
  have hF : DivideP w (val xs) (val ys) (.returned (.tuple #[.slice none 0 0, .slice (some ⟨g, 0, none⟩) n n])) w2 := by
    refine ⟨_, _, rfl, ?_, ⟨g, trim xs, n, rfl, hown.lt.1, hown.row, by rw [hown.length]; exact Nat.le_refl _, by rw [length_trim]; omega, HX.out.take _, ?_, ?_⟩, Add.trans (below_drewN (Below.refl _ _) q) hadd⟩
    · rw [Nat.div_eq_of_lt HLT.out]; exact Num.nil _
    · rw [List.take_of_length_le (by rw [hown.length]; exact Nat.le_refl _)]; exact Canon.trim _
    · rw [List.take_of_length_le (by rw [hown.length]; exact Nat.le_refl _), val_trim, Nat.mod_eq_of_lt HLT.out]
  clear hn hown
  go_wp2_with fail
  go_ret2
  exact hF

set_option maxRecDepth 100000 in
set_option maxHeartbeats 1000000 in
theorem divide_one (va vb : Value) (xs ys : List Nat) (w : World) (ha : Reads w va xs) (hb : Reads w vb ys) (hs : xs.length ≤ 1000000) (hle : val ys ≤ val xs) (hl1 : ys.length = 1) (hne : val ys ≠ 0) :
    Calls Tryz.prog 135 #[va, vb] w (DivideP w (val xs) (val ys)) := by
  have hc0 : decide (cmpI (val xs) (val ys) < 0) = false := by rw [decide_eq_false_iff_not, cmp_neg]; omega
  obtain ⟨d, hyd⟩ : ∃ d, ys = [d] := by
    match ys, hl1 with
    | [d], _ => exact ⟨d, rfl⟩
  subst hyd
  have hd : val [d] = d := by simp [val]
  have hdl : d < 4294967296 := hb.limbs d (by simp)
  have hd0 : 0 < d := by omega
  obtain ⟨ab, nb', cb, rfl, hln, hc, hm, -, hr⟩ := id hb
  obtain rfl : 1 = nb' := hln
  obtain ⟨b2, off2, rfl, gc⟩ := hr (by decide)
  have hcell : w.cell? ⟨b2, off2, none⟩ = some (.int .u32 (d : Nat)) := by simpa using gc 0 (by decide)
  have HX := Lib.hid ha.limbs
  have l1 := tlen_le xs
  have HD := Lib.hid hd
  clear gc hr hl1 hle hne hd
  go_enter Tryz.func135, Tryz.ntmps135
  go_wp2_with fail
  refine (cmp_any _ _ _ _ _ ha hb).mono ?_; rintro e w1 ⟨rfl, q, rfl⟩
  go_wp2_with fail
  refine (trim_any _ _ _ (reads_drewN ha q) hs).mono ?_
  rintro e w2 ⟨g, n, rfl, hown, hn, hadd⟩
  have hadd2 : Add w w2 := Add.trans (below_drewN (Below.refl _ _) q) hadd
  have hcell2 : w2.cell? ⟨b2, off2, none⟩ = some (.int .u32 (d : Nat)) := (Below.cell hadd2 (p := ⟨b2, off2, none⟩) (World.block_lt_of_cell? w _ hcell)).trans hcell
  have hlen := hown.length
  have hgb : w.heap.size ≤ g := hown.lt.1
  have hcall := divideLimb_any g n n d (trim xs) w2 hown.row (HX.out.take _) (by omega) (by omega) hd0 hdl
  have HC := Lib.hid hcall
  have HN := Lib.hid hn
  have HLEN := Lib.hid hlen
  clear hcall hn hlen
  go_wp2_with fail
  refine HC.out.mono ?_
  rintro e w3 ⟨zs, r, rfl, hrow, hzs, hdiv, hgr⟩
  have hdd := divAt_done hdiv
  have hzl : zs.length = n := hdiv.1.trans HLEN.out
  have hadd3 : Add w w3 := Below.grown hadd2 hgr hadd2.size (fun k hk => by cases hk; exact hgb)
  have hrl : r < 4294967296 := by have := hdiv.2.1; omega
  have hqv : val (zs.take n) = val xs / d := by rw [hdd.1, List.take_of_length_le (by rw [HLEN.out]; exact Nat.le_refl _), val_trim]
  have hrv : r = val xs % d := by rw [hdd.2, List.take_of_length_le (by rw [HLEN.out]; exact Nat.le_refl _), val_trim]
  have hnb : n ≤ 1000000 := by have := HN.out; omega
  have hcut := cut_own g n n w.heap.size zs w3 hrow (by omega) (Nat.le_refl _) (by omega) (by omega) hzs hgb
  rw [hqv] at hcut
  have HCUT := Lib.hid hcut
  have HRV := Lib.hid hrv
  clear hdd hzl hqv hrv hcut
  go_wp2_with fail
  refine HCUT.out.mono ?_
  rintro e w' ⟨vq, rfl, rfl, hq⟩
  have hrow1 : Row (w3.alloc (.cells #[.int .u32 (r : Nat)] 93)) w3.heap.size [r] := heap_alloc_new w3 _
  have hadd4 : Add w3 (w3.alloc (.cells #[.int .u32 (r : Nat)] 93)) := (Below.refl _ _).alloc (Nat.le_refl _) _
  have hcut2 := cut_own w3.heap.size 1 1 w.heap.size [r] _ hrow1 (by simp) (by decide) (by decide) (by simp) (Limbs.cons hrl Limbs.nil) hadd3.size
  have hv1 : val ([r].take 1) = val xs % d := by simp [val]; exact HRV.out
  rw [hv1] at hcut2
  have HCUT2 := Lib.hid hcut2
  have HADD := Lib.hid hadd4
  have HNQ := Lib.hid (hq.num.mono hadd4)
  clear hcut2 hv1 hrow1 hq
  go_wp2_with fail
  refine HCUT2.out.mono ?_
  rintro e w' ⟨vr, rfl, rfl, hvr⟩
  have hF : DivideP w (val xs) (val [d]) (.returned (.tuple #[vq, vr])) (w3.alloc (.cells #[.int .u32 (r : Nat)] 93)) := by
    rw [HD.out]; exact ⟨_, _, rfl, HNQ.out, hvr, Add.trans hadd3 HADD.out⟩
  go_wp2_with fail
  go_ret2
  exact hF

set_option maxRecDepth 100000 in
set_option maxHeartbeats 8000000 in
theorem divide_long (va vb : Value) (xs ys : List Nat) (m : Nat) (w : World) (ha : Reads w va xs) (hb : Reads w vb ys) (hs : xs.length ≤ 1000000) (hs' : ys.length ≤ 1000000) (hle : val ys ≤ val xs) (hl2 : ys.length = m + 2) (hc : Canon ys) :
    Calls Tryz.prog 135 #[va, vb] w (DivideP w (val xs) (val ys)) := by
  obtain ⟨i0, hi, hz0, hz1, hz2⟩ := info_parts info93
  have hc0 : decide (cmpI (val xs) (val ys) < 0) = false := by rw [decide_eq_false_iff_not, cmp_neg]; omega
  have hy := hb.limbs
  have hx := ha.limbs
  have hla : m + 2 ≤ xs.length := by
    rcases Nat.lt_or_ge xs.length (m + 2) with h | h
    · have := len_lt hx hc (by omega)
      omega
    · exact h
  obtain ⟨k, hk⟩ : ∃ k, xs.length = k + (m + 1) ∧ 0 < k := ⟨xs.length - (m + 1), by omega, by omega⟩
  obtain ⟨la, hla0⟩ : ∃ la, la = xs.length := ⟨_, rfl⟩
  obtain ⟨up, hup⟩ : ∃ up, up = 32 - nb (ys.getD (m + 1) 0) := ⟨_, rfl⟩
  have hnorm := normal hy hc hl2 hup
  have hA : val xs < pw xs.length := val_lt hx
  obtain ⟨t, hte⟩ : ∃ t, t = ys.getD (m + 1) 0 := ⟨_, rfl⟩
  have htl : t < 4294967296 := by rw [hte]; exact hy.getD _
  obtain ⟨aa, la', ca, rfl, hlna, hca, hcma, -, -⟩ := id ha
  obtain rfl : la = la' := by omega
  obtain ⟨ab, nb', cb, rfl, hln, hcb, hcm, -, hr⟩ := id hb
  obtain rfl : m + 2 = nb' := by omega
  obtain ⟨b2, off2, rfl, gc⟩ := hr (by omega)
  have hcell : w.cell? ⟨b2, off2 + (m + 1), none⟩ = some (.int .u32 (t : Nat)) := by rw [hte]; exact gc (m + 1) (by omega)
  rw [← hte] at hup
  have hup31 := hnorm.1
  have HUP := Lib.hid hup
  have HNORM := Lib.hid hnorm
  have HA := Lib.hid hA
  have HK := Lib.hid hk
  have HLA := Lib.hid hla0
  have hkl : la = k + (m + 1) := by omega
  have hm1 : m ≤ 999998 := by omega
  have hk1 : k ≤ 1000000 := by omega
  have HKL := Lib.hid hkl
  have hla1 : la ≤ 1000000 := by omega
  have hla2 : m + 2 ≤ la := by omega
  have hLk : (la : Int) - ((m : Int) + 2) + 1 = (k : Int) := by omega
  clear gc hr hln hlna hnorm hA hk hla0 hkl hte hup hle hl2
  go_enter Tryz.func135, Tryz.ntmps135
  go_wp2_with fail
  refine (cmp_any _ _ _ _ _ ha hb).mono ?_; rintro e w1 ⟨rfl, q, rfl⟩
  have hne1 : ((m : Int) + 2 == 1) = false := by simp; omega
  go_wp2_with fail
  refine (lz32_any t _ htl).mono ?_; rintro e w' ⟨rfl, rfl⟩
  rw [← HUP.out]
  go_wp2_with fail
  refine (raised_any _ _ up _ (reads_drewN ha q) hs (by omega)).mono ?_
  rintro e w2 ⟨L, zs0, rfl, hown0, hL, hz0l, hz0v, hadd⟩
  obtain rfl : L = la + 1 := by have := HLA.out; omega
  have hadd2 : Add w w2 := Add.trans (below_drewN (Below.refl _ _) q) hadd
  have HZ0V := Lib.hid hz0v
  have HOWN0 := Lib.hid hown0
  clear hL hz0v hown0
  go_wp2_with fail
  refine (raised_any _ _ up _ (hb.mono hadd2) hs' (by omega)).mono ?_
  rintro e w3 ⟨L2, zsd, rfl, hownd, hL2, hzdl, hzdv, hadd3⟩
  have HZDV := Lib.hid hzdv
  have hzdlen : zsd.length = L2 := hownd.length
  have hn := HNORM.out
  have htl2 : tlen zsd = m + 2 := by
    have h1 := tlen_le_of_val (xs := zsd) (m + 2) (by rw [hzdv]; exact hn.2.1)
    have h2 := tlen_gt_of_val hzdl (m + 1) (by rw [hzdv]; omega)
    omega
  have hL2b : m + 2 ≤ L2 := by rw [← hzdlen, ← htl2]; exact tlen_le zsd
  have htake : val (zsd.take (m + 2)) = val ys * 2 ^ up := by
    have : trim zsd = zsd.take (m + 2) := by unfold trim; rw [htl2]
    rw [← this, val_trim, hzdv]
  have htop : zsd.getD (m + 1) 0 ≠ 0 := by
    have := tlen_top zsd (by omega)
    rwa [htl2, show m + 2 - 1 = m + 1 from by omega] at this
  have hcutd := cut_any _ _ _ (hownd.reads (by unfold maxLen; omega) hzdl)
  have HCUT := Lib.hid hcutd
  have HTAKE := Lib.hid htake
  have HTL2 := Lib.hid htl2
  have HOWND := Lib.hid hownd
  have HZDLEN := Lib.hid hzdlen
  clear hcutd htake htl2 hownd hzdv hL2 hn hzdlen
  go_wp2_with fail
  refine HCUT.out.mono ?_
  rintro e w' ⟨vd, rfl, rfl, -, aod, cd, haod, rfl⟩
  rw [HTL2.out]
  simp only [Value.slice.injEq] at haod
  obtain ⟨rfl, -, -⟩ := haod
  clear HCUT
  go_wp2_with (at_make; refine wpList_make_full _ rfl _ _ 35 rfl w3.heap.size 93 i0 (.int .u32 0) 1 Tryz.underlying35 hi hz0 hz1 _ _ _ _ k rfl rfl (by omega) (by omega) (by rw [hz2]; omega) (by unfold maxLen; omega) (Nat.le_refl _) ?_)
  intro w4 hown4 hgr4
  have hadd4 : Add w3 w4 := (Below.refl _ _).grown hgr4 (Nat.le_refl _) (by simp)
  have hown4 := Own.made hown4
  have hq0 : Own w2 w.heap.size w.heap.size (la + 1) zs0 := HOWN0.out
  have g1 : w.heap.size < w2.heap.size := hq0.lt.2
  have g2 : w2.heap.size < w3.heap.size := HOWND.out.lt.2
  have hrow0 : Row w4 w.heap.size zs0 := ((hq0.row).below hadd3).below hadd4
  have hrowd : Row w4 w2.heap.size zsd := (HOWND.out.row).below hadd4
  have hrowq : Row w4 w3.heap.size (List.replicate k 0) := hown4.row
  have haddt : Add w w4 := Add.trans hadd2 (Add.trans hadd3 hadd4)
  have hz0len : zs0.length = la + 1 := hq0.length
  have hld : LongDiv (val xs * 2 ^ up) (val ys * 2 ^ up) zs0 (List.replicate k 0) k := longDiv_start HZ0V.out HA.out HNORM.out.1 HNORM.out.2.2 HK.out.1
  have HLD := Lib.hid hld
  have HZ0LEN := Lib.hid hz0len
  obtain ⟨D, hDe⟩ : ∃ D, D = val ys * 2 ^ up := ⟨_, rfl⟩
  obtain ⟨A0, hAe⟩ : ∃ A0, A0 = val xs * 2 ^ up := ⟨_, rfl⟩
  have HDE := Lib.hid hDe
  have HAE := Lib.hid hAe
  have HLD2 : Hid (LongDiv A0 D zs0 (List.replicate k 0) k) := Lib.hid (by rw [hDe, hAe]; exact hld)
  clear hgr4 hown4 hld hz0len hq0 hDe hAe HLD hadd4 hadd3
  go_wp2_with fail
  go_loopw [12] (fun i wr => ∃ (t : Nat) (zs qs : List Nat), t ≤ k ∧ i = .int .i64 ((t : Int) - 1) ∧ Hid (LongDiv A0 D zs qs t) ∧ Hid (zs.length = la + 1) ∧ Hid (qs.length = k) ∧ Limbs zs ∧ Limbs qs ∧ Row wr w.heap.size zs ∧ Row wr w2.heap.size zsd ∧ Row wr w3.heap.size qs ∧ Add w wr) (fun i _ => (intOf i + 1).toNat)
  case atStart => exact ⟨k, zs0, _, Nat.le_refl _, rfl, HLD2, HZ0LEN, Lib.hid (by simp), hz0l, Limbs.replicate _, hrow0, hrowd, hrowq, haddt⟩
  case round =>
    clear hrow0 hrowd hrowq haddt HLD2 HZ0LEN hz0l
    obtain ⟨t2, zs, qs, ht2, rfl, hlong, hzlen, hqlen, hzs, hqs, hr0, hrd, hrq, haddw⟩ := hrel
    by_cases h0 : t2 = 0
    · subst h0
      have hdone := longDiv_done hlong.out
      rw [HDE.out, HAE.out, scaled_quo] at hdone
      have hqv : val (qs.take k) = val xs / val ys := by rw [List.take_of_length_le (by rw [hqlen.out]; exact Nat.le_refl _)]; exact hdone.1
      have hcq := cut_own w3.heap.size k k w.heap.size qs wr hrq (by rw [hqlen.out]; exact Nat.le_refl _) (Nat.le_refl _) (by omega) (by rw [hqlen.out]; omega) hqs (by omega)
      rw [hqv] at hcq
      have hzr : Reads wr (.slice (some ⟨w.heap.size, 0, none⟩) (la + 1) (la + 1)) zs := by
        have := hr0.reads (m := la + 1) (c := la + 1) (by rw [hzlen.out]; exact Nat.le_refl _) (Nat.le_refl _) (by unfold maxLen; omega) hzs
        rwa [List.take_of_length_le (by rw [hzlen.out]; exact Nat.le_refl _)] at this
      have HCQ := Lib.hid hcq
      have HREM := Lib.hid hdone.2
      have HZR := Lib.hid hzr
      clear hdone hqv hcq hzr hr0 hrd hrq hlong
      go_wp2_with fail
      refine HCQ.out.mono ?_
      rintro e w' ⟨vq, rfl, rfl, hvq⟩
      have hzl := hzlen.out
      have hlow := lowered_any _ zs up wr HZR.out (by rw [hzlen.out]; omega) (by rw [hzlen.out]; omega)
      have HLOW := Lib.hid hlow
      clear hlow hzl
      go_wp2_with fail
      refine HLOW.out.mono ?_
      rintro e w6 ⟨L, zr, rfl, hownr, hzrl, hzrv, hLl, hadd6⟩
      rw [HREM.out, scaled_rem] at hzrv
      have hL1 : L ≤ 1000001 := by have := hzlen.out; omega
      have hlenr := hownr.length
      have hcr := cut_own wr.heap.size L L w.heap.size zr w6 hownr.row (by rw [hlenr]; exact Nat.le_refl _) (Nat.le_refl _) (by omega) (by rw [hlenr]; omega) hzrl haddw.size
      rw [List.take_of_length_le (by rw [hlenr]; exact Nat.le_refl _), hzrv] at hcr
      have HCR := Lib.hid hcr
      have hvq6 := hvq.num.mono hadd6
      clear hcr hzrv hlenr hownr hvq
      go_wp2_with fail
      refine HCR.out.mono ?_
      rintro e w' ⟨vr, rfl, rfl, hvr⟩
      have hF : DivideP w (val xs) (val ys) (.returned (.tuple #[vq, vr])) w6 := ⟨_, _, rfl, hvq6, hvr, Add.trans haddw hadd6⟩
      clear HCR HLOW HCQ
      go_wp2_with fail
      go_ret2
      exact hF
    · obtain ⟨j, rfl⟩ : ∃ j, t2 = j + 1 := ⟨t2 - 1, by omega⟩
      have hzl := hzlen.out
      have hql := hqlen.out
      have hkl := HKL.out
      have hwin : j + (m + 2 + 1) ≤ zs.length := by omega
      obtain ⟨ws, hwse⟩ : ∃ ws, ws = (zs.drop j).take (m + 2 + 1) := ⟨_, rfl⟩
      have hwsl : ws.length = m + 2 + 1 := by rw [hwse]; exact window_length hwin
      have hput : put zs j ws = zs := by rw [hwse]; exact put_self hwin
      have hwlim : Limbs ws := by rw [hwse]; exact (hzs.drop _).take _
      have hDpw : D < pw (m + 2) := by rw [HDE.out]; exact HNORM.out.2.1
      have hwd := longDiv_window hDpw hwin hlong.out.2
      rw [← hwse] at hwd
      have hDt : val (zsd.take (m + 2)) = D := by rw [HTAKE.out, HDE.out]
      have hrow1 : Row wr w.heap.size (put zs j ws) := by rw [hput]; exact hr0
      have hcell := hrq.cell j (by omega)
      have hfree := hrq.free j
      have hcall := takeOut_any w.heap.size j m (la + 1 - j) w2.heap.size (m + 2) zs ws zsd wr hrow1 hrd (by omega) hwsl hwin (by omega) (by rw [HZDLEN.out]; exact hL2b) hwlim hzdl htop (by rw [hDt]; exact hwd.2)
      have HCALL := Lib.hid hcall
      have HQB : Hid (val ws / val (zsd.take (m + 2)) < 4294967296) := Lib.hid (by rw [hDt]; exact Nat.div_lt_of_lt_mul (by rw [Nat.mul_comm D]; exact hwd.2))
      have hLne : ¬ (la + 1 = j) := by omega
      have hjk : j < k := by omega
      have hjl : j + (m + 2) + 1 ≤ la + 1 := by omega
      have HWSE := Lib.hid hwse
      have HDT := Lib.hid hDt
      have HDPW := Lib.hid hDpw
      have HWIN := Lib.hid hwin
      clear hcall hwd hDt hrow1 hput hwse hwsl hwlim hDpw hzl hql hkl hwin
      go_wp2_with fail
      rw [show j + (m + 2) + 1 - j = m + 2 + 1 from by omega]
      refine HCALL.out.mono ?_
      rintro e w5 ⟨us, rfl, hul, hus, hsum, hlt, hrow5, hgr5⟩
      have hqb : val ws / val (zsd.take (m + 2)) < 4294967296 := HQB.out
      generalize val ws / val (zsd.take (m + 2)) = qd at hsum hqb ⊢
      have hrd5 := hrd.kept hgr5 (by intro e; injection e with e; omega)
      have hrq5 := hrq.kept hgr5 (by intro e; injection e with e; omega)
      have hadd5 : Add w w5 := Below.grown haddw hgr5 haddw.size (fun z hz => by cases hz; exact Nat.le_refl _)
      have hcell5 := hrq5.cell j (by rw [hqlen.out]; exact hjk)
      have hfree5 := hrq5.free j
      rw [HDT.out] at hsum hlt
      rw [HWSE.out] at hsum
      have HSTEP := Lib.hid (longDiv_step hlong.out hzs HDPW.out HWIN.out (by rw [hqlen.out]; exact hjk) hul hsum hlt)
      clear HCALL hcell hfree hsum hlt hgr5 hlong hr0 hrd hrq haddw
      go_wp2_with fail
      go_roundw
      case rel =>
        have hrd6 : Row (w5.setCell ⟨w3.heap.size, j, none⟩ (.int .u32 (qd : Nat))) w2.heap.size zsd := hrd5.kept2 (by omega) _ _
        have hr6 : Row (w5.setCell ⟨w3.heap.size, j, none⟩ (.int .u32 (qd : Nat))) w.heap.size (put zs j us) := hrow5.kept2 (by omega) _ _
        exact ⟨j, put zs j us, qs.set j qd, by omega, by go_num, HSTEP, Lib.hid (by rw [put_length (by rw [hul]; exact HWIN.out)]; exact hzlen.out), Lib.hid (by rw [List.length_set]; exact hqlen.out), put_limbs hzs hus, hqs.set _ _ hqb, hr6, hrd6, hrq5.set j qd, hadd5.setCell (by show w.heap.size ≤ w3.heap.size; omega) _⟩
      case measure => simp [intOf]
end Go.Proofs.YtbeoeackahmpbaaGreatDoor

namespace Go.Proofs.YtbeoeackahmpbaaGreatDoor
open Go.RowKit NatM

theorem divide_any (va vb : Value) (xs ys : List Nat) (w : World) (ha : Reads w va xs) (hb : Reads w vb ys) (hs : xs.length ≤ 1000000) (hs' : ys.length ≤ 1000000) (hc : Canon ys) (h0 : val ys ≠ 0) :
    Calls Tryz.prog 135 #[va, vb] w (DivideP w (val xs) (val ys)) := by
  rcases Nat.lt_or_ge (val xs) (val ys) with h | h
  · exact divide_less va vb xs ys w ha hb hs h
  · match hl : ys.length with
    | 0 => exact absurd (by rw [List.length_eq_zero_iff.1 hl]; rfl) h0
    | 1 => exact divide_one va vb xs ys w ha hb hs h hl h0
    | m + 2 => exact divide_long va vb xs ys m w ha hb hs hs' h hl hc

def Err2P (w : World) (k : Int) (e : Ending) (w' : World) : Prop := e = .returned (.tuple #[.slice none 0 0, .slice none 0 0, .int .i64 k]) ∧ Add w w'
def Ok2P (w : World) (Q R : Nat) (e : Ending) (w' : World) : Prop := ∃ vq vr, e = .returned (.tuple #[vq, vr, .int .i64 0]) ∧ Num w' vq Q ∧ Num w' vr R ∧ Add w w'

theorem div_big (va vb : Value) (xs ys : List Nat) (w : World) (ha : Reads w va xs) (hb : Reads w vb ys) (hAB : pw 512 ≤ val xs ∨ pw 512 ≤ val ys) :
    Calls Tryz.prog 121 #[va, vb] w (Err2P w 2) := by
  by_cases hA : pw 512 ≤ val xs
  · have LA := big_large ha hA
    clear hA hAB
    go_enter Tryz.func121, Tryz.ntmps121
    go_wp2_with fail
    refine (large_is true _ _ _ ha LA.out).mono ?_; rintro e w' ⟨rfl, rfl⟩
    go_wp2_with fail
    go_ret3
    exact ⟨rfl, Below.refl _ _⟩
  · have LA := small_large ha (by omega)
    have LB := big_large hb (by omega)
    clear hA hAB
    go_enter Tryz.func121, Tryz.ntmps121
    go_wp2_with fail
    refine (large_is false _ _ _ ha LA.out).mono ?_; rintro e w' ⟨rfl, rfl⟩
    go_wp2_with fail
    refine (large_is true _ _ _ hb LB.out).mono ?_; rintro e w' ⟨rfl, rfl⟩
    go_wp2_with fail
    go_ret3
    exact ⟨rfl, Below.refl _ _⟩

theorem div_zero (va vb : Value) (xs ys : List Nat) (w : World) (ha : Reads w va xs) (hb : Reads w vb ys) (hA : val xs < pw 512) (hB : val ys = 0) :
    Calls Tryz.prog 121 #[va, vb] w (Err2P w 3) := by
  have LA := small_large ha hA
  have LB := small_large hb (by rw [hB]; exact pw_pos 512)
  have hz : trim ys = [] := canon_inj (hb.limbs.take _) Limbs.nil (Canon.trim _) rfl (by show val (trim ys) = 0; rw [val_trim, hB])
  have HZ := Lib.hid hz
  clear hA hB hz
  go_enter Tryz.func121, Tryz.ntmps121
  go_wp2_with fail
  refine (large_is false _ _ _ ha LA.out).mono ?_; rintro e w' ⟨rfl, rfl⟩
  go_wp2_with fail
  refine (large_is false _ _ _ hb LB.out).mono ?_; rintro e w' ⟨rfl, rfl⟩
  go_wp2_with fail
  refine (cut_any _ _ _ ha).mono ?_; rintro e w' ⟨va', rfl, rfl, hva, -⟩
  go_wp2_with fail
  refine (cut_any _ _ _ hb).mono ?_; rintro e w' ⟨vb', rfl, rfl, hvb, -⟩
  rw [HZ.out] at hvb
  obtain ⟨ab, nb', cb, rfl, hln, -⟩ := hvb
  obtain rfl : 0 = nb' := hln
  go_wp2_with fail
  go_ret3
  exact ⟨rfl, Below.refl _ _⟩

theorem div_ok (va vb : Value) (xs ys : List Nat) (w : World) (ha : Reads w va xs) (hb : Reads w vb ys) (hs : xs.length ≤ 1000000) (hs' : ys.length ≤ 1000000) (hA : val xs < pw 512) (hB : val ys < pw 512) (h0 : val ys ≠ 0) :
    Calls Tryz.prog 121 #[va, vb] w (Ok2P w (val xs / val ys) (val xs % val ys)) := by
  have LA := small_large ha hA
  have LB := small_large hb hB
  have l1 := tlen_le xs
  have l2 := tlen_le ys
  have htl : (trim ys).length ≠ 0 := by
    intro e
    exact h0 (by rw [← val_trim, List.length_eq_zero_iff.1 e]; rfl)
  obtain ⟨t, hte⟩ : ∃ t, t = (trim ys).length := ⟨_, rfl⟩
  rw [← hte] at htl
  have htne : ((t : Int) == 0) = false := by simp; omega
  have HT := Lib.hid hte
  have H0 := Lib.hid h0
  clear hA hB h0 hte htl
  go_enter Tryz.func121, Tryz.ntmps121
  go_wp2_with fail
  refine (large_is false _ _ _ ha LA.out).mono ?_; rintro e w' ⟨rfl, rfl⟩
  go_wp2_with fail
  refine (large_is false _ _ _ hb LB.out).mono ?_; rintro e w' ⟨rfl, rfl⟩
  go_wp2_with fail
  refine (cut_any _ _ _ ha).mono ?_; rintro e w' ⟨va', rfl, rfl, hva, -⟩
  go_wp2_with fail
  refine (cut_any _ _ _ hb).mono ?_; rintro e w' ⟨vb', rfl, rfl, hvb, -⟩
  have HCALL := Lib.hid (divide_any _ _ _ _ _ hva hvb (by rw [length_trim]; omega) (by rw [length_trim]; omega) (Canon.trim _) (by rw [val_trim]; exact H0.out))
  obtain ⟨ab, nb', cb, rfl, hln, -⟩ := id hvb
  rw [← HT.out] at hln
  obtain rfl : t = nb' := hln
  go_wp2_with fail
  refine HCALL.out.mono ?_
  rintro e w' ⟨vq, vr, rfl, hq, hr, hadd⟩
  rw [val_trim, val_trim] at hq hr
  go_wp2_with fail
  go_ret3
  exact ⟨_, _, rfl, hq, hr.num, hadd⟩
end Go.Proofs.YtbeoeackahmpbaaGreatDoor

namespace Go.Proofs.YtbeoeackahmpbaaGreatDoor.Api
open Go.Proofs.YtbeoeackahmpbaaGreatDoor Go.RowKit NatM

def OkN2 (w : World) (Q R : Nat) (e : Ending) (w' : World) : Prop := ∃ vq vr, e = .returned (.tuple #[vq, vr, .int .i64 0]) ∧ Num w' vq Q ∧ Nu w' vq Q ∧ Num w' vr R ∧ Nu w' vr R ∧ Add w w'
theorem divN (Q R : Nat) {va vb : Value} {A B : Nat} {w : World} (ha : Nu w va A) (hb : Nu w vb B) (h : Hid (A < pw 512 ∧ B < pw 512 ∧ B ≠ 0 ∧ A / B = Q ∧ A % B = R)) : Calls Tryz.prog 121 #[va, vb] w (OkN2 w Q R) := by
  obtain ⟨xs, r, rfl, l⟩ := ha
  obtain ⟨ys, r', rfl, l'⟩ := hb
  obtain ⟨h1, h2, h3, rfl, rfl⟩ := h.out
  refine (div_ok va vb xs ys w r r' l l' h1 h2 h3).mono ?_
  rintro e w' ⟨vq, vr, rfl, g1, g2, g3⟩
  have b1 : val xs / val ys < pw 512 := Nat.lt_of_le_of_lt (Nat.div_le_self _ _) h1
  have b2 : val xs % val ys < pw 512 := Nat.lt_trans (Nat.mod_lt _ (Nat.pos_of_ne_zero h3)) h2
  exact ⟨_, _, rfl, g1, num_nu g1 b1, g2, num_nu g2 b2, g3⟩
theorem divZ {va vb : Value} {A B : Nat} {w : World} (ha : Nu w va A) (hb : Nu w vb B) (h : Hid (A < pw 512 ∧ B = 0)) : Calls Tryz.prog 121 #[va, vb] w (Err2P w 3) := by
  obtain ⟨xs, r, rfl, l⟩ := ha
  obtain ⟨ys, r', rfl, l'⟩ := hb
  obtain ⟨h1, h2⟩ := h.out
  exact div_zero va vb xs ys w r r' h1 h2
theorem bitsN (X : Nat) {va : Value} {A : Nat} {w : World} (ha : Nu w va A) (h : Hid (nb A = X)) : Calls Tryz.prog 76 #[va] w (IntIs w (X : Nat)) := by
  obtain ⟨xs, r, rfl, l⟩ := ha
  have h1 := h.out
  subst h1
  exact (bits_any va xs w r l).mono fun e w' ⟨h1, h2⟩ => ⟨h1, by rw [h2]; exact Below.refl _ _⟩
theorem upN (N k : Nat) {va : Value} {A : Nat} {w : World} (ha : Nu w va A) (h : Hid (A < pw 512 ∧ nb A + k ≤ 16384 ∧ A * 2 ^ k = N)) : Calls Tryz.prog 132 #[va, .int .i64 (k : Nat)] w (OkN w N) := by
  obtain ⟨xs, r, rfl, l⟩ := ha
  obtain ⟨h1, h2, rfl⟩ := h.out
  by_cases h0 : nb (val xs) = 0
  · refine (shift_zero va xs k w r l h1 (.inl h0)).mono fun e w' g => ?_
    rw [nb_eq_zero.1 h0, Nat.zero_mul]
    exact okN g (pw_pos 512)
  · refine (shift_up va xs k w r l h1 h0 h2).mono fun e w' g => okN g ?_
    rw [nb_lt_pw, nb_shift (fun e => h0 (nb_eq_zero.2 e))]
    exact h2
theorem downN (N k : Nat) {va : Value} {A : Nat} {w : World} (ha : Nu w va A) (h : Hid (A < pw 512 ∧ A / 2 ^ k = N)) : Calls Tryz.prog 132 #[va, .int .i64 (-(k : Int))] w (OkN w N) := by
  obtain ⟨xs, r, rfl, l⟩ := ha
  obtain ⟨h1, rfl⟩ := h.out
  have hb : val xs / 2 ^ k < pw 512 := Nat.lt_of_le_of_lt (Nat.div_le_self _ _) h1
  rcases Nat.lt_or_ge k (nb (val xs)) with h2 | h2
  · by_cases hk : k = 0
    · subst hk
      have := shift_up va xs 0 w r l h1 (by omega) (by have := nb_lt_pw.1 h1; omega)
      refine this.mono fun e w' g => okN ?_ hb
      rw [Nat.pow_zero, Nat.div_one]
      rwa [Nat.pow_zero, Nat.mul_one] at g
    · exact (shift_down va xs k w r l h1 (by omega) h2).mono fun e w' g => okN g hb
  · refine (shift_zero va xs _ w r l h1 (.inr (by omega))).mono fun e w' g => ?_
    rw [shift_out h2]
    exact okN g (pw_pos 512)
theorem oneNu (w : World) (g : Nat) (hg : w.heap.size = g) : Nu (w.alloc (.cells #[.int .u32 1] 93)) (.slice (some ⟨g, 0, none⟩) 1 1) 1 := by
  subst hg
  have hrow : Row (w.alloc (.cells #[.int .u32 ((1 : Nat) : Int)] 93)) w.heap.size [1] := heap_alloc_new w _
  exact ⟨[1], hrow.reads (m := 1) (c := 1) (by decide) (Nat.le_refl _) (by unfold maxLen; omega) (Limbs.cons (by decide) Limbs.nil), rfl, by decide⟩
end Go.Proofs.YtbeoeackahmpbaaGreatDoor.Api

namespace Go.Proofs.YtbeoeackahmpbaaGreatDoor
open Go.RowKit NatM

theorem join64' (h l : Nat) (hh : h < 4294967296) (hl : l < 4294967296) : bits .or .u64 (l : Int) ((h : Int) * 4294967296) = ((l + 4294967296 * h : Nat) : Int) := by
  have e : ((h : Int) * 4294967296) = ((h * 4294967296 : Nat) : Int) := by omega
  rw [e, u64_or_nat _ _ (by omega) (by omega), Nat.or_comm]
  have := nat_join 32 (h * 4294967296) l (by omega) (by omega)
  rw [this]; omega

def U64P (w : World) (x : Nat) (e : Ending) (w' : World) : Prop := e = .returned (.int .u64 (x : Nat)) ∧ w' = w
def I64P (w : World) (x : Int) (e : Ending) (w' : World) : Prop := e = .returned (.int .i64 x) ∧ w' = w
theorem word_any (va : Value) (xs : List Nat) (i : Nat) (w : World) (ha : Reads w va xs) (hi : i ≤ 2000000) :
    Calls Tryz.prog 137 #[va, .int .i64 (i : Nat)] w (U64P w (xs.getD i 0 + 4294967296 * xs.getD (i + 1) 0)) := by
  have hx := ha.limbs
  obtain ⟨x, hxe⟩ : ∃ x, x = xs.getD i 0 := ⟨_, rfl⟩
  obtain ⟨y, hye⟩ : ∃ y, y = xs.getD (i + 1) 0 := ⟨_, rfl⟩
  have hxl : x < 4294967296 := by rw [hxe]; exact hx.getD _
  have hyl : y < 4294967296 := by rw [hye]; exact hx.getD _
  have hj := join64' y x hyl hxl
  have HF : Hid (U64P w (xs.getD i 0 + 4294967296 * xs.getD (i + 1) 0) (.returned (.int .u64 (x + 4294967296 * y : Nat))) w) := Lib.hid (by rw [← hxe, ← hye]; exact ⟨rfl, rfl⟩)
  have HX := Lib.hid hxe
  have HY := Lib.hid hye
  clear hxe hye
  go_enter Tryz.func137, Tryz.ntmps137
  go_wp2_with fail
  refine (limb_fn va xs _ x _ ha (by omega) (by rw [Int.toNat_natCast]; exact HX.out)).mono ?_; rintro e w' ⟨rfl, rfl⟩
  go_wp2_with fail
  refine (limb_fn va xs _ y _ ha (by omega) (by rw [show ((i : Int) + 1).toNat = i + 1 from by omega]; exact HY.out)).mono ?_; rintro e w' ⟨rfl, rfl⟩
  go_wp2_with fail
  try rw [hj]
  go_ret
  exact HF.out

theorem word_fn (va : Value) (xs : List Nat) (i v : Nat) (w : World) (ha : Reads w va xs) (hi : i ≤ 2000000) (hv : Hid (v = xs.getD i 0 + 4294967296 * xs.getD (i + 1) 0)) :
    Calls Tryz.prog 137 #[va, .int .i64 (i : Nat)] w (U64P w v) := by
  rw [hv.out]; exact word_any va xs i w ha hi

theorem gcdOfWords_any (a b : Nat) (w : World) (ha : a < 18446744073709551616) (hb : b < 18446744073709551616) :
    Calls Tryz.prog 136 #[.int .u64 (a : Nat), .int .u64 (b : Nat)] w (fun e w' => e = .returned (.int .u64 (Nat.gcd a b : Nat)) ∧ Add w w') := by
  go_enter Tryz.func136, Tryz.ntmps136
  go_wp2_with fail
  go_loopw [0, 1] (fun vx vy wr => ∃ x y : Nat, x < 18446744073709551616 ∧ y < 18446744073709551616 ∧ vx = .int .u64 (x : Nat) ∧ vy = .int .u64 (y : Nat) ∧ Hid (Nat.gcd x y = Nat.gcd a b) ∧ Add w wr) (fun _ vy _ => (intOf vy).toNat)
  case atStart => exact ⟨a, b, ha, hb, rfl, rfl, Lib.hid rfl, Below.refl _ _⟩
  case round =>
    obtain ⟨x, y, hx, hy, rfl, rfl, hg, hadd⟩ := hrel
    by_cases h0 : y = 0
    · subst h0
      go_wp2_with fail
      go_ret
      exact ⟨by rw [← hg.out, Nat.gcd_zero_right]; rfl, hadd⟩
    · have hne : ((y : Int) != 0) = true := by simp; omega
      have hne' : ((y : Int) == 0) = false := by simp; omega
      obtain ⟨m, hm⟩ : ∃ m, m = x % y := ⟨_, rfl⟩
      have hmi : (x : Int) % (y : Int) = (m : Int) := by rw [hm]; exact (Int.natCast_emod _ _).symm
      have hmb : m < y := by rw [hm]; exact Nat.mod_lt _ (by omega)
      have HM := Lib.hid hm
      clear hm
      go_wp2_with fail
      go_quiet (fail)
      go_wp2_with fail
      go_roundw
      case rel => exact ⟨y, m, hy, by omega, rfl, by go_num, Lib.hid (by rw [← hg.out, HM.out, Nat.gcd_comm y, ← Nat.gcd_rec, Nat.gcd_comm]), below_drewN hadd _⟩
      case measure => simp [intOf]; omega

theorem size_any (v : Int) (w : World) (h : -4611686018427387904 ≤ v) (h' : v ≤ 4611686018427387904) :
    Calls Tryz.prog 153 #[.int .i64 v] w (I64P w (v.natAbs : Nat)) := by
  have hF : Hid (I64P w (v.natAbs : Nat) (.returned (.int .i64 (max v (-v)))) w) := Lib.hid ⟨by rw [show ((v.natAbs : Nat) : Int) = max v (-v) from by omega], rfl⟩
  go_enter Tryz.func153, Tryz.ntmps153
  go_wp2_with fail
  go_ret
  exact hF.out
end Go.Proofs.YtbeoeackahmpbaaGreatDoor

namespace Go.Proofs.YtbeoeackahmpbaaGreatDoor
open Go.RowKit NatM

theorem val_drop_any {xs : List Nat} (h : Limbs xs) (k : Nat) : val (xs.drop k) = val xs / pw k := by
  rcases Nat.lt_or_ge xs.length k with g | g
  · rw [List.drop_eq_nil_of_le (by omega), Nat.div_eq_of_lt (Nat.lt_of_lt_of_le (val_lt h) (pw_le (by omega)))]; rfl
  · exact val_drop_div h k g
theorem val_three (ys : List Nat) : ∃ R, val ys = ys.getD 0 0 + 4294967296 * ys.getD 1 0 + 18446744073709551616 * (ys.getD 2 0 + 4294967296 * R) := by
  match ys with
  | [] => exact ⟨0, by simp [val]⟩
  | [a] => exact ⟨0, by simp [val]⟩
  | [a, b] => exact ⟨0, by simp [val]⟩
  | a :: b :: c :: l => exact ⟨val l, by simp [val]; omega⟩
theorem high_split (v T c : Nat) (hc : c < 32) : (v + 18446744073709551616 * T) / 2 ^ c = v / 2 ^ c + T * 2 ^ (64 - c) := by
  have e : 18446744073709551616 * T = 2 ^ c * (T * 2 ^ (64 - c)) := by
    have : (2 : Nat) ^ c * 2 ^ (64 - c) = 18446744073709551616 := by rw [← Nat.pow_add, show c + (64 - c) = 64 from by omega]
    rw [← this]; grind
  rw [e, Nat.add_mul_div_left _ _ (Nat.pow_pos (by decide))]
theorem window_math {xs : List Nat} {n s c v z r : Nat} (hx : Limbs xs) (hs : s = n / 32) (hc : c = n % 32) (hv : v = xs.getD s 0 + 4294967296 * xs.getD (s + 1) 0) (hz : z = xs.getD (s + 2) 0) (hr : r = val xs / 2 ^ n) (hb : r < 4611686018427387904) :
    r = v / 2 ^ c + z * 2 ^ (64 - c) ∧ v < 18446744073709551616 := by
  have h1 := hx.getD s
  have h2 := hx.getD (s + 1)
  have hc32 : c < 32 := by omega
  have hn : 2 ^ n = pw s * 2 ^ c := by rw [pw_two, ← Nat.pow_add]; congr 1; omega
  have hr1 : r = val (xs.drop s) / 2 ^ c := by rw [hr, hn, ← Nat.div_div_eq_div_mul, ← val_drop_any hx]
  obtain ⟨R, hR⟩ := val_three (xs.drop s)
  have d : ∀ j, (xs.drop s).getD j 0 = xs.getD (s + j) 0 := by intro j; simp [List.getD]
  rw [d, d, d, Nat.add_zero, ← hv, ← hz] at hR
  rw [hR, high_split _ _ _ hc32] at hr1
  refine ⟨?_, by omega⟩
  have hp : 8589934592 ≤ 2 ^ (64 - c) := Nat.pow_le_pow_right (n := 2) (i := 33) (by decide) (by omega)
  have hm : (z + 4294967296 * R) * 8589934592 ≤ (z + 4294967296 * R) * 2 ^ (64 - c) := Nat.mul_le_mul_left _ hp
  have hR0 : R = 0 := by
    obtain ⟨q, hq⟩ : ∃ q, q = v / 2 ^ c := ⟨_, rfl⟩
    rw [← hq] at hr1
    omega
  subst hR0
  exact hr1
theorem window_bits {c v z r : Nat} (hc : c < 32) (hv : v < 18446744073709551616) (hr : r = v / 2 ^ c + z * 2 ^ (64 - c)) (hb : r < 4611686018427387904) :
    wrap64 (bits BinOp.or IntKind.u64 ((v : Int) / 2 ^ c) (IntKind.u64.wrap ((z : Int) * 2 ^ (64 - c)))) = (r : Int) := by
  have e1 : (v : Int) / 2 ^ c = ((v / 2 ^ c : Nat) : Int) := by simp
  have e2 : (z : Int) * 2 ^ (64 - c) = ((z * 2 ^ (64 - c) : Nat) : Int) := by simp
  have hlt : v / 2 ^ c < 2 ^ (64 - c) := by
    apply Nat.div_lt_of_lt_mul
    rw [← Nat.pow_add, show c + (64 - c) = 64 from by omega]; exact hv
  obtain ⟨a, ha⟩ : ∃ a, a = v / 2 ^ c := ⟨_, rfl⟩
  obtain ⟨b, hbe⟩ : ∃ b, b = z * 2 ^ (64 - c) := ⟨_, rfl⟩
  have hbm : b % 2 ^ (64 - c) = 0 := by rw [hbe]; exact Nat.mul_mod_left _ _
  rw [e1, e2, ← ha, ← hbe]
  rw [← ha] at hlt hr
  rw [← hbe] at hr
  have e3 : IntKind.u64.wrap (b : Int) = (b : Int) := by rw [IntKind.wrap_u64]; omega
  rw [e3, u64_or_nat _ _ (by omega) (by omega), Nat.or_comm, nat_join (64 - c) b a hbm hlt, Nat.add_comm, ← hr]
  simp only [wrap64]; omega

set_option maxRecDepth 100000 in
theorem window_any (va : Value) (xs : List Nat) (n : Nat) (w : World) (ha : Reads w va xs) (hn : n ≤ 1000000) (hv : val xs / 2 ^ n < 4611686018427387904) :
    Calls Tryz.prog 145 #[va, .int .i64 (n : Nat)] w (I64P w (val xs / 2 ^ n : Nat)) := by
  have hx := ha.limbs
  obtain ⟨s, hs⟩ : ∃ s, s = n / 32 := ⟨_, rfl⟩
  obtain ⟨c, hc⟩ : ∃ c, c = n % 32 := ⟨_, rfl⟩
  have hsi : (n : Int) / 32 = (s : Int) := by omega
  have hci : (n : Int) % 32 = (c : Int) := by omega
  have hc32 : c < 32 := by omega
  obtain ⟨z, hz⟩ : ∃ z, z = xs.getD (s + 2) 0 := ⟨_, rfl⟩
  have hzl : z < 4294967296 := by rw [hz]; exact hx.getD _
  have HZ := Lib.hid hz
  obtain ⟨v, hve⟩ : ∃ v, v = xs.getD s 0 + 4294967296 * xs.getD (s + 1) 0 := ⟨_, rfl⟩
  have HV := Lib.hid hve
  obtain ⟨r, hr⟩ : ∃ r, r = val xs / 2 ^ n := ⟨_, rfl⟩
  have HR := Lib.hid hr
  rw [← hr] at hv ⊢
  have HB := Lib.hid hv
  have hsb : s ≤ 1000000 := by omega
  have HS := Lib.hid hs
  have HC := Lib.hid hc
  clear hz hve hr hv hs hc
  go_enter Tryz.func145, Tryz.ntmps145
  go_wp2_with fail
  refine (word_fn va xs s v _ ha (by omega) HV).mono ?_; rintro e w' ⟨rfl, rfl⟩
  go_wp2_with fail
  refine (limb_fn va xs _ z _ ha (by omega) (by rw [show ((s : Int) + 2).toNat = s + 2 from by omega]; exact HZ.out)).mono ?_; rintro e w' ⟨rfl, rfl⟩
  go_wp2_with fail
  go_ret
  have hm := window_math hx HS.out HC.out HV.out HZ.out HR.out HB.out
  refine ⟨congrArg (fun i => Ending.returned (.int .i64 i)) (window_bits hc32 hm.2 hm.1 HB.out), rfl⟩
end Go.Proofs.YtbeoeackahmpbaaGreatDoor

namespace Go.Proofs.YtbeoeackahmpbaaGreatDoor
open Go.RowKit NatM

/-- Block g holds a pair of factors. -/
def Two (w : World) (g : Nat) (a b : Int) : Prop := w.heap[g]? = some (.cells #[.int .i64 a, .int .i64 b] 124 (0, 0))
theorem Two.lt {w : World} {g : Nat} {a b : Int} (h : Two w g a b) : g < w.heap.size := (Array.getElem?_eq_some_iff.1 h).1
theorem Two.fst {w : World} {g : Nat} {a b : Int} (h : Two w g a b) : w.cell? ⟨g, 0, none⟩ = some (.int .i64 a) := by
  rw [cell_of_row w g 0 _ 124 (0, 0) h]; rfl
theorem Two.snd {w : World} {g : Nat} {a b : Int} (h : Two w g a b) : w.cell? ⟨g, 1, none⟩ = some (.int .i64 b) := by
  rw [cell_of_row w g 1 _ 124 (0, 0) h]; rfl
theorem Two.kept {w w' : World} {g : Nat} {a b : Int} {row : Option Nat} (h : Two w g a b) (hg : w.grownBy w' row) (hne : some g ≠ row) : Two w' g a b := (hg.block g h.lt hne).trans h
theorem Two.put {w : World} {g g2 : Nat} {a b : Int} (h : Two w g a b) (hne : g2 ≠ g) (i : Nat) (u : Value) : Two (w.setCell ⟨g2, i, none⟩ u) g a b :=
  h.kept (grown_setCell i u) (by intro e; injection e with e; exact hne e.symm)
theorem Two.below {w w' : World} {g : Nat} {a b : Int} (h : Two w g a b) (hb : Below w.heap.size w w') : Two w' g a b := (hb.block g h.lt).trans h
theorem two_new (w : World) (a b : Int) : Two (w.alloc (.cells #[.int .i64 a, .int .i64 b] 124)) w.heap.size a b := heap_alloc_new w _

/-- What apply does: the first n limbs of the row of a are those of U, the row of b is that of V. -/
def ApplyP (w : World) (base ga gb n U V : Nat) (la : Nat) (e : Ending) (w' : World) : Prop :=
  ∃ zs us, e = .returned (.tuple #[]) ∧ Row w' ga zs ∧ Row w' gb us ∧ zs.length = la ∧ us.length = n ∧ Limbs zs ∧ Limbs us ∧ val (zs.take n) = U ∧ val (us.take n) = V ∧ Below base w w'
set_option maxRecDepth 100000 in
set_option maxHeartbeats 4000000 in
theorem apply_any (a b c d : Int) (ga gb na n ca cb base U V : Nat) (xs ys : List Nat) (w : World) (hra : Row w ga xs) (hrb : Row w gb ys) (hne : ga ≠ gb) (hba : base ≤ ga) (hbb : base ≤ gb) (hna : n ≤ na) (hxl : na ≤ xs.length) (hyl : ys.length = n) (hn : n ≤ 1000000)
    (hx : Limbs xs) (hy : Limbs ys) (f1 : Fac a b) (f2 : Fac c d) (hU : Hid ((U : Int) = a * val xs + b * val ys)) (hV : Hid ((V : Int) = c * val xs + d * val ys)) (hUb : Hid (U < pw n)) (hVb : Hid (V < pw n)) :
    Calls Tryz.prog 146 #[.agg #[.int .i64 a, .int .i64 b], .agg #[.int .i64 c, .int .i64 d], .slice (some ⟨ga, 0, none⟩) na ca, .slice (some ⟨gb, 0, none⟩) n cb] w (ApplyP w base ga gb n U V xs.length) := by
  go_enter Tryz.func146, Tryz.ntmps146
  go_wp2_with fail
  obtain ⟨w0, hw0⟩ : ∃ w0, w0 = (w.alloc (.cells #[.int .i64 a, .int .i64 b] 124)).alloc (.cells #[.int .i64 c, .int .i64 d] 124) := ⟨_, rfl⟩
  have hA1 : Add w (w.alloc (.cells #[.int .i64 a, .int .i64 b] 124)) := (Below.refl _ _).alloc (Nat.le_refl _) _
  have hA2 : Add (w.alloc (.cells #[.int .i64 a, .int .i64 b] 124)) w0 := by rw [hw0]; exact (Below.refl _ _).alloc (Nat.le_refl _) _
  have hadd : Add w w0 := Add.trans hA1 hA2
  have t1 : Two w0 w.heap.size a b := (two_new w a b).below hA2
  have t2 : Two w0 (w.heap.size + 1) c d := by
    have := two_new (w.alloc (.cells #[.int .i64 a, .int .i64 b] 124)) c d
    rw [← hw0] at this
    simpa using this
  have hb0 : Below base w w0 := Below.mono hadd (by have := hra.lt; omega)
  have lga := hra.lt
  have lgb := hrb.lt
  obtain ⟨h0, hh0⟩ : ∃ h0, h0 = w.heap.size := ⟨_, rfl⟩
  rw [← hh0] at t1 t2 lga lgb
  replace hra := hra.below hadd
  replace hrb := hrb.below hadd
  rw [← hw0]
  rw [← hh0]
  clear hw0 hA1 hA2 hadd hh0
  have HX := Lib.hid hx
  have HY := Lib.hid hy
  go_loopw [8, 9, 15] (fun xv yv iv wr => ∃ (k : Nat) (x y : Int) (zs us : List Nat), k ≤ n ∧ xv = .int .i64 x ∧ yv = .int .i64 y ∧ iv = .int .i64 k ∧ -2147483648 ≤ x ∧ x < 2147483648 ∧ -2147483648 ≤ y ∧ y < 2147483648 ∧ Hid (Comb xs ys a b k zs x) ∧ Hid (Comb xs ys c d k us y) ∧ Hid (zs.length = xs.length) ∧ Hid (us.length = n) ∧ Hid (Limbs zs) ∧ Hid (Limbs us) ∧ Hid (∀ j, k ≤ j → zs.getD j 0 = xs.getD j 0 ∧ us.getD j 0 = ys.getD j 0) ∧ Row wr ga zs ∧ Row wr gb us ∧ Two wr h0 a b ∧ Two wr (h0 + 1) c d ∧ Below base w wr) (fun _ _ i _ => n - (intOf i).toNat)
  case atStart => exact ⟨0, 0, 0, xs, ys, Nat.zero_le _, rfl, rfl, rfl, by decide, by decide, by decide, by decide, Lib.hid (comb_zero _ _ _ _ _), Lib.hid (comb_zero _ _ _ _ _), Lib.hid rfl, Lib.hid hyl, HX, HY, Lib.hid fun _ _ => ⟨rfl, rfl⟩, hra, hrb, t1, t2, hb0⟩
  case round =>
    clear hra hrb t1 t2 hb0 hx hy
    obtain ⟨k, x, y, zs, us, hk, rfl, rfl, rfl, x1, x2, y1, y2, hc1, hc2, hzl, hul, hzs, hus, hrest, hra, hrb, t1, t2, hbw⟩ := hrel
    by_cases hlt : k < n
    · have hca := hra.cell k (by rw [hzl.out]; omega)
      have hfa := hra.free k
      have hcb := hrb.cell k (by rw [hul.out]; omega)
      have hfb := hrb.free k
      rw [(hrest.out k (Nat.le_refl _)).1] at hca
      rw [(hrest.out k (Nat.le_refl _)).2] at hcb
      obtain ⟨p, hp⟩ : ∃ p, p = xs.getD k 0 := ⟨_, rfl⟩
      obtain ⟨q, hq⟩ : ∃ q, q = ys.getD k 0 := ⟨_, rfl⟩
      have hpl : p < 4294967296 := by rw [hp]; exact HX.out.getD k
      have hql : q < 4294967296 := by rw [hq]; exact HY.out.getD k
      rw [← hp] at hca
      rw [← hq] at hcb
      have s1 := fac_sum f1 hpl hql
      have s2 := fac_sum f2 hpl hql
      obtain ⟨ap, hap⟩ : ∃ ap, a * (p : Int) = ap := ⟨_, rfl⟩
      obtain ⟨bq, hbq⟩ : ∃ bq, b * (q : Int) = bq := ⟨_, rfl⟩
      obtain ⟨cp, hcp⟩ : ∃ cp, c * (p : Int) = cp := ⟨_, rfl⟩
      obtain ⟨dq, hdq⟩ : ∃ dq, d * (q : Int) = dq := ⟨_, rfl⟩
      rw [hap, hbq] at s1
      rw [hcp, hdq] at s2
      obtain ⟨r1, r2, r3, r4, r5, r6⟩ := s1
      obtain ⟨q1, q2, q3, q4, q5, q6⟩ := s2
      obtain ⟨e, he⟩ : ∃ e, x + (ap + bq) = e := ⟨_, rfl⟩
      obtain ⟨f, hf⟩ : ∃ f, y + (cp + dq) = f := ⟨_, rfl⟩
      obtain ⟨lo, hlo⟩ : ∃ lo : Nat, e % 4294967296 = (lo : Int) := ⟨(e % 4294967296).toNat, by omega⟩
      obtain ⟨lp, hlp⟩ : ∃ lp : Nat, f % 4294967296 = (lp : Int) := ⟨(f % 4294967296).toNat, by omega⟩
      obtain ⟨hi, hhi⟩ : ∃ hi, e / 4294967296 = hi := ⟨_, rfl⟩
      obtain ⟨hj, hhj⟩ : ∃ hj, f / 4294967296 = hj := ⟨_, rfl⟩
      have se : e = lo + 4294967296 * hi := by omega
      have sf : f = lp + 4294967296 * hj := by omega
      have be : -9223372036854775808 ≤ e ∧ e < 9223372036854775808 := by omega
      have bf : -9223372036854775808 ≤ f ∧ f < 9223372036854775808 := by omega
      have bl : lo < 4294967296 ∧ lp < 4294967296 := by omega
      have bh : -2147483648 ≤ hi ∧ hi < 2147483648 ∧ -2147483648 ≤ hj ∧ hj < 2147483648 := by omega
      have k1 : Hid (Comb xs ys a b (k + 1) (zs.set k lo) hi) := Lib.hid (comb_step hc1.out (by rw [hzl.out]; omega) (by rw [← hp, ← hq, hap, hbq]; exact he) se)
      have k2 : Hid (Comb xs ys c d (k + 1) (us.set k lp) hj) := Lib.hid (comb_step hc2.out (by rw [hul.out]; omega) (by rw [← hp, ← hq, hcp, hdq]; exact hf) sf)
      have c1 := t1.fst
      have c2 := t1.snd
      have c3 := t2.fst
      have c4 := t2.snd
      obtain ⟨be1, be2⟩ := be
      obtain ⟨bf1, bf2⟩ := bf
      obtain ⟨bl1, bl2⟩ := bl
      obtain ⟨bh1, bh2, bh3, bh4⟩ := bh
      clear hc1 hc2 hp hq se sf
      go_wp2_with fail
      go_quiet (fail)
      go_wp2_with fail
      go_roundw
      case rel =>
        have hbz := hbw.size
        have z1 : Row ((wr.drewN nq).setCell ⟨ga, k, none⟩ (.int .u32 (lo : Nat))) ga (zs.set k lo) := Row.set (w := wr.drewN nq) hra k lo
        have z2 : Row ((wr.drewN nq).setCell ⟨ga, k, none⟩ (.int .u32 (lo : Nat))) gb us := Row.kept2 (w := wr.drewN nq) hrb hne k _
        have z3 : Two ((wr.drewN nq).setCell ⟨ga, k, none⟩ (.int .u32 (lo : Nat))) h0 a b := Two.put (w := wr.drewN nq) t1 (by omega) k _
        have z4 : Two ((wr.drewN nq).setCell ⟨ga, k, none⟩ (.int .u32 (lo : Nat))) (h0 + 1) c d := Two.put (w := wr.drewN nq) t2 (by omega) k _
        have z5 : Below base w ((wr.drewN nq).setCell ⟨ga, k, none⟩ (.int .u32 (lo : Nat))) := Below.setCell (below_drewN hbw nq) hba _
        refine ⟨k + 1, hi, hj, zs.set k lo, us.set k lp, by omega, rfl, rfl, by go_num, bh1, bh2, bh3, bh4, k1, k2, Lib.hid (by rw [List.length_set]; exact hzl.out), Lib.hid (by rw [List.length_set]; exact hul.out), Lib.hid (hzs.out.set _ _ bl1), Lib.hid (hus.out.set _ _ bl2), Lib.hid fun j hj => ?_, z1.kept2 (fun e => hne e.symm) k _, z2.set k lp, z3.put (by omega) k _, z4.put (by omega) k _, z5.setCell hbb _⟩
        have := hrest.out j (by omega)
        rw [NatM.getD_set_ne _ _ _ _ (by omega), NatM.getD_set_ne _ _ _ _ (by omega)]
        exact this
      case measure => simp [intOf]; omega
    · obtain rfl : k = n := by omega
      have e1 := comb_done hc1.out hzs.out (by rw [hzl.out]; omega) (by omega) hyl hU.out hUb.out
      have e2 := comb_done hc2.out hus.out (by rw [hul.out]; exact Nat.le_refl _) (by omega) hyl hV.out hVb.out
      have E1 := Lib.hid e1
      have E2 := Lib.hid e2
      clear e1 e2 hc1 hc2
      go_wp2_with fail
      go_end0
      exact ⟨zs, us, rfl, hra, hrb, hzl.out, hul.out, hzs.out, hus.out, E1.out, E2.out, hbw⟩
end Go.Proofs.YtbeoeackahmpbaaGreatDoor
