/- The helpers shape and long of the laws of erasure. -/
import Derived.Test.YtmlcenocjpjcfaaE12
import Derived.Test.YtmlcenocjpjcfaaG21
namespace Go.Proofs.Ytmlcenocjpjcfaa
open Go.RowKit GfM

/-- The numbers of the code and of the bytes of a row. -/
def shA (k : Nat) : Nat := 1 + k % 6
def shB (k m : Nat) : Nat := if 8 < shA k + m % 5 then 8 - shA k else m % 5
def shN (s : Nat) : Nat := s % 20
theorem sh_code (k m : Nat) : codeZ (shA k : Nat) (shB k m : Nat) = true := by
  unfold codeZ shB shA
  split <;> simp <;> omega
theorem sq_dimL {l : List Nat} (h : Bys l) (n a : Nat) : Dim a n (sqTo l n a) := by
  refine ⟨length_sqTo .., fun i hi => ?_, bysM_sq h n a⟩
  have : (sqTo l n a).getD i [] = sqRow l n i := by simp [sqTo, List.getD, hi]
  rw [this]; exact length_sqRow ..
/-- What shape returns. -/
def ShP (w : World) (l : List Nat) (a b n : Nat) (e : Ending) (w' : World) : Prop := ∃ v hs, e = .returned (.tuple #[.int .i64 (a : Nat), .int .i64 (b : Nat), v]) ∧ ListR w' w.heap.size v hs (sqTo l n a) ∧ Add w w'

set_option maxRecDepth 100000 in
set_option maxHeartbeats 4000000 in
theorem shape_any {w : World} {v : Value} {l : List Nat} (h : Reads w v l) (k m s : Nat) (hk : k < 256) (hm : m < 256) (hs : s < 256) :
    Calls Try.prog 22 #[.int .u8 (k : Nat), .int .u8 (m : Nat), .int .u8 (s : Nat), v] w (ShP w l (shA k) (shB k m) (shN s)) := by
  obtain ⟨i0, hi, hz0, hz1, hz2⟩ := info_parts info5
  obtain ⟨i1, hi1, hy0, hy1, hy2⟩ := info_parts info32
  have hbl := h.limbs
  obtain ⟨ao, c, rfl, hml⟩ := h.isSlice
  unfold maxLen at hml
  obtain ⟨L, eL⟩ : ∃ L, L = l.length := ⟨_, rfl⟩
  rw [← eL] at h hml ⊢
  have HR := Lib.hid h
  have HL := Lib.hid eL
  obtain ⟨A, eA⟩ : ∃ A, A = shA k := ⟨_, rfl⟩
  obtain ⟨n, en⟩ : ∃ n, n = shN s := ⟨_, rfl⟩
  obtain ⟨B, eB⟩ : ∃ B, B = shB k m := ⟨_, rfl⟩
  rw [← eA, ← en, ← eB]
  have hA : A ≤ 6 := by unfold shA at eA; omega
  have hA0 : 0 < A := by unfold shA at eA; omega
  have hn : n < 20 := by unfold shN at en; omega
  have hw1 : IntKind.i64.wrap (k : Int) = k := by rw [IntKind.wrap_i64]; omega
  have hw2 : IntKind.i64.wrap (m : Int) = m := by rw [IntKind.wrap_i64]; omega
  have hw3 : IntKind.i64.wrap (s : Int) = s := by rw [IntKind.wrap_i64]; omega
  have ha1 : (1 : Int) + (k : Int) % 6 = (A : Int) := by unfold shA at eA; omega
  have hn1 : (s : Int) % 20 = (n : Int) := by unfold shN at en; omega
  obtain ⟨b, eb⟩ : ∃ b, b = m % 5 := ⟨_, rfl⟩
  have hb1 : (m : Int) % 5 = (b : Int) := by omega
  have hb5 : b < 5 := by omega
  have EB : Hid (B = if 8 < A + b then 8 - A else b) := Lib.hid (by rw [eB, eA, eb]; rfl)
  clear h eL eA en eB eb
  go_enter Try.func22, Try.ntmps22
  -- ways
  by_cases h8 : 8 < A + b
  · have hd : decide ((8 : Int) < (A : Int) + (b : Int)) = true := decide_eq_true (by omega)
    have e8 : (8 : Int) - (A : Int) = (B : Int) := by rw [EB.out, if_pos h8]; omega
    clear h8
    go_wp2_with fail
    simp only [hn1, hb1]
    clear hn1 hb1 hd e8
    go_loopw [14, 15] (fun o i wr => ∃ (q : Nat) (hs : List Value), q ≤ A ∧ i = .int .i64 (q : Nat) ∧ ListR wr w.heap.size o hs (sqTo l n q) ∧ Add w wr) (fun _ i _ => A - (intOf i).toNat)
    case atStart => exact ⟨0, [], Nat.zero_le _, rfl, ListR.nil _ _, Below.refl _ _⟩
    case round =>
      obtain ⟨q, hs, hq, rfl, hl, hadd⟩ := hrel
      by_cases h0 : q = A
      · have HF : Hid (ListR wr w.heap.size u14 hs (sqTo l n A)) := Lib.hid (by rw [h0] at hl; exact hl)
        have HA := Lib.hid hadd
        clear hl hadd
        subst h0
        go_wp2_with fail
        go_ret3
        exact ⟨u14, hs, rfl, HF.out, HA.out⟩
      · have hlt : q < A := by omega
        obtain ⟨p, ep⟩ : ∃ p, p = q * n := ⟨_, rfl⟩
        have hp64 : p ≤ 120 := by rw [ep]; exact Nat.mul_le_mul (show q ≤ 6 by omega) (show n ≤ 20 by omega)
        have hpi : (q : Int) * (n : Int) = (p : Int) := by rw [ep]; simp
        have EP := Lib.hid ep
        have HLI := Lib.hid hl
        have HADD := Lib.hid hadd
        have hlq : hs.length = q := by rw [hl.2.1, length_sqTo]
        have HLQ := Lib.hid hlq
        clear hl hadd ep h0 hlq
        go_wp2_with (at_make; refine wpList_make_full _ rfl _ _ 32 rfl wr.heap.size 5 i0 (.int .u8 0) 1 Try.underlying32 hi hz0 hz1 _ _ _ _ n rfl rfl (by omega) (by omega) (by rw [hz2]; omega) (by unfold maxLen; omega) (Nat.le_refl _) ?_)
        intro w1 hown hgr
        have hown := Own.made hown
        obtain ⟨g, eg⟩ : ∃ g, g = wr.heap.size := ⟨_, rfl⟩
        rw [← eg] at hown ⊢
        have HG0 := Lib.hid (hown.row)
        have HW1 : Hid (Add wr w1) := Lib.hid ((Below.refl _ _).grown hgr (Nat.le_refl _) (by simp))
        have hbg : wr.heap.size ≤ g := by omega
        clear hown hgr eg
        go_wp2_with fail
        rename World => w1'
        go_loopw [17] (fun i wx => ∃ j : Nat, j ≤ n ∧ i = .int .i64 (j : Nat) ∧ Row wx g (fillTo (sqRow l n q) n j) ∧ Add wr wx) (fun i _ => n - (intOf i).toNat)
        case atStart => exact ⟨0, Nat.zero_le _, rfl, by rw [fillTo_zero]; exact HG0.out, HW1.out⟩
        case round =>
          obtain ⟨j, hj, rfl, hrow, hg⟩ := hrel
          rename World => wx
          by_cases hjn : j = n
          · have hfull : Row wx g (sqRow l n q) := by rw [hjn, fillTo_all (length_sqRow ..)] at hrow; exact hrow
            have hjn := hjn.symm
            have HPUSH : Hid (∀ v' w3 o, (wx.alloc o).grownBy w3 u14.ownBlock → w3.ownsRow w.heap.size 32 1 v' (hs.length + 1) (hs ++ [.slice (some ⟨g, 0, none⟩) n n]) → (v'.ownBlock = u14.ownBlock ∨ v'.ownBlock = some (wx.heap.size + 1)) → ListR w3 w.heap.size v' (hs ++ [.slice (some ⟨g, 0, none⟩) n n]) (sqTo l n (q + 1)) ∧ Add w w3) := Lib.hid fun v' w3 o h1 h2 h3 => by
              rw [sqTo_succ]
              have hrd : Reads wx (.slice (some ⟨g, 0, none⟩) n n) (sqRow l n q) := by
                have := hfull.reads (m := n) (c := n) (by rw [length_sqRow]; exact Nat.le_refl _) (Nat.le_refl _) (by unfold maxLen; omega) (bys_sqRow hbl n q)
                rw [List.take_of_length_le (by rw [length_sqRow]; exact Nat.le_refl _)] at this
                exact this
              refine ⟨(HLI.out.add hg).push hrd (away_fresh HLI.out.1 (fun b off n' c' e => by cases e; exact hbg)) h1 h2 h3, (HLI.out.add hg).addB (Add.trans HADD.out hg) (Nat.le_refl _) h1⟩
            have hownV := (HLI.out.add hg).1
            have hsz := (Add.trans HADD.out hg).size
            have hgk : hs.length ≤ 8 := by rw [HLQ.out]; omega
            clear hfull hrow hg
            subst hjn
            go_wp2_with (at_builtin; refine wpList_append_own_at _ rfl _ _ 22 rfl w.heap.size 32 i1 (.slice none 0 0) 1 24 Try.underlying22 hi1 hy0 hy1 hy2 rfl (by decide) _ _ _ rfl (World.ownsRow.alloc hownV _) ⟨wx.heap.size, 0, none⟩ 1 1 [_] rfl rfl (Go.cell_one_new _ _ _) (by intro u hu; simp at hu; subst hu; rfl) (by unfold maxLen; omega) (by omega) (by simp; omega) ?_)
            intro v' w3 hown3 hgr3 _ hat
            have HEND := Lib.hid (HPUSH.out v' w3 _ hgr3 hown3 hat)
            clear hown3 hgr3 hownV hat
            go_wp2_with fail
            go_roundw
            case rel => exact ⟨q + 1, _, by omega, by go_num, HEND.out.1, HEND.out.2⟩
            case measure => simp [intOf]; omega
          · have hjlt : j < n := by omega
            by_cases hin : p + j < L
            · have hfree := hrow.free j
              obtain ⟨old, eold⟩ : ∃ old, old = (fillTo (sqRow l n q) n j).getD j 0 := ⟨_, rfl⟩
              have hcz := hrow.cell j (by rw [length_fillTo (length_sqRow ..) hj]; exact hjlt)
              rw [← eold] at hcz
              obtain ⟨b', off, rfl, hcl⟩ := (HR.out.mono (Add.trans HADD.out hg)).cell hin
              obtain ⟨y, ey⟩ : ∃ y, y = l.getD (p + j) 0 := ⟨_, rfl⟩
              rw [← ey] at hcl
              have HROW : Hid (Row (wx.setCell ⟨g, j, none⟩ (.int .u8 (y : Nat))) g (fillTo (sqRow l n q) n (j + 1))) := Lib.hid (by
                have h2 := hrow.set j y
                rw [ey, EP.out, ← sqRow_get hjlt, fillTo_step (length_sqRow ..) hjlt] at h2
                rw [ey, EP.out, ← sqRow_get hjlt]; exact h2)
              have HGG := Lib.hid (hg.setCell (p := ⟨g, j, none⟩) hbg (.int .u8 (y : Nat)))
              clear hrow hg eold ey hjn
              go_wp2_with fail
              go_roundw
              case rel => exact ⟨j + 1, by omega, by go_num, HROW.out, HGG.out⟩
              case measure => simp [intOf]; omega
            · have hfull : Row wx g (sqRow l n q) := by
                rw [fill_rest (length_sqRow ..) hj (fun r h1 h2 => by
                  rw [sqRow_get h2, ← EP.out]
                  have h3 : l.length ≤ p + r := by rw [← HL.out]; omega
                  simp [List.getD, List.getElem?_eq_none h3])] at hrow
                exact hrow
              have hdec : decide ((p : Int) + (j : Int) < (L : Int)) = false := decide_eq_false (by omega)
              have HPUSH : Hid (∀ v' w3 o, (wx.alloc o).grownBy w3 u14.ownBlock → w3.ownsRow w.heap.size 32 1 v' (hs.length + 1) (hs ++ [.slice (some ⟨g, 0, none⟩) n n]) → (v'.ownBlock = u14.ownBlock ∨ v'.ownBlock = some (wx.heap.size + 1)) → ListR w3 w.heap.size v' (hs ++ [.slice (some ⟨g, 0, none⟩) n n]) (sqTo l n (q + 1)) ∧ Add w w3) := Lib.hid fun v' w3 o h1 h2 h3 => by
                rw [sqTo_succ]
                have hrd : Reads wx (.slice (some ⟨g, 0, none⟩) n n) (sqRow l n q) := by
                  have := hfull.reads (m := n) (c := n) (by rw [length_sqRow]; exact Nat.le_refl _) (Nat.le_refl _) (by unfold maxLen; omega) (bys_sqRow hbl n q)
                  rw [List.take_of_length_le (by rw [length_sqRow]; exact Nat.le_refl _)] at this
                  exact this
                refine ⟨(HLI.out.add hg).push hrd (away_fresh HLI.out.1 (fun b off n' c' e => by cases e; exact hbg)) h1 h2 h3, (HLI.out.add hg).addB (Add.trans HADD.out hg) (Nat.le_refl _) h1⟩
              have hownV := (HLI.out.add hg).1
              have hsz := (Add.trans HADD.out hg).size
              have hgk : hs.length ≤ 8 := by rw [HLQ.out]; omega
              clear hfull hrow hg
              go_wp2_with (at_builtin; refine wpList_append_own_at _ rfl _ _ 22 rfl w.heap.size 32 i1 (.slice none 0 0) 1 24 Try.underlying22 hi1 hy0 hy1 hy2 rfl (by decide) _ _ _ rfl (World.ownsRow.alloc hownV _) ⟨wx.heap.size, 0, none⟩ 1 1 [_] rfl rfl (Go.cell_one_new _ _ _) (by intro u hu; simp at hu; subst hu; rfl) (by unfold maxLen; omega) (by omega) (by simp; omega) ?_)
              intro v' w3 hown3 hgr3 _ hat
              have HEND := Lib.hid (HPUSH.out v' w3 _ hgr3 hown3 hat)
              clear hown3 hgr3 hownV hat
              go_wp2_with fail
              go_roundw
              case rel => exact ⟨q + 1, _, by omega, by go_num, HEND.out.1, HEND.out.2⟩
              case measure => simp [intOf]; omega
  · have hd : decide ((8 : Int) < (A : Int) + (b : Int)) = false := decide_eq_false (by omega)
    obtain rfl : B = b := by rw [EB.out, if_neg h8]
    clear h8 EB
    go_wp2_with fail
    simp only [hn1, hb1]
    clear hn1 hb1 hd
    go_loopw [14, 15] (fun o i wr => ∃ (q : Nat) (hs : List Value), q ≤ A ∧ i = .int .i64 (q : Nat) ∧ ListR wr w.heap.size o hs (sqTo l n q) ∧ Add w wr) (fun _ i _ => A - (intOf i).toNat)
    case atStart => exact ⟨0, [], Nat.zero_le _, rfl, ListR.nil _ _, Below.refl _ _⟩
    case round =>
      obtain ⟨q, hs, hq, rfl, hl, hadd⟩ := hrel
      by_cases h0 : q = A
      · have HF : Hid (ListR wr w.heap.size u14 hs (sqTo l n A)) := Lib.hid (by rw [h0] at hl; exact hl)
        have HA := Lib.hid hadd
        clear hl hadd
        subst h0
        go_wp2_with fail
        go_ret3
        exact ⟨u14, hs, rfl, HF.out, HA.out⟩
      · have hlt : q < A := by omega
        obtain ⟨p, ep⟩ : ∃ p, p = q * n := ⟨_, rfl⟩
        have hp64 : p ≤ 120 := by rw [ep]; exact Nat.mul_le_mul (show q ≤ 6 by omega) (show n ≤ 20 by omega)
        have hpi : (q : Int) * (n : Int) = (p : Int) := by rw [ep]; simp
        have EP := Lib.hid ep
        have HLI := Lib.hid hl
        have HADD := Lib.hid hadd
        have hlq : hs.length = q := by rw [hl.2.1, length_sqTo]
        have HLQ := Lib.hid hlq
        clear hl hadd ep h0 hlq
        go_wp2_with (at_make; refine wpList_make_full _ rfl _ _ 32 rfl wr.heap.size 5 i0 (.int .u8 0) 1 Try.underlying32 hi hz0 hz1 _ _ _ _ n rfl rfl (by omega) (by omega) (by rw [hz2]; omega) (by unfold maxLen; omega) (Nat.le_refl _) ?_)
        intro w1 hown hgr
        have hown := Own.made hown
        obtain ⟨g, eg⟩ : ∃ g, g = wr.heap.size := ⟨_, rfl⟩
        rw [← eg] at hown ⊢
        have HG0 := Lib.hid (hown.row)
        have HW1 : Hid (Add wr w1) := Lib.hid ((Below.refl _ _).grown hgr (Nat.le_refl _) (by simp))
        have hbg : wr.heap.size ≤ g := by omega
        clear hown hgr eg
        go_wp2_with fail
        rename World => w1'
        go_loopw [17] (fun i wx => ∃ j : Nat, j ≤ n ∧ i = .int .i64 (j : Nat) ∧ Row wx g (fillTo (sqRow l n q) n j) ∧ Add wr wx) (fun i _ => n - (intOf i).toNat)
        case atStart => exact ⟨0, Nat.zero_le _, rfl, by rw [fillTo_zero]; exact HG0.out, HW1.out⟩
        case round =>
          obtain ⟨j, hj, rfl, hrow, hg⟩ := hrel
          rename World => wx
          by_cases hjn : j = n
          · have hfull : Row wx g (sqRow l n q) := by rw [hjn, fillTo_all (length_sqRow ..)] at hrow; exact hrow
            have hjn := hjn.symm
            have HPUSH : Hid (∀ v' w3 o, (wx.alloc o).grownBy w3 u14.ownBlock → w3.ownsRow w.heap.size 32 1 v' (hs.length + 1) (hs ++ [.slice (some ⟨g, 0, none⟩) n n]) → (v'.ownBlock = u14.ownBlock ∨ v'.ownBlock = some (wx.heap.size + 1)) → ListR w3 w.heap.size v' (hs ++ [.slice (some ⟨g, 0, none⟩) n n]) (sqTo l n (q + 1)) ∧ Add w w3) := Lib.hid fun v' w3 o h1 h2 h3 => by
              rw [sqTo_succ]
              have hrd : Reads wx (.slice (some ⟨g, 0, none⟩) n n) (sqRow l n q) := by
                have := hfull.reads (m := n) (c := n) (by rw [length_sqRow]; exact Nat.le_refl _) (Nat.le_refl _) (by unfold maxLen; omega) (bys_sqRow hbl n q)
                rw [List.take_of_length_le (by rw [length_sqRow]; exact Nat.le_refl _)] at this
                exact this
              refine ⟨(HLI.out.add hg).push hrd (away_fresh HLI.out.1 (fun b off n' c' e => by cases e; exact hbg)) h1 h2 h3, (HLI.out.add hg).addB (Add.trans HADD.out hg) (Nat.le_refl _) h1⟩
            have hownV := (HLI.out.add hg).1
            have hsz := (Add.trans HADD.out hg).size
            have hgk : hs.length ≤ 8 := by rw [HLQ.out]; omega
            clear hfull hrow hg
            subst hjn
            go_wp2_with (at_builtin; refine wpList_append_own_at _ rfl _ _ 22 rfl w.heap.size 32 i1 (.slice none 0 0) 1 24 Try.underlying22 hi1 hy0 hy1 hy2 rfl (by decide) _ _ _ rfl (World.ownsRow.alloc hownV _) ⟨wx.heap.size, 0, none⟩ 1 1 [_] rfl rfl (Go.cell_one_new _ _ _) (by intro u hu; simp at hu; subst hu; rfl) (by unfold maxLen; omega) (by omega) (by simp; omega) ?_)
            intro v' w3 hown3 hgr3 _ hat
            have HEND := Lib.hid (HPUSH.out v' w3 _ hgr3 hown3 hat)
            clear hown3 hgr3 hownV hat
            go_wp2_with fail
            go_roundw
            case rel => exact ⟨q + 1, _, by omega, by go_num, HEND.out.1, HEND.out.2⟩
            case measure => simp [intOf]; omega
          · have hjlt : j < n := by omega
            by_cases hin : p + j < L
            · have hfree := hrow.free j
              obtain ⟨old, eold⟩ : ∃ old, old = (fillTo (sqRow l n q) n j).getD j 0 := ⟨_, rfl⟩
              have hcz := hrow.cell j (by rw [length_fillTo (length_sqRow ..) hj]; exact hjlt)
              rw [← eold] at hcz
              obtain ⟨b', off, rfl, hcl⟩ := (HR.out.mono (Add.trans HADD.out hg)).cell hin
              obtain ⟨y, ey⟩ : ∃ y, y = l.getD (p + j) 0 := ⟨_, rfl⟩
              rw [← ey] at hcl
              have HROW : Hid (Row (wx.setCell ⟨g, j, none⟩ (.int .u8 (y : Nat))) g (fillTo (sqRow l n q) n (j + 1))) := Lib.hid (by
                have h2 := hrow.set j y
                rw [ey, EP.out, ← sqRow_get hjlt, fillTo_step (length_sqRow ..) hjlt] at h2
                rw [ey, EP.out, ← sqRow_get hjlt]; exact h2)
              have HGG := Lib.hid (hg.setCell (p := ⟨g, j, none⟩) hbg (.int .u8 (y : Nat)))
              clear hrow hg eold ey hjn
              go_wp2_with fail
              go_roundw
              case rel => exact ⟨j + 1, by omega, by go_num, HROW.out, HGG.out⟩
              case measure => simp [intOf]; omega
            · have hfull : Row wx g (sqRow l n q) := by
                rw [fill_rest (length_sqRow ..) hj (fun r h1 h2 => by
                  rw [sqRow_get h2, ← EP.out]
                  have h3 : l.length ≤ p + r := by rw [← HL.out]; omega
                  simp [List.getD, List.getElem?_eq_none h3])] at hrow
                exact hrow
              have hdec : decide ((p : Int) + (j : Int) < (L : Int)) = false := decide_eq_false (by omega)
              have HPUSH : Hid (∀ v' w3 o, (wx.alloc o).grownBy w3 u14.ownBlock → w3.ownsRow w.heap.size 32 1 v' (hs.length + 1) (hs ++ [.slice (some ⟨g, 0, none⟩) n n]) → (v'.ownBlock = u14.ownBlock ∨ v'.ownBlock = some (wx.heap.size + 1)) → ListR w3 w.heap.size v' (hs ++ [.slice (some ⟨g, 0, none⟩) n n]) (sqTo l n (q + 1)) ∧ Add w w3) := Lib.hid fun v' w3 o h1 h2 h3 => by
                rw [sqTo_succ]
                have hrd : Reads wx (.slice (some ⟨g, 0, none⟩) n n) (sqRow l n q) := by
                  have := hfull.reads (m := n) (c := n) (by rw [length_sqRow]; exact Nat.le_refl _) (Nat.le_refl _) (by unfold maxLen; omega) (bys_sqRow hbl n q)
                  rw [List.take_of_length_le (by rw [length_sqRow]; exact Nat.le_refl _)] at this
                  exact this
                refine ⟨(HLI.out.add hg).push hrd (away_fresh HLI.out.1 (fun b off n' c' e => by cases e; exact hbg)) h1 h2 h3, (HLI.out.add hg).addB (Add.trans HADD.out hg) (Nat.le_refl _) h1⟩
              have hownV := (HLI.out.add hg).1
              have hsz := (Add.trans HADD.out hg).size
              have hgk : hs.length ≤ 8 := by rw [HLQ.out]; omega
              clear hfull hrow hg
              go_wp2_with (at_builtin; refine wpList_append_own_at _ rfl _ _ 22 rfl w.heap.size 32 i1 (.slice none 0 0) 1 24 Try.underlying22 hi1 hy0 hy1 hy2 rfl (by decide) _ _ _ rfl (World.ownsRow.alloc hownV _) ⟨wx.heap.size, 0, none⟩ 1 1 [_] rfl rfl (Go.cell_one_new _ _ _) (by intro u hu; simp at hu; subst hu; rfl) (by unfold maxLen; omega) (by omega) (by simp; omega) ?_)
              intro v' w3 hown3 hgr3 _ hat
              have HEND := Lib.hid (HPUSH.out v' w3 _ hgr3 hown3 hat)
              clear hown3 hgr3 hownV hat
              go_wp2_with fail
              go_roundw
              case rel => exact ⟨q + 1, _, by omega, by go_num, HEND.out.1, HEND.out.2⟩
              case measure => simp [intOf]; omega
end Go.Proofs.Ytmlcenocjpjcfaa
