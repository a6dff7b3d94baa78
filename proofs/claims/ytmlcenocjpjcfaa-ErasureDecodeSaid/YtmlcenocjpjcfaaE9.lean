/- Package erasure: complete. -/
import Derived.Test.YtmlcenocjpjcfaaE7
import Derived.Test.YtmlcenocjpjcfaaE8
import Derived.RegionTactic
import Derived.BigRegion
namespace Go.Proofs.Ytmlcenocjpjcfaa
open Go.RowKit GfM

/-- A list of n rows is returned. -/
def RetN (w : World) (n : Nat) (rs : List (List Nat)) (e : Ending) (w' : World) : Prop := ∃ G hs, e = .returned (.slice (some ⟨G, 0, none⟩) n n) ∧ RowsB w' (.slice (some ⟨G, 0, none⟩) n n) hs rs ∧ w.heap.size ≤ G ∧ Add w w'
theorem RetRows.n {w w' : World} {n : Nat} {rs : List (List Nat)} {e : Ending} (h : RetRows w rs e w') (hn : rs.length = n) : RetN w n rs e w' := by
  unfold RetRows at h; rw [hn] at h; exact h
/-- Does the word have these rows? -/
def agreeZ (word : List (List Nat)) (ix : List Int) (rs : List (List Nat)) (n : Nat) : Bool := (List.range n).all fun i => decide (word.getD (ix.getD i 0).toNat [] = rs.getD i [])
theorem agreeZ_succ {word : List (List Nat)} {ix : List Int} {rs : List (List Nat)} {q : Nat} (h : agreeZ word ix rs q = true) (h2 : word.getD (ix.getD q 0).toNat [] = rs.getD q []) : agreeZ word ix rs (q + 1) = true := by
  unfold agreeZ at h ⊢
  rw [List.range_succ, List.all_append, h]
  simp only [List.all_cons, List.all_nil, Bool.and_true, Bool.true_and]
  exact decide_eq_true h2
theorem agreeZ_not {word : List (List Nat)} {ix : List Int} {rs : List (List Nat)} {q n : Nat} (hq : q < n) (h2 : ¬ word.getD (ix.getD q 0).toNat [] = rs.getD q []) : agreeZ word ix rs n = false := by
  unfold agreeZ
  exact List.all_eq_false.2 ⟨q, List.mem_range.2 hq, by simpa using h2⟩
/-- The data of the word that has the first k of these rows. -/
def dataOf (k L : Nat) (R rs : List (List Nat)) : List (List Nat) := prodTo L R (rs.take k) k k
/-- What complete returns. -/
def CompP (w : World) (k m L : Nat) (R : List (List Nat)) (ix : List Int) (rs : List (List Nat)) (e : Ending) (w' : World) : Prop :=
  if ¬ ix.Nodup then RetErr w 8 e w' else if rs.length < k then RetErr w 10 e w' else if oneLen rs = false then RetErr w 11 e w' else
  if agreeZ (wordTo k L (dataOf k L R rs) (k + m)) ix rs rs.length = true then RetRowsE w (wordTo k L (dataOf k L R rs) (k + m)) e w' else RetErr w 11 e w'
theorem wordR_dim {k L : Nat} {data : List (List Nat)} (hd : allLen L data = true) (hl : data.length = k) {i : Nat} : (wordR k L data i).length = L := by
  unfold wordR; split
  · exact allLen_get hd (by omega)
  · exact length_comb _ _ _ _
theorem prod_all (L : Nat) (R rs : List (List Nat)) (k n : Nat) : allLen L (prodTo L R rs k n) = true := by
  unfold allLen prodTo
  refine List.all_eq_true.2 fun r hr => ?_
  obtain ⟨i, _, rfl⟩ := List.mem_map.1 hr
  simp [length_comb]
theorem areZ_mem {ix : List Int} {n : Int} (h : areZ ix n = true) {x : Int} (hx : x ∈ ix) : 0 ≤ x ∧ x < n := by
  have := List.all_eq_true.1 h x hx
  unfold rowZ at this
  simpa using this

set_option maxRecDepth 100000 in
set_option maxHeartbeats 4000000 in
theorem complete_any {w : World} {v : Value} {ix : List Int} {vs : List Value} {rs R : List (List Nat)} {k m L : Nat} (h : FragsB w v ix vs rs) (hc : codeZ k m = true) (ha : areZ ix ((k : Int) + m) = true) (eL : L = (rs.getD 0 []).length) (hL : L ≤ 100000)
    (hR : ix.Nodup → k ≤ rs.length → invM (givenM k (ix.take k)) k = some R) :
    Calls Try.prog 39 #[.int .i64 (k : Nat), .int .i64 (m : Nat), v] w (CompP w k m L R ix rs) := by
  obtain ⟨c1, c2, c3, c4, c5⟩ := codeZ_iff hc
  have hmem : ∀ x ∈ ix, 0 ≤ x ∧ x < 8 := fun x hx => by have := areZ_mem ha hx; omega
  have CC : Hid (∀ w, Calls Try.prog 30 #[.int .i64 (k : Nat), .int .i64 (m : Nat)] w (RetBo w true)) := Lib.hid fun w => by have := isCode_any k m w; rw [hc] at this; exact this
  have CA : Hid (Calls Try.prog 51 #[v, .int .i64 ((k : Int) + m)] w (fun e w' => e = .returned (.bool true) ∧ Add w w')) := Lib.hid (by have := areRows_any h ((k : Int) + m); rw [ha] at this; exact this)
  have CT : Hid (∀ w', Add w w' → Calls Try.prog 52 #[v] w' (fun e w2 => e = .returned (.bool (decide (¬ ix.Nodup))) ∧ Add w' w2)) := Lib.hid fun w' k => oneTwice_any (h.mono k) hmem
  have CN : Hid (∀ w', Add w w' → rs.length ≤ 1000 → Calls Try.prog 53 #[v] w' (RetN w' rs.length rs)) := Lib.hid fun w' k h8 => (contents_any (h.mono k) h8).mono fun _ _ h => h.n rfl
  obtain ⟨ao, c, rfl, hm, hxl, hcc⟩ := h.isSlice
  obtain ⟨l, el⟩ : ∃ l, l = rs.length := ⟨_, rfl⟩
  have hN8 : ix.Nodup → l ≤ 8 := fun hn => by
    have h1 := nodup_le (l := ix.map Int.toNat) (m := List.range 8) (nodup_map hn (fun x hx y hy e => by have := hmem x hx; have := hmem y hy; omega)) (fun x hx => by
      obtain ⟨y, hy, rfl⟩ := List.mem_map.1 hx
      have := hmem y hy
      exact List.mem_range.2 (by omega))
    rw [List.length_map, List.length_range] at h1
    omega
  rw [← el] at h CA CT CN hm hxl hR hcc ⊢
  have HF := Lib.hid h
  have HIX := Lib.hid hmem
  have HR := Lib.hid hR
  have HX := Lib.hid hxl
  have EL := Lib.hid el
  have ELL := Lib.hid eL
  have HN8 := Lib.hid hN8
  have HA := Lib.hid ha
  have HCC := Lib.hid (And.intro hcc hm)
  unfold maxLen at hm
  obtain ⟨n, en⟩ : ∃ n, n = k + m := ⟨_, rfl⟩
  have hkm : (k : Int) + (m : Int) = (n : Int) := by omega
  have hn8 : n ≤ 8 := by omega
  have EN := Lib.hid en
  rw [hkm] at CA
  have hk1 : 0 < k := by omega
  have hk6 : k ≤ 6 := by omega
  have hm4 : m ≤ 4 := by omega
  clear h hc ha eL hmem hR hxl el hN8 hcc en c1 c2 c3 c4 c5
  go_enter Try.func39, Try.ntmps39
  go_wp2_with (go_at_call 30; (with_reducible refine (CC.out _).mono ?_); rintro e w' ⟨rfl, rfl⟩)
  refine CA.out.mono ?_
  rintro e w1 ⟨rfl, hadd1⟩
  have HA1 := Lib.hid hadd1
  clear hadd1
  by_cases hn : ix.Nodup
  · have hd : decide (¬ ix.Nodup) = false := by simp [hn]
    rw [hd] at CT
    have HN := Lib.hid hn
    have hl8 := HN8.out hn
    clear hn hd
    go_wp2_with fail
    refine (CT.out _ HA1.out).mono ?_
    rintro e w2 ⟨rfl, hadd2⟩
    have HA2 := Lib.hid (Add.trans HA1.out hadd2)
    clear hadd2
    by_cases hlk : l < k
    · have d1 : decide ((l : Int) < (k : Int)) = true := decide_eq_true (by omega)
      have HP : Hid (∀ e w', RetErr w 10 e w' → CompP w k m L R ix rs e w') := Lib.hid fun e w' h => by
        unfold CompP; rw [if_neg (by simp [HN.out]), if_pos (by rw [← EL.out]; exact hlk)]; exact h
      go_wp2_with fail
      go_ret2
      exact HP.out _ _ ⟨rfl, HA2.out⟩
    · have d1 : decide ((l : Int) < (k : Int)) = false := decide_eq_false (by omega)
      have hkl : k ≤ l := by omega
      have HLK : Hid (¬ rs.length < k) := Lib.hid (by rw [← EL.out]; exact hlk)
      clear hlk
      go_wp2_with fail
      refine (CN.out _ HA2.out (by omega)).mono ?_
      rintro e w3 ⟨G, hs, rfl, hrows, -, hadd3⟩
      have hA3 := Add.trans HA2.out hadd3

      have HROWS := Lib.hid hrows
      have HA3 := Lib.hid hA3
      have CO : Hid (Calls Try.prog 31 #[.slice (some ⟨G, 0, none⟩) l l] w3 (RetBo w3 (oneLen rs))) := Lib.hid (oneLen_any hrows)
      clear hrows hadd3 hA3
      cases ho : oneLen rs with
      | false =>
        rw [ho] at CO
        have HP : Hid (∀ e w', RetErr w 11 e w' → CompP w k m L R ix rs e w') := Lib.hid fun e w' h => by
          unfold CompP; rw [if_neg (by simp [HN.out]), if_neg HLK.out, if_pos ho]; exact h
        clear ho
        go_wp2_with (go_at_call 31; (with_reducible refine CO.out.mono ?_); rintro e w' ⟨rfl, rfl⟩)
        go_ret2
        exact HP.out _ _ ⟨rfl, HA3.out⟩
      | true =>
        rw [ho] at CO
        have hR := HR.out HN.out hkl
        have hal : allLen L rs = true := by unfold oneLen at ho; rw [ELL.out]; exact ho
        obtain ⟨D, eD⟩ : ∃ D, D = dataOf k L R rs := ⟨_, rfl⟩
        obtain ⟨W, eW⟩ : ∃ W, W = wordTo k L D n := ⟨_, rfl⟩
        have HP : Hid (∀ e w', (agreeZ W ix rs l = true ∧ RetRowsE w W e w' ∨ agreeZ W ix rs l = false ∧ RetErr w 11 e w') → CompP w k m L R ix rs e w') := Lib.hid fun e w' h => by
          unfold CompP
          rw [if_neg (by simp [HN.out]), if_neg HLK.out, if_neg (by simp [ho]), ← eD, ← EN.out, ← eW, ← EL.out]
          rcases h with ⟨h1, h2⟩ | ⟨h1, h2⟩
          · rw [if_pos h1]; exact h2
          · rw [if_neg (by simp [h1])]; exact h2
        have hWl : W.length = n := by rw [eW, length_wordTo]
        have hpre : ∀ w', Add w3 w' → FragsB w' (.slice ao k c) (ix.take k) (vs.take k) (rs.take k) := fun w' q => (((HF.out.mono HA3.out).mono q).pre hkl)
        have hrpre : ∀ w', Add w3 w' → RowsB w' (.slice (some ⟨G, 0, none⟩) k l) (hs.take k) (rs.take k) := fun w' q => ((HROWS.out.mono q).pre hkl hkl (by unfold maxLen; omega))
        have halk : allLen L (rs.take k) = true := by
          unfold allLen at hal ⊢
          exact List.all_eq_true.2 fun x hx => List.all_eq_true.1 hal x (List.mem_of_mem_take hx)
        have hkl2 : (rs.take k).length = k := by rw [List.length_take, ← EL.out]; omega
        have CS : Hid (∀ w', Add w3 w' → Calls Try.prog 54 #[.slice ao k c, .slice (some ⟨G, 0, none⟩) k l] w' (RetN w' k D)) := Lib.hid fun w' q => (solve_any (hpre w' q) hkl2 (hrpre w' q) hkl2 (by omega) (by omega) hL halk (fun x hx => by have := HIX.out x (List.mem_of_mem_take hx); omega) hR).mono fun _ _ h => by
          rw [eD]; exact h.n (length_prodTo ..)
        have CX : Hid (∀ w' g hs', RowsB w' (.slice (some ⟨g, 0, none⟩) k k) hs' D → Calls Try.prog 32 #[.slice (some ⟨g, 0, none⟩) k k, .int .i64 (m : Nat)] w' (RetN w' n W)) := Lib.hid fun w' g hs' q => (extend_any q (k := k) (by rw [eD]; exact length_prodTo ..) (by omega) (by omega) (by omega) hL (by rw [eD]; exact prod_all ..)).mono fun _ _ h => by
          rw [eW, EN.out]; exact h.n (length_wordTo ..)
        have HWL := Lib.hid hWl
        have hkc : k ≤ c := by have := HCC.out.1; omega
        clear ho hR hal eD eW hWl hpre hrpre halk hkl2
        go_wp2_with (go_at_call 31; (with_reducible refine CO.out.mono ?_); rintro e w' ⟨rfl, rfl⟩)
        go_region_with (first | (go_at_call 54; (with_reducible refine (CS.out _ (Below.drew (Below.refl _ _))).mono ?_); rintro e w4 ⟨g4, hs4, rfl, hr4, -, ha4⟩) | (go_at_call 32; (with_reducible refine (CX.out _ _ _ hr4).mono ?_); rintro e w5 ⟨g5, hs5, rfl, hr5, hg5, ha5⟩))
        have hA5 : Add w w5 := Add.trans (Add.trans HA3.out (Below.drew (Below.refl _ _))) (Add.trans ha4 ha5)
        have hwg : w.heap.size ≤ g5 := Nat.le_trans (Nat.le_trans HA3.out.size ha4.size) hg5
        have HR5 := Lib.hid hr5
        have HA5 := Lib.hid hA5
        have HROWS5 : Hid (RowsB w5 (.slice (some ⟨G, 0, none⟩) l l) hs rs) := Lib.hid ((HROWS.out.mono (Below.drew (Below.refl _ _))).mono (Add.trans ha4 ha5))
        have HF5 := Lib.hid (HF.out.mono hA5)
        clear hr4 ha4 hr5 hg5 ha5 hA5
        go_wp2_with fail
        go_loopw [46] (fun i wr => ∃ q : Nat, q ≤ l ∧ i = .int .i64 (q : Nat) ∧ agreeZ W ix rs q = true ∧ Add w5 wr) (fun i _ => l - (intOf i).toNat)
        case atStart => exact ⟨0, Nat.zero_le _, rfl, rfl, Below.refl _ _⟩
        case round =>
          obtain ⟨q, hq, rfl, hag, hadd⟩ := hrel
          have HAG := Lib.hid hag
          have HADD := Lib.hid hadd
          clear hag hadd
          by_cases h0 : q = l
          · have HFIN : Hid (CompP w k m L R ix rs (.returned (.tuple #[.slice (some ⟨g5, 0, none⟩) n n, .int .i64 0])) wr) := Lib.hid (HP.out _ _ (Or.inl ⟨by rw [← h0]; exact HAG.out, g5, hs5, by rw [HWL.out], by rw [HWL.out]; exact HR5.out.mono HADD.out, hwg, Add.trans HA5.out HADD.out⟩))
            subst h0
            go_wp2_with fail
            go_ret2
            exact HFIN.out
          · have hlt : q < l := by omega
            obtain ⟨b, off, a, mm, cc, rfl, -, -, -, hc0, hc1, -⟩ := (HF5.out.mono HADD.out).frag hlt
            have hqx : q < ix.length := by rw [HX.out]; exact hlt
            have hin := areZ_mem HA.out (getD_mem (d := 0) hqx)
            obtain ⟨j, ej⟩ : ∃ j : Nat, ix.getD q 0 = (j : Int) := ⟨(ix.getD q 0).toNat, by omega⟩
            rw [ej] at hc0 hin
            have hjn : j < n := by omega
            obtain ⟨W2, eW⟩ : ∃ W2, W2 = wr.alloc (.cells #[.int .i64 (j : Nat), .slice a mm cc] 34) := ⟨_, rfl⟩
            have hadd2 : Add wr W2 := by rw [eW]; exact (Below.refl _ _).alloc (Nat.le_refl _) _
            have hA2 : Add w5 W2 := Add.trans HADD.out hadd2
            obtain ⟨b1, off1, a1, l1, cc1, eb1, -, el1, -, hcell1, hrd1⟩ := (HR5.out.mono hA2).row hjn
            obtain ⟨b2, off2, a2, l2, cc2, eb2, -, el2, -, hcell2, hrd2⟩ := (HROWS5.out.mono hA2).row hlt
            simp only [Option.some.injEq, Addr.mk.injEq, and_true] at eb1 eb2
            obtain ⟨rfl, rfl⟩ := eb1
            obtain ⟨rfl, rfl⟩ := eb2
            rw [Nat.zero_add] at hcell1 hcell2
            obtain ⟨r, er⟩ : ∃ r, r = decide (W.getD j [] = rs.getD q []) := ⟨_, rfl⟩
            have CE : Hid (∀ p, Calls Try.prog 55 #[.slice a1 l1 cc1, .slice a2 l2 cc2] (W2.drewN p) (fun e w' => e = .returned (.bool r) ∧ w' = W2.drewN p)) := Lib.hid fun p => by
              rw [er]
              exact (equal_any (hrd1.mono (below_drewN (Below.refl _ _) p)) (hrd2.mono (below_drewN (Below.refl _ _) p))).mono fun _ _ h => ⟨h.1, h.2.symm⟩
            have HA2 := Lib.hid hA2
            have HER := Lib.hid er
            have HEJ : Hid ((ix.getD q 0).toNat = j) := Lib.hid (by rw [ej]; rfl)
            clear ej hin hqx hadd2 hA2 el1 el2 hrd1 hrd2 er h0
            subst eW
            cases r with
            | true =>
              have HN2 : Hid (agreeZ W ix rs (q + 1) = true) := Lib.hid (agreeZ_succ HAG.out (by rw [HEJ.out]; exact of_decide_eq_true HER.out.symm))
              go_wp2_with fail
              go_quiet ((go_at_call 55; exact (CE.out _).mono fun _ _ h => ⟨h.1, _, h.2⟩))
              go_wp2_with fail
              go_roundw
              case rel => exact ⟨q + 1, by omega, by go_num, HN2.out, below_drewN HA2.out _⟩
              case measure => simp [intOf]; omega
            | false =>
              have HN2 : Hid (agreeZ W ix rs l = false) := Lib.hid (agreeZ_not hlt (by rw [HEJ.out]; exact of_decide_eq_false HER.out.symm))
              have HE : Hid (∀ p, CompP w k m L R ix rs (.returned (.tuple #[.slice none 0 0, .int .i64 11])) ((wr.alloc (.cells #[.int .i64 (j : Nat), .slice a mm cc] 34)).drewN p)) := Lib.hid fun p => HP.out _ _ (Or.inr ⟨HN2.out, rfl, below_drewN (Add.trans HA5.out HA2.out) p⟩)
              go_wp2_with fail
              go_quiet ((go_at_call 55; exact (CE.out _).mono fun _ _ h => ⟨h.1, _, h.2⟩))
              go_wp2_with fail
              go_ret2
              exact HE.out _
  · have hd : decide (¬ ix.Nodup) = true := by simp [hn]
    rw [hd] at CT
    have HP : Hid (∀ e w', RetErr w 8 e w' → CompP w k m L R ix rs e w') := Lib.hid fun e w' h => by
      unfold CompP; rw [if_pos hn]; exact h
    clear hn hd
    go_wp2_with fail
    refine (CT.out _ HA1.out).mono ?_
    rintro e w2 ⟨rfl, hadd2⟩
    have HA2 := Lib.hid (Add.trans HA1.out hadd2)
    clear hadd2
    go_wp2_with fail
    go_ret2
    exact HP.out _ _ ⟨rfl, HA2.out⟩
end Go.Proofs.Ytmlcenocjpjcfaa
