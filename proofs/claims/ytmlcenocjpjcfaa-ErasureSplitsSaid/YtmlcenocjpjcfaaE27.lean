/- Package erasure: Split's refusals; the reference Split. -/
import Derived.Test.YtmlcenocjpjcfaaE26
namespace Go.Proofs.Ytmlcenocjpjcfaa
open Go.RowKit GfM

def argZ (k s : Int) : Bool := decide (1 ≤ k) && decide (k ≤ 6) && (decide (0 ≤ s) && decide (s ≤ 4096))
theorem argZ_iff {k s : Int} (h : argZ k s = true) : 1 ≤ k ∧ k ≤ 6 ∧ 0 ≤ s ∧ s ≤ 4096 := by
  unfold argZ at h
  simp only [Bool.and_eq_true, decide_eq_true_eq] at h
  omega
set_option maxRecDepth 100000 in
theorem split_arg {w : World} {v : Value} {k s : Int} (h : argZ k s = false) :
    Calls Try.prog 26 #[.int .i64 k, .int .i64 s, v] w (RetErr w 1) := by
  by_cases a1 : k < 1
  · have d1 : decide (k < 1) = true := decide_eq_true a1
    clear h
    go_enter Try.func26, Try.ntmps26
    go_wp2_with fail
    go_ret2
    exact ⟨rfl, Below.refl _ _⟩
  · have d1 : decide (k < 1) = false := decide_eq_false a1
    by_cases a2 : 6 < k
    · have d2 : decide (6 < k) = true := decide_eq_true a2
      clear h
      go_enter Try.func26, Try.ntmps26
      go_wp2_with fail
      go_ret2
      exact ⟨rfl, Below.refl _ _⟩
    · have d2 : decide (6 < k) = false := decide_eq_false a2
      by_cases a3 : s < 0
      · have d3 : decide (s < 0) = true := decide_eq_true a3
        clear h
        go_enter Try.func26, Try.ntmps26
        go_wp2_with fail
        go_ret2
        exact ⟨rfl, Below.refl _ _⟩
      · have d3 : decide (s < 0) = false := decide_eq_false a3
        have a4 : 4096 < s := by
          unfold argZ at h
          simp only [Bool.and_eq_false_iff, decide_eq_false_iff_not] at h
          omega
        have d4 : decide (4096 < s) = true := decide_eq_true a4
        clear h
        go_enter Try.func26, Try.ntmps26
        go_wp2_with fail
        go_ret2
        exact ⟨rfl, Below.refl _ _⟩
set_option maxRecDepth 100000 in
theorem refSplit_arg {w : World} {v : Value} {k s : Int} (h : argZ k s = false) :
    Calls Try.prog 27 #[.int .i64 k, .int .i64 s, v] w (RetErr w 1) := by
  by_cases a1 : k < 1
  · have d1 : decide (k < 1) = true := decide_eq_true a1
    clear h
    go_enter Try.func27, Try.ntmps27
    go_wp2_with fail
    go_ret2
    exact ⟨rfl, Below.refl _ _⟩
  · have d1 : decide (k < 1) = false := decide_eq_false a1
    by_cases a2 : 6 < k
    · have d2 : decide (6 < k) = true := decide_eq_true a2
      clear h
      go_enter Try.func27, Try.ntmps27
      go_wp2_with fail
      go_ret2
      exact ⟨rfl, Below.refl _ _⟩
    · have d2 : decide (6 < k) = false := decide_eq_false a2
      by_cases a3 : s < 0
      · have d3 : decide (s < 0) = true := decide_eq_true a3
        clear h
        go_enter Try.func27, Try.ntmps27
        go_wp2_with fail
        go_ret2
        exact ⟨rfl, Below.refl _ _⟩
      · have d3 : decide (s < 0) = false := decide_eq_false a3
        have a4 : 4096 < s := by
          unfold argZ at h
          simp only [Bool.and_eq_false_iff, decide_eq_false_iff_not] at h
          omega
        have d4 : decide (4096 < s) = true := decide_eq_true a4
        clear h
        go_enter Try.func27, Try.ntmps27
        go_wp2_with fail
        go_ret2
        exact ⟨rfl, Below.refl _ _⟩
set_option maxRecDepth 100000 in
theorem split_size {w : World} {v : Value} {d : List Nat} {k s : Nat} (h : Reads w v d) (hk0 : 0 < k) (hk : k ≤ 6) (hs : s ≤ 4096) (hd : k * s < d.length) :
    Calls Try.prog 26 #[.int .i64 (k : Nat), .int .i64 (s : Nat), v] w (RetErr w 2) := by
  obtain ⟨ao, c, rfl, hml⟩ := h.isSlice
  obtain ⟨D, eD⟩ : ∃ D, D = d.length := ⟨_, rfl⟩
  rw [← eD] at hd hml ⊢
  obtain ⟨T, eT⟩ : ∃ T, T = k * s := ⟨_, rfl⟩
  have hks : (k : Int) * (s : Int) = (T : Int) := by rw [eT]; exact (Int.natCast_mul k s).symm
  have hT6 : T ≤ 6 * 4096 := by rw [eT]; exact Nat.mul_le_mul hk hs
  rw [← eT] at hd
  have d1 : decide ((k : Int) < 1) = false := decide_eq_false (by omega)
  have d2 : decide ((6 : Int) < (k : Int)) = false := decide_eq_false (by omega)
  have d3 : decide ((s : Int) < 0) = false := decide_eq_false (by omega)
  have d4 : decide ((4096 : Int) < (s : Int)) = false := decide_eq_false (by omega)
  have d5 : decide ((T : Int) < (D : Int)) = true := decide_eq_true (by omega)
  clear h eD eT
  go_enter Try.func26, Try.ntmps26
  go_wp2_with fail
  go_ret2
  exact ⟨rfl, Below.refl _ _⟩
set_option maxRecDepth 100000 in
theorem refSplit_size {w : World} {v : Value} {d : List Nat} {k s : Nat} (h : Reads w v d) (hk0 : 0 < k) (hk : k ≤ 6) (hs : s ≤ 4096) (hd : k * s < d.length) :
    Calls Try.prog 27 #[.int .i64 (k : Nat), .int .i64 (s : Nat), v] w (RetErr w 2) := by
  obtain ⟨ao, c, rfl, hml⟩ := h.isSlice
  obtain ⟨D, eD⟩ : ∃ D, D = d.length := ⟨_, rfl⟩
  rw [← eD] at hd hml ⊢
  obtain ⟨T, eT⟩ : ∃ T, T = k * s := ⟨_, rfl⟩
  have hks : (k : Int) * (s : Int) = (T : Int) := by rw [eT]; exact (Int.natCast_mul k s).symm
  have hT6 : T ≤ 6 * 4096 := by rw [eT]; exact Nat.mul_le_mul hk hs
  rw [← eT] at hd
  have d1 : decide ((k : Int) < 1) = false := decide_eq_false (by omega)
  have d2 : decide ((6 : Int) < (k : Int)) = false := decide_eq_false (by omega)
  have d3 : decide ((s : Int) < 0) = false := decide_eq_false (by omega)
  have d4 : decide ((4096 : Int) < (s : Int)) = false := decide_eq_false (by omega)
  have d5 : decide ((T : Int) < (D : Int)) = true := decide_eq_true (by omega)
  clear h eD eT
  go_enter Try.func27, Try.ntmps27
  go_wp2_with fail
  go_ret2
  exact ⟨rfl, Below.refl _ _⟩

set_option maxRecDepth 100000 in
set_option maxHeartbeats 4000000 in
theorem refSplit_zero {w : World} {v : Value} {k : Nat} (h : Reads w v []) (hk0 : 0 < k) (hk : k ≤ 6) :
    Calls Try.prog 27 #[.int .i64 (k : Nat), .int .i64 0, v] w (RetLE w (spTo [] 0 k)) := by
  obtain ⟨i1, hi1, hy0, hy1, hy2⟩ := info_parts info32
  obtain ⟨ao, c, rfl, hml⟩ := h.isSlice
  obtain ⟨v1, w1, hrun1, hown1, happ1⟩ := append_bytes (w := w) (base := w.heap.size) (v := .slice none 0 0) (xs := []) (World.ownsRow_nil _ _ _ _) h (by simp) (Nat.le_refl _)
  rw [List.nil_append] at hown1
  have hadd1 : Add w w1 := happ1.add (zs := []) (Below.refl _ _) (World.ownsRow_nil _ _ _ _)
  obtain ⟨so1, c1, rfl⟩ := own_slice hown1
  obtain ⟨v2, w2, hrun2, hown2, happ2⟩ := append_zeros (k := 0) hown1 (by simp) hadd1.size
  have hadd2 : Add w w2 := happ2.add hadd1 hown1
  obtain ⟨so2, c2, rfl⟩ := own_slice hown2
  have hc2 : c2 ≤ maxLen := by
    rcases hown2.2 with ⟨e, hz0⟩ | ⟨g, cap, cur, e, hbg, hgg, hnc, hcm, hcs, htake⟩
    · cases e; unfold maxLen; omega
    · cases e; exact hcm
  have HQ1 : Hid ((Builtin.append_ #[32, 32] 32 #[.slice none 0 0, .slice ao 0 c]).run Try.prog w = .ok (.slice so1 0 c1) w1) := Lib.hid hrun1
  have HQ2 : Hid ((Builtin.append_ #[32, 3] 32 #[.slice so1 0 c1, .int .i64 0]).run Try.prog w1 = .ok (.slice so2 0 c2) w2) := Lib.hid hrun2
  have HADD2 := Lib.hid hadd2
  have d1 : decide ((k : Int) < 1) = false := decide_eq_false (by omega)
  have d2 : decide ((6 : Int) < (k : Int)) = false := decide_eq_false (by omega)
  clear h hml hrun1 hown1 happ1 hrun2 hown2 happ2 hadd1 hadd2
  show Calls Try.prog 27 #[.int .i64 (k : Nat), .int .i64 0, .slice ao 0 c] w (RetLE w (spTo [] 0 k))
  go_enter Try.func27, Try.ntmps27
  go_wp2_with (at_builtin; first | refine Lib.wpList_append_run _ rfl _ _ _ _ rfl _ _ rfl rfl _ _ HQ1.out ?_ | refine Lib.wpList_append_run _ rfl _ _ _ _ rfl _ _ rfl rfl _ _ HQ2.out ?_)
  go_loopw [9, 10] (fun o i wr => ∃ (q : Nat) (hs : List Value), q ≤ k ∧ i = .int .i64 (q : Nat) ∧ ListR wr w2.heap.size o hs (spTo [] 0 q) ∧ Add w2 wr) (fun _ i _ => k - (intOf i).toNat)
  case atStart => exact ⟨0, [], Nat.zero_le _, rfl, ListR.nil _ _, Below.refl _ _⟩
  case round =>
    obtain ⟨q, hs2, hq, rfl, hli, hadd⟩ := hrel
    by_cases h0 : q = k
    · have HEND : Hid (ListR wr w2.heap.size u9 hs2 (spTo [] 0 k) ∧ Add w wr) := Lib.hid ⟨by rw [h0] at hli; exact hli, Add.trans HADD2.out hadd⟩
      clear hli hadd
      subst h0
      go_wp2_with fail
      go_ret2
      obtain ⟨a, cc, e, hr⟩ := HEND.out.1.rows
      exact ⟨_, _, rfl, hr, HEND.out.2⟩
    · have hlt : q < k := by omega
      have hlen : hs2.length = q := by rw [hli.2.1, length_spTo]
      have HP : Hid (∀ v' w3 o, (wr.alloc o).grownBy w3 u9.ownBlock → w3.ownsRow w2.heap.size 32 1 v' (hs2.length + 1) (hs2 ++ [.slice so2 0 0]) → (v'.ownBlock = u9.ownBlock ∨ v'.ownBlock = some (wr.heap.size + 1)) → ListR w3 w2.heap.size v' (hs2 ++ [.slice so2 0 0]) (spTo [] 0 (q + 1)) ∧ Add w2 w3) := Lib.hid fun v' w3 o h1 h2 h3 => by
        rw [spTo_succ]
        exact ⟨hli.push ⟨so2, 0, 0, rfl, rfl, Nat.le_refl _, by unfold maxLen; omega, by simp; exact Bys.nil, fun hp => by omega⟩ (by intro b off n' c' e hpos; simp at hpos) h1 h2 h3, hli.addB hadd (Nat.le_refl _) h1⟩
      have hownV := hli.1
      have hsz := hadd.size
      have hgk : hs2.length ≤ 6 := by rw [hlen]; omega
      clear hli hadd h0 hlen
      go_wp2_with (at_builtin; refine wpList_append_own_at _ rfl _ _ 22 rfl w2.heap.size 32 i1 (.slice none 0 0) 1 24 Try.underlying22 hi1 hy0 hy1 hy2 rfl (by decide) _ _ _ rfl (World.ownsRow.alloc hownV _) ⟨wr.heap.size, 0, none⟩ 1 1 [_] rfl rfl (Go.cell_one_new _ _ _) (by intro u hu; simp at hu; subst hu; rfl) (by unfold maxLen; omega) (by omega) (by simp; omega) ?_)
      intro v' w3 hown3 hgr3 _ hat
      have HEND := Lib.hid (HP.out v' w3 _ hgr3 hown3 hat)
      clear hown3 hgr3 hownV hat
      go_wp2_with fail
      go_roundw
      case rel => exact ⟨q + 1, _, by omega, by go_num, HEND.out.1, HEND.out.2⟩
      case measure => simp [intOf]; omega

set_option maxRecDepth 100000 in
set_option maxHeartbeats 4000000 in
theorem refSplit_pos {w : World} {v : Value} {d : List Nat} {k s : Nat} (h : Reads w v d) (hk0 : 0 < k) (hk : k ≤ 6) (hs0 : 0 < s) (hs : s ≤ 4096) (hd : d.length ≤ k * s) :
    Calls Try.prog 27 #[.int .i64 (k : Nat), .int .i64 (s : Nat), v] w (RetLE w (spTo (padTo d (k * s)) s k)) := by
  obtain ⟨i1, hi1, hy0, hy1, hy2⟩ := info_parts info32
  obtain ⟨ao, c, rfl, hml⟩ := h.isSlice
  have hbd := h.limbs
  obtain ⟨D, eD⟩ : ∃ D, D = d.length := ⟨_, rfl⟩
  rw [← eD] at h hd ⊢
  obtain ⟨T, eT⟩ : ∃ T, T = k * s := ⟨_, rfl⟩
  have hks : (k : Int) * (s : Int) = (T : Int) := by rw [eT]; exact (Int.natCast_mul k s).symm
  have hT6 : T ≤ 6 * 4096 := by rw [eT]; exact Nat.mul_le_mul hk hs
  have HMUL : Hid (∀ q, q < k → q * s + s ≤ T) := Lib.hid fun q hq => by rw [eT]; exact mul_le_of_lt hq
  have hT0 : T = 0 → s = 0 := by
    intro e
    rw [eT] at e
    rcases Nat.mul_eq_zero.1 e with e | e <;> omega
  rw [← eT] at hd ⊢
  obtain ⟨pd, epd⟩ : ∃ pd, pd = padTo d T := ⟨_, rfl⟩
  have hpl : pd.length = T := by rw [epd]; exact length_padTo (by omega)
  have hpb : Bys pd := by rw [epd]; exact bys_padTo hbd T
  obtain ⟨z, ez⟩ : ∃ z, z = T - D := ⟨_, rfl⟩
  have hz : (T : Int) - (D : Int) = (z : Int) := by omega
  obtain ⟨v1, w1, hrun1, hown1, happ1⟩ := append_bytes (w := w) (base := w.heap.size) (v := .slice none 0 0) (xs := []) (World.ownsRow_nil _ _ _ _) h (by simp; omega) (Nat.le_refl _)
  rw [List.nil_append] at hown1
  have hadd1 : Add w w1 := happ1.add (zs := []) (Below.refl _ _) (World.ownsRow_nil _ _ _ _)
  obtain ⟨so1, c1, rfl⟩ := own_slice hown1
  obtain ⟨v2, w2, hrun2, hown2, happ2⟩ := append_zeros (k := z) hown1 (by omega) hadd1.size
  have hadd2 : Add w w2 := happ2.add hadd1 hown1
  have epd2 : d ++ List.replicate z 0 = pd := by rw [epd, ez, eD]; rfl
  rw [epd2] at hown2
  have hown2' : w2.ownsRow w.heap.size 5 1 v2 T (pd.map lim) := by
    have := hown2; unfold OwnB at this; rw [hpl] at this; exact this
  rw [← eD] at hrun1 hrun2
  rw [← epd]
  have d1 : decide ((k : Int) < 1) = false := decide_eq_false (by omega)
  have d2 : decide ((6 : Int) < (k : Int)) = false := decide_eq_false (by omega)
  have d3 : decide ((s : Int) < 0) = false := decide_eq_false (by omega)
  have d4 : decide ((4096 : Int) < (s : Int)) = false := decide_eq_false (by omega)
  have d5 : decide ((T : Int) < (D : Int)) = false := decide_eq_false (by omega)
  -- what the whole is, and its rows
  have hall : ∃ so2 c2, v2 = .slice so2 T c2 ∧ T ≤ c2 ∧ c2 ≤ maxLen ∧ (0 < s → ∃ g, so2 = some ⟨g, 0, none⟩) ∧ (so2 = none → c2 = 0) ∧ (∀ ad, so2 = some ad → ∃ g, ad = ⟨g, 0, none⟩ ∧ w.heap.size ≤ g ∧ g < w2.heap.size) := by
    rcases hown2'.2 with ⟨rfl, hz0⟩ | ⟨g, cap, cur, rfl, hbg, hgg, hnc, hcm, hcs, htake⟩
    · exact ⟨none, 0, by rw [hz0], by omega, by unfold maxLen; omega, fun hp => by have := hT0 hz0; omega, fun _ => rfl, fun ad e => by cases e⟩
    · exact ⟨_, cap, rfl, hnc, hcm, fun _ => ⟨g, rfl⟩, fun e => (by cases e), fun ad e => ⟨g, by cases e; rfl, hbg, (Array.getElem?_eq_some_iff.1 hgg).1⟩⟩
  obtain ⟨so2, c2, rfl, hTc, hc2, hsome, hnone, hblk⟩ := hall
  have hc0 : so2 = none → T = 0 := fun e => by have := hnone e; omega
  have hrd2 : Reads w2 (.slice so2 T c2) pd := by
    obtain ⟨ao', c', e, hr, -⟩ := owns_reads hown2' hpb
    exact hr
  have HROW : Hid (∀ q wr, q < k → 0 < s → Add w2 wr → ∃ g, so2 = some ⟨g, 0, none⟩ ∧ g < w2.heap.size ∧ Reads wr (.slice (some ⟨g, q * s, none⟩) s s) ((pd.drop (q * s)).take s)) := Lib.hid fun q wr hq hs0 ha => by
    obtain ⟨g, rfl⟩ := hsome hs0
    have hm := HMUL.out q hq
    obtain ⟨g', e, hb1, hb2⟩ := hblk _ rfl
    cases e
    refine ⟨g, rfl, hb2, ?_⟩
    have h1 := reads_drop (m := q * s) (hrd2.mono ha) (by omega)
    obtain ⟨ao', n', c', e, hl', hc', hm', hx', hr'⟩ := h1
    cases e
    refine ⟨_, s, s, rfl, by rw [List.length_take, List.length_drop]; omega, Nat.le_refl _, by unfold maxLen; omega, hx'.take s, fun hp => ?_⟩
    obtain ⟨b, off, e, hce⟩ := hr' (by omega)
    refine ⟨b, off, by simpa using e, fun i hi => ?_⟩
    rw [hce i (by omega), getD_take _ _ _ hi]
  have HQ1 := Lib.hid hrun1
  have HQ2 := Lib.hid hrun2
  have HADD2 := Lib.hid hadd2
  have HC0 := Lib.hid hc0
  have HBLK := Lib.hid hblk
  have HT0 := Lib.hid hT0
  have HS := Lib.hid hsome
  clear h eD eT epd hml hbd hpl hpb ez hrun1 hown1 happ1 hrun2 hown2 happ2 hown2' hadd1 hadd2 epd2 hsome hnone hblk hc0 hrd2 hT0
  go_enter Try.func27, Try.ntmps27
  go_wp2_with (at_builtin; first | refine Lib.wpList_append_run _ rfl _ _ _ _ rfl _ _ rfl rfl _ _ HQ1.out ?_ | refine Lib.wpList_append_run _ rfl _ _ _ _ rfl _ _ rfl rfl _ _ HQ2.out ?_)
  go_loopw [9, 10] (fun o i wr => ∃ (q : Nat) (hs : List Value), q ≤ k ∧ i = .int .i64 (q : Nat) ∧ ListR wr w2.heap.size o hs (spTo pd s q) ∧ Add w2 wr) (fun _ i _ => k - (intOf i).toNat)
  case atStart => exact ⟨0, [], Nat.zero_le _, rfl, ListR.nil _ _, Below.refl _ _⟩
  case round =>
    obtain ⟨q, hs2, hq, rfl, hli, hadd⟩ := hrel
    by_cases h0 : q = k
    · have HEND : Hid (ListR wr w2.heap.size u9 hs2 (spTo pd s k) ∧ Add w wr) := Lib.hid ⟨by rw [h0] at hli; exact hli, Add.trans HADD2.out hadd⟩
      clear hli hadd
      subst h0
      go_wp2_with fail
      go_ret2
      obtain ⟨a, cc, e, hr⟩ := HEND.out.1.rows
      exact ⟨_, _, rfl, hr, HEND.out.2⟩
    · have hlt : q < k := by omega
      have hm := HMUL.out q hlt
      obtain ⟨p, ep⟩ : ∃ p, p = q * s := ⟨_, rfl⟩
      have hps : (q : Int) * (s : Int) = (p : Int) := by rw [ep]; exact (Int.natCast_mul q s).symm
      have hlen : hs2.length = q := by rw [hli.2.1, length_spTo]
      have hPUSH : ∀ a, Reads wr (.slice a s s) ((pd.drop p).take s) → AwayV (.slice a s s) ((pd.drop p).take s) u9 → Hid (∀ v' w3 o, (wr.alloc o).grownBy w3 u9.ownBlock → w3.ownsRow w2.heap.size 32 1 v' (hs2.length + 1) (hs2 ++ [.slice a s s]) → (v'.ownBlock = u9.ownBlock ∨ v'.ownBlock = some (wr.heap.size + 1)) → ListR w3 w2.heap.size v' (hs2 ++ [.slice a s s]) (spTo pd s (q + 1)) ∧ Add w2 w3) := fun a hr hav => Lib.hid fun v' w3 o h1 h2 h3 => by
        rw [spTo_succ, ← ep]
        exact ⟨hli.push hr hav h1 h2 h3, hli.addB hadd (Nat.le_refl _) h1⟩
      have hownV := hli.1
      have hsz := hadd.size
      have hgk : hs2.length ≤ 6 := by rw [hlen]; omega
      obtain ⟨g, rfl, hg2, hrd⟩ := HROW.out q wr hlt hs0 hadd
      rw [← ep] at hrd hm
      have HP := hPUSH _ hrd (by
        intro b off n' c' e hpos e2
        cases e
        have := (ownsRow_block hli.1 e2.symm).1
        omega)
      have HLEN := Lib.hid hlen
      clear hPUSH hli hadd h0 ep hlen hrd HROW
      go_wp2_with (at_builtin; refine wpList_append_own_at _ rfl _ _ 22 rfl w2.heap.size 32 i1 (.slice none 0 0) 1 24 Try.underlying22 hi1 hy0 hy1 hy2 rfl (by decide) _ _ _ rfl (World.ownsRow.alloc hownV _) ⟨wr.heap.size, 0, none⟩ 1 1 [_] rfl rfl (Go.cell_one_new _ _ _) (by intro u hu; simp at hu; subst hu; rfl) (by unfold maxLen; omega) (by omega) (by simp; omega) ?_)
      intro v' w3 hown3 hgr3 _ hat
      have HEND := Lib.hid (HP.out v' w3 _ hgr3 hown3 hat)
      clear hown3 hgr3 hownV hat
      go_wp2_with fail
      go_roundw
      case rel => exact ⟨q + 1, _, by omega, by go_num, HEND.out.1, HEND.out.2⟩
      case measure => simp [intOf]; omega
theorem refSplit_ok {w : World} {v : Value} {d : List Nat} {k s : Nat} (h : Reads w v d) (hk0 : 0 < k) (hk : k ≤ 6) (hs : s ≤ 4096) (hd : d.length ≤ k * s) :
    Calls Try.prog 27 #[.int .i64 (k : Nat), .int .i64 (s : Nat), v] w (RetLE w (spTo (padTo d (k * s)) s k)) := by
  by_cases h0 : s = 0
  · subst h0
    rw [Nat.mul_zero] at hd ⊢
    have hd0 : d = [] := List.eq_nil_of_length_eq_zero (by omega)
    subst hd0
    exact refSplit_zero h hk0 hk
  · exact refSplit_pos h hk0 hk (by omega) hs hd
end Go.Proofs.Ytmlcenocjpjcfaa
