/- Package maxflow: flow and reached. -/
import Derived.Test.YtaoibakbnimnkaaJB
import Derived.Test.YtaoibakbnimnkaaN8
namespace Go.Proofs.Ytaoibakbnimnkaa
open Go.RowKit NetM

theorem fill_step {α : Type} {F : List α} {z : α} {m k : Nat} (hl : F.length = m) (hk : k < m) : (F.take k ++ List.replicate (m - k) z).set k (F.getD k z) = F.take (k + 1) ++ List.replicate (m - (k + 1)) z := by
  have h1 : (F.take k).length = k := by rw [List.length_take]; omega
  rw [List.set_append_right _ _ (by omega), h1, Nat.sub_self]
  obtain ⟨q, hq⟩ : ∃ q, m - k = q + 1 := ⟨m - k - 1, by omega⟩
  rw [hq, List.replicate_succ, List.set_cons_zero, show m - (k + 1) = q by omega, List.take_add_one, List.append_assoc]
  simp [List.getD, show k < F.length by omega]
/-- What flow returns. -/
def FlowP (w : World) (F : List Int) (m : Nat) (e : Ending) (w' : World) : Prop := ∃ g, e = .returned (.slice (some ⟨g, 0, none⟩) m m) ∧ IBlk w' g F ∧ Add w w'
def SeenP (w : World) (S : List Bool) (N : Nat) (e : Ending) (w' : World) : Prop := ∃ g, e = .returned (.slice (some ⟨g, 0, none⟩) N N) ∧ BBlk w' g S ∧ Add w w'
set_option maxRecDepth 100000 in
set_option maxHeartbeats 2000000 in
theorem flow_any {w0 w : World} {A : List Arc} {N s t gr gs gf gd H : Nat} {sv uv : Value} {F D : List Int} (hF : F.length = A.length) (hm : A.length ≤ 2500) (hR : ResB w0 w A N s t gr gs gf gd H sv uv (roomS A F) D) :
    Calls Try.prog 46 #[.pointer (some ⟨gr, 0, none⟩)] w (FlowP w F A.length) := by
  obtain ⟨i0, hi, hz0, hz1, hz2⟩ := info_parts infoInt
  have HR := Lib.hid hR
  have HF := Lib.hid hF
  have c2 := hR.1.c2
  obtain ⟨ad, sc, hsv, hs1, hs2, -⟩ := hR.2.1
  rw [hsv] at c2
  have HSV := Lib.hid hsv
  obtain ⟨m, hmm⟩ : ∃ m, A.length = m := ⟨_, rfl⟩
  have HM := Lib.hid hmm
  rw [hmm] at c2 hs1 hm ⊢
  have l1 := hR.1.lt
  unfold maxLen at hs2
  have hq : ((2 * m : Nat) : Int) = 2 * (m : Int) := by omega
  clear hR hF hsv hmm hq
  go_enter Try.func46, Try.ntmps46
  go_wp2_with (at_make; refine wpList_make_full _ rfl _ _ 25 rfl w.heap.size 3 i0 (.int .i64 0) 1 Try.underlying25 hi hz0 hz1 _ _ _ _ m rfl rfl rfl rfl (by rw [hz2]; omega) (by unfold maxLen; omega) (Nat.le_refl _) ?_)
  intro w2 hown hgr
  have hI := IBlk.made hown
  have hgr2 : Add w w2 := grown_add hgr
  obtain ⟨g, hg⟩ : ∃ g, g = w.heap.size := ⟨_, rfl⟩
  rw [← hg] at hI ⊢
  have HI : Hid (IBlk w2 g (F.take 0 ++ List.replicate (m - 0) 0)) := Lib.hid (by simpa using hI)
  have HA := Lib.hid hgr2
  have hgw : w.heap.size ≤ g := by omega
  clear hown hgr hgr2 hI hi hz0 hz1 hz2 c2 hg
  go_wp2_with fail
  go_loopw [14] (fun i wr => ∃ k : Nat, k ≤ m ∧ i = .int .i64 k ∧ Hid (IBlk wr g (F.take k ++ List.replicate (m - k) 0)) ∧ Hid (Add w wr)) (fun i _ => m - (intOf i).toNat)
  case atStart => exact ⟨0, Nat.zero_le _, rfl, HI, HA⟩
  case round =>
    clear HI HA
    obtain ⟨k, hk, rfl, hI, hadd⟩ := hrel
    by_cases hlt : k < m
    · have hR1 := HR.out.add hadd.out
      have c2 := hR1.1.c2
      have hj : 2 * k + 1 < 2 * A.length := by rw [HM.out]; omega
      obtain ⟨sc', hsv', -, -, s0, s1, -, sgl⟩ := hR1.2.1.get hj
      have hsv2 := HSV.out
      rw [hsv'] at hsv2
      simp only [Value.slice.injEq] at hsv2
      obtain ⟨rfl, -, rfl⟩ := hsv2
      rw [hsv', HM.out] at c2
      have hrm : roomS A F (2 * k + 1) = F.getD k 0 := by
        unfold roomS
        have e1 : (2 * k + 1) % 2 = 1 := by omega
        have e2 : (2 * k + 1) / 2 = k := by omega
        simp [e1, e2]
      rw [hrm] at s1
      obtain ⟨f, hf⟩ : ∃ f, F.getD k 0 = f := ⟨_, rfl⟩
      rw [hf] at s1
      have hkl : k < (F.take k ++ List.replicate (m - k) (0 : Int)).length := by simp; rw [HF.out, HM.out]; omega
      have q0 := IBlk.get hI.out k hkl
      have fr := Blk.free hI.out k
      have l2 := Blk.lt hI.out
      have l3 := hR1.1.lt
      have HN : Hid (IBlk (wr.setCell ⟨g, k, none⟩ (.int .i64 f)) g (F.take (k + 1) ++ List.replicate (m - (k + 1)) 0)) := Lib.hid (by
        rw [← fill_step (by rw [HF.out, HM.out]) hlt, hf]; exact IBlk.put hI.out k f)
      have HA2 : Hid (Add w (wr.setCell ⟨g, k, none⟩ (.int .i64 f))) := Lib.hid (add_setLow hadd.out (by omega) _ _)
      clear hR1 hsv' hrm hf hkl hj
      go_wp2_with fail
      go_roundw
      case rel => exact ⟨k + 1, by omega, by go_num, HN, HA2⟩
      case measure => simp [intOf]; omega
    · obtain rfl : m = k := by omega
      have HE : Hid (FlowP w F m (.returned (.slice (some ⟨g, 0, none⟩) m m)) wr) := Lib.hid (by
        refine ⟨g, rfl, ?_, hadd.out⟩
        have := hI.out
        rwa [Nat.sub_self, List.replicate_zero, List.append_nil, List.take_of_length_le (by rw [HF.out, HM.out]; exact Nat.le_refl _)] at this)
      clear hI hadd
      go_wp2_with fail
      go_ret
      exact HE.out

set_option maxRecDepth 100000 in
set_option maxHeartbeats 2000000 in
theorem reached_any {w0 w : World} {A : List Arc} {N s t gr gs gf gd H : Nat} {sv uv : Value} {R : Nat → Int} {D : List Int} (hN2 : N ≤ 700) (hR : ResB w0 w A N s t gr gs gf gd H sv uv R D) :
    Calls Try.prog 47 #[.pointer (some ⟨gr, 0, none⟩)] w (SeenP w (D.map fun d => decide (d ≠ -1)) N) := by
  obtain ⟨i0, hi, hz0, hz1, hz2⟩ := info_parts infoBool
  have HR := Lib.hid hR
  have c5 := hR.1.c5
  have HDL := Lib.hid hR.2.2.2.2.1
  have l1 := hR.1.lt
  obtain ⟨S, hS⟩ : ∃ S, (D.map fun d => decide (d ≠ -1)) = S := ⟨_, rfl⟩
  have HSL : Hid (S.length = N) := Lib.hid (by rw [← hS, List.length_map]; exact HDL.out)
  have HSG : Hid (∀ k, k < N → S.getD k false = decide (D.getD k 0 ≠ -1)) := Lib.hid fun k hk => by
    have : k < D.length := by rw [HDL.out]; exact hk
    rw [← hS]; simp [List.getD, this]
  rw [hS]
  clear hR hS
  go_enter Try.func47, Try.ntmps47
  go_wp2_with (at_make; refine wpList_make_full _ rfl _ _ 46 rfl w.heap.size 4 i0 (.bool false) 1 Try.underlying46 hi hz0 hz1 _ _ _ _ N rfl rfl rfl rfl (by rw [hz2]; omega) (by unfold maxLen; omega) (Nat.le_refl _) ?_)
  intro w2 hown hgr
  have hI := BBlk.made hown
  have hgr2 : Add w w2 := grown_add hgr
  obtain ⟨g, hg⟩ : ∃ g, g = w.heap.size := ⟨_, rfl⟩
  rw [← hg] at hI ⊢
  have HI : Hid (BBlk w2 g (S.take 0 ++ List.replicate (N - 0) false)) := Lib.hid (by simpa using hI)
  have HA := Lib.hid hgr2
  have hgw : w.heap.size ≤ g := by omega
  have l3' := (HR.out.add hgr2).1.lt
  clear c5
  have c5 := (HR.out.add hgr2).1.c5
  clear hown hgr hgr2 hI hi hz0 hz1 hz2 hg
  go_wp2_with fail
  clear c5
  go_loopw [17] (fun i wr => ∃ k : Nat, k ≤ N ∧ i = .int .i64 k ∧ Hid (BBlk wr g (S.take k ++ List.replicate (N - k) false)) ∧ Hid (Add w wr)) (fun i _ => N - (intOf i).toNat)
  case atStart => exact ⟨0, Nat.zero_le _, rfl, HI, HA⟩
  case round =>
    clear HI HA
    obtain ⟨k, hk, rfl, hI, hadd⟩ := hrel
    by_cases hlt : k < N
    · have hR1 := HR.out.add hadd.out
      have s1 := IBlk.get hR1.2.2.2.1 k (by rw [HDL.out]; exact hlt)
      have sgl := Blk.lt hR1.2.2.2.1
      have hgk := HSG.out k hlt
      obtain ⟨d, hd⟩ : ∃ d, D.getD k 0 = d := ⟨_, rfl⟩
      rw [hd] at s1 hgk
      have hkl : k < (S.take k ++ List.replicate (N - k) false).length := by simp; rw [HSL.out]; omega
      have q0 := BBlk.get hI.out k hkl
      have fr := Blk.free hI.out k
      have l2 := Blk.lt hI.out
      have l3 := hR1.1.lt
      have HN : Hid (BBlk (wr.setCell ⟨g, k, none⟩ (.bool (decide (d ≠ -1)))) g (S.take (k + 1) ++ List.replicate (N - (k + 1)) false)) := Lib.hid (by
        rw [← fill_step HSL.out hlt, hgk]; exact BBlk.put hI.out k _)
      have HA2 : Hid (Add w (wr.setCell ⟨g, k, none⟩ (.bool (decide (d ≠ -1))))) := Lib.hid (add_setLow hadd.out (by omega) _ _)
      clear hR1 hd hkl hgk
      by_cases hd : d = -1
      · have d1 : (d == -1) = true := by simpa using hd
        have d2 : (d != -1) = false := by simpa using hd
        rw [decide_eq_false (by simpa using hd)] at HN HA2
        clear hd
        go_wp2_with fail
        go_roundw
        case rel => exact ⟨k + 1, by omega, by go_num, HN, HA2⟩
        case measure => simp [intOf]; omega
      · have d1 : (d == -1) = false := by simpa using hd
        have d2 : (d != -1) = true := by simpa using hd
        rw [decide_eq_true (by simpa using hd)] at HN HA2
        clear hd
        go_wp2_with fail
        go_roundw
        case rel => exact ⟨k + 1, by omega, by go_num, HN, HA2⟩
        case measure => simp [intOf]; omega
    · obtain rfl : N = k := by omega
      have HE : Hid (SeenP w S N (.returned (.slice (some ⟨g, 0, none⟩) N N)) wr) := Lib.hid (by
        refine ⟨g, rfl, ?_, hadd.out⟩
        have := hI.out
        rwa [Nat.sub_self, List.replicate_zero, List.append_nil, List.take_of_length_le (by rw [HSL.out]; exact Nat.le_refl _)] at this)
      clear hI hadd
      go_wp2_with fail
      go_ret
      exact HE.out
end Go.Proofs.Ytaoibakbnimnkaa
