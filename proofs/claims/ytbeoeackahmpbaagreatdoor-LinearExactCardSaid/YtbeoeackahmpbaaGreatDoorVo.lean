/- The reference's Opposite. -/
import Derived.Test.YtbeoeackahmpbaaGreatDoorJV5
import Derived.Test.YtbeoeackahmpbaaGreatDoorJQ
namespace Go.Proofs.YtbeoeackahmpbaaGreatDoor
open Go.RowKit NatM Go.Proofs.YtbeoeackahmpbaaGreatDoor.Api LinM

set_option maxRecDepth 100000 in
set_option maxHeartbeats 1000000 in
theorem oppT {v : Value} {x : Tri} {w : World} (hx : FracT w v x) (hA : FracA w v x) : Calls Tryz.prog 36 #[v] w (RetF w (oppF x)) := by
  obtain ⟨an, n, cn, ad, d, cd, rfl, m1, m2⟩ := hx
  obtain ⟨an', n', cn', ad', d', cd', e, uN, uD⟩ := hA
  simp only [Value.agg.injEq, Array.mk.injEq, List.cons.injEq, Value.slice.injEq, and_true, true_and] at e
  obtain ⟨⟨rfl, rfl, rfl⟩, rfl, rfl, rfl⟩ := e
  obtain ⟨T, hX, hB⟩ := start2 w x.1 an n cn ad d cd false none 0 0 none 0 0
  replace uN := uN.mono T
  replace m1 := m1.mono T
  replace m2 := m2.mono T
  clear uD
  have hc0 := hX.c0
  have hc1 := hX.c1
  have hc2 := hX.c2
  go_enter Tryz.func36, Tryz.ntmps36
  go_wp2_with fail
  refine (refTrimX uN).mono ?_
  rintro e w1 ⟨v1, rfl, n1, h1⟩
  replace hB := hB.mono h1
  replace hX := hX.mono h1
  replace m1 := m1.mono h1
  replace m2 := m2.mono h1
  clear uN
  replace T := Add.trans T h1
  clear h1 hc0 hc1 hc2
  by_cases c : x.2.1 = 0
  · rw [c] at n1
    obtain ⟨ao, c1, rfl⟩ := num_len0 n1
    have e : oppF x = x := by unfold oppF; rw [if_pos c]
    have FE := Lib.hid e
    clear c n1 e
    have hb0 := hB.c0
    have hb1 := hB.c1
    have hb2 := hB.c2
    have hb3 := hB.fr 0
    have hb4 := hB.fr 1
    have hb5 := hB.fr 2
    have ha0 := hX.c0
    have ha1 := hX.c1
    have ha2 := hX.c2
    have hF := retF_put (w := w) (x := x) hB ⟨an, n, cn, ad, d, cd, rfl, m1, m2⟩ T (by omega)
    clear hB T m1 m2 hX
    unfold put3 at hF
    have HF := Lib.hid hF
    clear hF
    go_wp2_with fail
    exact bodyPost_ret (v := .agg #[.bool x.1, .slice an n cn, .slice ad d cd]) (by simp [results, Tryz.results36, go_sem, hb0, hb1, hb2]) rfl (by rw [FE.out]; exact HF.out)
  · obtain ⟨ao, m, c1, rfl, hz, -⟩ := num_size n1
    have hm : m ≠ 0 := fun e => c (hz.1 e)
    have d0 : ((m : Int) == 0) = false := by simp; omega
    have e : oppF x = negF x := by unfold oppF; rw [if_neg c]
    have FE := Lib.hid e
    clear c n1 e hz hm
    have hb0 := hB.c0
    have hb1 := hB.c1
    have hb2 := hB.c2
    have hb3 := hB.fr 0
    have hb4 := hB.fr 1
    have hb5 := hB.fr 2
    have ha0 := hX.c0
    have ha1 := hX.c1
    have ha2 := hX.c2
    have hF := retF_put (w := w) (x := negF x) hB ⟨an, n, cn, ad, d, cd, rfl, m1, m2⟩ T (by omega)
    clear hB T m1 m2 hX
    unfold put3 at hF
    have HF := Lib.hid hF
    clear hF
    go_wp2_with fail
    exact bodyPost_ret (v := .agg #[.bool (!x.1), .slice an n cn, .slice ad d cd]) (by simp [results, Tryz.results36, go_sem, hb0, hb1, hb2]) rfl (by rw [FE.out]; exact HF.out)
theorem opp_can (q : Rat) : oppF (can q) = can (-q) := by
  unfold oppF
  by_cases e : q = 0
  · rw [if_pos (zero_can.2 e), e]; rfl
  · rw [if_neg (fun h => e (zero_can.1 h)), can_neg e]; rfl
theorem sign_zero {q : Rat} : signQ q = 0 ↔ q = 0 := by
  unfold signQ cmpQ
  split
  · next h => exact ⟨fun e => by simp at e, fun e => by rw [e] at h; exact absurd h Rat.lt_irrefl⟩
  · split
    · next h => exact ⟨fun _ => h, fun _ => rfl⟩
    · next h => exact ⟨fun e => by simp at e, fun e => absurd e h⟩
end Go.Proofs.YtbeoeackahmpbaaGreatDoor
