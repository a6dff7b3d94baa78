/- Package maxflow: Capacity. -/
import Derived.Test.YtdihmbbkmbnomaaP4
import Derived.Test.YtdihmbbkmbnomaaN6
namespace Go.Proofs.Ytdihmbbkmbnomaa
open Go.RowKit NetM

set_option maxRecDepth 100000 in
set_option maxHeartbeats 2000000 in
theorem progCapacity_no {w : World} {v : Value} {N s t : Nat} {A : List Arc} {S : List Bool} {ca : Option Addr} {p q : Nat} (h : NetA w v N s t A) (hv : VNet N s t A) (hc : RdB w (.slice ca p q) S) (hno : Hid (¬ isCut N s t S)) :
    Calls Try.prog 13 #[v, .slice ca p q] w (CapP w N s t A S) := by
  have CV : Hid (∀ W1, Add w W1 → Calls Try.prog 15 #[v] W1 (RetB W1 true)) := Lib.hid fun W1 ha => progValid_yes (h.add ha) hv
  have hlen : S.length = p := by
    obtain ⟨ao, c', e, -⟩ := hc.open
    simp only [Value.slice.injEq] at e
    exact e.2.1.symm
  obtain ⟨va, rfl, ⟨a, m, c, rfl, -⟩⟩ := h
  obtain ⟨-, hs, ht, hst, hN, hN2, -⟩ := hv
  have B1 := Lib.hid (nbox_new w N s t a m c)
  have T1 := add_new w (.cells #[.int .i64 N, .int .i64 s, .int .i64 t, .slice a m c] 24)
  have HNO : Hid (∀ w', Add w w' → CapP w N s t A S (.returned (.tuple #[.int .i64 0, .bool false])) w') := Lib.hid fun w' ha => ⟨0, false, rfl, ha, fun h => Bool.noConfusion h, fun _ => ⟨hno.out, rfl⟩⟩
  have HC := Lib.hid hc
  have HLN := Lib.hid hlen
  clear hc hlen
  by_cases hp : p = N
  · subst hp
    obtain ⟨b, off, rfl, q1⟩ := RdB.cell HC.out hs
    obtain ⟨b', off', e', q2⟩ := RdB.cell HC.out ht
    simp only [Option.some.injEq, Addr.mk.injEq, and_true] at e'
    obtain ⟨rfl, rfl⟩ := e'
    have hbw : b < w.heap.size := World.block_lt_of_cell? _ _ q1
    have QQ := Lib.hid (And.intro q1 q2)
    clear q1 q2
    cases h1 : getB S s with
    | false =>
      rw [h1] at QQ
      have H1 := Lib.hid h1
      clear h1
      go_enter Try.func13, Try.ntmps13
      go_wp2_with fail
      refine (CV.out _ T1).mono ?_
      rintro e w1 ⟨rfl, h1⟩
      have hB := B1.out.add h1
      have b0 := hB.c0
      have b1 := hB.c1
      have T2 := Lib.hid (Add.trans T1 h1)
      have q1 := (T2.out.cell (p := ⟨b, off + s, none⟩) hbw).trans QQ.out.1
      clear h1 hB B1 T1
      go_wp2_with fail
      go_ret2
      exact HNO.out _ T2.out
    | true =>
      cases h2 : getB S t with
      | false => exact absurd ⟨HLN.out, h1, h2⟩ hno.out
      | true =>
        rw [h1, h2] at QQ
        have H1 := Lib.hid h1
        have H2 := Lib.hid h2
        clear h1 h2
        go_enter Try.func13, Try.ntmps13
        go_wp2_with fail
        refine (CV.out _ T1).mono ?_
        rintro e w1 ⟨rfl, h1⟩
        have hB := B1.out.add h1
        have b0 := hB.c0
        have b1 := hB.c1
        have b2 := hB.c2
        have T2 := Lib.hid (Add.trans T1 h1)
        have q1 := (T2.out.cell (p := ⟨b, off + s, none⟩) hbw).trans QQ.out.1
        have q2 := (T2.out.cell (p := ⟨b, off + t, none⟩) hbw).trans QQ.out.2
        clear h1 hB B1 T1
        go_wp2_with fail
        go_ret2
        exact HNO.out _ T2.out
  · have d1 : ((p : Int) == (N : Int)) = false := by simp; omega
    have d2 : ((p : Int) != (N : Int)) = true := by simp; omega
    clear hp
    go_enter Try.func13, Try.ntmps13
    go_wp2_with fail
    refine (CV.out _ T1).mono ?_
    rintro e w1 ⟨rfl, h1⟩
    have hB := B1.out.add h1
    have b0 := hB.c0
    have T2 := Lib.hid (Add.trans T1 h1)
    clear h1 hB B1 T1
    go_wp2_with fail
    go_ret2
    exact HNO.out _ T2.out

set_option maxRecDepth 100000 in
set_option maxHeartbeats 2000000 in
theorem progCapacity_yes {w : World} {v : Value} {N s t : Nat} {A : List Arc} {S : List Bool} {ca : Option Addr} {p q : Nat} (h : NetA w v N s t A) (hv : VNet N s t A) (hc : RdB w (.slice ca p q) S) (hcut : Hid (isCut N s t S)) :
    Calls Try.prog 13 #[v, .slice ca p q] w (CapP w N s t A S) := by
  have CV : Hid (∀ W1, Add w W1 → Calls Try.prog 15 #[v] W1 (RetB W1 true)) := Lib.hid fun W1 ha => progValid_yes (h.add ha) hv
  have hlen : S.length = p := by
    obtain ⟨ao, c', e, -⟩ := hc.open
    simp only [Value.slice.injEq] at e
    exact e.2.1.symm
  obtain ⟨va, rfl, ha⟩ := h
  obtain ⟨a, m, c, rfl, hl, hmc, hm, -⟩ := id ha
  have HV := Lib.hid hv
  have HA := Lib.hid ha
  have HL := Lib.hid hl
  obtain ⟨-, hs, ht, hst, hN, hN2, hm2⟩ := hv
  rw [hl] at hm2
  clear ha hl
  obtain ⟨k1, k2, k3⟩ := hcut.out
  obtain rfl : p = N := hlen.symm.trans k1
  obtain ⟨b, off, rfl, q1⟩ := RdB.cell hc hs
  have hbw : b < w.heap.size := World.block_lt_of_cell? _ _ q1
  have HC : Hid (∀ j, j < p → w.cell? ⟨b, off + j, none⟩ = some (.bool (getB S j))) := Lib.hid fun j hj => by
    obtain ⟨b', off', e', q2⟩ := RdB.cell hc hj
    simp only [Option.some.injEq, Addr.mk.injEq, and_true] at e'
    obtain ⟨rfl, rfl⟩ := e'
    exact q2
  have K2 := Lib.hid k2
  have K3 := Lib.hid k3
  have B1 := Lib.hid (nbox_new w p s t a m c)
  have T1 := add_new w (.cells #[.int .i64 p, .int .i64 s, .int .i64 t, .slice a m c] 24)
  clear k1 k2 k3 q1 hc hlen
  go_enter Try.func13, Try.ntmps13
  go_wp2_with fail
  refine (CV.out _ T1).mono ?_
  rintro e w1 ⟨rfl, h1⟩
  have hB := B1.out.add h1
  have b0 := hB.c0
  have b1 := hB.c1
  have b2 := hB.c2
  have b3 := hB.c3
  have hT2 := Add.trans T1 h1
  have T2 := Lib.hid hT2
  have HC1 : Hid (∀ j, j < p → w1.cell? ⟨b, off + j, none⟩ = some (.bool (getB S j))) := Lib.hid fun j hj => (hT2.cell (p := ⟨b, off + j, none⟩) hbw).trans (HC.out j hj)
  have HA1 := Lib.hid (HA.out.add hT2)
  have q1 := HC1.out s hs
  have q2 := HC1.out t ht
  rw [K2.out] at q1
  rw [K3.out] at q2
  clear h1 hB B1 T1 hT2
  go_wp2_with fail
  clear q1 q2 b0 b1 b2
  go_loopw [6, 37] (fun sv i wr => ∃ (k : Nat) (v : Int), k ≤ m ∧ i = .int .i64 k ∧ sv = .int .i64 v ∧ Hid (v = capF (cutOf S) (A.take k)) ∧ Hid (Add w1 wr)) (fun _ i _ => m - (intOf i).toNat)
  case atStart => exact ⟨0, 0, Nat.zero_le _, rfl, rfl, Lib.hid rfl, Lib.hid (add_refl _)⟩
  case round =>
    obtain ⟨k, v, hk, rfl, rfl, hpre, hadd⟩ := hrel
    by_cases hlt : k < m
    · obtain ⟨ab, aoff, rfl, g0, g1, g2, g3⟩ := (HA1.out.add hadd.out).cell hlt
      obtain ⟨x, y, z, u, hx, hxN, hyN, hz0, hz1⟩ := HV.out.at (k := k) (by rw [HL.out]; exact hlt)
      rw [hx] at g0 g1 g2 g3
      dsimp only at g0 g1 g2 g3
      have hbw1 : b < w1.heap.size := Nat.lt_of_lt_of_le hbw T2.out.size
      have c1 := (hadd.out.cell (p := ⟨b, off + x, none⟩) hbw1).trans (HC1.out x hxN)
      have c2 := (hadd.out.cell (p := ⟨b, off + y, none⟩) hbw1).trans (HC1.out y hyN)
      have hbw2 : b < wr.heap.size := Nat.lt_of_lt_of_le hbw1 hadd.out.size
      have HADD : Hid (∀ o, Add w1 (wr.alloc o)) := Lib.hid fun o => Add.trans hadd.out (add_new _ _)
      clear hbw1
      have hb := cap_nonneg (n := p) (cutOf S) (A.take k) fun a ha => HV.out.1 a (List.mem_of_mem_take ha)
      have hb2 := cap_le (n := p) (cutOf S) (A.take k) fun a ha => HV.out.1 a (List.mem_of_mem_take ha)
      rw [take_len HL.out (Nat.le_of_lt hlt), ← hpre.out] at hb2
      rw [← hpre.out] at hb
      have hstep : capF (cutOf S) (A.take (k + 1)) = v + (if (getB S x && !getB S y) = true then z else 0) := by
        rw [cap_take (by rw [HL.out]; exact hlt), hx, hpre.out]
        unfold adds
        dsimp only
        rw [cutOf_nat, cutOf_nat]
      have HS := Lib.hid hstep
      have hv2 : v ≤ 5368709117500 := by omega
      clear hx hstep hb2
      cases h1 : getB S x with
      | false =>
        rw [h1] at c1 HS
        have HS2 : Hid (v = capF (cutOf S) (A.take (k + 1))) := Lib.hid (by rw [HS.out]; simp)
        clear h1 HS
        go_wp2_with fail
        go_roundw
        case rel => exact ⟨k + 1, v, by omega, by go_num, rfl, HS2, Lib.hid (HADD.out _)⟩
        case measure => simp [intOf]; omega
      | true =>
        cases h2 : getB S y with
        | true =>
          rw [h1] at c1
          rw [h2] at c2
          rw [h1, h2] at HS
          have HS2 : Hid (v = capF (cutOf S) (A.take (k + 1))) := Lib.hid (by rw [HS.out]; simp)
          clear h1 h2 HS
          go_wp2_with fail
          go_roundw
          case rel => exact ⟨k + 1, v, by omega, by go_num, rfl, HS2, Lib.hid (HADD.out _)⟩
          case measure => simp [intOf]; omega
        | false =>
          rw [h1] at c1
          rw [h2] at c2
          rw [h1, h2] at HS
          have HS2 : Hid (v + z = capF (cutOf S) (A.take (k + 1))) := Lib.hid (by rw [HS.out]; simp)
          clear h1 h2 HS
          go_wp2_with fail
          go_roundw
          case rel => exact ⟨k + 1, v + z, by omega, by go_num, rfl, HS2, Lib.hid (HADD.out _)⟩
          case measure => simp [intOf]; omega
    · obtain rfl : k = m := by omega
      have HYES : Hid (CapP w p s t A S (.returned (.tuple #[.int .i64 v, .bool true])) wr) := Lib.hid ⟨_, true, rfl, Add.trans T2.out hadd.out, fun _ => ⟨hcut.out, by rw [hpre.out, List.take_of_length_le (by rw [HL.out]; exact Nat.le_refl _)]⟩, fun h => Bool.noConfusion h⟩
      clear hpre
      go_wp2_with fail
      go_ret2
      exact HYES.out
theorem progCapacity_any {w : World} {v vc : Value} {N s t : Nat} {A : List Arc} {S : List Bool} (h : NetA w v N s t A) (hv : VNet N s t A) (hc : RdB w vc S) :
    Calls Try.prog 13 #[v, vc] w (CapP w N s t A S) := by
  obtain ⟨ca, q, rfl, -⟩ := hc.open
  by_cases hcut : isCut N s t S
  · exact progCapacity_yes h hv hc (Lib.hid hcut)
  · exact progCapacity_no h hv hc (Lib.hid hcut)
end Go.Proofs.Ytdihmbbkmbnomaa
