/- The law FieldInverse: its walk, for all arguments. -/
import Derived.Test.YtahjijpoihljjaaG23
import Derived.Test.YtahjijpoihljjaaG24
namespace Go.Proofs.Ytahjijpoihljjaa
open Go.RowKit GfM

/-- The entries of a combination of rows. -/
theorem comb_get {K col : Nat} {cs : List Nat} {M : List (List Nat)} (hd : Dim K K M) (hcol : col < K) (k : Nat) (hk : k ≤ K) : (comb K cs M k).getD col 0 = sumX k fun j => gm (cs.getD j 0) (ent M j col) := by
  induction k with
  | zero => rw [comb, sumX]; simp [List.getD, hcol]
  | succ k ih =>
    rw [comb, sumX, getD_addTo' (by rw [length_comb]; exact hcol) (by rw [hd.2.1 k (by omega)]; exact hcol), ih (by omega)]
    rfl
theorem getD_eq {l : List Nat} {c : Nat} (h : c < l.length) : l.getD c 0 = l[c] := by simp [List.getD, h]
theorem comb_unit {K i : Nat} {A B : List (List Nat)} (_ha : Dim K K A) (hb : Dim K K B) (hi : i < K) (h : ∀ c < K, mulE' K (ent A) (ent B) i c = idE i c) : comb K (A.getD i []) B K = unitR K i := by
  refine List.ext_getElem (by rw [length_comb, length_unitR]) fun c h1 h2 => ?_
  have hc : c < K := by rw [length_comb] at h1; exact h1
  have e1 := comb_get (cs := A.getD i []) hb hc K (Nat.le_refl _)
  have e2 := unitR_get (n := K) (i := i) (c := c) hi
  have e3 := h c hc
  have e4 : (comb K (A.getD i []) B K).getD c 0 = idE i c := by rw [e1]; exact e3
  have g1 : (comb K (A.getD i []) B K).getD c 0 = (comb K (A.getD i []) B K)[c] := getD_eq h1
  have g2 : (unitR K i).getD c 0 = (unitR K i)[c] := getD_eq h2
  rw [← g1, ← g2, e4, e2]
/-- What a row of A and the rows of B combine to, where A B is the identity. -/
theorem combine_unit {w : World} {cv v : Value} {vs : List Value} {K i : Nat} {A B : List (List Nat)} (hA : Dim K K A) (hB : Dim K K B) (hi : i < K) (hK : 0 < K) (hK8 : K ≤ 8) (hr : Reads w cv (A.getD i [])) (hv : RowsB w v vs B) (h : ∀ c < K, mulE' K (ent A) (ent B) i c = idE i c) :
    Calls Try.prog 24 #[cv, v] w (CombP w K (unitR K i)) := by
  have h0 : (B.getD 0 []).length = K := hB.2.1 0 hK
  have := combine_ok hr hv (by omega) (by rw [hA.2.1 i hi]; omega) (by rw [hB.1, hA.2.1 i hi]) (by rw [h0]; exact getD_all hB)
  rw [h0, hA.2.1 i hi, comb_unit hA hB hi h] at this
  exact this

set_option maxRecDepth 100000 in
set_option maxHeartbeats 4000000 in
theorem inverse_none {lv : Value} {l : List Nat} {w : World} (hl : Reads w lv l) (n K : Nat) (hn : n < 256) (eK : K = 1 + n % 8) (hi : invM (sqTo l K K) K = none) :
    Calls Try.prog 8 #[.int .u8 (n : Nat), lv] w (LawB w) := by
  have hbl := hl.limbs
  obtain ⟨aol, cl, rfl, hml⟩ := hl.isSlice
  have hK0 : 0 < K := by omega
  have hK8 : K ≤ 8 := by omega
  have hKi : (1 : Int) + (n : Int) % 8 = (K : Int) := by omega
  have hw1 : IntKind.i64.wrap (n : Int) = n := by rw [IntKind.wrap_i64]; omega
  have CS : Hid (Calls Try.prog 29 #[.int .i64 (K : Nat), .slice aol l.length cl] w (SqP w l K)) := Lib.hid (square_any hl hK8 hK0)
  have hd := sq_dim (K := K) hbl
  have HI := Lib.hid hi
  clear hl eK hi
  go_enter Try.func8, Try.ntmps8
  go_wp2_with fail
  refine CS.out.mono ?_
  rintro e w1 ⟨v, gs, rfl, hsq, hadd1⟩
  obtain ⟨G, cap, rfl, hbG, hrows⟩ := hsq.rows hd hK0 hK8
  have CI := Lib.hid (invert_none hrows hd hK0 (by omega) HI.out)
  have HADD1 := Lib.hid hadd1
  clear hsq hadd1 hrows CS
  go_wp2_with fail
  refine CI.out.mono ?_
  rintro e w2 ⟨rfl, k2⟩
  have HA := Lib.hid (Add.trans HADD1.out k2)
  clear k2
  go_wp2_with (go_at_call 22; refine (awake_any _).mono ?_; rintro e w' ⟨rfl, rfl⟩)
  go_ret
  exact ⟨rfl, HA.out⟩

set_option maxRecDepth 100000 in
set_option maxHeartbeats 4000000 in
theorem inverse_some {lv : Value} {l : List Nat} {w : World} (hl : Reads w lv l) (n K : Nat) (hn : n < 256) (eK : K = 1 + n % 8) {R : List (List Nat)} (hi : invM (sqTo l K K) K = some R) :
    Calls Try.prog 8 #[.int .u8 (n : Nat), lv] w (LawB w) := by
  have hbl := hl.limbs
  obtain ⟨aol, cl, rfl, hml⟩ := hl.isSlice
  have hK0 : 0 < K := by omega
  have hK8 : K ≤ 8 := by omega
  have hKi : (1 : Int) + (n : Int) % 8 = (K : Int) := by omega
  have hw1 : IntKind.i64.wrap (n : Int) = n := by rw [IntKind.wrap_i64]; omega
  have CS : Hid (Calls Try.prog 29 #[.int .i64 (K : Nat), .slice aol l.length cl] w (SqP w l K)) := Lib.hid (square_any hl hK8 hK0)
  have hd := sq_dim (K := K) hbl
  obtain ⟨M, eM⟩ : ∃ M, M = sqTo l K K := ⟨_, rfl⟩
  rw [← eM] at hd hi
  have EM := Lib.hid eM
  obtain ⟨hdR, hAR, hRA⟩ := inv_some hd hi
  have hii := inv_inv hd hi
  have HI := Lib.hid hi
  have HII := Lib.hid hii
  have HAR := Lib.hid hAR
  have HRA := Lib.hid hRA
  clear hl eK hi hii eM hAR hRA
  go_enter Try.func8, Try.ntmps8
  go_wp2_with fail
  refine CS.out.mono ?_
  rintro e w1 ⟨v, gs, rfl, hsq, hadd1⟩
  rw [← EM.out] at hsq
  obtain ⟨G, cap, rfl, hbG, hrows⟩ := hsq.rows hd hK0 hK8
  have CI : Hid (Calls Try.prog 26 #[.slice (some ⟨G, 0, none⟩) K cap] w1 (fun e w' => ∃ v vs, e = .returned (.tuple #[v, .int .i64 0]) ∧ RowsB w' v vs R ∧ Add w1 w')) := Lib.hid (by
    have := invert_ok hrows hd.1 hK0 (by omega) (getD_all hd)
    rw [HI.out] at this; exact this)
  have HADD1 := Lib.hid hadd1
  have HR1 := Lib.hid hrows
  clear hsq hadd1 hrows CS
  go_wp2_with fail
  refine CI.out.mono ?_
  rintro e w2 ⟨x, vsx, rfl, hx, k2⟩
  obtain ⟨aox, cx, rfl, -⟩ := hx.isSlice
  rw [hdR.1] at hx ⊢
  have HX := Lib.hid hx
  have HA := Lib.hid (HR1.out.mono k2)
  have HADD2 := Lib.hid (Add.trans HADD1.out k2)
  clear hx k2 HR1 HADD1 CI
  go_wp2_with fail
  go_loopw [9] (fun i wr => ∃ k : Nat, k ≤ K ∧ i = .int .i64 (k : Nat) ∧ Add w2 wr) (fun i _ => K - (intOf i).toNat)
  case atStart => exact ⟨0, Nat.zero_le _, rfl, Below.refl _ _⟩
  case round =>
    obtain ⟨k, hk, rfl, hadd⟩ := hrel
    have HAw := Lib.hid (HA.out.mono hadd)
    have HXw := Lib.hid (HX.out.mono hadd)
    have HADD := Lib.hid hadd
    clear hadd
    by_cases h0 : k = K
    · have CJ : Hid (Calls Try.prog 26 #[.slice aox K cx] wr (fun e w' => ∃ v vs, e = .returned (.tuple #[v, .int .i64 0]) ∧ RowsB w' v vs M ∧ Add wr w')) := Lib.hid (by
        have := invert_ok HXw.out hdR.1 hK0 (by omega) (getD_all hdR)
        rw [HII.out] at this; exact this)
      have h0 := h0.symm
      subst h0
      go_wp2_with fail
      refine CJ.out.mono ?_
      rintro e w3 ⟨y, vsy, rfl, hy, k3⟩
      have hs := sameRows_any hy (HAw.out.mono k3) (fun q hq => by rw [hd.2.1 q (by rw [← hd.1]; exact hq)]; exact hK0)
      obtain ⟨aoy, cy, rfl, -⟩ := hy.isSlice
      rw [hd.1] at hs ⊢
      have CSR := Lib.hid hs
      have HA3 := Lib.hid (Add.trans HADD2.out (Add.trans HADD.out k3))
      clear hs hy k3
      go_wp2_with first | (go_at_call 28; (with_reducible refine CSR.out.mono ?_); rintro e w' ⟨rfl, q, rfl⟩) | (go_at_call 22; refine (awake_any _).mono ?_; rintro e w' ⟨rfl, rfl⟩)
      go_ret
      exact ⟨rfl, below_drewN HA3.out _⟩
    · have hlt : k < K := by omega
      obtain ⟨b, off, a, l1, c1, eb, -, el, hl1, hcell, hrd⟩ := HAw.out.row hlt
      simp only [Option.some.injEq, Addr.mk.injEq, and_true] at eb
      obtain ⟨rfl, rfl⟩ := eb
      have C1 := Lib.hid (combine_unit hd hdR hlt hK0 hK8 hrd HXw.out (HAR.out k hlt))
      rw [Nat.zero_add] at hcell
      clear hrd el h0
      go_wp2_with fail
      refine C1.out.mono ?_
      rintro e w3 ⟨g3, rfl, o3, k3⟩
      obtain ⟨b', off', a', l', c', rfl, -, el', hl', hcell', hrd'⟩ := (HXw.out.mono k3).row hlt
      have C2 := Lib.hid (combine_unit hdR hd hlt hK0 hK8 hrd' (HAw.out.mono k3) (HRA.out k hlt))
      have HK3 := Lib.hid k3
      have O3 := Lib.hid o3
      clear hrd' el' k3 o3 hcell
      go_wp2_with fail
      refine C2.out.mono ?_
      rintro e w4 ⟨g4, rfl, o4, k4⟩
      have R3 := Lib.hid (O3.out.below k4).row
      have R4 := Lib.hid o4.row
      have HADD4 := Lib.hid (Add.trans HADD.out (Add.trans HK3.out k4))
      clear k4 o4 hcell'
      go_wp2_with fail
      go_loop [14] (fun i => ∃ j : Nat, j ≤ K ∧ i = .int .i64 (j : Nat)) (fun i => K - (intOf i).toNat)
      case atStart => exact ⟨0, Nat.zero_le _, rfl⟩
      case round =>
        obtain ⟨j, hj, rfl⟩ := hrel
        by_cases hjK : j = K
        · have hjK := hjK.symm
          subst hjK
          go_wp2_with fail
          go_roundw
          case rel => exact ⟨k + 1, by omega, by go_num, HADD4.out⟩
          case measure => simp [intOf]; omega
        · have hjlt : j < K := by omega
          have cp := R3.out.cell j (by rw [length_unitR]; exact hjlt)
          have cq := R4.out.cell j (by rw [length_unitR]; exact hjlt)
          rw [unitR_get hlt] at cp cq
          by_cases hkj : k = j
          · have e1 : idE k j = 1 := by unfold idE; rw [if_pos hkj]
            rw [e1] at cp cq
            have hb : ((k : Int) == (j : Int)) = true := by simp [hkj]
            clear e1 hkj hjK
            go_wp2_with fail
            go_round
            case rel => exact ⟨j + 1, by omega, by go_num⟩
            case measure => simp [intOf]; omega
          · have e1 : idE k j = 0 := by unfold idE; rw [if_neg hkj]
            rw [e1] at cp cq
            have hb : ((k : Int) == (j : Int)) = false := by rw [beq_eq_false_iff_ne]; omega
            clear e1 hkj hjK
            go_wp2_with fail
            go_round
            case rel => exact ⟨j + 1, by omega, by go_num⟩
            case measure => simp [intOf]; omega
theorem fieldInverse_any {lv : Value} {l : List Nat} {w : World} (hl : Reads w lv l) (n : Nat) (hn : n < 256) :
    Calls Try.prog 8 #[.int .u8 (n : Nat), lv] w (LawB w) := by
  cases hi : invM (sqTo l (1 + n % 8) (1 + n % 8)) (1 + n % 8) with
  | none => exact inverse_none hl n _ hn rfl hi
  | some R => exact inverse_some hl n _ hn rfl hi
end Go.Proofs.Ytahjijpoihljjaa
