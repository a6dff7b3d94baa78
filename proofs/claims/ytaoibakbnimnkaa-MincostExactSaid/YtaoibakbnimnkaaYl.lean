/- Package mincost: Solve (made by gen/csolve.py). -/
import Derived.Test.YtaoibakbnimnkaaYk
namespace Go.Proofs.Ytaoibakbnimnkaa
open Go.RowKit NetM

set_option maxRecDepth 100000 in
set_option maxHeartbeats 1000000 in
theorem progSolveC_inv {w : World} {v : Value} {N s t am : Int} {A : List Arc} (h : NetA w v N s t A) (hv : validC N s t A = false ∨ am < 0) : Calls Try.prog 17 #[v, .int .i64 am] w (SolveCN w) := by
  obtain ⟨b, hb⟩ : ∃ b, b = validC N s t A := ⟨_, rfl⟩
  have CV : Hid (∀ W1, Add w W1 → Calls Try.prog 13 #[v] W1 (RetB W1 b)) := Lib.hid fun W1 ha => by rw [hb]; exact progValidC_any (h.add ha)
  rw [← hb] at hv
  obtain ⟨va, rfl, ⟨a, m, c, rfl, -⟩⟩ := h
  have T1 := add_new w (.cells #[.int .i64 N, .int .i64 s, .int .i64 t, .slice a m c] 24)
  clear hb
  cases b with
  | false =>
    clear hv
    go_enter Try.func17, Try.ntmps17
    go_wp2_with fail
    refine (CV.out _ T1).mono ?_
    rintro e w1 ⟨rfl, h1⟩
    have HF : Hid (SolveCN w (.returned (.tuple #[.slice none 0 0, .int .i64 0, .slice none 0 0, .int .i64 1])) w1) := Lib.hid ⟨none, 0, none, 0, rfl, Add.trans T1 h1⟩
    clear h1 T1
    go_wp2_with fail
    exact bodyPost_ret (v := .tuple #[.slice none 0 0, .int .i64 0, .slice none 0 0, .int .i64 1]) (by simp [results, Try.results17, go_sem]) rfl HF.out
  | true =>
    have hn : am < 0 := by simpa using hv
    have d1 : decide (am < 0) = true := decide_eq_true hn
    clear hv
    go_enter Try.func17, Try.ntmps17
    go_wp2_with fail
    refine (CV.out _ T1).mono ?_
    rintro e w1 ⟨rfl, h1⟩
    have HF : Hid (SolveCN w (.returned (.tuple #[.slice none 0 0, .int .i64 0, .slice none 0 0, .int .i64 1])) w1) := Lib.hid ⟨none, 0, none, 0, rfl, Add.trans T1 h1⟩
    clear h1 T1
    go_wp2_with fail
    exact bodyPost_ret (v := .tuple #[.slice none 0 0, .int .i64 0, .slice none 0 0, .int .i64 1]) (by simp [results, Try.results17, go_sem]) rfl HF.out
theorem opt_small {N s t : Nat} {A : List Arc} {v : Int} (h2 : okCosts A) (hA : A.length ≤ 2500) (ho : Opt N s t A v) : v < 4294967296 := by
  obtain ⟨f, S, h, -, -, -, hf, -⟩ := ho
  have hb := net_le (x := (s : Int)) (B := 1000000) (by decide) (l := A) (f := f) fun i hi => by
    have h1 := (NetM.within_iff.1 h.1).2 i hi
    have hk := h2 (at' A i) (by unfold at'; simp [List.getD, hi])
    unfold okCost at hk
    omega
  omega
set_option maxRecDepth 100000 in
set_option maxHeartbeats 4000000 in
theorem progSolveC_any {w : World} {v : Value} {N s t : Nat} {A : List Arc} {am : Int} (h : NetA w v N s t A) (hv : CNet N s t A) (h0 : 0 ≤ am) (h1 : am ≤ 9223372036854775807) : Calls Try.prog 17 #[v, .int .i64 am] w (SolvePC w N s t A am) := by
  have HV := Lib.hid hv
  have CV : Hid (∀ W1, Add w W1 → Calls Try.prog 13 #[v] W1 (RetB W1 true)) := Lib.hid fun W1 ha => by have := progValidC_any (h.add ha); rw [hv.valid] at this; exact this
  have CM : Hid (∀ W1, Add w W1 → Calls Try.prog 34 #[v] W1 (SolveP W1 N s t A)) := Lib.hid fun W1 ha => progSolve_any (h.add ha) hv.1
  have HNA := Lib.hid h
  obtain ⟨hok, hs, ht, hst, hN2, hN7, hm25⟩ := hv.1
  have HOK := Lib.hid hok
  obtain ⟨va, rfl, hA⟩ := h
  obtain ⟨a, m, c, rfl, hl, -⟩ := id hA
  have HAR := Lib.hid hA
  have HL := Lib.hid hl
  have hm2 : m ≤ 2500 := by omega
  have T1 := add_new w (.cells #[.int .i64 N, .int .i64 s, .int .i64 t, .slice a m c] 24)
  have B1 := Lib.hid (nbox_new w N s t a m c)
  have d0 : decide (am < 0) = false := decide_eq_false (by omega)
  clear hv hA hl hok hst
  go_enter Try.func17, Try.ntmps17
  go_upto_region 3 with (go_at_call 13; refine (CV.out _ T1).mono ?_; rintro e w1 ⟨rfl, h1⟩; have HT2 := Lib.hid (Add.trans T1 h1); have HB2 := Lib.hid (B1.out.add h1); clear h1)
  have c0 := HB2.out.c0
  have c1 := HB2.out.c1
  have c2 := HB2.out.c2
  have c3 := HB2.out.c3
  clear T1 B1 d0 CV
  go_upto_region 4 with (go_at_call 34; refine (CM.out _ HT2.out).mono ?_; rintro e w3 hsp; obtain ⟨vf, mv, vc, F0, S0, rfl, k1, k2, k3, k4, k5, k6, k7⟩ := hsp; have HO := Lib.hid (show Opt N s t A mv from ⟨F0, S0, k3, k4.1, k4.c.1, k4.c.2, k5, k6⟩); have HT3 := Lib.hid (Add.trans HT2.out k7); have HB3 := Lib.hid (HB2.out.add k7); clear k1 k2 k3 k4 k5 k6 k7)
  clear CM c0 c1 c2 c3
  by_cases hbig : mv < am
  · have d1 : decide (mv < am) = true := decide_eq_true hbig
    have HF : Hid (SolvePC w N s t A am (.returned (.tuple #[.slice none 0 0, .int .i64 0, .slice none 0 0, .int .i64 12])) w3) := Lib.hid (.inr ⟨none, 0, none, 0, rfl, ⟨mv, HO.out, hbig⟩, HT3.out⟩)
    go_wp2_with fail
    exact bodyPost_ret (v := .tuple #[.slice none 0 0, .int .i64 0, .slice none 0 0, .int .i64 12]) (by simp [results, Try.results17, go_sem]) rfl HF.out
  · have d1 : decide (mv < am) = false := decide_eq_false hbig
    have hsm := opt_small HV.out.2 hm25 HO.out
    have hcir := cir_of HOK.out HV.out.2 hs ht hN7 hm25 h0 (am := am) (by omega)
    have CC := Lib.hid (cheapest_any (s := s) (t := t) (am := am) (HAR.out.add HT3.out) HL.out hm2 hN7 (by omega) hcir)
    have c0 := HB3.out.c0
    have c1 := HB3.out.c1
    have c2 := HB3.out.c2
    have c3 := HB3.out.c3
    clear hcir hsm
    go_upto_region 7 with (go_at_call 35; refine CC.out.mono ?_; rintro e w5 ⟨gr, ga, gs, gf, gp, gx, gt, vva, sv, F, P, X, T, rfl, hCB, hDI⟩; have HCB := Lib.hid hCB; have HDI := Lib.hid hDI; clear hCB hDI)
    clear CC c0 c1 c2 c3
    have hFl := HDI.out.flen
    rw [List.length_append, List.length_singleton] at hFl
    have CF := Lib.hid (cflow_any HCB.out hFl hm25)
    have hA35 := HCB.out.2.2.2.2.2.2.2.2.2.2.2.1
    have HA35 := Lib.hid hA35
    clear hFl hA35
    go_upto_region 8 with (go_at_call 36; refine CF.out.mono ?_; rintro e W7 ⟨g7, rfl, hI7, h7⟩; have HI7 := Lib.hid hI7; have HA57 := Lib.hid h7; clear hI7 h7)
    have hfin := cir_last HOK.out HV.out.2 hs ht (HV.out.1.2.2.2.1) HO.out (by omega) HDI.out
    obtain ⟨f1, f2, f3, f4, f5⟩ := hfin
    have HT7 := Lib.hid (Add.trans HT3.out (Add.trans HA35.out HA57.out))
    obtain ⟨gnw, hgn⟩ : ∃ gnw, gnw = w.heap.size := ⟨_, rfl⟩
    have hnb := HB3.out.add (Add.trans HA35.out HA57.out)
    rw [← hgn] at hnb ⊢
    have hcb := HCB.out.add HA57.out
    have HSS : Hid (∀ W, Add W7 W → Add W7 W ∧ W.cell? ⟨gnw, 0, none⟩ = some (.int .i64 (N : Nat)) ∧ W.cell? ⟨gnw, 1, none⟩ = some (.int .i64 (s : Nat)) ∧ W.cell? ⟨gnw, 2, none⟩ = some (.int .i64 (t : Nat)) ∧ W.cell? ⟨gnw, 3, none⟩ = some (.slice a m c) ∧ W.cell? ⟨gr, 3, none⟩ = some (sl gp N)) := Lib.hid fun W h =>
      ⟨h, (hnb.add h).c0, (hnb.add h).c1, (hnb.add h).c2, (hnb.add h).c3, (hcb.add h).1.c3⟩
    have HSD := Lib.hid (HSS.out W7.drew (b_drew (Below.refl _ _)))
    have hGl : (F.take A.length).length = A.length := by have := NetM.within_length f1.1; exact this
    have hrd : ∀ W, Add W7 W → RdI W (.slice (some ⟨g7, 0, none⟩) A.length A.length) (F.take A.length) := fun W h => Rd.add (Blk.rdAll HI7.out (by simpa using hGl) (Nat.le_refl _) (by unfold maxLen; omega)) h
    have hrp : ∀ W, Add W7 W → RdI W (sl gp N) P := fun W h => Rd.add (Blk.rdAll hcb.2.2.2.2.1 (by simpa using f3) (Nat.le_refl _) (by unfold maxLen; omega)) h
    obtain ⟨cf, hcf⟩ : ∃ cf, cf = costF A (F.take A.length) := ⟨_, rfl⟩
    have CSUM : Hid (∀ W, Add W7 W → Calls Try.prog 27 #[.agg #[.int .i64 N, .int .i64 s, .int .i64 t, .slice a m c], .slice (some ⟨g7, 0, none⟩) A.length A.length] W fun e w' => e = .returned (.int .i64 cf) ∧ Add W w') := Lib.hid fun W h => by
      rw [hcf]
      exact sumOf_any (HNA.out.add (Add.trans HT7.out h)) HV.out (hrd W h) f1
    have HFIN : Hid (∀ W, Add W7 W → SolvePC w N s t A am (.returned (.tuple #[.slice (some ⟨g7, 0, none⟩) A.length A.length, .int .i64 cf, sl gp N, .int .i64 0])) W) := Lib.hid fun W h =>
      .inl ⟨_, cf, _, F.take A.length, P, rfl, hrd W h, hrp W h, ⟨f1, f2, f3, f4, f5⟩, hcf, Add.trans HT7.out h⟩
    clear hgn hnb hcb hGl hrd hrp hcf f1 f2 f3 f4 f5 d1
    refine wp_region_T (fun w' => Add W7 w' ∧ w'.cell? ⟨gnw, 0, none⟩ = some (.int .i64 (N : Nat)) ∧ w'.cell? ⟨gnw, 1, none⟩ = some (.int .i64 (s : Nat)) ∧ w'.cell? ⟨gnw, 2, none⟩ = some (.int .i64 (t : Nat)) ∧ w'.cell? ⟨gnw, 3, none⟩ = some (.slice a m c) ∧ w'.cell? ⟨gr, 3, none⟩ = some (sl gp N)) (fun w' => True) 11 (by kernel_rfl) ?_
    show wpAnyT _ _ _ _ _ _ _ 12 #[false, false, false, false, false, false, false, false, false, false, false, false] _ _
    refine wpAnyT_take (i := 0) (v := ?_) (by simp only [List.getElem?_toArray, List.getElem?_cons_zero]; rfl) (by kernel_rfl) (by kernel_rfl) (by kernel_rfl) (by kernel_rfl) (by intro _ _ _ h; exact h) (Or.inl ⟨by rfl, ?_⟩) HSD.out trivial ?_
    rotate_left
    · intro w' hSw
      try dsimp only at hSw
      go_simp
      try with_reducible rfl
    try simp only [Act.put, List.setIfInBounds_toArray, List.set_cons_zero, List.set_cons_succ]
    refine wpAnyT_take (i := 1) (v := ?_) (by simp only [List.getElem?_toArray, List.getElem?_cons_zero, List.getElem?_cons_succ]; rfl) (by kernel_rfl) (by kernel_rfl) (by kernel_rfl) (by kernel_rfl) (by intro _ _ _ h; exact h) (Or.inl ⟨by rfl, ?_⟩) HSD.out trivial ?_
    rotate_left
    · intro w' hSw
      try dsimp only at hSw
      go_simp
      try with_reducible rfl
    try simp only [Act.put, List.setIfInBounds_toArray, List.set_cons_zero, List.set_cons_succ]
    refine wpAnyT_take (i := 2) (v := ?_) (by simp only [List.getElem?_toArray, List.getElem?_cons_zero, List.getElem?_cons_succ]; rfl) (by kernel_rfl) (by kernel_rfl) (by kernel_rfl) (by kernel_rfl) (by intro _ _ _ h; exact h) (Or.inl ⟨by rfl, ?_⟩) HSD.out trivial ?_
    rotate_left
    · intro w' hSw
      try dsimp only at hSw
      go_simp
      try with_reducible rfl
    try simp only [Act.put, List.setIfInBounds_toArray, List.set_cons_zero, List.set_cons_succ]
    refine wpAnyT_take (i := 4) (v := ?_) (by simp only [List.getElem?_toArray, List.getElem?_cons_zero, List.getElem?_cons_succ]; rfl) (by kernel_rfl) (by kernel_rfl) (by kernel_rfl) (by kernel_rfl) (by intro _ _ _ h; exact h) (Or.inl ⟨by rfl, ?_⟩) HSD.out trivial ?_
    rotate_left
    · intro w' hSw
      try dsimp only at hSw
      go_simp
      try with_reducible rfl
    try simp only [Act.put, List.setIfInBounds_toArray, List.set_cons_zero, List.set_cons_succ]
    refine wpAnyT_take (i := 5) (v := ?_) (by simp only [List.getElem?_toArray, List.getElem?_cons_zero, List.getElem?_cons_succ]; rfl) (by kernel_rfl) (by kernel_rfl) (by kernel_rfl) (by kernel_rfl) (by intro _ _ _ h; exact h) (Or.inl ⟨by rfl, ?_⟩) HSD.out trivial ?_
    rotate_left
    · intro w' hSw
      try dsimp only at hSw
      go_simp
      try with_reducible rfl
    try simp only [Act.put, List.setIfInBounds_toArray, List.set_cons_zero, List.set_cons_succ]
    refine wpAnyT_take (i := 6) (v := ?_) (by simp only [List.getElem?_toArray, List.getElem?_cons_zero, List.getElem?_cons_succ]; rfl) (by kernel_rfl) (by kernel_rfl) (by kernel_rfl) (by kernel_rfl) (by intro _ _ _ h; exact h) (Or.inl ⟨by rfl, ?_⟩) HSD.out trivial ?_
    rotate_left
    · intro w' hSw
      try dsimp only at hSw
      go_simp
      try with_reducible rfl
    try simp only [Act.put, List.setIfInBounds_toArray, List.set_cons_zero, List.set_cons_succ]
    refine wpAnyT_take (i := 7) (v := ?_) (by simp only [List.getElem?_toArray, List.getElem?_cons_zero, List.getElem?_cons_succ]; rfl) (by kernel_rfl) (by kernel_rfl) (by kernel_rfl) (by kernel_rfl) (by intro _ _ _ h; exact h) (Or.inl ⟨by rfl, ?_⟩) HSD.out trivial ?_
    rotate_left
    · intro w' hSw
      try dsimp only at hSw
      go_simp
      try with_reducible rfl
    try simp only [Act.put, List.setIfInBounds_toArray, List.set_cons_zero, List.set_cons_succ]
    refine wpAnyT_one (i := 3) (by kernel_rfl) (wpOp_do (by simp only [List.getElem?_toArray, List.getElem?_cons_zero, List.getElem?_cons_succ]; rfl) fun K hK => ?_)
    go_simp
    refine (CSUM.out _ (b_drew (Below.refl _ _))).mono ?_
    rintro e w8 ⟨rfl, h8⟩
    have HA8 := Lib.hid h8
    clear h8
    refine hK _ _ ⟨⟨HSS.out _ (Add.trans (b_drew (Below.refl _ _)) HA8.out), fun _ => trivial⟩, ?_⟩
    clear hK K
    try simp only [List.setIfInBounds_toArray, List.set_cons_zero, List.set_cons_succ]
    refine wpAnyT_one (i := 8) (by kernel_rfl) (wpOp_do (by simp only [List.getElem?_toArray, List.getElem?_cons_zero, List.getElem?_cons_succ]; rfl) fun K hK => ?_)
    go_simp
    refine hK _ _ ⟨⟨HSS.out _ (Add.trans (b_drew (Below.refl _ _)) HA8.out), fun _ => trivial⟩, ?_⟩
    clear hK K
    try simp only [List.setIfInBounds_toArray, List.set_cons_zero, List.set_cons_succ]
    refine wpAnyT_one (i := 9) (by kernel_rfl) (wpOp_do (by simp only [List.getElem?_toArray, List.getElem?_cons_zero, List.getElem?_cons_succ]; rfl) fun K hK => ?_)
    go_simp
    refine hK _ _ ⟨⟨HSS.out _ (Add.trans (b_drew (Below.refl _ _)) HA8.out), fun _ => trivial⟩, ?_⟩
    clear hK K
    try simp only [List.setIfInBounds_toArray, List.set_cons_zero, List.set_cons_succ]
    refine wpAnyT_one (i := 10) (by kernel_rfl) (wpOp_do (by simp only [List.getElem?_toArray, List.getElem?_cons_zero, List.getElem?_cons_succ]; rfl) fun K hK => ?_)
    go_simp
    refine hK _ _ ⟨⟨HSS.out _ (Add.trans (b_drew (Below.refl _ _)) HA8.out), fun _ => trivial⟩, ?_⟩
    clear hK K
    try simp only [List.setIfInBounds_toArray, List.set_cons_zero, List.set_cons_succ]
    refine wpAnyT_one (i := 11) (by kernel_rfl) (wpOp_do (by simp only [List.getElem?_toArray, List.getElem?_cons_zero, List.getElem?_cons_succ]; rfl) fun K hK => ?_)
    go_simp
    refine hK _ _ ⟨⟨HSS.out _ (Add.trans (b_drew (Below.refl _ _)) HA8.out), fun _ => trivial⟩, ?_⟩
    clear hK K
    try simp only [List.setIfInBounds_toArray, List.set_cons_zero, List.set_cons_succ]
    refine wpAnyT_done (by kernel_rfl) ?_ _
    go_wp2_with fail
    exact bodyPost_ret (v := .tuple #[.slice (some ⟨g7, 0, none⟩) A.length A.length, .int .i64 cf, sl gp N, .int .i64 0]) (by simp [results, Try.results17, go_sem]) rfl (HFIN.out _ (Add.trans (b_drew (Below.refl _ _)) HA8.out))
end Go.Proofs.Ytaoibakbnimnkaa
