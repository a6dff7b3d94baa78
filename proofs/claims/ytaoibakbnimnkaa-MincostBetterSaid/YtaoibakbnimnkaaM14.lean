/- The law MincostBetter. -/
import Derived.Test.YtaoibakbnimnkaaM13
namespace Go.Proofs.Ytaoibakbnimnkaa
open Go.RowKit NetM

/-- Flows that a tape draws: each within its arc's capacity. -/
def DrawS (w2 wr : World) (g1 gt gf : Nat) (ta : Option Addr) (tn tc : Nat) (tb : List Nat) (N s t : Nat) (a : Option Addr) (l c : Nat) (A : List Arc) (F : List Int) : Prop :=
  TpS wr gt ta tn tc tb ∧ IBlk wr gf F ∧ NBox wr g1 N s t a l c ∧ Add w2 wr ∧ within A F
theorem DrawS.next {w2 wr w5 : World} {g1 gt gf : Nat} {ta : Option Addr} {tn tc : Nat} {tb : List Nat} {N s t : Nat} {a : Option Addr} {l c : Nat} {A : List Arc} {F : List Int} (h : DrawS w2 wr g1 gt gf ta tn tc tb N s t a l c A F)
    (ht : TpS w5 gt ta tn tc tb) (hg : wr.grownBy w5 (some gt)) (h1 : g1 < gt) (h2 : gt < gf) (hw : w2.heap.size ≤ g1) : DrawS w2 w5 g1 gt gf ta tn tc tb N s t a l c A F := by
  obtain ⟨-, k2, k3, k4, k5⟩ := h
  exact ⟨ht, Blk.kept k2 hg (fun e => by have := Option.some.inj e; omega), k3.kept hg (fun e => by have := Option.some.inj e; omega), Below.grown k4 hg k4.size (fun k e => by have := Option.some.inj e; omega), k5⟩
theorem within_set {A : List Arc} {F : List Int} (h : within A F) {j : Nat} {v : Int} (h0 : 0 ≤ v) (h1 : v ≤ (at' A j).2.2.1) (hj : j < A.length) : within A (F.set j v) := by
  have hl := NetM.within_length h
  refine NetM.within_iff.2 ⟨by rw [List.length_set]; exact hl, fun i hi => ?_⟩
  by_cases c : j = i
  · subst c; rw [NetM.getD_set_same _ (by omega)]; exact ⟨h0, h1⟩
  · rw [NetM.getD_set_ne _ c]; exact (NetM.within_iff.1 h).2 i hi
theorem DrawS.put {w2 wr : World} {g1 gt gf : Nat} {ta : Option Addr} {tn tc : Nat} {tb : List Nat} {N s t : Nat} {a : Option Addr} {l c : Nat} {A : List Arc} {F : List Int} (h : DrawS w2 wr g1 gt gf ta tn tc tb N s t a l c A F)
    (h1 : g1 < gt) (h2 : gt < gf) (hw : w2.heap.size ≤ g1) (hb : ∀ b off, ta = some ⟨b, off, none⟩ → 0 < tn → b < gf) {j : Nat} {v : Int} (hv0 : 0 ≤ v) (hv1 : v ≤ (at' A j).2.2.1) (hj : j < A.length) :
    DrawS w2 (wr.setCell ⟨gf, j, none⟩ (.int .i64 v)) g1 gt gf ta tn tc tb N s t a l c A (F.set j v) := by
  obtain ⟨k1, k2, k3, k4, k5⟩ := h
  refine ⟨k1.low (Below.setCell (Below.refl _ _) (Nat.le_refl _) _) h2 hb, IBlk.put k2 j v, (heap_setCell_other _ ⟨gf, j, none⟩ _ _ (by dsimp only; omega)).trans k3, add_setLow k4 (by omega) _ _, within_set k5 hv0 hv1 hj⟩
theorem zero_within {N : Nat} {A : List Arc} (ha : okArcs N A) : within A (List.replicate A.length 0) := (zero_flow (N := N) (s := 0) (t := 0) ha).1
/-- The arcs, the first k of them with other capacities. -/
def capsTo : List Arc → List Int → Nat → List Arc
  | a :: A, f :: F, k + 1 => (a.1, a.2.1, f, a.2.2.2) :: capsTo A F k
  | A, _, _ => A
theorem capsTo_zero (A : List Arc) (F : List Int) : capsTo A F 0 = A := by cases A <;> cases F <;> rfl
theorem capsTo_len : ∀ (A : List Arc) (F : List Int) (k : Nat), (capsTo A F k).length = A.length
  | [], F, k => by cases F <;> cases k <;> rfl
  | a :: A, [], k => by cases k <;> rfl
  | a :: A, f :: F, 0 => rfl
  | a :: A, f :: F, k + 1 => by show (capsTo A F k).length + 1 = _; rw [capsTo_len A F k]; rfl
theorem capsTo_at : ∀ (A : List Arc) (F : List Int) (k : Nat), k < A.length → at' (capsTo A F k) k = at' A k
  | [], F, k, h => by simp at h
  | a :: A, [], k, _ => by cases k <;> rfl
  | a :: A, f :: F, 0, _ => rfl
  | a :: A, f :: F, k + 1, h => by
    have ih := capsTo_at A F k (by simpa using h)
    show at' ((a.1, a.2.1, f, a.2.2.2) :: capsTo A F k) (k + 1) = at' (a :: A) (k + 1)
    simpa [at'] using ih
theorem capsTo_set : ∀ (A : List Arc) (F : List Int) (k : Nat), k < A.length → F.length = A.length → (capsTo A F k).set k ((at' A k).1, (at' A k).2.1, F.getD k 0, (at' A k).2.2.2) = capsTo A F (k + 1)
  | [], F, k, h, _ => by simp at h
  | a :: A, [], k, _, h => by simp at h
  | a :: A, f :: F, 0, _, _ => by
    show (a :: A).set 0 _ = _ :: capsTo A F 0
    rw [capsTo_zero]; rfl
  | a :: A, f :: F, k + 1, h, h2 => by
    have ih := capsTo_set A F k (by simpa using h) (by simpa using h2)
    show ((a.1, a.2.1, f, a.2.2.2) :: capsTo A F k).set (k + 1) _ = (a.1, a.2.1, f, a.2.2.2) :: capsTo A F (k + 1)
    rw [List.set_cons_succ, ← ih]
    simp [at']
theorem capsTo_net (x : Int) : ∀ (A : List Arc) (F : List Int) (k : Nat) (G : List Int), net x (capsTo A F k) G = net x A G
  | [], F, k, G => by cases F <;> cases k <;> rfl
  | a :: A, [], k, G => by cases k <;> rfl
  | a :: A, f :: F, 0, G => rfl
  | a :: A, f :: F, k + 1, [] => rfl
  | a :: A, f :: F, k + 1, y :: G => by
    have ih := capsTo_net x A F k G
    show net x ((a.1, a.2.1, f, a.2.2.2) :: capsTo A F k) (y :: G) = _
    dsimp only [net]; rw [ih]
theorem capsTo_within : ∀ (A : List Arc) (F G : List Int), within A F → within (capsTo A F A.length) G → within A G
  | [], [], _, _, h => h
  | _ :: _, _ :: _, _ :: _, h, h' => ⟨⟨h'.1.1, Int.le_trans h'.1.2 h.1.2⟩, capsTo_within _ _ _ h.2 h'.2⟩
  | _ :: _, _ :: _, [], _, h' => h'.elim
  | [], _ :: _, _, h, _ => h.elim
  | _ :: _, [], _, h, _ => h.elim
theorem capsTo_ok {n : Nat} : ∀ (A : List Arc) (F : List Int), okArcs n A → within A F → okArcs n (capsTo A F A.length)
  | [], [], h, _ => h
  | a :: A, f :: F, h, h' => by
    have ih := capsTo_ok A F (fun x hx => h x (List.mem_cons_of_mem _ hx)) h'.2
    intro x hx
    rcases List.mem_cons.1 (show x ∈ (a.1, a.2.1, f, a.2.2.2) :: capsTo A F A.length from hx) with rfl | hx
    · have h1 := h a (List.mem_cons_self ..)
      have h2 := h'.1
      unfold okArc at h1 ⊢
      dsimp only
      omega
    · exact ih x hx
  | [], _ :: _, _, h => h.elim
  | _ :: _, [], _, h => h.elim

set_option maxRecDepth 100000 in
set_option maxHeartbeats 4000000 in
theorem better_any {w : World} {v v2 : Value} {bs bs2 : List Nat} (h : RdU w v bs) (hb : ∀ x ∈ bs, x < 256) (h2' : RdU w v2 bs2) (hb2 : ∀ x ∈ bs2, x < 256) : Calls Try.prog 8 #[v, v2] w (LawB w) := by
  obtain ⟨i0, hi, hz0, hz1, hz2⟩ := info_parts infoInt
  have CT := Lib.hid (new_any h hb)
  have CT2 : Hid (∀ W, Add w W → Calls Try.prog 20 #[v2] W (NewP W)) := Lib.hid fun W ha => new_any (h2'.add ha) hb2
  have CN : Hid (∀ W g, Tp W g → Calls Try.prog 21 #[.pointer (some ⟨g, 0, none⟩)] W (NetworkP W g)) := Lib.hid fun W g h => network_any h
  have CX : Hid (∀ W g a m c tb n, TpS W g a m c tb → 1 ≤ n → n ≤ 1000000 → Calls Try.prog 23 #[.pointer (some ⟨g, 0, none⟩), .int .i64 n] W (NextP W g a m c tb n)) := Lib.hid fun W g a m c tb n h1 h2 h3 => next_any h1 h2 h3
  have CA : Hid (∀ W, Calls Try.prog 10 #[] W (LawB W)) := Lib.hid awakeC_any
  clear h hb h2' hb2
  go_enter Try.func8, Try.ntmps8
  go_wp2_with fail
  refine CT.out.mono ?_
  rintro e w1 ⟨g, rfl, ht, h1, hg⟩
  have HT := Lib.hid ht
  have H1 := Lib.hid h1
  have HG := Lib.hid hg
  clear ht h1 hg
  go_wp2_with fail
  refine (CN.out _ _ HT.out).mono ?_
  intro e w2 hnet
  obtain ⟨vn, N, s, t, A, rfl, hA, hsm, h2⟩ := made_of H1.out HG.out hnet
  obtain ⟨va, rfl, ha⟩ := id hA
  obtain ⟨a, l, c, rfl, hl, hlc, hcm, -⟩ := id ha
  unfold maxLen at hcm
  have HSM := Lib.hid hsm
  have HCN := Lib.hid hsm.cnet
  have HL := Lib.hid hl
  have HNA := Lib.hid hA
  have HAR := Lib.hid ha
  have H2 := Lib.hid h2
  have hl15 : 2 ≤ l ∧ l ≤ 15 := by have := hsm.2.2; omega
  obtain ⟨hl2, hl15⟩ := hl15
  obtain ⟨g1, hg1⟩ : ∃ g1, g1 = w2.heap.size := ⟨_, rfl⟩
  obtain ⟨W3, hW3⟩ : ∃ W3, W3 = w2.alloc (.cells #[.int .i64 (N : Nat), .int .i64 (s : Nat), .int .i64 (t : Nat), .slice a l c] 24) := ⟨_, rfl⟩
  have hb3 : NBox W3 g1 N s t a l c := by rw [hW3, hg1]; exact nbox_new w2 N s t _ l c
  have hT3 : Add w2 W3 := by rw [hW3]; exact add_new _ _
  have hg1w : w2.heap.size ≤ g1 := by omega
  have HB3 := Lib.hid hb3
  have HT3 := Lib.hid hT3
  have HA3 := Lib.hid (Add.trans h2 hT3)
  clear hA ha hsm hnet h2 HT H1 HG CT CN hl hb3 hT3
  go_upto_region 2 with fail
  rw [← hW3, ← hg1]
  clear hW3 hg1
  go_wp2_with fail
  refine (CT2.out _ HA3.out).mono ?_
  rintro e w4 ⟨gt, rfl, ht, h4, hgt⟩
  obtain ⟨ta, tn, tc, tb, ht⟩ := ht
  have hb4 := HB3.out.add h4
  have h1t : g1 < gt := by have := HB3.out.lt; omega
  have hbt := ht.bytes
  have htl := ht.lt
  have c3 := hb4.c3
  have HTP := Lib.hid ht
  have HB4 := Lib.hid hb4
  have HT4 := Lib.hid (Add.trans HT3.out h4)
  clear ht h4 hgt hb4 CT2 HB3 HT3 HA3
  go_wp2_with (at_make; refine wpList_make_full _ rfl _ _ 25 rfl w4.heap.size 3 i0 (.int .i64 0) 1 Try.underlying25 hi hz0 hz1 _ _ _ _ l rfl rfl rfl rfl (by rw [hz2]; omega) (by unfold maxLen; omega) (Nat.le_refl _) ?_)
  intro w5 hown hgr
  have hI := IBlk.made hown
  have hgr2 : Add w4 w5 := grown_add hgr
  obtain ⟨gf, hgf⟩ : ∃ gf, gf = w4.heap.size := ⟨_, rfl⟩
  rw [← hgf] at hI htl hbt ⊢
  have HBT := Lib.hid hbt
  have HDR : Hid (DrawS w2 w5 g1 gt gf ta tn tc tb N s t a l c A (List.replicate l 0)) := Lib.hid ⟨HTP.out.add hgr2, hI, HB4.out.add hgr2, Add.trans HT4.out hgr2, by rw [← HL.out]; exact zero_within HCN.out.1.1⟩
  clear hown hgr hgr2 hI hgf hbt c3 hi hz0 hz1 hz2 HTP HB4 HT4
  go_wp2_with fail
  go_loopw [8] (fun i wr => ∃ (k : Nat) (F : List Int), k ≤ l ∧ i = .int .i64 k ∧ Hid (DrawS w2 wr g1 gt gf ta tn tc tb N s t a l c A F)) (fun i _ => l - (intOf i).toNat)
  case atStart => exact ⟨0, _, Nat.zero_le _, rfl, HDR⟩
  case round =>
    obtain ⟨k, F, hk, rfl, hdr⟩ := hrel
    clear HDR
    have c3 := hdr.out.2.2.1.c3
    have hFl : F.length = l := by rw [NetM.within_length hdr.out.2.2.2.2, HL.out]
    by_cases hlt : k < l
    · obtain ⟨b, off, rfl, -, -, q2, -⟩ := (HAR.out.add hdr.out.2.2.2.1).cell hlt
      obtain ⟨z, hz⟩ : ∃ z, (at' A k).2.2.1 = z := ⟨_, rfl⟩
      have hzb : 0 ≤ z ∧ z ≤ 5 := by
        have h1 := okArcs_at HCN.out.1.1 (i := k) (by rw [HL.out]; exact hlt)
        have h2 := HSM.out.2.2.2.2 _ (at_mem (A := A) (k := k) (by rw [HL.out]; exact hlt))
        unfold okArc at h1
        omega
      rw [hz] at q2
      have W1 : IntKind.i64.wrap (z + 1) = z + 1 := IntWalk.i64_in _ (by omega)
      obtain ⟨hzb0, hzb1⟩ := hzb
      go_wp2_with fail
      refine (CX.out _ _ _ _ _ _ (z + 1) hdr.out.1 (by omega) (by omega)).mono ?_
      rintro e w6 ⟨r, rfl, hr, ht6, hg6, -⟩
      have hd6 := hdr.out.next ht6 hg6 h1t htl hg1w
      have HD7 := Lib.hid (hd6.put h1t htl hg1w HBT.out (j := k) (v := (r : Int)) (by omega) (by rw [hz]; omega) (by rw [HL.out]; exact hlt))
      have f1 := Blk.free hd6.2.1 k
      have c1 := IBlk.get hd6.2.1 k (by omega)
      have m1 := Blk.lt hd6.2.1
      clear hd6 ht6 hg6 q2 c3 W1 hdr hz
      go_wp2_with fail
      go_roundw
      case rel => exact ⟨k + 1, _, by omega, by go_num, HD7⟩
      case measure => simp [intOf]; omega
    · obtain rfl : l = k := by omega
      have hb6 := hdr.out.2.2.1
      have c0 := hb6.c0
      have c1 := hb6.c1
      have c2 := hb6.c2
      have hT6 := hdr.out.2.2.2.1
      have hF6 : RdI wr (.slice (some ⟨gf, 0, none⟩) l l) F := Blk.rdAll hdr.out.2.1 (by simpa using hFl) (Nat.le_refl _) (by unfold maxLen; omega)
      have hw6 := hdr.out.2.2.2.2
      have HF6 := Lib.hid hF6
      have HT6 := Lib.hid hT6
      have HW6 := Lib.hid hw6
      have HB6 := Lib.hid hb6
      have CV := Lib.hid (refValue_any (HNA.out.add hT6) HCN.out.1 hF6)
      have CC : Hid (∀ W vf F, Add w2 W → RdI W vf F → Calls Try.prog 11 #[.agg #[.int .i64 (N : Nat), .int .i64 (s : Nat), .int .i64 (t : Nat), .slice a l c], vf] W (CostP W N s t A F)) := Lib.hid fun W vf F hh hf => progCost_any (HNA.out.add hh) HCN.out hf
      have CS : Hid (∀ W am, Add w2 W → 0 ≤ am → am ≤ 9223372036854775807 → (∀ x, Opt N s t A x → am ≤ x) → Calls Try.prog 19 #[.agg #[.int .i64 (N : Nat), .int .i64 (s : Nat), .int .i64 (t : Nat), .slice a l c], .int .i64 am] W (SolvedC W N s t A am)) := Lib.hid fun W am hh h0 h1 h2 => solvedC_any (HNA.out.add hh) HCN.out h0 h1 h2
      have CSR : Hid (∀ W v B, NetA W v N s t B → VNet N s t B → Calls Try.prog 25 #[v] W (SolveP W N s t B)) := Lib.hid fun W v B h1 h2 => refSolve_any h1 h2
      clear hdr hF6 hT6 hw6 hb6 hlt CX
      go_wp2_with fail
      refine CV.out.mono ?_
      rintro e w7 ⟨x, b1, rfl, h7, y1, n1⟩
      have hb7 := HB6.out.add h7
      have HT7 := Lib.hid (Add.trans HT6.out h7)
      have HF7 := Lib.hid (Rd.add HF6.out h7)
      have HB7 := Lib.hid hb7
      have HY1 := Lib.hid y1
      clear CV h7 hb7 n1 y1 c0 c1 c2 c3
      have c0 := HB7.out.c0
      have c1 := HB7.out.c1
      have c2 := HB7.out.c2
      have c3 := HB7.out.c3
      have hcase : (b1 = true ∧ ¬ x < 0) ∨ b1 = false ∨ (b1 = true ∧ x < 0) := by
        cases b1 with
        | false => exact .inr (.inl rfl)
        | true =>
          by_cases h : x < 0
          · exact .inr (.inr ⟨rfl, h⟩)
          · exact .inl ⟨rfl, h⟩
      rcases hcase with ⟨rfl, hx⟩ | rfl | ⟨rfl, hx⟩
      · have dx : decide (x < 0) = false := decide_eq_false hx
        have HFLZ := Lib.hid (HY1.out rfl).1
        have HXN := Lib.hid (HY1.out rfl).2
        have HX0 : Hid (0 ≤ x ∧ x ≤ 9223372036854775807) := Lib.hid ⟨by omega, by
          have h1 := net_bound (x := (s : Int)) HCN.out.1.1 HW6.out
          have h2 := HXN.out
          have h3 := HL.out
          omega⟩
        have HTZ := HT7
        have HFZ := HF7
        have HBZ := HB7
        clear hx
        go_wp2_with fail
        refine (CC.out _ _ _ HTZ.out HFZ.out).mono ?_
        rintro e w20 ⟨cx, b2, rfl, h20, y2, n2⟩
        have hb2 : b2 = true := by
          cases b2 with
          | true => rfl
          | false => exact absurd HFLZ.out (n2 rfl).1
        subst hb2
        have HC2 := Lib.hid (y2 rfl).2
        have hB20 := HBZ.out.add h20
        have HT20 := Lib.hid (Add.trans HTZ.out h20)
        clear y2 n2 h20 c0 c1 c2 c3
        have c0 := hB20.c0
        have c1 := hB20.c1
        have c2 := hB20.c2
        have c3 := hB20.c3
        clear hB20
        go_wp2_with fail
        refine (CS.out _ _ HT20.out HX0.out.1 HX0.out.2 (by
          rintro y ⟨f', S, -, -, k2, k3, -, k5⟩
          rw [HXN.out, ← k5]
          exact value_le HCN.out.1.2.1 HCN.out.1.1 HFLZ.out k2 k3)).mono ?_
        rintro e w21 ⟨cc, rfl, hmin, h21⟩
        have hle := hmin.le HCN.out.1.2.1 HCN.out.1.2.2.1 HCN.out.1.2.2.2.1 HCN.out.1.1 HFLZ.out HXN.out.symm
        rw [← HC2.out] at hle
        have dle : decide (cc ≤ cx) = true := decide_eq_true hle
        have HT21 := Lib.hid (Add.trans H2.out (Add.trans HT20.out h21))
        clear h21 hmin hle c0 c1 c2 c3
        go_wp2_with fail
        refine (CA.out _).mono ?_
        rintro e w22 ⟨rfl, h22⟩
        have HE : Hid (LawB w (.returned (.bool true)) w22) := Lib.hid ⟨rfl, Add.trans HT21.out h22⟩
        clear h22
        go_wp2_with fail
        go_ret
        exact HE.out
      · have HH0 := HT7
        clear HY1
        obtain ⟨g2, hg2⟩ : ∃ g2, g2 = w7.heap.size := ⟨_, rfl⟩
        obtain ⟨W8, hW8⟩ : ∃ W8, W8 = w7.alloc (.cells #[.int .i64 (N : Nat), .int .i64 (s : Nat), .int .i64 (t : Nat), .slice a l c] 24) := ⟨_, rfl⟩
        have hb8 : NBox W8 g2 N s t a l c := by rw [hW8, hg2]; exact nbox_new w7 N s t _ l c
        have hb81 : NBox W8 g1 N s t a l c := by rw [hW8]; exact HB7.out.add (add_new _ _)
        have hT8 : Add w7 W8 := by rw [hW8]; exact add_new _ _
        have hz8 : W8.heap.size = g2 + 1 := by rw [hW8, hg2]; simp
        have h12 : g1 < g2 := by have := HB7.out.lt; omega
        have hg2w : w7.heap.size ≤ g2 := by omega
        obtain ⟨g6, c6, w9, hrun, hn9, hG10⟩ := grow_copy (HAR.out.add HT7.out) HL.out hl2 hl15 hb81 hb8 hT8 hz8 h12 hg2w
        rw [← hz8] at hrun
        have HR := Lib.hid hrun
        have HG10 := Lib.hid hG10
        have k3 := hb81.c3
        have l5 := hb81.lt
        have m3 := hn9.c3
        have mf := frozen_of_row w9 g2 3 _ 24 hn9
        clear hb8 hb81 hT8 hrun hn9 hG10
        go_upto_region 11 with fail
        rw [← hW8, ← hg2]
        clear hW8 hg2 c0 c1 c2 c3 hz8
        go_upto_region 12 with (at_builtin; refine Lib.wpList_append_run _ rfl _ _ _ _ rfl _ _ rfl rfl _ _ HR.out ?_)
        obtain ⟨W10, hW10⟩ : ∃ W10, W10 = w9.setCell ⟨g2, 3, none⟩ (.slice (some ⟨g6, 0, none⟩) l c6) := ⟨_, rfl⟩
        rw [← hW10] at HG10 ⊢
        clear hW10 HR m3 mf k3 l5
        go_wp2_with fail
        go_loopw [12] (fun i wr => ∃ k : Nat, k ≤ l ∧ i = .int .i64 k ∧ Hid (GrowS w7 wr g1 g2 N s t a l c (capsTo A F k) g6 c6)) (fun i _ => l - (intOf i).toNat)
        case atStart => exact ⟨0, Nat.zero_le _, rfl, Lib.hid (by rw [capsTo_zero]; exact HG10.out)⟩
        case round =>
          clear HG10
          obtain ⟨k, hk, rfl, hgs⟩ := hrel
          by_cases hlt : k < l
          · have hkA : k < A.length := by rw [HL.out]; exact hlt
            have hkB : k < (capsTo A F k).length := by rw [capsTo_len]; exact hkA
            obtain ⟨q1, f1⟩ := hgs.out.cell hkB
            have m3 := hgs.out.1.c3
            rw [capsTo_len, HL.out] at m3
            obtain ⟨b', off', e', q4⟩ := RdI.cell (Rd.add HF7.out hgs.out.2.2.2) hlt
            simp only [Option.some.injEq, Addr.mk.injEq, and_true] at e'
            obtain ⟨rfl, rfl⟩ := e'
            obtain ⟨f, hf⟩ : ∃ f, F.getD k 0 = f := ⟨_, rfl⟩
            rw [hf, Nat.zero_add] at q4
            have HNX : Hid (∀ W', Add wr W' → GrowS w7 (W'.setCell ⟨g6, k * 4 + 2, none⟩ (.int .i64 f)) g1 g2 N s t a l c (capsTo A F (k + 1)) g6 c6) := Lib.hid fun W' hW' => by
              have := (hgs.out.add hW').raise hkB h12 hg2w f
              rw [capsTo_at A F k hkA] at this
              rw [← capsTo_set A F k hkA (by rw [HL.out]; exact hFl), hf]
              exact this
            clear hgs hf
            go_wp2_with fail
            go_region
            go_wp2_with fail
            go_roundw
            case rel => exact ⟨k + 1, by omega, by go_num, Lib.hid (HNX.out _ (b_drew (Below.refl _ _)))⟩
            case measure => simp [intOf]; omega
          · obtain rfl : l = k := by omega
            obtain ⟨n0, no, n1, t9⟩ := hgs.out
            have hArc := arcs_own no
            have hlB : (capsTo A F l).length = l := by rw [capsTo_len, HL.out]
            rw [hlB] at n0 hArc
            have hV2 : VNet N s t (capsTo A F l) := by
              obtain ⟨k1, k2, k3, k4, k5, k6, k7⟩ := HCN.out.1
              refine ⟨?_, k2, k3, k4, k5, k6, by rw [capsTo_len]; exact k7⟩
              have := capsTo_ok A F k1 HW6.out
              rwa [HL.out] at this
            have CM := Lib.hid (CSR.out _ (.agg #[.int .i64 (N : Nat), .int .i64 (s : Nat), .int .i64 (t : Nat), .slice (some ⟨g6, 0, none⟩) l c6]) _ ⟨_, rfl, hArc⟩ hV2)
            have HV2 := Lib.hid hV2
            have c0 := n0.c0
            have c1 := n0.c1
            have c2 := n0.c2
            have c3 := n0.c3
            have HN1 := Lib.hid n1
            have HT9 := Lib.hid t9
            clear n0 no n1 t9 hArc hV2 hlB hgs CSR
            go_wp2_with fail
            refine CM.out.mono ?_
            rintro e w10 ⟨vf, xz, vc, F2, S, rfl, hf2, -, hfl2, hcu2, hv2, hca2, h10⟩
            have hflz : isFlow N s t A F2 := by
              refine ⟨capsTo_within A F F2 HW6.out (by rw [HL.out]; exact hfl2.1), fun y hy e1 e2 => ?_⟩
              rw [← capsTo_net (y : Int) A F l]; exact hfl2.2 y hy e1 e2
            have hxn : xz = net (s : Int) A F2 := by rw [← hv2, capsTo_net]
            have hx0 : 0 ≤ xz := by rw [← hca2]; exact cap_nonneg _ _ HV2.out.1
            have hx1 : xz ≤ 9223372036854775807 := by
              have h1 := cap_le (cutOf S) _ HV2.out.1
              rw [capsTo_len, HL.out, hca2] at h1
              omega
            have HFLZ := Lib.hid hflz
            have HXN := Lib.hid hxn
            have HX0 : Hid (0 ≤ xz ∧ xz ≤ 9223372036854775807) := Lib.hid ⟨hx0, hx1⟩
            have HTZ := Lib.hid (Add.trans (Add.trans HT7.out HT9.out) h10)
            have HFZ := Lib.hid hf2
            have hBZ := HN1.out.add h10
            have HBZ := Lib.hid hBZ
            clear hf2 hfl2 hcu2 hv2 hca2 h10 hflz hxn hx0 hx1 c0 c1 c2 c3 CM HV2
            have c0 := hBZ.c0
            have c1 := hBZ.c1
            have c2 := hBZ.c2
            have c3 := hBZ.c3
            clear hBZ
            obtain ⟨fa, fc, rfl, -⟩ := HFZ.out.open
            go_wp2_with fail
            refine (CC.out _ _ _ HTZ.out HFZ.out).mono ?_
            rintro e w20 ⟨cx, b2, rfl, h20, y2, n2⟩
            have hb2 : b2 = true := by
              cases b2 with
              | true => rfl
              | false => exact absurd HFLZ.out (n2 rfl).1
            subst hb2
            have HC2 := Lib.hid (y2 rfl).2
            have hB20 := HBZ.out.add h20
            have HT20 := Lib.hid (Add.trans HTZ.out h20)
            clear y2 n2 h20 c0 c1 c2 c3
            have c0 := hB20.c0
            have c1 := hB20.c1
            have c2 := hB20.c2
            have c3 := hB20.c3
            clear hB20
            go_wp2_with fail
            refine (CS.out _ _ HT20.out HX0.out.1 HX0.out.2 (by
              rintro y ⟨f', S, -, -, k2, k3, -, k5⟩
              rw [HXN.out, ← k5]
              exact value_le HCN.out.1.2.1 HCN.out.1.1 HFLZ.out k2 k3)).mono ?_
            rintro e w21 ⟨cc, rfl, hmin, h21⟩
            have hle := hmin.le HCN.out.1.2.1 HCN.out.1.2.2.1 HCN.out.1.2.2.2.1 HCN.out.1.1 HFLZ.out HXN.out.symm
            rw [← HC2.out] at hle
            have dle : decide (cc ≤ cx) = true := decide_eq_true hle
            have HT21 := Lib.hid (Add.trans H2.out (Add.trans HT20.out h21))
            clear h21 hmin hle c0 c1 c2 c3
            go_wp2_with fail
            refine (CA.out _).mono ?_
            rintro e w22 ⟨rfl, h22⟩
            have HE : Hid (LawB w (.returned (.bool true)) w22) := Lib.hid ⟨rfl, Add.trans HT21.out h22⟩
            clear h22
            go_wp2_with fail
            go_ret
            exact HE.out
      · have dx : decide (x < 0) = true := decide_eq_true hx
        clear HY1 hx
        obtain ⟨g2, hg2⟩ : ∃ g2, g2 = w7.heap.size := ⟨_, rfl⟩
        obtain ⟨W8, hW8⟩ : ∃ W8, W8 = w7.alloc (.cells #[.int .i64 (N : Nat), .int .i64 (s : Nat), .int .i64 (t : Nat), .slice a l c] 24) := ⟨_, rfl⟩
        have hb8 : NBox W8 g2 N s t a l c := by rw [hW8, hg2]; exact nbox_new w7 N s t _ l c
        have hb81 : NBox W8 g1 N s t a l c := by rw [hW8]; exact HB7.out.add (add_new _ _)
        have hT8 : Add w7 W8 := by rw [hW8]; exact add_new _ _
        have hz8 : W8.heap.size = g2 + 1 := by rw [hW8, hg2]; simp
        have h12 : g1 < g2 := by have := HB7.out.lt; omega
        have hg2w : w7.heap.size ≤ g2 := by omega
        obtain ⟨g6, c6, w9, hrun, hn9, hG10⟩ := grow_copy (HAR.out.add HT7.out) HL.out hl2 hl15 hb81 hb8 hT8 hz8 h12 hg2w
        rw [← hz8] at hrun
        have HR := Lib.hid hrun
        have HG10 := Lib.hid hG10
        have k3 := hb81.c3
        have l5 := hb81.lt
        have m3 := hn9.c3
        have mf := frozen_of_row w9 g2 3 _ 24 hn9
        clear hb8 hb81 hT8 hrun hn9 hG10
        go_upto_region 11 with fail
        rw [← hW8, ← hg2]
        clear hW8 hg2 c0 c1 c2 c3 hz8
        go_upto_region 12 with (at_builtin; refine Lib.wpList_append_run _ rfl _ _ _ _ rfl _ _ rfl rfl _ _ HR.out ?_)
        obtain ⟨W10, hW10⟩ : ∃ W10, W10 = w9.setCell ⟨g2, 3, none⟩ (.slice (some ⟨g6, 0, none⟩) l c6) := ⟨_, rfl⟩
        rw [← hW10] at HG10 ⊢
        clear hW10 HR m3 mf k3 l5
        go_wp2_with fail
        go_loopw [12] (fun i wr => ∃ k : Nat, k ≤ l ∧ i = .int .i64 k ∧ Hid (GrowS w7 wr g1 g2 N s t a l c (capsTo A F k) g6 c6)) (fun i _ => l - (intOf i).toNat)
        case atStart => exact ⟨0, Nat.zero_le _, rfl, Lib.hid (by rw [capsTo_zero]; exact HG10.out)⟩
        case round =>
          clear HG10
          obtain ⟨k, hk, rfl, hgs⟩ := hrel
          by_cases hlt : k < l
          · have hkA : k < A.length := by rw [HL.out]; exact hlt
            have hkB : k < (capsTo A F k).length := by rw [capsTo_len]; exact hkA
            obtain ⟨q1, f1⟩ := hgs.out.cell hkB
            have m3 := hgs.out.1.c3
            rw [capsTo_len, HL.out] at m3
            obtain ⟨b', off', e', q4⟩ := RdI.cell (Rd.add HF7.out hgs.out.2.2.2) hlt
            simp only [Option.some.injEq, Addr.mk.injEq, and_true] at e'
            obtain ⟨rfl, rfl⟩ := e'
            obtain ⟨f, hf⟩ : ∃ f, F.getD k 0 = f := ⟨_, rfl⟩
            rw [hf, Nat.zero_add] at q4
            have HNX : Hid (∀ W', Add wr W' → GrowS w7 (W'.setCell ⟨g6, k * 4 + 2, none⟩ (.int .i64 f)) g1 g2 N s t a l c (capsTo A F (k + 1)) g6 c6) := Lib.hid fun W' hW' => by
              have := (hgs.out.add hW').raise hkB h12 hg2w f
              rw [capsTo_at A F k hkA] at this
              rw [← capsTo_set A F k hkA (by rw [HL.out]; exact hFl), hf]
              exact this
            clear hgs hf
            go_wp2_with fail
            go_region
            go_wp2_with fail
            go_roundw
            case rel => exact ⟨k + 1, by omega, by go_num, Lib.hid (HNX.out _ (b_drew (Below.refl _ _)))⟩
            case measure => simp [intOf]; omega
          · obtain rfl : l = k := by omega
            obtain ⟨n0, no, n1, t9⟩ := hgs.out
            have hArc := arcs_own no
            have hlB : (capsTo A F l).length = l := by rw [capsTo_len, HL.out]
            rw [hlB] at n0 hArc
            have hV2 : VNet N s t (capsTo A F l) := by
              obtain ⟨k1, k2, k3, k4, k5, k6, k7⟩ := HCN.out.1
              refine ⟨?_, k2, k3, k4, k5, k6, by rw [capsTo_len]; exact k7⟩
              have := capsTo_ok A F k1 HW6.out
              rwa [HL.out] at this
            have CM := Lib.hid (CSR.out _ (.agg #[.int .i64 (N : Nat), .int .i64 (s : Nat), .int .i64 (t : Nat), .slice (some ⟨g6, 0, none⟩) l c6]) _ ⟨_, rfl, hArc⟩ hV2)
            have HV2 := Lib.hid hV2
            have c0 := n0.c0
            have c1 := n0.c1
            have c2 := n0.c2
            have c3 := n0.c3
            have HN1 := Lib.hid n1
            have HT9 := Lib.hid t9
            clear n0 no n1 t9 hArc hV2 hlB hgs CSR
            go_wp2_with fail
            refine CM.out.mono ?_
            rintro e w10 ⟨vf, xz, vc, F2, S, rfl, hf2, -, hfl2, hcu2, hv2, hca2, h10⟩
            have hflz : isFlow N s t A F2 := by
              refine ⟨capsTo_within A F F2 HW6.out (by rw [HL.out]; exact hfl2.1), fun y hy e1 e2 => ?_⟩
              rw [← capsTo_net (y : Int) A F l]; exact hfl2.2 y hy e1 e2
            have hxn : xz = net (s : Int) A F2 := by rw [← hv2, capsTo_net]
            have hx0 : 0 ≤ xz := by rw [← hca2]; exact cap_nonneg _ _ HV2.out.1
            have hx1 : xz ≤ 9223372036854775807 := by
              have h1 := cap_le (cutOf S) _ HV2.out.1
              rw [capsTo_len, HL.out, hca2] at h1
              omega
            have HFLZ := Lib.hid hflz
            have HXN := Lib.hid hxn
            have HX0 : Hid (0 ≤ xz ∧ xz ≤ 9223372036854775807) := Lib.hid ⟨hx0, hx1⟩
            have HTZ := Lib.hid (Add.trans (Add.trans HT7.out HT9.out) h10)
            have HFZ := Lib.hid hf2
            have hBZ := HN1.out.add h10
            have HBZ := Lib.hid hBZ
            clear hf2 hfl2 hcu2 hv2 hca2 h10 hflz hxn hx0 hx1 c0 c1 c2 c3 CM HV2
            have c0 := hBZ.c0
            have c1 := hBZ.c1
            have c2 := hBZ.c2
            have c3 := hBZ.c3
            clear hBZ
            obtain ⟨fa, fc, rfl, -⟩ := HFZ.out.open
            go_wp2_with fail
            refine (CC.out _ _ _ HTZ.out HFZ.out).mono ?_
            rintro e w20 ⟨cx, b2, rfl, h20, y2, n2⟩
            have hb2 : b2 = true := by
              cases b2 with
              | true => rfl
              | false => exact absurd HFLZ.out (n2 rfl).1
            subst hb2
            have HC2 := Lib.hid (y2 rfl).2
            have hB20 := HBZ.out.add h20
            have HT20 := Lib.hid (Add.trans HTZ.out h20)
            clear y2 n2 h20 c0 c1 c2 c3
            have c0 := hB20.c0
            have c1 := hB20.c1
            have c2 := hB20.c2
            have c3 := hB20.c3
            clear hB20
            go_wp2_with fail
            refine (CS.out _ _ HT20.out HX0.out.1 HX0.out.2 (by
              rintro y ⟨f', S, -, -, k2, k3, -, k5⟩
              rw [HXN.out, ← k5]
              exact value_le HCN.out.1.2.1 HCN.out.1.1 HFLZ.out k2 k3)).mono ?_
            rintro e w21 ⟨cc, rfl, hmin, h21⟩
            have hle := hmin.le HCN.out.1.2.1 HCN.out.1.2.2.1 HCN.out.1.2.2.2.1 HCN.out.1.1 HFLZ.out HXN.out.symm
            rw [← HC2.out] at hle
            have dle : decide (cc ≤ cx) = true := decide_eq_true hle
            have HT21 := Lib.hid (Add.trans H2.out (Add.trans HT20.out h21))
            clear h21 hmin hle c0 c1 c2 c3
            go_wp2_with fail
            refine (CA.out _).mono ?_
            rintro e w22 ⟨rfl, h22⟩
            have HE : Hid (LawB w (.returned (.bool true)) w22) := Lib.hid ⟨rfl, Add.trans HT21.out h22⟩
            clear h22
            go_wp2_with fail
            go_ret
            exact HE.out
end Go.Proofs.Ytaoibakbnimnkaa
