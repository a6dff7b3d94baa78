/- Package mincost: cheapest (made by gen/cheap.py). -/
import Derived.Test.YtaoibakbnimnkaaYi
import Derived.Test.YtaoibakbnimnkaaM4
import Derived.Test.YtaoibakbnimnkaaPD
namespace Go.Proofs.Ytaoibakbnimnkaa
open Go.RowKit NetM

theorem infoCStep : (Try.prog.info? 76).map (fun i => (i.zero, i.size, i.bytes)) = some (some (.agg #[.int .i64 0, .int .i64 0, .int .i64 0]), 3, 24) := by kernel_rfl
/-- What cheapest returns. -/
def CheapP (w : World) (A : List Arc) (N : Nat) (e : Ending) (w' : World) : Prop :=
  ∃ gr ga gs gf gp gx gt va sv F P X T, e = .returned (.pointer (some ⟨gr, 0, none⟩)) ∧ CB w w' A A N gr ga gs gf gp gx gt va sv (roomS A F) P X T ∧ DigI A N 0 F P
/-- Between two digits. -/
def DigM (w wr : World) (A : List Arc) (N gr ga gs gf gp gx gt : Nat) (va sv : Value) (d : Nat) : Prop :=
  ∃ F P X T, DigI A N d F P ∧ CB w wr A A N gr ga gs gf gp gx gt va sv (roomS (Ad A d) F) P X T ∧ ∀ x, x < N → X.getD x 0 = 0
set_option maxRecDepth 100000 in
set_option maxHeartbeats 8000000 in
theorem cheapest_any {w : World} {N s t : Nat} {am : Int} {a : Option Addr} {m c : Nat} {A : List Arc} (hA : ArcsA w (.slice a m c) A) (hm : A.length = m) (hm2 : m ≤ 2500) (hN : N ≤ 700) (hN0 : 0 < N) (hc : Cir (A ++ [backA N s t am]) N) :
    Calls Try.prog 35 #[.agg #[.int .i64 N, .int .i64 s, .int .i64 t, .slice a m c], .int .i64 am] w (CheapP w (A ++ [backA N s t am]) N) := by
  obtain ⟨i0, hi0, hz0, hz1, hz2⟩ := info_parts infoInt
  obtain ⟨i1, hi1, hy0, hy1, hy2⟩ := info_parts infoInts
  obtain ⟨i4, hi4, hb0, hb1, hb2⟩ := info_parts infoBool
  obtain ⟨i5, hi5, hc0, hc1, hc2⟩ := info_parts infoArc
  have mkB := fun w => make_run24 (e := 25) (t := 58) (z := .slice none 0 0) Try.underlying58 hi1 hy0 hy1 hy2 rfl (by decide) N hN w
  have mkI := fun w => make_run24 (e := 3) (t := 25) (z := .int .i64 0) Try.underlying25 hi0 hz0 hz1 hz2 rfl (by decide) N hN w
  have mkO := fun w => make_run24 (e := 4) (t := 46) (z := .bool false) Try.underlying46 hi4 hb0 hb1 hb2 rfl (by decide) N hN w
  have W1 : IntKind.i64.wrap (-(N : Int)) = -(N : Int) := IntWalk.i64_in _ (by omega)
  have W2 : IntKind.i64.wrap (-(N : Int) * 1000) = -(N : Int) * 1000 := IntWalk.i64_in _ (by omega)
  have HAR := Lib.hid hA
  have HML := Lib.hid hm
  have hA5 : A.length ≤ 2500 := by omega
  obtain ⟨A', hA'⟩ : ∃ A', A' = A ++ [backA N s t am] := ⟨_, rfl⟩
  have hAl : 0 < A'.length := by rw [hA']; simp
  rw [← hA'] at hc ⊢
  have HAP := Lib.hid hA'
  have HC := Lib.hid hc
  clear hA hm hm2 hc hA'
  go_enter Try.func35, Try.ntmps35
  go_upto_region 2 with fail
  have hn1 := nbox_new w N s t a m c
  have hn2 := NBox.add hn1 (add_new _ (.cells #[.int .i64 t, .int .i64 s, .int .i64 am, .int .i64 (-(N : Int) * 1000)] 35))
  have hb2 := heap_alloc_new (w.alloc (.cells #[.int .i64 N, .int .i64 s, .int .i64 t, .slice a m c] 24)) (.cells #[.int .i64 t, .int .i64 s, .int .i64 am, .int .i64 (-(N : Int) * 1000)] 35)
  rw [show (w.alloc (.cells #[.int .i64 N, .int .i64 s, .int .i64 t, .slice a m c] 24)).heap.size = w.heap.size + 1 by simp] at hb2
  obtain ⟨gnw, hgn⟩ : ∃ gnw, gnw = w.heap.size := ⟨_, rfl⟩
  obtain ⟨gb, hgb⟩ : ∃ gb, gb = w.heap.size + 1 := ⟨_, rfl⟩
  have hAb : Add w ((w.alloc (.cells #[.int .i64 N, .int .i64 s, .int .i64 t, .slice a m c] 24)).alloc (.cells #[.int .i64 t, .int .i64 s, .int .i64 am, .int .i64 (-(N : Int) * 1000)] 35)) := Add.trans (add_new _ _) (add_new _ _)
  obtain ⟨Wb, hWb⟩ : ∃ Wb, Wb = (w.alloc (.cells #[.int .i64 N, .int .i64 s, .int .i64 t, .slice a m c] 24)).alloc (.cells #[.int .i64 t, .int .i64 s, .int .i64 am, .int .i64 (-(N : Int) * 1000)] 35) := ⟨_, rfl⟩
  rw [← hWb] at hn2 hb2 hAb ⊢
  rw [← hgn] at hn2 ⊢
  rw [← hgb] at hb2
  rw [hgn, ← hgb, ← hgn]
  have HNB := Lib.hid hn2
  have HBB := Lib.hid hb2
  have HAB := Lib.hid hAb
  have HSS : Hid (∀ W, Add Wb W → Add Wb W ∧ W.cell? ⟨gnw, 0, none⟩ = some (.int .i64 (N : Nat)) ∧ W.cell? ⟨gnw, 3, none⟩ = some (.slice a m c) ∧ W.cell? ⟨gb, 0, none⟩ = some (.int .i64 (t : Nat)) ∧ W.cell? ⟨gb, 1, none⟩ = some (.int .i64 (s : Nat)) ∧ W.cell? ⟨gb, 2, none⟩ = some (.int .i64 am) ∧ W.cell? ⟨gb, 3, none⟩ = some (.int .i64 (-(N : Int) * 1000))) := Lib.hid fun W h =>
    ⟨h, (hn2.add h).c0, (hn2.add h).c3, (cell_of_row W gb 0 _ _ _ (addB hb2 h)).trans rfl, (cell_of_row W gb 1 _ _ _ (addB hb2 h)).trans rfl, (cell_of_row W gb 2 _ _ _ (addB hb2 h)).trans rfl, (cell_of_row W gb 3 _ _ _ (addB hb2 h)).trans rfl⟩
  have HSD := Lib.hid (HSS.out Wb.drew (b_drew (Below.refl _ _)))
  clear hn1 hn2 hb2 hAb hWb hgn hgb W1 W2
  go_cut [6] from 10 (fun p wx => ∃ base gr gf gp gx gt va, p = .pointer (some ⟨gr, 0, none⟩) ∧ BC w wx base A' N gr gf gp gx gt 0 va (.slice none 0 0) (fun _ => []))
  case first =>
    refine wp_region_T (fun w' => Add Wb w' ∧ w'.cell? ⟨gnw, 0, none⟩ = some (.int .i64 (N : Nat)) ∧ w'.cell? ⟨gnw, 3, none⟩ = some (.slice a m c) ∧ w'.cell? ⟨gb, 0, none⟩ = some (.int .i64 (t : Nat)) ∧ w'.cell? ⟨gb, 1, none⟩ = some (.int .i64 (s : Nat)) ∧ w'.cell? ⟨gb, 2, none⟩ = some (.int .i64 am) ∧ w'.cell? ⟨gb, 3, none⟩ = some (.int .i64 (-(N : Int) * 1000))) (fun w' => True) 20 (by kernel_rfl) ?_
    show wpAnyT _ _ _ _ _ _ _ 21 #[false, false, false, false, false, false, false, false, false, false, false, false, false, false, false, false, false, false, false, false, false] _ _
    refine wpAnyT_take (i := 0) (v := ?_) (by simp only [List.getElem?_toArray, List.getElem?_cons_zero]; rfl) (by kernel_rfl) (by kernel_rfl) (by kernel_rfl) (by kernel_rfl) (by intro _ _ _ h; exact h) (Or.inl ⟨by rfl, ?_⟩) HSD.out trivial ?_
    rotate_left
    · intro w' hSw
      try dsimp only at hSw
      go_simp
      try with_reducible rfl
    try simp only [Act.put, List.setIfInBounds_toArray, List.set_cons_zero, List.set_cons_succ]
    refine wpAnyT_take (i := 1) (v := ?_) (by simp only [List.getElem?_toArray, List.getElem?_cons_zero, List.getElem?_cons_succ]; rfl) (by kernel_rfl) (by kernel_rfl) (by kernel_rfl) (by kernel_rfl) (by intro _ _ _ h; exact h) (Or.inl ⟨by rfl, ?_⟩) HSD.out trivial ?_
    rotate_left
    · intro w' hSw
      try dsimp only at hSw
      go_simp
      try with_reducible rfl
    try simp only [Act.put, List.setIfInBounds_toArray, List.set_cons_zero, List.set_cons_succ]
    refine wpAnyT_take (i := 3) (v := ?_) (by simp only [List.getElem?_toArray, List.getElem?_cons_zero, List.getElem?_cons_succ]; rfl) (by kernel_rfl) (by kernel_rfl) (by kernel_rfl) (by kernel_rfl) (by intro _ _ _ h; exact h) (Or.inl ⟨by rfl, ?_⟩) HSD.out trivial ?_
    rotate_left
    · intro w' hSw
      try dsimp only at hSw
      go_simp
      try with_reducible rfl
    try simp only [Act.put, List.setIfInBounds_toArray, List.set_cons_zero, List.set_cons_succ]
    refine wpAnyT_take (i := 6) (v := ?_) (by simp only [List.getElem?_toArray, List.getElem?_cons_zero, List.getElem?_cons_succ]; rfl) (by kernel_rfl) (by kernel_rfl) (by kernel_rfl) (by kernel_rfl) (by intro _ _ _ h; exact h) (Or.inl ⟨by rfl, ?_⟩) HSD.out trivial ?_
    rotate_left
    · intro w' hSw
      try dsimp only at hSw
      go_simp
      try with_reducible rfl
    try simp only [Act.put, List.setIfInBounds_toArray, List.set_cons_zero, List.set_cons_succ]
    refine wpAnyT_take (i := 7) (v := ?_) (by simp only [List.getElem?_toArray, List.getElem?_cons_zero, List.getElem?_cons_succ]; rfl) (by kernel_rfl) (by kernel_rfl) (by kernel_rfl) (by kernel_rfl) (by intro _ _ _ h; exact h) (Or.inl ⟨by rfl, ?_⟩) HSD.out trivial ?_
    rotate_left
    · intro w' hSw
      try dsimp only at hSw
      go_simp
      try with_reducible rfl
    try simp only [Act.put, List.setIfInBounds_toArray, List.set_cons_zero, List.set_cons_succ]
    refine wpAnyT_take (i := 9) (v := ?_) (by simp only [List.getElem?_toArray, List.getElem?_cons_zero, List.getElem?_cons_succ]; rfl) (by kernel_rfl) (by kernel_rfl) (by kernel_rfl) (by kernel_rfl) (by intro _ _ _ h; exact h) (Or.inl ⟨by rfl, ?_⟩) HSD.out trivial ?_
    rotate_left
    · intro w' hSw
      try dsimp only at hSw
      go_simp
      try with_reducible rfl
    try simp only [Act.put, List.setIfInBounds_toArray, List.set_cons_zero, List.set_cons_succ]
    refine wpAnyT_take (i := 10) (v := ?_) (by simp only [List.getElem?_toArray, List.getElem?_cons_zero, List.getElem?_cons_succ]; rfl) (by kernel_rfl) (by kernel_rfl) (by kernel_rfl) (by kernel_rfl) (by intro _ _ _ h; exact h) (Or.inl ⟨by rfl, ?_⟩) HSD.out trivial ?_
    rotate_left
    · intro w' hSw
      try dsimp only at hSw
      go_simp
      try with_reducible rfl
    try simp only [Act.put, List.setIfInBounds_toArray, List.set_cons_zero, List.set_cons_succ]
    refine wpAnyT_take (i := 12) (v := ?_) (by simp only [List.getElem?_toArray, List.getElem?_cons_zero, List.getElem?_cons_succ]; rfl) (by kernel_rfl) (by kernel_rfl) (by kernel_rfl) (by kernel_rfl) (by intro _ _ _ h; exact h) (Or.inl ⟨by rfl, ?_⟩) HSD.out trivial ?_
    rotate_left
    · intro w' hSw
      try dsimp only at hSw
      go_simp
      try with_reducible rfl
    try simp only [Act.put, List.setIfInBounds_toArray, List.set_cons_zero, List.set_cons_succ]
    refine wpAnyT_take (i := 13) (v := ?_) (by simp only [List.getElem?_toArray, List.getElem?_cons_zero, List.getElem?_cons_succ]; rfl) (by kernel_rfl) (by kernel_rfl) (by kernel_rfl) (by kernel_rfl) (by intro _ _ _ h; exact h) (Or.inl ⟨by rfl, ?_⟩) HSD.out trivial ?_
    rotate_left
    · intro w' hSw
      try dsimp only at hSw
      go_simp
      try with_reducible rfl
    try simp only [Act.put, List.setIfInBounds_toArray, List.set_cons_zero, List.set_cons_succ]
    refine wpAnyT_take (i := 15) (v := ?_) (by simp only [List.getElem?_toArray, List.getElem?_cons_zero, List.getElem?_cons_succ]; rfl) (by kernel_rfl) (by kernel_rfl) (by kernel_rfl) (by kernel_rfl) (by intro _ _ _ h; exact h) (Or.inl ⟨by rfl, ?_⟩) HSD.out trivial ?_
    rotate_left
    · intro w' hSw
      try dsimp only at hSw
      go_simp
      try with_reducible rfl
    try simp only [Act.put, List.setIfInBounds_toArray, List.set_cons_zero, List.set_cons_succ]
    refine wpAnyT_take (i := 16) (v := ?_) (by simp only [List.getElem?_toArray, List.getElem?_cons_zero, List.getElem?_cons_succ]; rfl) (by kernel_rfl) (by kernel_rfl) (by kernel_rfl) (by kernel_rfl) (by intro _ _ _ h; exact h) (Or.inl ⟨by rfl, ?_⟩) HSD.out trivial ?_
    rotate_left
    · intro w' hSw
      try dsimp only at hSw
      go_simp
      try with_reducible rfl
    try simp only [Act.put, List.setIfInBounds_toArray, List.set_cons_zero, List.set_cons_succ]
    refine wpAnyT_inv (I := CheapI Wb gnw gb N s t am a m c A) (left := lft) (k := 3) (cheap_step ?hd ?hop) ?hend 7 10 _ _ _ ?l7 (by decide) ?start
    case hd => decide +kernel
    case l7 => decide
    case start =>
      exact ⟨false, false, false, false, false, false, false, undef, undef, undef, undef, undef, undef, undef, rfl, rfl, rfl, b_drew (Below.refl _ _), nofun, nofun, nofun, nofun, nofun, nofun, nofun, nofun⟩
    case hop =>
      intro i hi b2 b4 b5 b8 b11 b14 b17 v22 v24 v25 v28 v31 v34 v37 w hok hcase hM
      simp only [List.mem_cons, List.not_mem_nil, or_false] at hi
      unfold cheapF
      rcases hi with rfl | rfl | rfl | rfl | rfl | rfl | rfl
      all_goals simp only [caseB] at hcase
      all_goals simp at hcase
      all_goals refine wpOp_do (by simp only [List.getElem?_toArray, List.getElem?_cons_zero, List.getElem?_cons_succ]; rfl) fun K hK => ?_
      · -- 2
        subst hcase
        have hb5 : b5 = false := by cases b5 with
          | false => rfl
          | true => simp [okb] at hok
        subst hb5
        go_simp
        refine (cloneA_any ((HAR.out.add HAB.out).add hM.1) (by omega)).mono ?_
        rintro e w' ⟨v', rfl, ho, hb⟩
        obtain ⟨h1, h2, h3, h4, h5, h6, h7, h8, h9⟩ := hM.add hb
        refine hK _ _ ⟨HSS.out _ h1, true, b4, false, b8, b11, b14, b17, v', v24, v25, v28, v31, v34, v37, rfl, rfl, rfl, h1, fun _ _ => own_base ho hM.1.size, h3, h4, h5, h6, h7, h8, h9⟩
      · -- 4
        subst hcase
        have hb5 : b5 = false := by cases b5 with
          | false => rfl
          | true => simp [okb] at hok
        subst hb5
        go_simp
        obtain ⟨h1, h2, h3, h4, h5, h6, h7, h8, h9⟩ := hM.add (add_new w (.cells (backCells N s t am).toArray 35))
        refine hK _ _ ⟨HSS.out _ h1, b2, true, false, b8, b11, b14, b17, v22, .slice (some ⟨w.heap.size, 0, none⟩) 1 1, v25, v28, v31, v34, v37, rfl, rfl, rfl, h1, h2, fun _ _ => ⟨_, rfl, heap_alloc_new w _⟩, h4, h5, h6, h7, h8, h9⟩
      · -- 5
        obtain ⟨⟨rfl, rfl⟩, rfl⟩ := hcase
        obtain ⟨h1, h2, h3, -, h5, h6, h7, h8, h9⟩ := hM
        obtain ⟨g4, rfl, hg4⟩ := h3 rfl rfl
        have hown := h2 rfl rfl
        refine step_append_lies _ rfl _ _ 22 rfl Wb.heap.size 35 i5 (.agg #[.int .i64 0, .int .i64 0, .int .i64 0, .int .i64 0]) 4 32 Try.underlying22 hi5 hc0 hc1 hc2 rfl (by decide) v22 A.length (cellsA A) rfl hown ⟨g4, 0, none⟩ 1 1 (backCells N s t am) rfl rfl (World.news_of_block hg4) (by intro u hu; simp [backCells] at hu; rcases hu with rfl | rfl | rfl | rfl <;> rfl) (by decide) (by unfold maxLen; omega) (by omega) h1.size _ rfl ?_
        intro g6 cap6 w6 hown6 hgr6 hat6 hlt6
        have hA6 : Add Wb w6 := Below.grown h1 hgr6 h1.size (fun k' e => (own_ty hown k' e).1)
        refine hK _ _ ⟨HSS.out _ hA6, true, true, true, b8, b11, b14, b17, v22, _, .slice (some ⟨g6, 0, none⟩) (A.length + 1) cap6, v28, v31, v34, v37, rfl, rfl, rfl, hA6, nofun, nofun, fun _ => hown6, fun q => ?_, fun q => ?_, fun q => ?_, fun q => ?_, h9⟩
        · obtain ⟨g, e, k, l⟩ := h5 q; exact ⟨g, e, kept_ty k hown hgr6 (by decide), l⟩
        · obtain ⟨g, e, k, l⟩ := h6 q; exact ⟨g, e, kept_ty k hown hgr6 (by decide), l⟩
        · obtain ⟨g, e, k, l⟩ := h7 q; exact ⟨g, e, kept_ty k hown hgr6 (by decide), l⟩
        · obtain ⟨g, e, k, l⟩ := h8 q; exact ⟨g, e, kept_ty k hown hgr6 (by decide), l⟩
      · -- 8
        subst hcase
        go_simp
        obtain ⟨h1, h2, h3, h4, h5, h6, h7, h8, h9⟩ := hM.add (add_new w (.cells (List.replicate N (Value.slice none 0 0)).toArray 25))
        refine hK _ _ ⟨HSS.out _ h1, b2, b4, b5, true, b11, b14, b17, v22, v24, v25, sl w.heap.size N, v31, v34, v37, rfl, hok, rfl, h1, h2, h3, h4, fun _ => ⟨_, rfl, heap_alloc_new w _, hM.1.size⟩, h6, h7, h8, h9⟩
      · -- 11
        subst hcase
        go_simp
        obtain ⟨h1, h2, h3, h4, h5, h6, h7, h8, h9⟩ := hM.add (add_new w (.cells (List.replicate N (Value.int .i64 0)).toArray 3))
        refine hK _ _ ⟨HSS.out _ h1, b2, b4, b5, b8, true, b14, b17, v22, v24, v25, v28, sl w.heap.size N, v34, v37, rfl, hok, rfl, h1, h2, h3, h4, h5, fun _ => ⟨_, rfl, new_ints w N, hM.1.size⟩, h7, h8, fun _ q e => ?_⟩
        obtain ⟨g, rfl, k, l⟩ := hM.2.2.2.2.2.2.1 q
        have := Blk.lt k
        have e : w.heap.size = g := Option.some.inj e
        omega
      · -- 14
        subst hcase
        go_simp
        obtain ⟨h1, h2, h3, h4, h5, h6, h7, h8, h9⟩ := hM.add (add_new w (.cells (List.replicate N (Value.int .i64 0)).toArray 3))
        refine hK _ _ ⟨HSS.out _ h1, b2, b4, b5, b8, b11, true, b17, v22, v24, v25, v28, v31, sl w.heap.size N, v37, rfl, hok, rfl, h1, h2, h3, h4, h5, h6, fun _ => ⟨_, rfl, new_ints w N, hM.1.size⟩, h8, fun q _ e => ?_⟩
        obtain ⟨g, rfl, k, l⟩ := hM.2.2.2.2.2.1 q
        have := Blk.lt k
        have e : g = w.heap.size := Option.some.inj e
        omega
      · -- 17
        subst hcase
        go_simp
        obtain ⟨h1, h2, h3, h4, h5, h6, h7, h8, h9⟩ := hM.add (add_new w (.cells (List.replicate N (Value.bool false)).toArray 4))
        refine hK _ _ ⟨HSS.out _ h1, b2, b4, b5, b8, b11, b14, true, v22, v24, v25, v28, v31, v34, sl w.heap.size N, rfl, hok, rfl, h1, h2, h3, h4, h5, h6, h7, fun _ => ⟨_, rfl, new_bools w N, hM.1.size⟩, h9⟩
    case hend =>
      rintro fuel listed f w2 ⟨b2, b4, b5, b8, b11, b14, b17, v22, v24, v25, v28, v31, v34, v37, rfl, hok, rfl, hM⟩ h0 hk
      have key : ∀ b2 b4 b5 b8 b11 b14 b17 : Bool, lft (lst b2 b4 b5 b8 b11 b14 b17) = 0 → (b2 && (b4 && (b5 && (b8 && (b11 && (b14 && b17)))))) = true := by decide +kernel
      have hall := key _ _ _ _ _ _ _ h0
      simp only [Bool.and_eq_true] at hall
      obtain ⟨rfl, rfl, rfl, rfl, rfl, rfl, rfl⟩ := hall
      clear key
      obtain ⟨fuel, rfl⟩ : ∃ f, fuel = f + 1 + 1 + 1 := ⟨fuel - 3, by omega⟩
      have hA2 := hM.1
      obtain ⟨ga, cap5, hv25, -, -⟩ := (hM.2.2.2.1 rfl).form (by omega)
      subst hv25
      obtain ⟨gf, gp, gx, gt, rfl, rfl, rfl, rfl, hBC⟩ := made_bcC HAB.out hM
      rw [← HAP.out] at hBC
      have HBC := Lib.hid hBC
      have HA2 := Lib.hid hA2
      clear hBC hA2 hM h0 hk hok
      unfold cheapF
      refine wpAnyT_one (i := 18) (by kernel_rfl) (wpOp_do (by simp only [List.getElem?_toArray, List.getElem?_cons_zero, List.getElem?_cons_succ]; rfl) fun K hK => ?_)
      go_simp
      refine hK _ _ ⟨⟨HSS.out _ HA2.out, fun _ => trivial⟩, ?_⟩
      clear hK K
      try simp only [Act.put, List.setIfInBounds_toArray, List.set_cons_zero, List.set_cons_succ]
      refine wpAnyT_one (i := 19) (by kernel_rfl) (wpOp_do (by simp only [List.getElem?_toArray, List.getElem?_cons_zero, List.getElem?_cons_succ]; rfl) fun K hK => ?_)
      go_simp
      refine hK _ _ ⟨⟨HSS.out _ (Add.trans HA2.out (add_new _ _)), fun _ => trivial⟩, ?_⟩
      clear hK K
      try simp only [Act.put, List.setIfInBounds_toArray, List.set_cons_zero, List.set_cons_succ]
      refine wpAnyT_one (i := 20) (by kernel_rfl) (wpOp_do (by simp only [List.getElem?_toArray, List.getElem?_cons_zero, List.getElem?_cons_succ]; rfl) fun K hK => ?_)
      go_simp
      refine hK _ _ ⟨⟨HSS.out _ (Add.trans HA2.out (add_new _ _)), fun _ => trivial⟩, ?_⟩
      clear hK K
      try simp only [Act.put, List.setIfInBounds_toArray, List.set_cons_zero, List.set_cons_succ]
      refine wpAnyT_done (by kernel_rfl) ?_ _
      go_wp2_with fail
      go_meet
      exact ⟨_, _, gf, gp, gx, gt, _, rfl, HBC.out⟩
  case rest =>
    obtain ⟨base, gr, gf, gp, gx, gt, va, rfl, hbs⟩ := hcut
    obtain ⟨i2, hi2, hq0, hq1, hq2⟩ := info_parts infoCStep
    clear mkB mkI mkO HNB HBB HAB HSS HSD HAR HML hi1 hy0 hy1 hy2 hi4 hb0 hb1 hb2 hi5 hc0 hc1 hc2
    have hml := HC.out.len
    obtain ⟨ga, acap, hva, -, -⟩ := hbs.2.1.form hAl
    subst hva
    have hF0 : (fun _ => ([] : List Nat)) = fromK A' 0 := rfl
    rw [hF0] at hbs
    have HS0 := Lib.hid hbs
    have b0 := hbs.1.c0
    obtain ⟨m', hm'⟩ : ∃ m', m' = A'.length := ⟨_, rfl⟩
    have HM' := Lib.hid hm'
    have hmc : A'.length ≤ acap ∧ acap ≤ maxLen := by
      rcases hbs.2.1.2 with ⟨e, -⟩ | ⟨g, cap, cur, e, -, -, q1, q2, -⟩
      · simp at e
      · simp only [Value.slice.injEq, Option.some.injEq, Addr.mk.injEq, and_true, true_and] at e
        obtain ⟨rfl, rfl⟩ := e
        exact ⟨q1, q2⟩
    obtain ⟨hmc1, hmc2⟩ := hmc
    unfold maxLen at hmc2
    rw [← hm'] at b0 hml hmc1
    have l1 := hbs.1.lt
    clear hbs hm' hF0
    go_wp2_with fail
    clear b0 l1
    go_loopw [45] (fun i wr => ∃ (k : Nat) (sv : Value), k ≤ m' ∧ i = .int .i64 k ∧ Hid (BC w wr base A' N gr gf gp gx gt k (.slice (some ⟨ga, 0, none⟩) A'.length acap) sv (fromK A' k))) (fun i _ => m' - (intOf i).toNat)
    case atStart => exact ⟨0, _, Nat.zero_le _, rfl, HS0⟩
    case round =>
      clear HS0
      obtain ⟨k, sv, hk, rfl, hbs⟩ := hrel
      by_cases hlt : k < m'
      · have hkl : k < A'.length := by rw [← HM'.out]; exact hlt
        obtain ⟨q0, q1, q2, q3⟩ := arcs_cell hbs.out.2.1 rfl hkl
        obtain ⟨⟨x, hx0⟩, ⟨y, hy0⟩⟩ : (∃ x : Nat, (at' A' k).1 = (x : Int)) ∧ (∃ y : Nat, (at' A' k).2.1 = (y : Int)) := by
          have := HC.out.ok k hkl
          exact ⟨⟨(at' A' k).1.toNat, by omega⟩, ⟨(at' A' k).2.1.toNat, by omega⟩⟩
        have hok := HC.out.ok k hkl
        obtain ⟨z, hz⟩ : ∃ z, z = (at' A' k).2.2.1 := ⟨_, rfl⟩
        obtain ⟨u, hu⟩ : ∃ u, u = (at' A' k).2.2.2 := ⟨_, rfl⟩
        have hx : at' A' k = ((x : Int), (y : Int), z, u) := by rw [← hx0, ← hy0, hz, hu]
        have hub : -700000 ≤ u ∧ u ≤ 700000 := by
          have := HC.out.cst (2 * k) (by omega)
          rw [cost_even, ← hu] at this; exact this
        have wku : IntKind.i64.wrap (-u) = -u := IntWalk.i64_in _ (by omega)
        rw [hx0] at q0 hok
        rw [hy0] at q1 hok
        rw [← hz] at q2
        rw [← hu] at q3
        have hxN : x < N := by omega
        have hyN : y < N := by omega
        have HX := Lib.hid hx
        have hW1b := hbs.out.add (add_new wr (.cells #[.int .i64 (x : Nat), .int .i64 (y : Nat), .int .i64 z, .int .i64 u] 35))
        have hA1 := abox_new wr (x : Nat) (y : Nat) z u
        clear hx hz hu hx0 hy0 hok hkl
        go_upto_region 6 with fail
        obtain ⟨ga1, hga⟩ : ∃ ga1, ga1 = wr.heap.size := ⟨_, rfl⟩
        obtain ⟨W1, hW1⟩ : ∃ W1, W1 = wr.alloc (.cells #[.int .i64 (x : Nat), .int .i64 (y : Nat), .int .i64 z, .int .i64 u] 35) := ⟨_, rfl⟩
        rw [← hW1] at hW1b hA1 ⊢
        rw [← hga] at hA1 ⊢
        have HB1 := Lib.hid hW1b
        have HA1 := Lib.hid hA1
        have hsz := hW1b.1.lt
        have HOWN : Hid ((World.drew W1).ownsRow base 76 3 sv (2 * k) (cellsC A' (2 * k))) := Lib.hid hW1b.2.2.1.drew
        have HD : Hid (∀ o, Add W1 ((World.drew W1).alloc o)) := Lib.hid fun o => Add.trans (b_drew (Below.refl _ _)) (add_new _ o)
        have HS : Hid (∀ W : World, ABox W ga1 x y z u → W.cell? ⟨ga1, 0, none⟩ = some (.int .i64 (x : Nat)) ∧ W.cell? ⟨ga1, 1, none⟩ = some (.int .i64 (y : Nat)) ∧ W.cell? ⟨ga1, 3, none⟩ = some (.int .i64 u)) := Lib.hid fun W h => ⟨h.c0, h.c1, h.c3⟩
        have HSD := Lib.hid (HS.out _ (hA1.add (b_drew (Below.refl _ _))))
        have HCD : Hid (W1.drew.cell? ⟨gr, 1, none⟩ = some sv) := Lib.hid (hW1b.1.kept (grownA_of (b_drew (Below.refl _ _))) (by simp)).c1
        have z1 := hW1b.1.lt
        have z2 := hA1.lt
        have hbase := hW1b.2.2.2.2.2.2.2.2.2.1
        clear hW1 hga hW1b hA1 q0 q1 q2 q3 hbs
        refine wp_region_T (fun w' => w'.cell? ⟨ga1, 0, none⟩ = some (.int .i64 (x : Nat)) ∧ w'.cell? ⟨ga1, 1, none⟩ = some (.int .i64 (y : Nat)) ∧ w'.cell? ⟨ga1, 3, none⟩ = some (.int .i64 u)) (fun w' => w'.cell? ⟨gr, 1, none⟩ = some sv) 20 (by kernel_rfl) ?_
        show wpAnyT _ _ _ _ _ _ _ 21 #[false, false, false, false, false, false, false, false, false, false, false, false, false, false, false, false, false, false, false, false, false] _ _
        refine wpAnyT_take (i := 0) (v := ?_) (by simp only [List.getElem?_toArray, List.getElem?_cons_zero]; rfl) (by kernel_rfl) (by kernel_rfl) (by kernel_rfl) (by kernel_rfl) (by intro _ _ _ h; exact h) (Or.inl ⟨by rfl, ?_⟩) HSD.out HCD.out ?_
        rotate_left
        · intro w' hSw
          try dsimp only at hSw
          go_simp
          try with_reducible rfl
        try simp only [Act.put, List.setIfInBounds_toArray, List.set_cons_zero, List.set_cons_succ]
        refine wpAnyT_take (i := 1) (v := ?_) (by simp only [List.getElem?_toArray, List.getElem?_cons_zero, List.getElem?_cons_succ]; rfl) (by kernel_rfl) (by kernel_rfl) (by kernel_rfl) (by kernel_rfl) (by intro _ _ _ h; exact h) (Or.inl ⟨by rfl, ?_⟩) HSD.out HCD.out ?_
        rotate_left
        · intro w' hSw
          try dsimp only at hSw
          go_simp
          try with_reducible rfl
        try simp only [Act.put, List.setIfInBounds_toArray, List.set_cons_zero, List.set_cons_succ]
        refine wpAnyT_take (i := 2) (v := ?_) (by simp only [List.getElem?_toArray, List.getElem?_cons_zero, List.getElem?_cons_succ]; rfl) (by kernel_rfl) (by kernel_rfl) (by kernel_rfl) (by kernel_rfl) (by intro _ _ _ h; exact h) (Or.inl ⟨by rfl, ?_⟩) HSD.out HCD.out ?_
        rotate_left
        · intro w' hSw
          try dsimp only at hSw
          go_simp
          try with_reducible rfl
        try simp only [Act.put, List.setIfInBounds_toArray, List.set_cons_zero, List.set_cons_succ]
        refine wpAnyT_take (i := 3) (v := ?_) (by simp only [List.getElem?_toArray, List.getElem?_cons_zero, List.getElem?_cons_succ]; rfl) (by kernel_rfl) (by kernel_rfl) (by kernel_rfl) (by kernel_rfl) (by intro _ _ _ h; exact h) (Or.inl ⟨by rfl, ?_⟩) HSD.out HCD.out ?_
        rotate_left
        · intro w' hSw
          try dsimp only at hSw
          go_simp
          try with_reducible rfl
        try simp only [Act.put, List.setIfInBounds_toArray, List.set_cons_zero, List.set_cons_succ]
        refine wpAnyT_take (i := 4) (v := ?_) (by simp only [List.getElem?_toArray, List.getElem?_cons_zero, List.getElem?_cons_succ]; rfl) (by kernel_rfl) (by kernel_rfl) (by kernel_rfl) (by kernel_rfl) (by intro _ _ _ h; exact h) (Or.inl ⟨by rfl, ?_⟩) HSD.out HCD.out ?_
        rotate_left
        · intro w' hSw
          try dsimp only at hSw
          go_simp
          try with_reducible rfl
        try simp only [Act.put, List.setIfInBounds_toArray, List.set_cons_zero, List.set_cons_succ]
        refine wpAnyT_take (i := 5) (v := ?_) (by simp only [List.getElem?_toArray, List.getElem?_cons_zero, List.getElem?_cons_succ]; rfl) (by kernel_rfl) (by kernel_rfl) (by kernel_rfl) (by kernel_rfl) (by intro _ _ _ h; exact h) (Or.inl ⟨by rfl, ?_⟩) HSD.out HCD.out ?_
        rotate_left
        · intro w' hSw
          try dsimp only at hSw
          go_simp
          try with_reducible rfl
        try simp only [Act.put, List.setIfInBounds_toArray, List.set_cons_zero, List.set_cons_succ]
        refine wpAnyT_take (i := 6) (v := ?_) (by simp only [List.getElem?_toArray, List.getElem?_cons_zero, List.getElem?_cons_succ]; rfl) (by kernel_rfl) (by kernel_rfl) (by kernel_rfl) (by kernel_rfl) (by intro _ _ _ h; exact h) (Or.inl ⟨by rfl, ?_⟩) HSD.out HCD.out ?_
        rotate_left
        · intro w' hSw
          try dsimp only at hSw
          go_simp
          try with_reducible rfl
        try simp only [Act.put, List.setIfInBounds_toArray, List.set_cons_zero, List.set_cons_succ]
        refine wpAnyT_take (i := 7) (v := ?_) (by simp only [List.getElem?_toArray, List.getElem?_cons_zero, List.getElem?_cons_succ]; rfl) (by kernel_rfl) (by kernel_rfl) (by kernel_rfl) (by kernel_rfl) (by intro _ _ _ h; exact h) (Or.inl ⟨by rfl, ?_⟩) HSD.out HCD.out ?_
        rotate_left
        · intro w' hSw
          try dsimp only at hSw
          go_simp
          try with_reducible rfl
        try simp only [Act.put, List.setIfInBounds_toArray, List.set_cons_zero, List.set_cons_succ]
        refine wpAnyT_take (i := 8) (v := ?_) (by simp only [List.getElem?_toArray, List.getElem?_cons_zero, List.getElem?_cons_succ]; rfl) (by kernel_rfl) (by kernel_rfl) (by kernel_rfl) (by kernel_rfl) (by intro _ _ _ h; exact h) (Or.inl ⟨by rfl, ?_⟩) HSD.out HCD.out ?_
        rotate_left
        · intro w' hSw
          try dsimp only at hSw
          go_simp
          try with_reducible rfl
        try simp only [Act.put, List.setIfInBounds_toArray, List.set_cons_zero, List.set_cons_succ]
        refine wpAnyT_take (i := 9) (v := ?_) (by simp only [List.getElem?_toArray, List.getElem?_cons_zero, List.getElem?_cons_succ]; rfl) (by kernel_rfl) (by kernel_rfl) (by kernel_rfl) (by kernel_rfl) (by intro _ _ _ h; exact h) (Or.inl ⟨by rfl, ?_⟩) HSD.out HCD.out ?_
        rotate_left
        · intro w' hSw
          try dsimp only at hSw
          go_simp
          try with_reducible rfl
        try simp only [Act.put, List.setIfInBounds_toArray, List.set_cons_zero, List.set_cons_succ]
        refine wpAnyT_take (i := 10) (v := ?_) (by simp only [List.getElem?_toArray, List.getElem?_cons_zero, List.getElem?_cons_succ]; rfl) (by kernel_rfl) (by kernel_rfl) (by kernel_rfl) (by kernel_rfl) (by intro _ _ _ h; exact h) (Or.inl ⟨by rfl, ?_⟩) HSD.out HCD.out ?_
        rotate_left
        · intro w' hSw
          try dsimp only at hSw
          go_simp
          try with_reducible rfl
        try simp only [Act.put, List.setIfInBounds_toArray, List.set_cons_zero, List.set_cons_succ]
        refine wpAnyT_take (i := 11) (v := ?_) (by simp only [List.getElem?_toArray, List.getElem?_cons_zero, List.getElem?_cons_succ]; rfl) (by kernel_rfl) (by kernel_rfl) (by kernel_rfl) (by kernel_rfl) (by intro _ _ _ h; exact h) (Or.inl ⟨by rfl, ?_⟩) HSD.out HCD.out ?_
        rotate_left
        · intro w' hSw
          try dsimp only at hSw
          go_simp
          try with_reducible rfl
        try simp only [Act.put, List.setIfInBounds_toArray, List.set_cons_zero, List.set_cons_succ]
        refine wpAnyT_take (i := 12) (v := ?_) (by simp only [List.getElem?_toArray, List.getElem?_cons_zero, List.getElem?_cons_succ]; rfl) (by kernel_rfl) (by kernel_rfl) (by kernel_rfl) (by kernel_rfl) (by intro _ _ _ h; exact h) (Or.inl ⟨by rfl, ?_⟩) HSD.out HCD.out ?_
        rotate_left
        · intro w' hSw
          try dsimp only at hSw
          go_simp
          try with_reducible rfl
        try simp only [Act.put, List.setIfInBounds_toArray, List.set_cons_zero, List.set_cons_succ]
        refine wpAnyT_take (i := 13) (v := ?_) (by simp only [List.getElem?_toArray, List.getElem?_cons_zero, List.getElem?_cons_succ]; rfl) (by kernel_rfl) (by kernel_rfl) (by kernel_rfl) (by kernel_rfl) (by intro _ _ _ h; exact h) (Or.inl ⟨by rfl, ?_⟩) HSD.out HCD.out ?_
        rotate_left
        · intro w' hSw
          try dsimp only at hSw
          go_simp
          try with_reducible rfl
        try simp only [Act.put, List.setIfInBounds_toArray, List.set_cons_zero, List.set_cons_succ]
        refine wpAnyT_take (i := 14) (v := ?_) (by simp only [List.getElem?_toArray, List.getElem?_cons_zero, List.getElem?_cons_succ]; rfl) (by kernel_rfl) (by kernel_rfl) (by kernel_rfl) (by kernel_rfl) (by intro _ _ _ h; exact h) (Or.inl ⟨by rfl, ?_⟩) HSD.out HCD.out ?_
        rotate_left
        · intro w' hSw
          try dsimp only at hSw
          go_simp
          try with_reducible rfl
        try simp only [Act.put, List.setIfInBounds_toArray, List.set_cons_zero, List.set_cons_succ]
        refine wpAnyT_take (i := 15) (v := ?_) (by simp only [List.getElem?_toArray, List.getElem?_cons_zero, List.getElem?_cons_succ]; rfl) (by kernel_rfl) (by kernel_rfl) (by kernel_rfl) (by kernel_rfl) (by intro _ _ _ h; exact h) (Or.inl ⟨by rfl, ?_⟩) HSD.out HCD.out ?_
        rotate_left
        · intro w' hSw
          try dsimp only at hSw
          go_simp
          try with_reducible rfl
        try simp only [Act.put, List.setIfInBounds_toArray, List.set_cons_zero, List.set_cons_succ]
        refine wpAnyT_one (i := 16) (by kernel_rfl) (wpOp_do (by simp only [List.getElem?_toArray, List.getElem?_cons_zero, List.getElem?_cons_succ]; rfl) fun K hK => ?_)
        go_simp
        refine hK _ _ ⟨⟨HS.out _ (HA1.out.add (HD.out _)), fun _ => (HB1.out.1.kept (grownA_of (HD.out _)) (by simp)).c1⟩, ?_⟩
        clear hK K
        try simp only [List.setIfInBounds_toArray, List.set_cons_zero, List.set_cons_succ]
        refine wpAnyT_one (i := 17) (by kernel_rfl) (wpOp_do (by simp only [List.getElem?_toArray, List.getElem?_cons_zero, List.getElem?_cons_succ]; rfl) fun K hK => ?_)
        refine step_append_lies _ rfl _ _ 57 rfl base 76 i2 (.agg #[.int .i64 0, .int .i64 0, .int .i64 0]) 3 24 Try.underlying57 hi2 hq0 hq1 hq2 rfl (by decide) sv (2 * k) (cellsC A' (2 * k)) rfl (World.ownsRow.alloc HOWN.out _) ⟨W1.heap.size, 0, none⟩ 2 2 [.int .i64 (y : Nat), .int .i64 0, .int .i64 u, .int .i64 (x : Nat), .int .i64 0, .int .i64 (-u)] rfl rfl (World.news_of_block (heap_alloc_new (World.drew W1) _)) (by intro u hu; simp at hu; rcases hu with rfl | rfl | rfl | rfl | rfl | rfl <;> rfl) (by decide) (by unfold maxLen; omega) (by omega) (by simp; omega) _ rfl ?_
        intro g6 cap6 w6 hown6 hgr6 hat6 hlt6
        have hA6 : ABox w6 ga1 x y z u := kept_ty (HA1.out.add (HD.out _)) (World.ownsRow.alloc HOWN.out _) hgr6 (by decide)
        have hB6 : CBox w6 gr (.slice (some ⟨ga, 0, none⟩) A'.length acap) sv (sl gf N) (sl gp N) (sl gx N) (sl gt N) := kept_ty (HB1.out.1.kept (grownA_of (HD.out _)) (by simp)) (World.ownsRow.alloc HOWN.out _) hgr6 (by decide)
        have k6 := hB6.c1
        have f6 := hB6.free 1
        refine hK _ _ ⟨⟨HS.out _ hA6, fun _ => hB6.c1⟩, ?_⟩
        clear hK K
        try simp only [Act.put, List.setIfInBounds_toArray, List.set_cons_zero, List.set_cons_succ]
        refine wpAnyT_one (i := 18) (by kernel_rfl) (wpOp_do (by simp only [List.getElem?_toArray, List.getElem?_cons_zero, List.getElem?_cons_succ]; rfl) fun K hK => ?_)
        go_simp
        refine hK _ _ ⟨⟨HS.out _ hA6, fun _ => hB6.c1⟩, ?_⟩
        clear hK K
        try simp only [List.setIfInBounds_toArray, List.set_cons_zero, List.set_cons_succ]
        refine wpAnyT_one (i := 19) (by kernel_rfl) (wpOp_do (by simp only [List.getElem?_toArray, List.getElem?_cons_zero, List.getElem?_cons_succ]; rfl) fun K hK => ?_)
        go_simp
        refine hK _ _ ⟨⟨HS.out _ hA6, fun _ => hB6.c1⟩, ?_⟩
        clear hK K
        try simp only [List.setIfInBounds_toArray, List.set_cons_zero, List.set_cons_succ]
        refine wpAnyT_one (i := 20) (by kernel_rfl) (wpOp_do (by simp only [List.getElem?_toArray, List.getElem?_cons_zero, List.getElem?_cons_succ]; rfl) fun K hK => ?_)
        go_simp
        refine hK _ _ ⟨⟨HS.out _ ((heap_setCell_other w6 ⟨gr, 1, none⟩ ga1 _ (ty_ne hA6 hB6 (by decide))).trans hA6), fun h => absurd (show true = false from h) (by decide)⟩, ?_⟩
        clear hK K
        try simp only [List.setIfInBounds_toArray, List.set_cons_zero, List.set_cons_succ]
        refine wpAnyT_done (by kernel_rfl) ?_ _
        have hbs2 := (HB1.out.add (HD.out _)).steps HX.out hown6 hgr6
        have hA2 : ABox (w6.setCell ⟨gr, 1, none⟩ (.slice (some ⟨g6, 0, none⟩) (2 * k + 2) cap6)) ga1 x y z u := (heap_setCell_other w6 ⟨gr, 1, none⟩ ga1 _ (ty_ne hA6 hB6 (by decide))).trans hA6
        obtain ⟨W2, hW2⟩ : ∃ W2, W2 = w6.setCell ⟨gr, 1, none⟩ (.slice (some ⟨g6, 0, none⟩) (2 * k + 2) cap6) := ⟨_, rfl⟩
        obtain ⟨sv2, hsv2⟩ : ∃ v, v = Value.slice (some ⟨g6, 0, none⟩) (2 * k + 2) cap6 := ⟨_, rfl⟩
        rw [← hW2] at hbs2 hA2 ⊢
        rw [← hsv2] at hbs2 ⊢
        clear hW2 hsv2 hA6 hB6 k6 f6 hown6 hgr6 hat6 hlt6 HS HSD HCD HOWN HD HB1 HA1 z1 z2 hsz hbase
        go_wp2_with fail
        have wk1 : IntKind.i64.wrap (2 * (k : Int)) = 2 * (k : Int) := IntWalk.i64_in _ (by omega)
        have wk2 : IntKind.i64.wrap (2 * (k : Int) + 1) = 2 * (k : Int) + 1 := IntWalk.i64_in _ (by omega)
        have hsz := hbs2.1.lt
        have z1 := hbs2.1.lt
        have z2 := hA2.lt
        have hbase := hbs2.2.2.2.2.2.2.2.2.2.1
        obtain ⟨ra, rc, r1, r2, r3, r4, r5⟩ := hbs2.2.2.2.1.get hxN
        obtain ⟨cf, hcf, hcN, -⟩ := id hbs2.2.2.2.1
        have HCF := Lib.hid hcf
        obtain ⟨l, hl⟩ : ∃ l, ((fromK A' k) x).length = l := ⟨_, rfl⟩
        have hl5 : l ≤ 6000 := by
          have := from_len A' k x
          omega
        rw [hl] at r1 r2 r3
        have HLEN := Lib.hid hl
        have R1 := Lib.hid r1
        have HB1 := Lib.hid hbs2
        have HA1 := Lib.hid hA2
        have HOWN : Hid ((World.drew W2).ownsRow base 3 1 (.slice ra l rc) l (((fromK A' k) x).map natv)) := Lib.hid r2.drew
        have HD : Hid (∀ o, Add W2 ((World.drew W2).alloc o)) := Lib.hid fun o => Add.trans (b_drew (Below.refl _ _)) (add_new _ o)
        have HS : Hid (∀ W : World, CBox W gr (.slice (some ⟨ga, 0, none⟩) A'.length acap) sv2 (sl gf N) (sl gp N) (sl gx N) (sl gt N) → ABox W ga1 x y z u → W.cell? ⟨gr, 2, none⟩ = some (.slice (some ⟨gf, 0, none⟩) N N) ∧ W.cell? ⟨ga1, 0, none⟩ = some (.int .i64 (x : Nat))) := Lib.hid fun W h1 h2 => ⟨h1.c2, h2.c0⟩
        have HSD := Lib.hid (HS.out _ (hbs2.1.kept (grownA_of (b_drew (Below.refl _ _))) (by simp)) (hA2.add (b_drew (Below.refl _ _))))
        have HCD : Hid (W2.drew.cell? ⟨gf, x, none⟩ = some (.slice ra l rc)) := Lib.hid r1
        have HCW : Hid (∀ W : World, W.heap[gf]? = some (.cells cf 25 (0, 0)) → W.cell? ⟨gf, x, none⟩ = some (.slice ra l rc)) := Lib.hid fun W h => by
          rw [cell_of_row W gf x cf _ (0, 0) h, ← cell_of_row W2 gf x cf _ (0, 0) hcf]; exact r1
        clear hbs2 hA2 r1 r2 r3 r4 r5 hcf hcN hl
        refine wp_region_T (fun w' => w'.cell? ⟨gr, 2, none⟩ = some (.slice (some ⟨gf, 0, none⟩) N N) ∧ w'.cell? ⟨ga1, 0, none⟩ = some (.int .i64 (x : Nat))) (fun w' => w'.cell? ⟨gf, x, none⟩ = some (.slice ra l rc)) 19 (by kernel_rfl) ?_
        show wpAnyT _ _ _ _ _ _ _ 20 #[false, false, false, false, false, false, false, false, false, false, false, false, false, false, false, false, false, false, false, false] _ _
        refine wpAnyT_take (i := 0) (v := ?_) (by simp only [List.getElem?_toArray, List.getElem?_cons_zero]; rfl) (by kernel_rfl) (by kernel_rfl) (by kernel_rfl) (by kernel_rfl) (by intro _ _ _ h; exact h) (Or.inl ⟨by rfl, ?_⟩) HSD.out HCD.out ?_
        rotate_left
        · intro w' hSw
          try dsimp only at hSw
          go_simp
          try with_reducible rfl
        try simp only [Act.put, List.setIfInBounds_toArray, List.set_cons_zero, List.set_cons_succ]
        refine wpAnyT_take (i := 1) (v := ?_) (by simp only [List.getElem?_toArray, List.getElem?_cons_zero, List.getElem?_cons_succ]; rfl) (by kernel_rfl) (by kernel_rfl) (by kernel_rfl) (by kernel_rfl) (by intro _ _ _ h; exact h) (Or.inl ⟨by rfl, ?_⟩) HSD.out HCD.out ?_
        rotate_left
        · intro w' hSw
          try dsimp only at hSw
          go_simp
          try with_reducible rfl
        try simp only [Act.put, List.setIfInBounds_toArray, List.set_cons_zero, List.set_cons_succ]
        refine wpAnyT_take (i := 2) (v := ?_) (by simp only [List.getElem?_toArray, List.getElem?_cons_zero, List.getElem?_cons_succ]; rfl) (by kernel_rfl) (by kernel_rfl) (by kernel_rfl) (by kernel_rfl) (by intro _ _ _ h; exact h) (Or.inl ⟨by rfl, ?_⟩) HSD.out HCD.out ?_
        rotate_left
        · intro w' hSw
          try dsimp only at hSw
          go_simp
          try with_reducible rfl
        try simp only [Act.put, List.setIfInBounds_toArray, List.set_cons_zero, List.set_cons_succ]
        refine wpAnyT_take (i := 3) (v := ?_) (by simp only [List.getElem?_toArray, List.getElem?_cons_zero, List.getElem?_cons_succ]; rfl) (by kernel_rfl) (by kernel_rfl) (by kernel_rfl) (by kernel_rfl) (by intro _ _ _ h; exact h) (Or.inl ⟨by rfl, ?_⟩) HSD.out HCD.out ?_
        rotate_left
        · intro w' hSw
          try dsimp only at hSw
          go_simp
          try with_reducible rfl
        try simp only [Act.put, List.setIfInBounds_toArray, List.set_cons_zero, List.set_cons_succ]
        refine wpAnyT_take (i := 4) (v := ?_) (by simp only [List.getElem?_toArray, List.getElem?_cons_zero, List.getElem?_cons_succ]; rfl) (by kernel_rfl) (by kernel_rfl) (by kernel_rfl) (by kernel_rfl) (by intro _ _ _ h; exact h) (Or.inl ⟨by rfl, ?_⟩) HSD.out HCD.out ?_
        rotate_left
        · intro w' hSw
          try dsimp only at hSw
          go_simp
          try with_reducible rfl
        try simp only [Act.put, List.setIfInBounds_toArray, List.set_cons_zero, List.set_cons_succ]
        refine wpAnyT_take (i := 5) (v := ?_) (by simp only [List.getElem?_toArray, List.getElem?_cons_zero, List.getElem?_cons_succ]; rfl) (by kernel_rfl) (by kernel_rfl) (by kernel_rfl) (by kernel_rfl) (by intro _ _ _ h; exact h) (Or.inl ⟨by rfl, ?_⟩) HSD.out HCD.out ?_
        rotate_left
        · intro w' hSw
          try dsimp only at hSw
          go_simp
          try with_reducible rfl
        try simp only [Act.put, List.setIfInBounds_toArray, List.set_cons_zero, List.set_cons_succ]
        refine wpAnyT_take (i := 6) (v := ?_) (by simp only [List.getElem?_toArray, List.getElem?_cons_zero, List.getElem?_cons_succ]; rfl) (by kernel_rfl) (by kernel_rfl) (by kernel_rfl) (by kernel_rfl) (by intro _ _ _ h; exact h) (Or.inl ⟨by rfl, ?_⟩) HSD.out HCD.out ?_
        rotate_left
        · intro w' hSw
          try dsimp only at hSw
          go_simp
          try with_reducible rfl
        try simp only [Act.put, List.setIfInBounds_toArray, List.set_cons_zero, List.set_cons_succ]
        refine wpAnyT_take (i := 7) (v := ?_) (by simp only [List.getElem?_toArray, List.getElem?_cons_zero, List.getElem?_cons_succ]; rfl) (by kernel_rfl) (by kernel_rfl) (by kernel_rfl) (by kernel_rfl) (by intro _ _ _ h; exact h) (Or.inl ⟨by rfl, ?_⟩) HSD.out HCD.out ?_
        rotate_left
        · intro w' hSw
          try dsimp only at hSw
          go_simp
          try with_reducible rfl
        try simp only [Act.put, List.setIfInBounds_toArray, List.set_cons_zero, List.set_cons_succ]
        refine wpAnyT_take (i := 8) (v := ?_) (by simp only [List.getElem?_toArray, List.getElem?_cons_zero, List.getElem?_cons_succ]; rfl) (by kernel_rfl) (by kernel_rfl) (by kernel_rfl) (by kernel_rfl) (by intro _ _ _ h; exact h) (Or.inl ⟨by rfl, ?_⟩) HSD.out HCD.out ?_
        rotate_left
        · intro w' hSw
          try dsimp only at hSw
          go_simp
          try with_reducible rfl
        try simp only [Act.put, List.setIfInBounds_toArray, List.set_cons_zero, List.set_cons_succ]
        refine wpAnyT_take (i := 9) (v := ?_) (by simp only [List.getElem?_toArray, List.getElem?_cons_zero, List.getElem?_cons_succ]; rfl) (by kernel_rfl) (by kernel_rfl) (by kernel_rfl) (by kernel_rfl) (by intro _ _ _ h; exact h) (Or.inl ⟨by rfl, ?_⟩) HSD.out HCD.out ?_
        rotate_left
        · intro w' hSw
          try dsimp only at hSw
          go_simp
          try with_reducible rfl
        try simp only [Act.put, List.setIfInBounds_toArray, List.set_cons_zero, List.set_cons_succ]
        refine wpAnyT_take (i := 10) (v := ?_) (by simp only [List.getElem?_toArray, List.getElem?_cons_zero, List.getElem?_cons_succ]; rfl) (by kernel_rfl) (by kernel_rfl) (by kernel_rfl) (by kernel_rfl) (by intro _ _ _ h; exact h) (Or.inl ⟨by rfl, ?_⟩) HSD.out HCD.out ?_
        rotate_left
        · intro w' hSw
          try dsimp only at hSw
          go_simp
          try with_reducible rfl
        try simp only [Act.put, List.setIfInBounds_toArray, List.set_cons_zero, List.set_cons_succ]
        refine wpAnyT_take (i := 11) (v := ?_) (by simp only [List.getElem?_toArray, List.getElem?_cons_zero, List.getElem?_cons_succ]; rfl) (by kernel_rfl) (by kernel_rfl) (by kernel_rfl) (by kernel_rfl) (by intro _ _ _ h; exact h) (Or.inl ⟨by rfl, ?_⟩) HSD.out HCD.out ?_
        rotate_left
        · intro w' hSw
          try dsimp only at hSw
          go_simp
          try with_reducible rfl
        try simp only [Act.put, List.setIfInBounds_toArray, List.set_cons_zero, List.set_cons_succ]
        refine wpAnyT_take (i := 12) (v := ?_) (by simp only [List.getElem?_toArray, List.getElem?_cons_zero, List.getElem?_cons_succ]; rfl) (by kernel_rfl) (by kernel_rfl) (by kernel_rfl) (by kernel_rfl) (by intro _ _ _ h; exact h) (Or.inl ⟨by rfl, ?_⟩) HSD.out HCD.out ?_
        rotate_left
        · intro w' hSw
          try dsimp only at hSw
          go_simp
          try with_reducible rfl
        try simp only [Act.put, List.setIfInBounds_toArray, List.set_cons_zero, List.set_cons_succ]
        refine wpAnyT_take (i := 13) (v := ?_) (by simp only [List.getElem?_toArray, List.getElem?_cons_zero, List.getElem?_cons_succ]; rfl) (by kernel_rfl) (by kernel_rfl) (by kernel_rfl) (by kernel_rfl) (by intro _ _ _ h; exact h) (Or.inl ⟨by rfl, ?_⟩) HSD.out HCD.out ?_
        rotate_left
        · intro w' hSw
          try dsimp only at hSw
          go_simp
          try with_reducible rfl
        try simp only [Act.put, List.setIfInBounds_toArray, List.set_cons_zero, List.set_cons_succ]
        refine wpAnyT_take (i := 14) (v := ?_) (by simp only [List.getElem?_toArray, List.getElem?_cons_zero, List.getElem?_cons_succ]; rfl) (by kernel_rfl) (by kernel_rfl) (by kernel_rfl) (by kernel_rfl) (by intro _ _ _ h; exact h) (Or.inl ⟨by rfl, ?_⟩) HSD.out HCD.out ?_
        rotate_left
        · intro w' hSw
          try dsimp only at hSw
          go_simp
          try with_reducible rfl
        try simp only [Act.put, List.setIfInBounds_toArray, List.set_cons_zero, List.set_cons_succ]
        refine wpAnyT_take (i := 15) (v := ?_) (by simp only [List.getElem?_toArray, List.getElem?_cons_zero, List.getElem?_cons_succ]; rfl) (by kernel_rfl) (by kernel_rfl) (by kernel_rfl) (by kernel_rfl) (by intro _ _ _ h; exact h) (Or.inl ⟨by rfl, ?_⟩) HSD.out HCD.out ?_
        rotate_left
        · intro w' hSw
          try dsimp only at hSw
          go_simp
          try with_reducible rfl
        try simp only [Act.put, List.setIfInBounds_toArray, List.set_cons_zero, List.set_cons_succ]
        refine wpAnyT_one (i := 16) (by kernel_rfl) (wpOp_do (by simp only [List.getElem?_toArray, List.getElem?_cons_zero, List.getElem?_cons_succ]; rfl) fun K hK => ?_)
        go_simp
        refine hK _ _ ⟨⟨HS.out _ (HB1.out.1.kept (grownA_of (HD.out _)) (by simp)) (HA1.out.add (HD.out _)), fun _ => HCW.out _ (addB HCF.out (HD.out _))⟩, ?_⟩
        clear hK K
        try simp only [List.setIfInBounds_toArray, List.set_cons_zero, List.set_cons_succ]
        refine wpAnyT_one (i := 17) (by kernel_rfl) (wpOp_do (by simp only [List.getElem?_toArray, List.getElem?_cons_zero, List.getElem?_cons_succ]; rfl) fun K hK => ?_)
        refine step_append_lies _ rfl _ _ 25 rfl base 3 i0 (.int .i64 0) 1 8 Try.underlying25 hi0 hz0 hz1 hz2 rfl (by decide) (.slice ra l rc) l (((fromK A' k) x).map natv) rfl (World.ownsRow.alloc HOWN.out _) ⟨W2.heap.size, 0, none⟩ 1 1 [.int .i64 (2 * (k : Int))] rfl rfl (World.news_of_block (heap_alloc_new (World.drew W2) _)) (by intro u hu; simp at hu; rcases hu with rfl; rfl) (by decide) (by unfold maxLen; omega) (by omega) (by simp; omega) _ rfl ?_
        intro g6 cap6 w6 hown6 hgr6 hat6 hlt6
        have hA6 : ABox w6 ga1 x y z u := kept_ty (HA1.out.add (HD.out _)) (World.ownsRow.alloc HOWN.out _) hgr6 (by decide)
        have hB6 : CBox w6 gr (.slice (some ⟨ga, 0, none⟩) A'.length acap) sv2 (sl gf N) (sl gp N) (sl gx N) (sl gt N) := kept_ty (HB1.out.1.kept (grownA_of (HD.out _)) (by simp)) (World.ownsRow.alloc HOWN.out _) hgr6 (by decide)
        have hF6 := kept_ty (addB HCF.out (HD.out _)) (World.ownsRow.alloc HOWN.out _) hgr6 (by decide)
        have C6 := HCW.out _ hF6
        have f6 := frozen_of_row w6 gf x cf _ hF6
        refine hK _ _ ⟨⟨HS.out _ hB6 hA6, fun _ => C6⟩, ?_⟩
        clear hK K
        try simp only [Act.put, List.setIfInBounds_toArray, List.set_cons_zero, List.set_cons_succ]
        refine wpAnyT_one (i := 18) (by kernel_rfl) (wpOp_do (by simp only [List.getElem?_toArray, List.getElem?_cons_zero, List.getElem?_cons_succ]; rfl) fun K hK => ?_)
        go_simp
        refine hK _ _ ⟨⟨HS.out _ hB6 hA6, fun _ => C6⟩, ?_⟩
        clear hK K
        try simp only [List.setIfInBounds_toArray, List.set_cons_zero, List.set_cons_succ]
        refine wpAnyT_one (i := 19) (by kernel_rfl) (wpOp_do (by simp only [List.getElem?_toArray, List.getElem?_cons_zero, List.getElem?_cons_succ]; rfl) fun K hK => ?_)
        go_simp
        refine hK _ _ ⟨⟨HS.out _ (hB6.kept (grown_set w6 gf x _) (fun e => ty_ne hF6 hB6 (by decide) (Option.some.inj e))) ((heap_setCell_other w6 ⟨gf, x, none⟩ ga1 _ (ty_ne hA6 hF6 (by decide))).trans hA6), fun h => absurd (show true = false from h) (by decide)⟩, ?_⟩
        clear hK K
        try simp only [List.setIfInBounds_toArray, List.set_cons_zero, List.set_cons_succ]
        refine wpAnyT_done (by kernel_rfl) ?_ _
        have hlit : (Value.int .i64 (2 * (k : Int))) = natv (2 * k) := by unfold natv; rw [Int.natCast_mul]; rfl
        rw [hlit] at hown6
        rw [← HLEN.out] at hown6 hgr6 hat6
        have hbs3 := (HB1.out.add (HD.out _)).rows hxN (by rw [HLEN.out]; exact HCW.out _ (addB HCF.out (HD.out _))) hown6 hgr6 hat6
        rw [HLEN.out] at hbs3
        have hA3 : ABox (w6.setCell ⟨gf, x, none⟩ (.slice (some ⟨g6, 0, none⟩) (l + 1) cap6)) ga1 x y z u := (heap_setCell_other w6 ⟨gf, x, none⟩ ga1 _ (ty_ne hA6 hF6 (by decide))).trans hA6
        obtain ⟨W3, hW3⟩ : ∃ W3, W3 = w6.setCell ⟨gf, x, none⟩ (.slice (some ⟨g6, 0, none⟩) (l + 1) cap6) := ⟨_, rfl⟩
        rw [← hW3] at hbs3 hA3 ⊢
        clear hW3 hlit hA6 hB6 hF6 C6 f6 hown6 hgr6 hat6 hlt6 HS HSD HCD HCW HCF HOWN HD HB1 HA1 z1 z2 hsz R1 HLEN hl5 wk1 wk2 hbase
        obtain ⟨R2, hR2⟩ : ∃ R2 : Nat → List Nat, R2 = fun v => if v = x then fromK A' k x ++ [2 * k] else fromK A' k v := ⟨_, rfl⟩
        rw [← hR2] at hbs3
        have HR2 := Lib.hid hR2
        clear hR2
        go_wp2_with fail
        have wk1 : IntKind.i64.wrap (2 * (k : Int)) = 2 * (k : Int) := IntWalk.i64_in _ (by omega)
        have wk2 : IntKind.i64.wrap (2 * (k : Int) + 1) = 2 * (k : Int) + 1 := IntWalk.i64_in _ (by omega)
        have hsz := hbs3.1.lt
        have z1 := hbs3.1.lt
        have z2 := hA3.lt
        have hbase := hbs3.2.2.2.2.2.2.2.2.2.1
        obtain ⟨ra, rc, r1, r2, r3, r4, r5⟩ := hbs3.2.2.2.1.get hyN
        obtain ⟨cf, hcf, hcN, -⟩ := id hbs3.2.2.2.1
        have HCF := Lib.hid hcf
        obtain ⟨l, hl⟩ : ∃ l, (R2 y).length = l := ⟨_, rfl⟩
        have hl5 : l ≤ 6000 := by
          have := from_len2 A' k x y
          rw [← HR2.out] at this
          omega
        rw [hl] at r1 r2 r3
        have HLEN := Lib.hid hl
        have R1 := Lib.hid r1
        have HB1 := Lib.hid hbs3
        have HA1 := Lib.hid hA3
        have HOWN : Hid ((World.drew W3).ownsRow base 3 1 (.slice ra l rc) l ((R2 y).map natv)) := Lib.hid r2.drew
        have HD : Hid (∀ o, Add W3 ((World.drew W3).alloc o)) := Lib.hid fun o => Add.trans (b_drew (Below.refl _ _)) (add_new _ o)
        have HS : Hid (∀ W : World, CBox W gr (.slice (some ⟨ga, 0, none⟩) A'.length acap) sv2 (sl gf N) (sl gp N) (sl gx N) (sl gt N) → ABox W ga1 x y z u → W.cell? ⟨gr, 2, none⟩ = some (.slice (some ⟨gf, 0, none⟩) N N) ∧ W.cell? ⟨ga1, 1, none⟩ = some (.int .i64 (y : Nat))) := Lib.hid fun W h1 h2 => ⟨h1.c2, h2.c1⟩
        have HSD := Lib.hid (HS.out _ (hbs3.1.kept (grownA_of (b_drew (Below.refl _ _))) (by simp)) (hA3.add (b_drew (Below.refl _ _))))
        have HCD : Hid (W3.drew.cell? ⟨gf, y, none⟩ = some (.slice ra l rc)) := Lib.hid r1
        have HCW : Hid (∀ W : World, W.heap[gf]? = some (.cells cf 25 (0, 0)) → W.cell? ⟨gf, y, none⟩ = some (.slice ra l rc)) := Lib.hid fun W h => by
          rw [cell_of_row W gf y cf _ (0, 0) h, ← cell_of_row W3 gf y cf _ (0, 0) hcf]; exact r1
        clear hbs3 hA3 r1 r2 r3 r4 r5 hcf hcN hl
        refine wp_region_T (fun w' => w'.cell? ⟨gr, 2, none⟩ = some (.slice (some ⟨gf, 0, none⟩) N N) ∧ w'.cell? ⟨ga1, 1, none⟩ = some (.int .i64 (y : Nat))) (fun w' => w'.cell? ⟨gf, y, none⟩ = some (.slice ra l rc)) 20 (by kernel_rfl) ?_
        show wpAnyT _ _ _ _ _ _ _ 21 #[false, false, false, false, false, false, false, false, false, false, false, false, false, false, false, false, false, false, false, false, false] _ _
        refine wpAnyT_take (i := 0) (v := ?_) (by simp only [List.getElem?_toArray, List.getElem?_cons_zero]; rfl) (by kernel_rfl) (by kernel_rfl) (by kernel_rfl) (by kernel_rfl) (by intro _ _ _ h; exact h) (Or.inl ⟨by rfl, ?_⟩) HSD.out HCD.out ?_
        rotate_left
        · intro w' hSw
          try dsimp only at hSw
          go_simp
          try with_reducible rfl
        try simp only [Act.put, List.setIfInBounds_toArray, List.set_cons_zero, List.set_cons_succ]
        refine wpAnyT_take (i := 1) (v := ?_) (by simp only [List.getElem?_toArray, List.getElem?_cons_zero, List.getElem?_cons_succ]; rfl) (by kernel_rfl) (by kernel_rfl) (by kernel_rfl) (by kernel_rfl) (by intro _ _ _ h; exact h) (Or.inl ⟨by rfl, ?_⟩) HSD.out HCD.out ?_
        rotate_left
        · intro w' hSw
          try dsimp only at hSw
          go_simp
          try with_reducible rfl
        try simp only [Act.put, List.setIfInBounds_toArray, List.set_cons_zero, List.set_cons_succ]
        refine wpAnyT_take (i := 2) (v := ?_) (by simp only [List.getElem?_toArray, List.getElem?_cons_zero, List.getElem?_cons_succ]; rfl) (by kernel_rfl) (by kernel_rfl) (by kernel_rfl) (by kernel_rfl) (by intro _ _ _ h; exact h) (Or.inl ⟨by rfl, ?_⟩) HSD.out HCD.out ?_
        rotate_left
        · intro w' hSw
          try dsimp only at hSw
          go_simp
          try with_reducible rfl
        try simp only [Act.put, List.setIfInBounds_toArray, List.set_cons_zero, List.set_cons_succ]
        refine wpAnyT_take (i := 3) (v := ?_) (by simp only [List.getElem?_toArray, List.getElem?_cons_zero, List.getElem?_cons_succ]; rfl) (by kernel_rfl) (by kernel_rfl) (by kernel_rfl) (by kernel_rfl) (by intro _ _ _ h; exact h) (Or.inl ⟨by rfl, ?_⟩) HSD.out HCD.out ?_
        rotate_left
        · intro w' hSw
          try dsimp only at hSw
          go_simp
          try with_reducible rfl
        try simp only [Act.put, List.setIfInBounds_toArray, List.set_cons_zero, List.set_cons_succ]
        refine wpAnyT_take (i := 4) (v := ?_) (by simp only [List.getElem?_toArray, List.getElem?_cons_zero, List.getElem?_cons_succ]; rfl) (by kernel_rfl) (by kernel_rfl) (by kernel_rfl) (by kernel_rfl) (by intro _ _ _ h; exact h) (Or.inl ⟨by rfl, ?_⟩) HSD.out HCD.out ?_
        rotate_left
        · intro w' hSw
          try dsimp only at hSw
          go_simp
          try with_reducible rfl
        try simp only [Act.put, List.setIfInBounds_toArray, List.set_cons_zero, List.set_cons_succ]
        refine wpAnyT_take (i := 5) (v := ?_) (by simp only [List.getElem?_toArray, List.getElem?_cons_zero, List.getElem?_cons_succ]; rfl) (by kernel_rfl) (by kernel_rfl) (by kernel_rfl) (by kernel_rfl) (by intro _ _ _ h; exact h) (Or.inl ⟨by rfl, ?_⟩) HSD.out HCD.out ?_
        rotate_left
        · intro w' hSw
          try dsimp only at hSw
          go_simp
          try with_reducible rfl
        try simp only [Act.put, List.setIfInBounds_toArray, List.set_cons_zero, List.set_cons_succ]
        refine wpAnyT_take (i := 6) (v := ?_) (by simp only [List.getElem?_toArray, List.getElem?_cons_zero, List.getElem?_cons_succ]; rfl) (by kernel_rfl) (by kernel_rfl) (by kernel_rfl) (by kernel_rfl) (by intro _ _ _ h; exact h) (Or.inl ⟨by rfl, ?_⟩) HSD.out HCD.out ?_
        rotate_left
        · intro w' hSw
          try dsimp only at hSw
          go_simp
          try with_reducible rfl
        try simp only [Act.put, List.setIfInBounds_toArray, List.set_cons_zero, List.set_cons_succ]
        refine wpAnyT_take (i := 7) (v := ?_) (by simp only [List.getElem?_toArray, List.getElem?_cons_zero, List.getElem?_cons_succ]; rfl) (by kernel_rfl) (by kernel_rfl) (by kernel_rfl) (by kernel_rfl) (by intro _ _ _ h; exact h) (Or.inl ⟨by rfl, ?_⟩) HSD.out HCD.out ?_
        rotate_left
        · intro w' hSw
          try dsimp only at hSw
          go_simp
          try with_reducible rfl
        try simp only [Act.put, List.setIfInBounds_toArray, List.set_cons_zero, List.set_cons_succ]
        refine wpAnyT_take (i := 8) (v := ?_) (by simp only [List.getElem?_toArray, List.getElem?_cons_zero, List.getElem?_cons_succ]; rfl) (by kernel_rfl) (by kernel_rfl) (by kernel_rfl) (by kernel_rfl) (by intro _ _ _ h; exact h) (Or.inl ⟨by rfl, ?_⟩) HSD.out HCD.out ?_
        rotate_left
        · intro w' hSw
          try dsimp only at hSw
          go_simp
          try with_reducible rfl
        try simp only [Act.put, List.setIfInBounds_toArray, List.set_cons_zero, List.set_cons_succ]
        refine wpAnyT_take (i := 9) (v := ?_) (by simp only [List.getElem?_toArray, List.getElem?_cons_zero, List.getElem?_cons_succ]; rfl) (by kernel_rfl) (by kernel_rfl) (by kernel_rfl) (by kernel_rfl) (by intro _ _ _ h; exact h) (Or.inl ⟨by rfl, ?_⟩) HSD.out HCD.out ?_
        rotate_left
        · intro w' hSw
          try dsimp only at hSw
          go_simp
          try with_reducible rfl
        try simp only [Act.put, List.setIfInBounds_toArray, List.set_cons_zero, List.set_cons_succ]
        refine wpAnyT_take (i := 10) (v := ?_) (by simp only [List.getElem?_toArray, List.getElem?_cons_zero, List.getElem?_cons_succ]; rfl) (by kernel_rfl) (by kernel_rfl) (by kernel_rfl) (by kernel_rfl) (by intro _ _ _ h; exact h) (Or.inl ⟨by rfl, ?_⟩) HSD.out HCD.out ?_
        rotate_left
        · intro w' hSw
          try dsimp only at hSw
          go_simp
          try with_reducible rfl
        try simp only [Act.put, List.setIfInBounds_toArray, List.set_cons_zero, List.set_cons_succ]
        refine wpAnyT_take (i := 11) (v := ?_) (by simp only [List.getElem?_toArray, List.getElem?_cons_zero, List.getElem?_cons_succ]; rfl) (by kernel_rfl) (by kernel_rfl) (by kernel_rfl) (by kernel_rfl) (by intro _ _ _ h; exact h) (Or.inl ⟨by rfl, ?_⟩) HSD.out HCD.out ?_
        rotate_left
        · intro w' hSw
          try dsimp only at hSw
          go_simp
          try with_reducible rfl
        try simp only [Act.put, List.setIfInBounds_toArray, List.set_cons_zero, List.set_cons_succ]
        refine wpAnyT_take (i := 12) (v := ?_) (by simp only [List.getElem?_toArray, List.getElem?_cons_zero, List.getElem?_cons_succ]; rfl) (by kernel_rfl) (by kernel_rfl) (by kernel_rfl) (by kernel_rfl) (by intro _ _ _ h; exact h) (Or.inl ⟨by rfl, ?_⟩) HSD.out HCD.out ?_
        rotate_left
        · intro w' hSw
          try dsimp only at hSw
          go_simp
          try with_reducible rfl
        try simp only [Act.put, List.setIfInBounds_toArray, List.set_cons_zero, List.set_cons_succ]
        refine wpAnyT_take (i := 13) (v := ?_) (by simp only [List.getElem?_toArray, List.getElem?_cons_zero, List.getElem?_cons_succ]; rfl) (by kernel_rfl) (by kernel_rfl) (by kernel_rfl) (by kernel_rfl) (by intro _ _ _ h; exact h) (Or.inl ⟨by rfl, ?_⟩) HSD.out HCD.out ?_
        rotate_left
        · intro w' hSw
          try dsimp only at hSw
          go_simp
          try with_reducible rfl
        try simp only [Act.put, List.setIfInBounds_toArray, List.set_cons_zero, List.set_cons_succ]
        refine wpAnyT_take (i := 14) (v := ?_) (by simp only [List.getElem?_toArray, List.getElem?_cons_zero, List.getElem?_cons_succ]; rfl) (by kernel_rfl) (by kernel_rfl) (by kernel_rfl) (by kernel_rfl) (by intro _ _ _ h; exact h) (Or.inl ⟨by rfl, ?_⟩) HSD.out HCD.out ?_
        rotate_left
        · intro w' hSw
          try dsimp only at hSw
          go_simp
          try with_reducible rfl
        try simp only [Act.put, List.setIfInBounds_toArray, List.set_cons_zero, List.set_cons_succ]
        refine wpAnyT_take (i := 15) (v := ?_) (by simp only [List.getElem?_toArray, List.getElem?_cons_zero, List.getElem?_cons_succ]; rfl) (by kernel_rfl) (by kernel_rfl) (by kernel_rfl) (by kernel_rfl) (by intro _ _ _ h; exact h) (Or.inl ⟨by rfl, ?_⟩) HSD.out HCD.out ?_
        rotate_left
        · intro w' hSw
          try dsimp only at hSw
          go_simp
          try with_reducible rfl
        try simp only [Act.put, List.setIfInBounds_toArray, List.set_cons_zero, List.set_cons_succ]
        refine wpAnyT_take (i := 16) (v := ?_) (by simp only [List.getElem?_toArray, List.getElem?_cons_zero, List.getElem?_cons_succ]; rfl) (by kernel_rfl) (by kernel_rfl) (by kernel_rfl) (by kernel_rfl) (by intro _ _ _ h; exact h) (Or.inl ⟨by rfl, ?_⟩) HSD.out HCD.out ?_
        rotate_left
        · intro w' hSw
          try dsimp only at hSw
          go_simp
          try with_reducible rfl
        try simp only [Act.put, List.setIfInBounds_toArray, List.set_cons_zero, List.set_cons_succ]
        refine wpAnyT_one (i := 17) (by kernel_rfl) (wpOp_do (by simp only [List.getElem?_toArray, List.getElem?_cons_zero, List.getElem?_cons_succ]; rfl) fun K hK => ?_)
        go_simp
        refine hK _ _ ⟨⟨HS.out _ (HB1.out.1.kept (grownA_of (HD.out _)) (by simp)) (HA1.out.add (HD.out _)), fun _ => HCW.out _ (addB HCF.out (HD.out _))⟩, ?_⟩
        clear hK K
        try simp only [List.setIfInBounds_toArray, List.set_cons_zero, List.set_cons_succ]
        refine wpAnyT_one (i := 18) (by kernel_rfl) (wpOp_do (by simp only [List.getElem?_toArray, List.getElem?_cons_zero, List.getElem?_cons_succ]; rfl) fun K hK => ?_)
        refine step_append_lies _ rfl _ _ 25 rfl base 3 i0 (.int .i64 0) 1 8 Try.underlying25 hi0 hz0 hz1 hz2 rfl (by decide) (.slice ra l rc) l ((R2 y).map natv) rfl (World.ownsRow.alloc HOWN.out _) ⟨W3.heap.size, 0, none⟩ 1 1 [.int .i64 (2 * (k : Int) + 1)] rfl rfl (World.news_of_block (heap_alloc_new (World.drew W3) _)) (by intro u hu; simp at hu; rcases hu with rfl; rfl) (by decide) (by unfold maxLen; omega) (by omega) (by simp; omega) _ rfl ?_
        intro g6 cap6 w6 hown6 hgr6 hat6 hlt6
        have hA6 : ABox w6 ga1 x y z u := kept_ty (HA1.out.add (HD.out _)) (World.ownsRow.alloc HOWN.out _) hgr6 (by decide)
        have hB6 : CBox w6 gr (.slice (some ⟨ga, 0, none⟩) A'.length acap) sv2 (sl gf N) (sl gp N) (sl gx N) (sl gt N) := kept_ty (HB1.out.1.kept (grownA_of (HD.out _)) (by simp)) (World.ownsRow.alloc HOWN.out _) hgr6 (by decide)
        have hF6 := kept_ty (addB HCF.out (HD.out _)) (World.ownsRow.alloc HOWN.out _) hgr6 (by decide)
        have C6 := HCW.out _ hF6
        have f6 := frozen_of_row w6 gf y cf _ hF6
        refine hK _ _ ⟨⟨HS.out _ hB6 hA6, fun _ => C6⟩, ?_⟩
        clear hK K
        try simp only [Act.put, List.setIfInBounds_toArray, List.set_cons_zero, List.set_cons_succ]
        refine wpAnyT_one (i := 19) (by kernel_rfl) (wpOp_do (by simp only [List.getElem?_toArray, List.getElem?_cons_zero, List.getElem?_cons_succ]; rfl) fun K hK => ?_)
        go_simp
        refine hK _ _ ⟨⟨HS.out _ hB6 hA6, fun _ => C6⟩, ?_⟩
        clear hK K
        try simp only [List.setIfInBounds_toArray, List.set_cons_zero, List.set_cons_succ]
        refine wpAnyT_one (i := 20) (by kernel_rfl) (wpOp_do (by simp only [List.getElem?_toArray, List.getElem?_cons_zero, List.getElem?_cons_succ]; rfl) fun K hK => ?_)
        go_simp
        refine hK _ _ ⟨⟨HS.out _ (hB6.kept (grown_set w6 gf y _) (fun e => ty_ne hF6 hB6 (by decide) (Option.some.inj e))) ((heap_setCell_other w6 ⟨gf, y, none⟩ ga1 _ (ty_ne hA6 hF6 (by decide))).trans hA6), fun h => absurd (show true = false from h) (by decide)⟩, ?_⟩
        clear hK K
        try simp only [List.setIfInBounds_toArray, List.set_cons_zero, List.set_cons_succ]
        refine wpAnyT_done (by kernel_rfl) ?_ _
        have hlit : (Value.int .i64 (2 * (k : Int) + 1)) = natv (2 * k + 1) := by unfold natv; rw [Int.natCast_add, Int.natCast_mul]; rfl
        rw [hlit] at hown6
        rw [← HLEN.out] at hown6 hgr6 hat6
        have hbs4 := (HB1.out.add (HD.out _)).rows hyN (by rw [HLEN.out]; exact HCW.out _ (addB HCF.out (HD.out _))) hown6 hgr6 hat6
        rw [HLEN.out] at hbs4
        have hR3 : (fun v => if v = y then R2 y ++ [2 * k + 1] else R2 v) = fromK A' (k + 1) := by
          rw [fromK_succ A' k HX.out, HR2.out]
        rw [hR3] at hbs4
        have HB4 := Lib.hid hbs4
        clear hR3 hbs4 hlit hA6 hB6 hF6 C6 f6 hown6 hgr6 hat6 hlt6 HS HSD HCD HCW HCF HOWN HD HB1 HA1 z1 z2 hsz R1 HLEN hl5 wk1 wk2 hbase
        go_wp2_with fail
        go_roundw
        case rel => exact ⟨k + 1, sv2, by omega, by go_num, HB4⟩
        case measure => simp [intOf]; omega
      · obtain rfl : k = m' := by omega
        have hB := hbs.out
        rw [HM'.out] at hB
        obtain ⟨ga2, gs2, hC⟩ := hB.done hAl
        have HM0 : Hid (DigM w wr A' N gr ga2 gs2 gf gp gx gt (.slice (some ⟨ga, 0, none⟩) A'.length acap) sv 32) := Lib.hid ⟨_, _, _, _, DigI.start HC.out, hC.congr fun j hj => (by
          have := HC.out.cap (j / 2) (by omega)
          have e : (List.replicate A'.length (0 : Int)).getD (j / 2) 0 = 0 := by simp [List.getD, show j / 2 < A'.length by omega]
          unfold roomS
          rw [e, Ad_at]
          have e2 : (shA 32 (at' A' (j / 2))).2.2.1 = 0 := by
            show (at' A' (j / 2)).2.2.1 / 2 ^ 32 = 0
            omega
          rw [e2]
          split <;> rfl), fun x hx => by simp [List.getD, hx]⟩
        clear hB hC hbs
        go_wp2_with fail
        go_loopw [9] (fun dv wr => ∃ e : Nat, e ≤ 32 ∧ dv = .int .i64 ((e : Int) - 1) ∧ Hid (DigM w wr A' N gr ga2 gs2 gf gp gx gt (.slice (some ⟨ga, 0, none⟩) A'.length acap) sv e)) (fun dv _ => (intOf dv + 1).toNat)
        case atStart => exact ⟨32, Nat.le_refl _, rfl, HM0⟩
        case round =>
          clear HM0
          obtain ⟨e, he, rfl, HM⟩ := hrel
          cases e with
          | zero =>
            have HF : Hid (CheapP w A' N (.returned (.pointer (some ⟨gr, 0, none⟩))) wr) := Lib.hid (by
              obtain ⟨F, P, X, T, k1, k2, k3⟩ := HM.out
              rw [Ad_zero] at k2
              exact ⟨gr, ga2, gs2, gf, gp, gx, gt, _, _, F, P, X, T, rfl, k2, k1⟩)
            clear HM
            go_wp2_with fail
            go_ret
            exact HF.out
          | succ d =>
            have CREF : Hid (Calls Try.prog 49 #[.pointer (some ⟨gr, 0, none⟩), .int .i64 d] wr fun e w' => e = .returned (.tuple #[]) ∧ ∃ F X P T, BalI A' N d (-(((31 : Int) - d) * 4200000)) F X P ∧ CB w w' A' (Ad A' d) N gr ga2 gs2 gf gp gx gt (.slice (some ⟨ga, 0, none⟩) A'.length acap) sv (roomS (Ad A' d) F) P X T) := Lib.hid (by
              obtain ⟨F, P, X, T, k1, k2, k3⟩ := HM.out
              refine (refine_any k2 k1 HC.out k3).mono ?_
              rintro e w' ⟨rfl, X', q1, q2⟩
              exact ⟨rfl, refF A' P F d, X', P, T, k1.refine HC.out q1.2.2.2.2.2.2.2.2.1 q2, (q1.congr fun j hj => refR_all hj).up d⟩)
            have CBAL : Hid (∀ w1, (∃ F X P T, BalI A' N d (-(((31 : Int) - d) * 4200000)) F X P ∧ CB w w1 A' (Ad A' d) N gr ga2 gs2 gf gp gx gt (.slice (some ⟨ga, 0, none⟩) A'.length acap) sv (roomS (Ad A' d) F) P X T) →
                Calls Try.prog 50 #[.pointer (some ⟨gr, 0, none⟩)] w1 fun e w' => e = .returned (.tuple #[]) ∧ DigM w w' A' N gr ga2 gs2 gf gp gx gt (.slice (some ⟨ga, 0, none⟩) A'.length acap) sv d) := Lib.hid fun w1 ⟨F, X, P, T, q1, q2⟩ => by
              refine (balance_any q2 q1 HC.out hN0).mono ?_
              rintro e w' ⟨rfl, F', X', P', T', q3, q4, q5⟩
              obtain ⟨q6, q7⟩ := q3.done HC.out (by omega) q4
              exact ⟨rfl, F', P', X', T', q6, q5.dn, q7⟩
            have hde : (((d + 1 : Nat) : Int) - 1) = (d : Int) := by omega
            rw [hde]
            clear HM hde
            go_wp2_with (first | (go_at_call 49; refine CREF.out.mono ?_; rintro e w1 ⟨rfl, k1⟩; have HK1 := Lib.hid k1; clear k1) | (go_at_call 50; refine (CBAL.out _ HK1.out).mono ?_; rintro e w2 ⟨rfl, k2⟩; have HK2 := Lib.hid k2; clear k2))
            go_roundw
            case rel => exact ⟨d, by omega, by first | rfl | go_num, HK2⟩
            case measure => simp [intOf]

end Go.Proofs.Ytaoibakbnimnkaa
