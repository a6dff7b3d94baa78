/- Package maxflow: residualOf (made by gen/pres.py). -/
import Derived.Test.YtaoibakbnimnkaaJF
import Derived.Deep.LoopGhost
import Derived.Deep.CutRange
namespace Go.Proofs.Ytaoibakbnimnkaa
open Go.RowKit NetM

theorem made_ab {w1 : World} {N : Nat} {ZB ZI : Array Value} (hB : ZB = (List.replicate N (Value.slice none 0 0)).toArray) (hI : ZI = ((List.replicate N (0 : Int)).map iv).toArray) :
    ((w1.alloc (.cells ZB 25)).alloc (.cells ZI 3)).heap[w1.heap.size]? = some (.cells (List.replicate N (Value.slice none 0 0)).toArray 25 (0, 0)) ∧ IBlk ((w1.alloc (.cells ZB 25)).alloc (.cells ZI 3)) (w1.heap.size + 1) (List.replicate N 0) := by
  subst hB hI
  refine ⟨addB (heap_alloc_new w1 _) (add_new _ _), ?_⟩
  have := heap_alloc_new (w1.alloc (.cells (List.replicate N (Value.slice none 0 0)).toArray 25)) (.cells ((List.replicate N (0 : Int)).map iv).toArray 3)
  rwa [show (w1.alloc (.cells (List.replicate N (Value.slice none 0 0)).toArray 25)).heap.size = w1.heap.size + 1 by simp] at this
theorem made_ba {w1 : World} {N : Nat} {ZB ZI : Array Value} (hB : ZB = (List.replicate N (Value.slice none 0 0)).toArray) (hI : ZI = ((List.replicate N (0 : Int)).map iv).toArray) :
    ((w1.alloc (.cells ZI 3)).alloc (.cells ZB 25)).heap[w1.heap.size + 1]? = some (.cells (List.replicate N (Value.slice none 0 0)).toArray 25 (0, 0)) ∧ IBlk ((w1.alloc (.cells ZI 3)).alloc (.cells ZB 25)) w1.heap.size (List.replicate N 0) := by
  subst hB hI
  refine ⟨?_, addB (heap_alloc_new w1 _) (add_new _ _)⟩
  have := heap_alloc_new (w1.alloc (.cells ((List.replicate N (0 : Int)).map iv).toArray 3)) (.cells (List.replicate N (Value.slice none 0 0)).toArray 25)
  rwa [show (w1.alloc (.cells ((List.replicate N (0 : Int)).map iv).toArray 3)).heap.size = w1.heap.size + 1 by simp] at this

theorem start_ab {w : World} {A : List Arc} {N s t : Nat} {a : Option Addr} {m c : Nat} {ZB ZI : Array Value} (hB : ZB = (List.replicate N (Value.slice none 0 0)).toArray) (hI : ZI = ((List.replicate N (0 : Int)).map iv).toArray) :
    BS w ((((w.alloc (.cells #[.int .i64 N, .int .i64 s, .int .i64 t, .slice a m c] 24)).alloc (.cells ZB 25)).alloc (.cells ZI 3)).alloc
      (.cells #[.int .i64 s, .int .i64 t, .slice none 0 0, .slice (some ⟨w.heap.size + 1, 0, none⟩) N N, .slice none 0 0, .slice (some ⟨w.heap.size + 1 + 1, 0, none⟩) N N] 80)).drew A N s t a m c (w.heap.size + 1 + 1 + 1) (w.heap.size + 1) (w.heap.size + 1 + 1) 0 (.slice none 0 0) (fromK A 0) := by
  obtain ⟨w1, hw1⟩ : ∃ w1, w1 = w.alloc (.cells #[.int .i64 N, .int .i64 s, .int .i64 t, .slice a m c] 24) := ⟨_, rfl⟩
  have e1 : w1.heap.size = w.heap.size + 1 := by rw [hw1]; simp
  obtain ⟨k1, k2⟩ := made_ab (w1 := w1) hB hI
  rw [e1] at k1 k2
  have hn : NBox w1 w.heap.size N s t a m c := by rw [hw1]; exact nbox_new w N s t a m c
  have := bs_start (A := A) hn (by rw [hw1]; exact add_new _ _) (Add.trans (add_new w1 (.cells ZB 25)) (add_new _ (.cells ZI 3))) k1 k2 (by omega) (by omega)
  rw [show ((w1.alloc (.cells ZB 25)).alloc (.cells ZI 3)).heap.size = w.heap.size + 1 + 1 + 1 by simp; omega, hw1] at this
  exact this
theorem start_ba {w : World} {A : List Arc} {N s t : Nat} {a : Option Addr} {m c : Nat} {ZB ZI : Array Value} (hB : ZB = (List.replicate N (Value.slice none 0 0)).toArray) (hI : ZI = ((List.replicate N (0 : Int)).map iv).toArray) :
    BS w ((((w.alloc (.cells #[.int .i64 N, .int .i64 s, .int .i64 t, .slice a m c] 24)).alloc (.cells ZI 3)).alloc (.cells ZB 25)).alloc
      (.cells #[.int .i64 s, .int .i64 t, .slice none 0 0, .slice (some ⟨w.heap.size + 1 + 1, 0, none⟩) N N, .slice none 0 0, .slice (some ⟨w.heap.size + 1, 0, none⟩) N N] 80)).drew A N s t a m c (w.heap.size + 1 + 1 + 1) (w.heap.size + 1 + 1) (w.heap.size + 1) 0 (.slice none 0 0) (fromK A 0) := by
  obtain ⟨w1, hw1⟩ : ∃ w1, w1 = w.alloc (.cells #[.int .i64 N, .int .i64 s, .int .i64 t, .slice a m c] 24) := ⟨_, rfl⟩
  have e1 : w1.heap.size = w.heap.size + 1 := by rw [hw1]; simp
  obtain ⟨k1, k2⟩ := made_ba (w1 := w1) hB hI
  rw [e1] at k1 k2
  have hn : NBox w1 w.heap.size N s t a m c := by rw [hw1]; exact nbox_new w N s t a m c
  have := bs_start (A := A) hn (by rw [hw1]; exact add_new _ _) (Add.trans (add_new w1 (.cells ZI 3)) (add_new _ (.cells ZB 25))) k1 k2 (by omega) (by omega)
  rw [show ((w1.alloc (.cells ZI 3)).alloc (.cells ZB 25)).heap.size = w.heap.size + 1 + 1 + 1 by simp; omega, hw1] at this
  exact this

theorem from_len (A : List Arc) (k x : Nat) : (fromK A k x).length ≤ 2 * k := by
  unfold fromK
  exact Nat.le_trans (List.length_filter_le _ _) (by simp)
theorem from_len2 (A : List Arc) (k x y : Nat) : ((fun v => if v = x then fromK A k x ++ [2 * k] else fromK A k v) y).length ≤ 2 * k + 1 := by
  have h1 := from_len A k x
  have h2 := from_len A k y
  dsimp only
  split
  · rw [List.length_append, List.length_singleton]; omega
  · omega
set_option maxRecDepth 100000 in
set_option maxHeartbeats 8000000 in
theorem residualOf_any {w : World} {v : Value} {N s t : Nat} {A : List Arc} (h : NetA w v N s t A) (hv : VNet N s t A) : Calls Try.prog 43 #[v] w (ResOfP w A N s t) := by
  obtain ⟨i0, hi0, hz0, hz1, hz2⟩ := info_parts infoInt
  obtain ⟨i1, hi1, hy0, hy1, hy2⟩ := info_parts infoInts
  obtain ⟨i2, hi2, hq0, hq1, hq2⟩ := info_parts infoStep
  obtain ⟨va, rfl, ha⟩ := h
  obtain ⟨a, m, c, rfl, hl, hc, hm, -⟩ := id ha
  have HV := Lib.hid hv
  have HAR := Lib.hid ha
  have HL := Lib.hid hl
  obtain ⟨-, hs, ht, hst, hN, hN2, hm2⟩ := hv
  rw [hl] at hm2
  unfold maxLen at hm
  clear hl ha
  have mkB := fun w => make_run24 (e := 25) (t := 58) (z := .slice none 0 0) Try.underlying58 hi1 hy0 hy1 hy2 rfl (by decide) N hN2 w
  have mkI := fun w => make_run24 (e := 3) (t := 25) (z := .int .i64 0) Try.underlying25 hi0 hz0 hz1 hz2 rfl (by decide) N hN2 w
  obtain ⟨ZB, hZB⟩ : ∃ Z, Z = (List.replicate N (Value.slice none 0 0)).toArray := ⟨_, rfl⟩
  obtain ⟨ZI, hZI⟩ : ∃ Z, Z = (List.replicate N (Value.int .i64 0)).toArray := ⟨_, rfl⟩
  rw [← hZB] at mkB
  rw [← hZI] at mkI
  have HZB := Lib.hid hZB
  have HZI : Hid (ZI = ((List.replicate N (0 : Int)).map iv).toArray) := Lib.hid (by rw [hZI, List.map_replicate]; rfl)
  clear hZB hZI hi1 hy0 hy1 hy2
  have HI0 := Lib.hid (And.intro hi0 (And.intro hz0 (And.intro hz1 hz2)))
  have HI2 := Lib.hid (And.intro hi2 (And.intro hq0 (And.intro hq1 hq2)))
  clear hi0 hz0 hz1 hz2 hi2 hq0 hq1 hq2
  have B1 := Lib.hid (nbox_new w N s t a m c)
  have T1 := Lib.hid (add_new w (.cells #[.int .i64 N, .int .i64 s, .int .i64 t, .slice a m c] 24))
  go_enter Try.func43, Try.ntmps43
  go_wp2_with fail
  go_cut [3] from 6 (fun p wx => ∃ gr gf gd, p = .pointer (some ⟨gr, 0, none⟩) ∧ BS w wx A N s t a m c gr gf gd 0 (.slice none 0 0) (fromK A 0))
  case first =>
    go_region
    all_goals go_wp2_with fail
    all_goals go_meet
    · exact ⟨_, _, _, rfl, start_ab HZB.out HZI.out⟩
    · exact ⟨_, _, _, rfl, start_ba HZB.out HZI.out⟩
  case rest =>
    obtain ⟨gr, gf, gd, rfl, hbs⟩ := hcut
    clear mkB mkI HZB HZI B1 T1
    obtain ⟨hi0, hz0, hz1, hz2⟩ := HI0.out
    obtain ⟨hi2, hq0, hq1, hq2⟩ := HI2.out
    have b3 := hbs.1.c3
    have HS0 := Lib.hid hbs
    clear hbs
    have HI0' := Lib.hid hi0
    have HI2' := Lib.hid hi2
    go_wp2_with fail
    clear b3
    go_loopw [21] (fun i wr => ∃ (k : Nat) (sv : Value), k ≤ m ∧ i = .int .i64 k ∧ Hid (BS w wr A N s t a m c gr gf gd k sv (fromK A k))) (fun i _ => m - (intOf i).toNat)
    case atStart => exact ⟨0, _, Nat.zero_le _, rfl, HS0⟩
    case round =>
      clear HS0
      obtain ⟨k, sv, hk, rfl, hbs⟩ := hrel
      by_cases hlt : k < m
      · obtain ⟨b, off, rfl, q0, q1, q2, q3⟩ := (HAR.out.add hbs.out.2.2.2.2.2.1).cell hlt
        obtain ⟨x, y, z, u, hx, hxN, hyN, hz0', hz1'⟩ := HV.out.at (k := k) (by rw [HL.out]; exact hlt)
        rw [hx] at q0 q1 q2 q3
        dsimp only at q0 q1 q2 q3
        have HX := Lib.hid hx
        have hW1b := hbs.out.add (add_new wr (.cells #[.int .i64 (x : Nat), .int .i64 (y : Nat), .int .i64 z, .int .i64 u] 35))
        have hA1 := abox_new wr (x : Nat) (y : Nat) z u
        clear hx hz0' hz1'
        go_upto_region 5 with fail
        obtain ⟨ga, hga⟩ : ∃ ga, ga = wr.heap.size := ⟨_, rfl⟩
        obtain ⟨W1, hW1⟩ : ∃ W1, W1 = wr.alloc (.cells #[.int .i64 (x : Nat), .int .i64 (y : Nat), .int .i64 z, .int .i64 u] 35) := ⟨_, rfl⟩
        rw [← hW1] at hW1b hA1 ⊢
        rw [← hga] at hA1 ⊢
        have HB1 := Lib.hid hW1b
        have HA1 := Lib.hid hA1
        have hsz := hW1b.1.lt
        have HOWN : Hid ((World.drew W1).ownsRow (w.heap.size + 1) 82 2 sv (2 * k) (cellsS A (2 * k))) := Lib.hid hW1b.2.2.1.drew
        have HD : Hid (∀ o, Add W1 ((World.drew W1).alloc o)) := Lib.hid fun o => Add.trans (b_drew (Below.refl _ _)) (add_new _ o)
        have HS : Hid (∀ W : World, ABox W ga x y z u → W.cell? ⟨ga, 0, none⟩ = some (.int .i64 (x : Nat)) ∧ W.cell? ⟨ga, 1, none⟩ = some (.int .i64 (y : Nat)) ∧ W.cell? ⟨ga, 2, none⟩ = some (.int .i64 z)) := Lib.hid fun W h => ⟨h.c0, h.c1, h.c2⟩
        have HSD := Lib.hid (HS.out _ (hA1.add (b_drew (Below.refl _ _))))
        have HCD : Hid (W1.drew.cell? ⟨gr, 2, none⟩ = some sv) := Lib.hid (hW1b.2.1.kept (grownA_of (b_drew (Below.refl _ _))) (by simp)).c2
        have z1 := hW1b.2.1.lt
        have z2 := hA1.lt
        clear hW1 hga hW1b hA1 q0 q1 q2 q3 hbs
        refine wp_region_T (fun w' => w'.cell? ⟨ga, 0, none⟩ = some (.int .i64 (x : Nat)) ∧ w'.cell? ⟨ga, 1, none⟩ = some (.int .i64 (y : Nat)) ∧ w'.cell? ⟨ga, 2, none⟩ = some (.int .i64 z)) (fun w' => w'.cell? ⟨gr, 2, none⟩ = some sv) 17 (by kernel_rfl) ?_
        show wpAnyT _ _ _ _ _ _ _ 18 #[false, false, false, false, false, false, false, false, false, false, false, false, false, false, false, false, false, false] _ _
        refine wpAnyT_take (i := 0) (v := ?_) (by simp only [List.getElem?_toArray, List.getElem?_cons_zero]; rfl) (by kernel_rfl) (by kernel_rfl) (by kernel_rfl) (by kernel_rfl) (by intro _ _ _ h; exact h) (Or.inl ⟨by rfl, ?_⟩) HSD.out HCD.out ?_
        rotate_left
        · intro w' hSw
          try dsimp only at hSw
          go_simp
          try with_reducible rfl
        try simp only [Act.put, List.setIfInBounds_toArray, List.set_cons_zero, List.set_cons_succ]
        refine wpAnyT_take (i := 1) (v := ?_) (by simp only [List.getElem?_toArray, List.getElem?_cons_zero, List.getElem?_cons_succ]; rfl) (by kernel_rfl) (by kernel_rfl) (by kernel_rfl) (by kernel_rfl) (by intro _ _ _ h; exact h) (Or.inl ⟨by rfl, ?_⟩) HSD.out HCD.out ?_
        rotate_left
        · intro w' hSw
          try dsimp only at hSw
          go_simp
          try with_reducible rfl
        try simp only [Act.put, List.setIfInBounds_toArray, List.set_cons_zero, List.set_cons_succ]
        refine wpAnyT_take (i := 2) (v := ?_) (by simp only [List.getElem?_toArray, List.getElem?_cons_zero, List.getElem?_cons_succ]; rfl) (by kernel_rfl) (by kernel_rfl) (by kernel_rfl) (by kernel_rfl) (by intro _ _ _ h; exact h) (Or.inl ⟨by rfl, ?_⟩) HSD.out HCD.out ?_
        rotate_left
        · intro w' hSw
          try dsimp only at hSw
          go_simp
          try with_reducible rfl
        try simp only [Act.put, List.setIfInBounds_toArray, List.set_cons_zero, List.set_cons_succ]
        refine wpAnyT_take (i := 3) (v := ?_) (by simp only [List.getElem?_toArray, List.getElem?_cons_zero, List.getElem?_cons_succ]; rfl) (by kernel_rfl) (by kernel_rfl) (by kernel_rfl) (by kernel_rfl) (by intro _ _ _ h; exact h) (Or.inl ⟨by rfl, ?_⟩) HSD.out HCD.out ?_
        rotate_left
        · intro w' hSw
          try dsimp only at hSw
          go_simp
          try with_reducible rfl
        try simp only [Act.put, List.setIfInBounds_toArray, List.set_cons_zero, List.set_cons_succ]
        refine wpAnyT_take (i := 4) (v := ?_) (by simp only [List.getElem?_toArray, List.getElem?_cons_zero, List.getElem?_cons_succ]; rfl) (by kernel_rfl) (by kernel_rfl) (by kernel_rfl) (by kernel_rfl) (by intro _ _ _ h; exact h) (Or.inl ⟨by rfl, ?_⟩) HSD.out HCD.out ?_
        rotate_left
        · intro w' hSw
          try dsimp only at hSw
          go_simp
          try with_reducible rfl
        try simp only [Act.put, List.setIfInBounds_toArray, List.set_cons_zero, List.set_cons_succ]
        refine wpAnyT_take (i := 5) (v := ?_) (by simp only [List.getElem?_toArray, List.getElem?_cons_zero, List.getElem?_cons_succ]; rfl) (by kernel_rfl) (by kernel_rfl) (by kernel_rfl) (by kernel_rfl) (by intro _ _ _ h; exact h) (Or.inl ⟨by rfl, ?_⟩) HSD.out HCD.out ?_
        rotate_left
        · intro w' hSw
          try dsimp only at hSw
          go_simp
          try with_reducible rfl
        try simp only [Act.put, List.setIfInBounds_toArray, List.set_cons_zero, List.set_cons_succ]
        refine wpAnyT_take (i := 6) (v := ?_) (by simp only [List.getElem?_toArray, List.getElem?_cons_zero, List.getElem?_cons_succ]; rfl) (by kernel_rfl) (by kernel_rfl) (by kernel_rfl) (by kernel_rfl) (by intro _ _ _ h; exact h) (Or.inl ⟨by rfl, ?_⟩) HSD.out HCD.out ?_
        rotate_left
        · intro w' hSw
          try dsimp only at hSw
          go_simp
          try with_reducible rfl
        try simp only [Act.put, List.setIfInBounds_toArray, List.set_cons_zero, List.set_cons_succ]
        refine wpAnyT_take (i := 7) (v := ?_) (by simp only [List.getElem?_toArray, List.getElem?_cons_zero, List.getElem?_cons_succ]; rfl) (by kernel_rfl) (by kernel_rfl) (by kernel_rfl) (by kernel_rfl) (by intro _ _ _ h; exact h) (Or.inl ⟨by rfl, ?_⟩) HSD.out HCD.out ?_
        rotate_left
        · intro w' hSw
          try dsimp only at hSw
          go_simp
          try with_reducible rfl
        try simp only [Act.put, List.setIfInBounds_toArray, List.set_cons_zero, List.set_cons_succ]
        refine wpAnyT_take (i := 8) (v := ?_) (by simp only [List.getElem?_toArray, List.getElem?_cons_zero, List.getElem?_cons_succ]; rfl) (by kernel_rfl) (by kernel_rfl) (by kernel_rfl) (by kernel_rfl) (by intro _ _ _ h; exact h) (Or.inl ⟨by rfl, ?_⟩) HSD.out HCD.out ?_
        rotate_left
        · intro w' hSw
          try dsimp only at hSw
          go_simp
          try with_reducible rfl
        try simp only [Act.put, List.setIfInBounds_toArray, List.set_cons_zero, List.set_cons_succ]
        refine wpAnyT_take (i := 9) (v := ?_) (by simp only [List.getElem?_toArray, List.getElem?_cons_zero, List.getElem?_cons_succ]; rfl) (by kernel_rfl) (by kernel_rfl) (by kernel_rfl) (by kernel_rfl) (by intro _ _ _ h; exact h) (Or.inl ⟨by rfl, ?_⟩) HSD.out HCD.out ?_
        rotate_left
        · intro w' hSw
          try dsimp only at hSw
          go_simp
          try with_reducible rfl
        try simp only [Act.put, List.setIfInBounds_toArray, List.set_cons_zero, List.set_cons_succ]
        refine wpAnyT_take (i := 10) (v := ?_) (by simp only [List.getElem?_toArray, List.getElem?_cons_zero, List.getElem?_cons_succ]; rfl) (by kernel_rfl) (by kernel_rfl) (by kernel_rfl) (by kernel_rfl) (by intro _ _ _ h; exact h) (Or.inl ⟨by rfl, ?_⟩) HSD.out HCD.out ?_
        rotate_left
        · intro w' hSw
          try dsimp only at hSw
          go_simp
          try with_reducible rfl
        try simp only [Act.put, List.setIfInBounds_toArray, List.set_cons_zero, List.set_cons_succ]
        refine wpAnyT_take (i := 11) (v := ?_) (by simp only [List.getElem?_toArray, List.getElem?_cons_zero, List.getElem?_cons_succ]; rfl) (by kernel_rfl) (by kernel_rfl) (by kernel_rfl) (by kernel_rfl) (by intro _ _ _ h; exact h) (Or.inl ⟨by rfl, ?_⟩) HSD.out HCD.out ?_
        rotate_left
        · intro w' hSw
          try dsimp only at hSw
          go_simp
          try with_reducible rfl
        try simp only [Act.put, List.setIfInBounds_toArray, List.set_cons_zero, List.set_cons_succ]
        refine wpAnyT_take (i := 12) (v := ?_) (by simp only [List.getElem?_toArray, List.getElem?_cons_zero, List.getElem?_cons_succ]; rfl) (by kernel_rfl) (by kernel_rfl) (by kernel_rfl) (by kernel_rfl) (by intro _ _ _ h; exact h) (Or.inl ⟨by rfl, ?_⟩) HSD.out HCD.out ?_
        rotate_left
        · intro w' hSw
          try dsimp only at hSw
          go_simp
          try with_reducible rfl
        try simp only [Act.put, List.setIfInBounds_toArray, List.set_cons_zero, List.set_cons_succ]
        refine wpAnyT_one (i := 13) (by kernel_rfl) (wpOp_do (by simp only [List.getElem?_toArray, List.getElem?_cons_zero, List.getElem?_cons_succ]; rfl) fun K hK => ?_)
        go_simp
        refine hK _ _ ⟨⟨HS.out _ (HA1.out.add (HD.out _)), fun _ => (HB1.out.2.1.kept (grownA_of (HD.out _)) (by simp)).c2⟩, ?_⟩
        clear hK K
        try simp only [List.setIfInBounds_toArray, List.set_cons_zero, List.set_cons_succ]
        refine wpAnyT_one (i := 14) (by kernel_rfl) (wpOp_do (by simp only [List.getElem?_toArray, List.getElem?_cons_zero, List.getElem?_cons_succ]; rfl) fun K hK => ?_)
        refine step_append_lies _ rfl _ _ 78 rfl (w.heap.size + 1) 82 i2 (.agg #[.int .i64 0, .int .i64 0]) 2 16 Try.underlying78 hi2 hq0 hq1 hq2 rfl (by decide) sv (2 * k) (cellsS A (2 * k)) rfl (World.ownsRow.alloc HOWN.out _) ⟨W1.heap.size, 0, none⟩ 2 2 [.int .i64 (y : Nat), .int .i64 z, .int .i64 (x : Nat), .int .i64 0] rfl rfl (World.news_of_block (heap_alloc_new (World.drew W1) _)) (by intro u hu; simp at hu; rcases hu with rfl | rfl | rfl | rfl <;> rfl) (by decide) (by unfold maxLen; omega) (by omega) (by simp; omega) _ rfl ?_
        intro g6 cap6 w6 hown6 hgr6 hat6 hlt6
        have hA6 : ABox w6 ga x y z u := kept_ty (HA1.out.add (HD.out _)) (World.ownsRow.alloc HOWN.out _) hgr6 (by decide)
        have hB6 : RBox w6 gr s t sv (.slice (some ⟨gf, 0, none⟩) N N) (.slice none 0 0) (.slice (some ⟨gd, 0, none⟩) N N) := kept_ty (HB1.out.2.1.kept (grownA_of (HD.out _)) (by simp)) (World.ownsRow.alloc HOWN.out _) hgr6 (by decide)
        have k6 := hB6.c2
        have f6 := hB6.free 2
        refine hK _ _ ⟨⟨HS.out _ hA6, fun _ => hB6.c2⟩, ?_⟩
        clear hK K
        try simp only [Act.put, List.setIfInBounds_toArray, List.set_cons_zero, List.set_cons_succ]
        refine wpAnyT_one (i := 15) (by kernel_rfl) (wpOp_do (by simp only [List.getElem?_toArray, List.getElem?_cons_zero, List.getElem?_cons_succ]; rfl) fun K hK => ?_)
        go_simp
        refine hK _ _ ⟨⟨HS.out _ hA6, fun _ => hB6.c2⟩, ?_⟩
        clear hK K
        try simp only [List.setIfInBounds_toArray, List.set_cons_zero, List.set_cons_succ]
        refine wpAnyT_one (i := 16) (by kernel_rfl) (wpOp_do (by simp only [List.getElem?_toArray, List.getElem?_cons_zero, List.getElem?_cons_succ]; rfl) fun K hK => ?_)
        go_simp
        refine hK _ _ ⟨⟨HS.out _ hA6, fun _ => hB6.c2⟩, ?_⟩
        clear hK K
        try simp only [List.setIfInBounds_toArray, List.set_cons_zero, List.set_cons_succ]
        refine wpAnyT_one (i := 17) (by kernel_rfl) (wpOp_do (by simp only [List.getElem?_toArray, List.getElem?_cons_zero, List.getElem?_cons_succ]; rfl) fun K hK => ?_)
        go_simp
        refine hK _ _ ⟨⟨HS.out _ ((heap_setCell_other w6 ⟨gr, 2, none⟩ ga _ (ty_ne hA6 hB6 (by decide))).trans hA6), fun h => absurd (show true = false from h) (by decide)⟩, ?_⟩
        clear hK K
        try simp only [List.setIfInBounds_toArray, List.set_cons_zero, List.set_cons_succ]
        refine wpAnyT_done (by kernel_rfl) ?_ _
        have hbs2 := (HB1.out.add (HD.out _)).steps (by rw [HL.out]; exact hlt) HX.out hown6 hgr6
        have hA2 : ABox (w6.setCell ⟨gr, 2, none⟩ (.slice (some ⟨g6, 0, none⟩) (2 * k + 2) cap6)) ga x y z u := (heap_setCell_other w6 ⟨gr, 2, none⟩ ga _ (ty_ne hA6 hB6 (by decide))).trans hA6
        obtain ⟨W2, hW2⟩ : ∃ W2, W2 = w6.setCell ⟨gr, 2, none⟩ (.slice (some ⟨g6, 0, none⟩) (2 * k + 2) cap6) := ⟨_, rfl⟩
        obtain ⟨sv2, hsv2⟩ : ∃ v, v = Value.slice (some ⟨g6, 0, none⟩) (2 * k + 2) cap6 := ⟨_, rfl⟩
        rw [← hW2] at hbs2 hA2 ⊢
        rw [← hsv2] at hbs2 ⊢
        clear hW2 hsv2 hA6 hB6 k6 f6 hown6 hgr6 hat6 hlt6 HS HSD HCD HOWN HD HB1 HA1 z1 z2 hsz
        go_wp2_with fail
        have wk1 : IntKind.i64.wrap (2 * (k : Int)) = 2 * (k : Int) := IntWalk.i64_in _ (by omega)
        have wk2 : IntKind.i64.wrap (2 * (k : Int) + 1) = 2 * (k : Int) + 1 := IntWalk.i64_in _ (by omega)
        have hsz := hbs2.1.lt
        have z1 := hbs2.2.1.lt
        have z2 := hA2.lt
        obtain ⟨ra, rc, r1, r2, r3, r4, r5⟩ := hbs2.2.2.2.1.get hxN
        obtain ⟨cf, hcf, hcN, -⟩ := id hbs2.2.2.2.1
        have HCF := Lib.hid hcf
        obtain ⟨l, hl⟩ : ∃ l, ((fromK A k) x).length = l := ⟨_, rfl⟩
        have hl5 : l ≤ 5000 := by
          have := from_len A k x
          omega
        rw [hl] at r1 r2 r3
        have HLEN := Lib.hid hl
        have R1 := Lib.hid r1
        have HB1 := Lib.hid hbs2
        have HA1 := Lib.hid hA2
        have HOWN : Hid ((World.drew W2).ownsRow (w.heap.size + 1) 3 1 (.slice ra l rc) l (((fromK A k) x).map natv)) := Lib.hid r2.drew
        have HD : Hid (∀ o, Add W2 ((World.drew W2).alloc o)) := Lib.hid fun o => Add.trans (b_drew (Below.refl _ _)) (add_new _ o)
        have HS : Hid (∀ W : World, RBox W gr s t sv2 (.slice (some ⟨gf, 0, none⟩) N N) (.slice none 0 0) (.slice (some ⟨gd, 0, none⟩) N N) → ABox W ga x y z u → W.cell? ⟨gr, 3, none⟩ = some (.slice (some ⟨gf, 0, none⟩) N N) ∧ W.cell? ⟨ga, 0, none⟩ = some (.int .i64 (x : Nat))) := Lib.hid fun W h1 h2 => ⟨h1.c3, h2.c0⟩
        have HSD := Lib.hid (HS.out _ (hbs2.2.1.kept (grownA_of (b_drew (Below.refl _ _))) (by simp)) (hA2.add (b_drew (Below.refl _ _))))
        have HCD : Hid (W2.drew.cell? ⟨gf, x, none⟩ = some (.slice ra l rc)) := Lib.hid r1
        have HCW : Hid (∀ W : World, W.heap[gf]? = some (.cells cf 25 (0, 0)) → W.cell? ⟨gf, x, none⟩ = some (.slice ra l rc)) := Lib.hid fun W h => by
          rw [cell_of_row W gf x cf _ (0, 0) h, ← cell_of_row W2 gf x cf _ (0, 0) hcf]; exact r1
        clear hbs2 hA2 r1 r2 r3 r4 r5 hcf hcN hl
        refine wp_region_T (fun w' => w'.cell? ⟨gr, 3, none⟩ = some (.slice (some ⟨gf, 0, none⟩) N N) ∧ w'.cell? ⟨ga, 0, none⟩ = some (.int .i64 (x : Nat))) (fun w' => w'.cell? ⟨gf, x, none⟩ = some (.slice ra l rc)) 19 (by kernel_rfl) ?_
        show wpAnyT _ _ _ _ _ _ _ 20 #[false, false, false, false, false, false, false, false, false, false, false, false, false, false, false, false, false, false, false, false] _ _
        refine wpAnyT_take (i := 0) (v := ?_) (by simp only [List.getElem?_toArray, List.getElem?_cons_zero]; rfl) (by kernel_rfl) (by kernel_rfl) (by kernel_rfl) (by kernel_rfl) (by intro _ _ _ h; exact h) (Or.inl ⟨by rfl, ?_⟩) HSD.out HCD.out ?_
        rotate_left
        · intro w' hSw
          try dsimp only at hSw
          go_simp
          try with_reducible rfl
        try simp only [Act.put, List.setIfInBounds_toArray, List.set_cons_zero, List.set_cons_succ]
        refine wpAnyT_take (i := 1) (v := ?_) (by simp only [List.getElem?_toArray, List.getElem?_cons_zero, List.getElem?_cons_succ]; rfl) (by kernel_rfl) (by kernel_rfl) (by kernel_rfl) (by kernel_rfl) (by intro _ _ _ h; exact h) (Or.inl ⟨by rfl, ?_⟩) HSD.out HCD.out ?_
        rotate_left
        · intro w' hSw
          try dsimp only at hSw
          go_simp
          try with_reducible rfl
        try simp only [Act.put, List.setIfInBounds_toArray, List.set_cons_zero, List.set_cons_succ]
        refine wpAnyT_take (i := 2) (v := ?_) (by simp only [List.getElem?_toArray, List.getElem?_cons_zero, List.getElem?_cons_succ]; rfl) (by kernel_rfl) (by kernel_rfl) (by kernel_rfl) (by kernel_rfl) (by intro _ _ _ h; exact h) (Or.inl ⟨by rfl, ?_⟩) HSD.out HCD.out ?_
        rotate_left
        · intro w' hSw
          try dsimp only at hSw
          go_simp
          try with_reducible rfl
        try simp only [Act.put, List.setIfInBounds_toArray, List.set_cons_zero, List.set_cons_succ]
        refine wpAnyT_take (i := 3) (v := ?_) (by simp only [List.getElem?_toArray, List.getElem?_cons_zero, List.getElem?_cons_succ]; rfl) (by kernel_rfl) (by kernel_rfl) (by kernel_rfl) (by kernel_rfl) (by intro _ _ _ h; exact h) (Or.inl ⟨by rfl, ?_⟩) HSD.out HCD.out ?_
        rotate_left
        · intro w' hSw
          try dsimp only at hSw
          go_simp
          try with_reducible rfl
        try simp only [Act.put, List.setIfInBounds_toArray, List.set_cons_zero, List.set_cons_succ]
        refine wpAnyT_take (i := 4) (v := ?_) (by simp only [List.getElem?_toArray, List.getElem?_cons_zero, List.getElem?_cons_succ]; rfl) (by kernel_rfl) (by kernel_rfl) (by kernel_rfl) (by kernel_rfl) (by intro _ _ _ h; exact h) (Or.inl ⟨by rfl, ?_⟩) HSD.out HCD.out ?_
        rotate_left
        · intro w' hSw
          try dsimp only at hSw
          go_simp
          try with_reducible rfl
        try simp only [Act.put, List.setIfInBounds_toArray, List.set_cons_zero, List.set_cons_succ]
        refine wpAnyT_take (i := 5) (v := ?_) (by simp only [List.getElem?_toArray, List.getElem?_cons_zero, List.getElem?_cons_succ]; rfl) (by kernel_rfl) (by kernel_rfl) (by kernel_rfl) (by kernel_rfl) (by intro _ _ _ h; exact h) (Or.inl ⟨by rfl, ?_⟩) HSD.out HCD.out ?_
        rotate_left
        · intro w' hSw
          try dsimp only at hSw
          go_simp
          try with_reducible rfl
        try simp only [Act.put, List.setIfInBounds_toArray, List.set_cons_zero, List.set_cons_succ]
        refine wpAnyT_take (i := 6) (v := ?_) (by simp only [List.getElem?_toArray, List.getElem?_cons_zero, List.getElem?_cons_succ]; rfl) (by kernel_rfl) (by kernel_rfl) (by kernel_rfl) (by kernel_rfl) (by intro _ _ _ h; exact h) (Or.inl ⟨by rfl, ?_⟩) HSD.out HCD.out ?_
        rotate_left
        · intro w' hSw
          try dsimp only at hSw
          go_simp
          try with_reducible rfl
        try simp only [Act.put, List.setIfInBounds_toArray, List.set_cons_zero, List.set_cons_succ]
        refine wpAnyT_take (i := 7) (v := ?_) (by simp only [List.getElem?_toArray, List.getElem?_cons_zero, List.getElem?_cons_succ]; rfl) (by kernel_rfl) (by kernel_rfl) (by kernel_rfl) (by kernel_rfl) (by intro _ _ _ h; exact h) (Or.inl ⟨by rfl, ?_⟩) HSD.out HCD.out ?_
        rotate_left
        · intro w' hSw
          try dsimp only at hSw
          go_simp
          try with_reducible rfl
        try simp only [Act.put, List.setIfInBounds_toArray, List.set_cons_zero, List.set_cons_succ]
        refine wpAnyT_take (i := 8) (v := ?_) (by simp only [List.getElem?_toArray, List.getElem?_cons_zero, List.getElem?_cons_succ]; rfl) (by kernel_rfl) (by kernel_rfl) (by kernel_rfl) (by kernel_rfl) (by intro _ _ _ h; exact h) (Or.inl ⟨by rfl, ?_⟩) HSD.out HCD.out ?_
        rotate_left
        · intro w' hSw
          try dsimp only at hSw
          go_simp
          try with_reducible rfl
        try simp only [Act.put, List.setIfInBounds_toArray, List.set_cons_zero, List.set_cons_succ]
        refine wpAnyT_take (i := 9) (v := ?_) (by simp only [List.getElem?_toArray, List.getElem?_cons_zero, List.getElem?_cons_succ]; rfl) (by kernel_rfl) (by kernel_rfl) (by kernel_rfl) (by kernel_rfl) (by intro _ _ _ h; exact h) (Or.inl ⟨by rfl, ?_⟩) HSD.out HCD.out ?_
        rotate_left
        · intro w' hSw
          try dsimp only at hSw
          go_simp
          try with_reducible rfl
        try simp only [Act.put, List.setIfInBounds_toArray, List.set_cons_zero, List.set_cons_succ]
        refine wpAnyT_take (i := 10) (v := ?_) (by simp only [List.getElem?_toArray, List.getElem?_cons_zero, List.getElem?_cons_succ]; rfl) (by kernel_rfl) (by kernel_rfl) (by kernel_rfl) (by kernel_rfl) (by intro _ _ _ h; exact h) (Or.inl ⟨by rfl, ?_⟩) HSD.out HCD.out ?_
        rotate_left
        · intro w' hSw
          try dsimp only at hSw
          go_simp
          try with_reducible rfl
        try simp only [Act.put, List.setIfInBounds_toArray, List.set_cons_zero, List.set_cons_succ]
        refine wpAnyT_take (i := 11) (v := ?_) (by simp only [List.getElem?_toArray, List.getElem?_cons_zero, List.getElem?_cons_succ]; rfl) (by kernel_rfl) (by kernel_rfl) (by kernel_rfl) (by kernel_rfl) (by intro _ _ _ h; exact h) (Or.inl ⟨by rfl, ?_⟩) HSD.out HCD.out ?_
        rotate_left
        · intro w' hSw
          try dsimp only at hSw
          go_simp
          try with_reducible rfl
        try simp only [Act.put, List.setIfInBounds_toArray, List.set_cons_zero, List.set_cons_succ]
        refine wpAnyT_take (i := 12) (v := ?_) (by simp only [List.getElem?_toArray, List.getElem?_cons_zero, List.getElem?_cons_succ]; rfl) (by kernel_rfl) (by kernel_rfl) (by kernel_rfl) (by kernel_rfl) (by intro _ _ _ h; exact h) (Or.inl ⟨by rfl, ?_⟩) HSD.out HCD.out ?_
        rotate_left
        · intro w' hSw
          try dsimp only at hSw
          go_simp
          try with_reducible rfl
        try simp only [Act.put, List.setIfInBounds_toArray, List.set_cons_zero, List.set_cons_succ]
        refine wpAnyT_take (i := 13) (v := ?_) (by simp only [List.getElem?_toArray, List.getElem?_cons_zero, List.getElem?_cons_succ]; rfl) (by kernel_rfl) (by kernel_rfl) (by kernel_rfl) (by kernel_rfl) (by intro _ _ _ h; exact h) (Or.inl ⟨by rfl, ?_⟩) HSD.out HCD.out ?_
        rotate_left
        · intro w' hSw
          try dsimp only at hSw
          go_simp
          try with_reducible rfl
        try simp only [Act.put, List.setIfInBounds_toArray, List.set_cons_zero, List.set_cons_succ]
        refine wpAnyT_take (i := 14) (v := ?_) (by simp only [List.getElem?_toArray, List.getElem?_cons_zero, List.getElem?_cons_succ]; rfl) (by kernel_rfl) (by kernel_rfl) (by kernel_rfl) (by kernel_rfl) (by intro _ _ _ h; exact h) (Or.inl ⟨by rfl, ?_⟩) HSD.out HCD.out ?_
        rotate_left
        · intro w' hSw
          try dsimp only at hSw
          go_simp
          try with_reducible rfl
        try simp only [Act.put, List.setIfInBounds_toArray, List.set_cons_zero, List.set_cons_succ]
        refine wpAnyT_take (i := 15) (v := ?_) (by simp only [List.getElem?_toArray, List.getElem?_cons_zero, List.getElem?_cons_succ]; rfl) (by kernel_rfl) (by kernel_rfl) (by kernel_rfl) (by kernel_rfl) (by intro _ _ _ h; exact h) (Or.inl ⟨by rfl, ?_⟩) HSD.out HCD.out ?_
        rotate_left
        · intro w' hSw
          try dsimp only at hSw
          go_simp
          try with_reducible rfl
        try simp only [Act.put, List.setIfInBounds_toArray, List.set_cons_zero, List.set_cons_succ]
        refine wpAnyT_one (i := 16) (by kernel_rfl) (wpOp_do (by simp only [List.getElem?_toArray, List.getElem?_cons_zero, List.getElem?_cons_succ]; rfl) fun K hK => ?_)
        go_simp
        refine hK _ _ ⟨⟨HS.out _ (HB1.out.2.1.kept (grownA_of (HD.out _)) (by simp)) (HA1.out.add (HD.out _)), fun _ => HCW.out _ (addB HCF.out (HD.out _))⟩, ?_⟩
        clear hK K
        try simp only [List.setIfInBounds_toArray, List.set_cons_zero, List.set_cons_succ]
        refine wpAnyT_one (i := 17) (by kernel_rfl) (wpOp_do (by simp only [List.getElem?_toArray, List.getElem?_cons_zero, List.getElem?_cons_succ]; rfl) fun K hK => ?_)
        refine step_append_lies _ rfl _ _ 25 rfl (w.heap.size + 1) 3 i0 (.int .i64 0) 1 8 Try.underlying25 hi0 hz0 hz1 hz2 rfl (by decide) (.slice ra l rc) l (((fromK A k) x).map natv) rfl (World.ownsRow.alloc HOWN.out _) ⟨W2.heap.size, 0, none⟩ 1 1 [.int .i64 (2 * (k : Int))] rfl rfl (World.news_of_block (heap_alloc_new (World.drew W2) _)) (by intro u hu; simp at hu; rcases hu with rfl; rfl) (by decide) (by unfold maxLen; omega) (by omega) (by simp; omega) _ rfl ?_
        intro g6 cap6 w6 hown6 hgr6 hat6 hlt6
        have hA6 : ABox w6 ga x y z u := kept_ty (HA1.out.add (HD.out _)) (World.ownsRow.alloc HOWN.out _) hgr6 (by decide)
        have hB6 : RBox w6 gr s t sv2 (.slice (some ⟨gf, 0, none⟩) N N) (.slice none 0 0) (.slice (some ⟨gd, 0, none⟩) N N) := kept_ty (HB1.out.2.1.kept (grownA_of (HD.out _)) (by simp)) (World.ownsRow.alloc HOWN.out _) hgr6 (by decide)
        have hF6 := kept_ty (addB HCF.out (HD.out _)) (World.ownsRow.alloc HOWN.out _) hgr6 (by decide)
        have C6 := HCW.out _ hF6
        have f6 := frozen_of_row w6 gf x cf _ hF6
        refine hK _ _ ⟨⟨HS.out _ hB6 hA6, fun _ => C6⟩, ?_⟩
        clear hK K
        try simp only [Act.put, List.setIfInBounds_toArray, List.set_cons_zero, List.set_cons_succ]
        refine wpAnyT_one (i := 18) (by kernel_rfl) (wpOp_do (by simp only [List.getElem?_toArray, List.getElem?_cons_zero, List.getElem?_cons_succ]; rfl) fun K hK => ?_)
        go_simp
        refine hK _ _ ⟨⟨HS.out _ hB6 hA6, fun _ => C6⟩, ?_⟩
        clear hK K
        try simp only [List.setIfInBounds_toArray, List.set_cons_zero, List.set_cons_succ]
        refine wpAnyT_one (i := 19) (by kernel_rfl) (wpOp_do (by simp only [List.getElem?_toArray, List.getElem?_cons_zero, List.getElem?_cons_succ]; rfl) fun K hK => ?_)
        go_simp
        refine hK _ _ ⟨⟨HS.out _ (hB6.kept (grown_set w6 gf x _) (fun e => ty_ne hF6 hB6 (by decide) (Option.some.inj e))) ((heap_setCell_other w6 ⟨gf, x, none⟩ ga _ (ty_ne hA6 hF6 (by decide))).trans hA6), fun h => absurd (show true = false from h) (by decide)⟩, ?_⟩
        clear hK K
        try simp only [List.setIfInBounds_toArray, List.set_cons_zero, List.set_cons_succ]
        refine wpAnyT_done (by kernel_rfl) ?_ _
        have hlit : (Value.int .i64 (2 * (k : Int))) = natv (2 * k) := by unfold natv; rw [Int.natCast_mul]; rfl
        rw [hlit] at hown6
        rw [← HLEN.out] at hown6 hgr6 hat6
        have hbs3 := (HB1.out.add (HD.out _)).rows hxN (by rw [HLEN.out]; exact HCW.out _ (addB HCF.out (HD.out _))) hown6 hgr6 hat6
        rw [HLEN.out] at hbs3
        have hA3 : ABox (w6.setCell ⟨gf, x, none⟩ (.slice (some ⟨g6, 0, none⟩) (l + 1) cap6)) ga x y z u := (heap_setCell_other w6 ⟨gf, x, none⟩ ga _ (ty_ne hA6 hF6 (by decide))).trans hA6
        obtain ⟨W3, hW3⟩ : ∃ W3, W3 = w6.setCell ⟨gf, x, none⟩ (.slice (some ⟨g6, 0, none⟩) (l + 1) cap6) := ⟨_, rfl⟩
        rw [← hW3] at hbs3 hA3 ⊢
        clear hW3 hlit hA6 hB6 hF6 C6 f6 hown6 hgr6 hat6 hlt6 HS HSD HCD HCW HCF HOWN HD HB1 HA1 z1 z2 hsz R1 HLEN hl5 wk1 wk2
        obtain ⟨R2, hR2⟩ : ∃ R2 : Nat → List Nat, R2 = fun v => if v = x then fromK A k x ++ [2 * k] else fromK A k v := ⟨_, rfl⟩
        rw [← hR2] at hbs3
        have HR2 := Lib.hid hR2
        clear hR2
        go_wp2_with fail
        have wk1 : IntKind.i64.wrap (2 * (k : Int)) = 2 * (k : Int) := IntWalk.i64_in _ (by omega)
        have wk2 : IntKind.i64.wrap (2 * (k : Int) + 1) = 2 * (k : Int) + 1 := IntWalk.i64_in _ (by omega)
        have hsz := hbs3.1.lt
        have z1 := hbs3.2.1.lt
        have z2 := hA3.lt
        obtain ⟨ra, rc, r1, r2, r3, r4, r5⟩ := hbs3.2.2.2.1.get hyN
        obtain ⟨cf, hcf, hcN, -⟩ := id hbs3.2.2.2.1
        have HCF := Lib.hid hcf
        obtain ⟨l, hl⟩ : ∃ l, (R2 y).length = l := ⟨_, rfl⟩
        have hl5 : l ≤ 5000 := by
          have := from_len2 A k x y
          rw [← HR2.out] at this
          omega
        rw [hl] at r1 r2 r3
        have HLEN := Lib.hid hl
        have R1 := Lib.hid r1
        have HB1 := Lib.hid hbs3
        have HA1 := Lib.hid hA3
        have HOWN : Hid ((World.drew W3).ownsRow (w.heap.size + 1) 3 1 (.slice ra l rc) l ((R2 y).map natv)) := Lib.hid r2.drew
        have HD : Hid (∀ o, Add W3 ((World.drew W3).alloc o)) := Lib.hid fun o => Add.trans (b_drew (Below.refl _ _)) (add_new _ o)
        have HS : Hid (∀ W : World, RBox W gr s t sv2 (.slice (some ⟨gf, 0, none⟩) N N) (.slice none 0 0) (.slice (some ⟨gd, 0, none⟩) N N) → ABox W ga x y z u → W.cell? ⟨gr, 3, none⟩ = some (.slice (some ⟨gf, 0, none⟩) N N) ∧ W.cell? ⟨ga, 1, none⟩ = some (.int .i64 (y : Nat))) := Lib.hid fun W h1 h2 => ⟨h1.c3, h2.c1⟩
        have HSD := Lib.hid (HS.out _ (hbs3.2.1.kept (grownA_of (b_drew (Below.refl _ _))) (by simp)) (hA3.add (b_drew (Below.refl _ _))))
        have HCD : Hid (W3.drew.cell? ⟨gf, y, none⟩ = some (.slice ra l rc)) := Lib.hid r1
        have HCW : Hid (∀ W : World, W.heap[gf]? = some (.cells cf 25 (0, 0)) → W.cell? ⟨gf, y, none⟩ = some (.slice ra l rc)) := Lib.hid fun W h => by
          rw [cell_of_row W gf y cf _ (0, 0) h, ← cell_of_row W3 gf y cf _ (0, 0) hcf]; exact r1
        clear hbs3 hA3 r1 r2 r3 r4 r5 hcf hcN hl
        refine wp_region_T (fun w' => w'.cell? ⟨gr, 3, none⟩ = some (.slice (some ⟨gf, 0, none⟩) N N) ∧ w'.cell? ⟨ga, 1, none⟩ = some (.int .i64 (y : Nat))) (fun w' => w'.cell? ⟨gf, y, none⟩ = some (.slice ra l rc)) 20 (by kernel_rfl) ?_
        show wpAnyT _ _ _ _ _ _ _ 21 #[false, false, false, false, false, false, false, false, false, false, false, false, false, false, false, false, false, false, false, false, false] _ _
        refine wpAnyT_take (i := 0) (v := ?_) (by simp only [List.getElem?_toArray, List.getElem?_cons_zero]; rfl) (by kernel_rfl) (by kernel_rfl) (by kernel_rfl) (by kernel_rfl) (by intro _ _ _ h; exact h) (Or.inl ⟨by rfl, ?_⟩) HSD.out HCD.out ?_
        rotate_left
        · intro w' hSw
          try dsimp only at hSw
          go_simp
          try with_reducible rfl
        try simp only [Act.put, List.setIfInBounds_toArray, List.set_cons_zero, List.set_cons_succ]
        refine wpAnyT_take (i := 1) (v := ?_) (by simp only [List.getElem?_toArray, List.getElem?_cons_zero, List.getElem?_cons_succ]; rfl) (by kernel_rfl) (by kernel_rfl) (by kernel_rfl) (by kernel_rfl) (by intro _ _ _ h; exact h) (Or.inl ⟨by rfl, ?_⟩) HSD.out HCD.out ?_
        rotate_left
        · intro w' hSw
          try dsimp only at hSw
          go_simp
          try with_reducible rfl
        try simp only [Act.put, List.setIfInBounds_toArray, List.set_cons_zero, List.set_cons_succ]
        refine wpAnyT_take (i := 2) (v := ?_) (by simp only [List.getElem?_toArray, List.getElem?_cons_zero, List.getElem?_cons_succ]; rfl) (by kernel_rfl) (by kernel_rfl) (by kernel_rfl) (by kernel_rfl) (by intro _ _ _ h; exact h) (Or.inl ⟨by rfl, ?_⟩) HSD.out HCD.out ?_
        rotate_left
        · intro w' hSw
          try dsimp only at hSw
          go_simp
          try with_reducible rfl
        try simp only [Act.put, List.setIfInBounds_toArray, List.set_cons_zero, List.set_cons_succ]
        refine wpAnyT_take (i := 3) (v := ?_) (by simp only [List.getElem?_toArray, List.getElem?_cons_zero, List.getElem?_cons_succ]; rfl) (by kernel_rfl) (by kernel_rfl) (by kernel_rfl) (by kernel_rfl) (by intro _ _ _ h; exact h) (Or.inl ⟨by rfl, ?_⟩) HSD.out HCD.out ?_
        rotate_left
        · intro w' hSw
          try dsimp only at hSw
          go_simp
          try with_reducible rfl
        try simp only [Act.put, List.setIfInBounds_toArray, List.set_cons_zero, List.set_cons_succ]
        refine wpAnyT_take (i := 4) (v := ?_) (by simp only [List.getElem?_toArray, List.getElem?_cons_zero, List.getElem?_cons_succ]; rfl) (by kernel_rfl) (by kernel_rfl) (by kernel_rfl) (by kernel_rfl) (by intro _ _ _ h; exact h) (Or.inl ⟨by rfl, ?_⟩) HSD.out HCD.out ?_
        rotate_left
        · intro w' hSw
          try dsimp only at hSw
          go_simp
          try with_reducible rfl
        try simp only [Act.put, List.setIfInBounds_toArray, List.set_cons_zero, List.set_cons_succ]
        refine wpAnyT_take (i := 5) (v := ?_) (by simp only [List.getElem?_toArray, List.getElem?_cons_zero, List.getElem?_cons_succ]; rfl) (by kernel_rfl) (by kernel_rfl) (by kernel_rfl) (by kernel_rfl) (by intro _ _ _ h; exact h) (Or.inl ⟨by rfl, ?_⟩) HSD.out HCD.out ?_
        rotate_left
        · intro w' hSw
          try dsimp only at hSw
          go_simp
          try with_reducible rfl
        try simp only [Act.put, List.setIfInBounds_toArray, List.set_cons_zero, List.set_cons_succ]
        refine wpAnyT_take (i := 6) (v := ?_) (by simp only [List.getElem?_toArray, List.getElem?_cons_zero, List.getElem?_cons_succ]; rfl) (by kernel_rfl) (by kernel_rfl) (by kernel_rfl) (by kernel_rfl) (by intro _ _ _ h; exact h) (Or.inl ⟨by rfl, ?_⟩) HSD.out HCD.out ?_
        rotate_left
        · intro w' hSw
          try dsimp only at hSw
          go_simp
          try with_reducible rfl
        try simp only [Act.put, List.setIfInBounds_toArray, List.set_cons_zero, List.set_cons_succ]
        refine wpAnyT_take (i := 7) (v := ?_) (by simp only [List.getElem?_toArray, List.getElem?_cons_zero, List.getElem?_cons_succ]; rfl) (by kernel_rfl) (by kernel_rfl) (by kernel_rfl) (by kernel_rfl) (by intro _ _ _ h; exact h) (Or.inl ⟨by rfl, ?_⟩) HSD.out HCD.out ?_
        rotate_left
        · intro w' hSw
          try dsimp only at hSw
          go_simp
          try with_reducible rfl
        try simp only [Act.put, List.setIfInBounds_toArray, List.set_cons_zero, List.set_cons_succ]
        refine wpAnyT_take (i := 8) (v := ?_) (by simp only [List.getElem?_toArray, List.getElem?_cons_zero, List.getElem?_cons_succ]; rfl) (by kernel_rfl) (by kernel_rfl) (by kernel_rfl) (by kernel_rfl) (by intro _ _ _ h; exact h) (Or.inl ⟨by rfl, ?_⟩) HSD.out HCD.out ?_
        rotate_left
        · intro w' hSw
          try dsimp only at hSw
          go_simp
          try with_reducible rfl
        try simp only [Act.put, List.setIfInBounds_toArray, List.set_cons_zero, List.set_cons_succ]
        refine wpAnyT_take (i := 9) (v := ?_) (by simp only [List.getElem?_toArray, List.getElem?_cons_zero, List.getElem?_cons_succ]; rfl) (by kernel_rfl) (by kernel_rfl) (by kernel_rfl) (by kernel_rfl) (by intro _ _ _ h; exact h) (Or.inl ⟨by rfl, ?_⟩) HSD.out HCD.out ?_
        rotate_left
        · intro w' hSw
          try dsimp only at hSw
          go_simp
          try with_reducible rfl
        try simp only [Act.put, List.setIfInBounds_toArray, List.set_cons_zero, List.set_cons_succ]
        refine wpAnyT_take (i := 10) (v := ?_) (by simp only [List.getElem?_toArray, List.getElem?_cons_zero, List.getElem?_cons_succ]; rfl) (by kernel_rfl) (by kernel_rfl) (by kernel_rfl) (by kernel_rfl) (by intro _ _ _ h; exact h) (Or.inl ⟨by rfl, ?_⟩) HSD.out HCD.out ?_
        rotate_left
        · intro w' hSw
          try dsimp only at hSw
          go_simp
          try with_reducible rfl
        try simp only [Act.put, List.setIfInBounds_toArray, List.set_cons_zero, List.set_cons_succ]
        refine wpAnyT_take (i := 11) (v := ?_) (by simp only [List.getElem?_toArray, List.getElem?_cons_zero, List.getElem?_cons_succ]; rfl) (by kernel_rfl) (by kernel_rfl) (by kernel_rfl) (by kernel_rfl) (by intro _ _ _ h; exact h) (Or.inl ⟨by rfl, ?_⟩) HSD.out HCD.out ?_
        rotate_left
        · intro w' hSw
          try dsimp only at hSw
          go_simp
          try with_reducible rfl
        try simp only [Act.put, List.setIfInBounds_toArray, List.set_cons_zero, List.set_cons_succ]
        refine wpAnyT_take (i := 12) (v := ?_) (by simp only [List.getElem?_toArray, List.getElem?_cons_zero, List.getElem?_cons_succ]; rfl) (by kernel_rfl) (by kernel_rfl) (by kernel_rfl) (by kernel_rfl) (by intro _ _ _ h; exact h) (Or.inl ⟨by rfl, ?_⟩) HSD.out HCD.out ?_
        rotate_left
        · intro w' hSw
          try dsimp only at hSw
          go_simp
          try with_reducible rfl
        try simp only [Act.put, List.setIfInBounds_toArray, List.set_cons_zero, List.set_cons_succ]
        refine wpAnyT_take (i := 13) (v := ?_) (by simp only [List.getElem?_toArray, List.getElem?_cons_zero, List.getElem?_cons_succ]; rfl) (by kernel_rfl) (by kernel_rfl) (by kernel_rfl) (by kernel_rfl) (by intro _ _ _ h; exact h) (Or.inl ⟨by rfl, ?_⟩) HSD.out HCD.out ?_
        rotate_left
        · intro w' hSw
          try dsimp only at hSw
          go_simp
          try with_reducible rfl
        try simp only [Act.put, List.setIfInBounds_toArray, List.set_cons_zero, List.set_cons_succ]
        refine wpAnyT_take (i := 14) (v := ?_) (by simp only [List.getElem?_toArray, List.getElem?_cons_zero, List.getElem?_cons_succ]; rfl) (by kernel_rfl) (by kernel_rfl) (by kernel_rfl) (by kernel_rfl) (by intro _ _ _ h; exact h) (Or.inl ⟨by rfl, ?_⟩) HSD.out HCD.out ?_
        rotate_left
        · intro w' hSw
          try dsimp only at hSw
          go_simp
          try with_reducible rfl
        try simp only [Act.put, List.setIfInBounds_toArray, List.set_cons_zero, List.set_cons_succ]
        refine wpAnyT_take (i := 15) (v := ?_) (by simp only [List.getElem?_toArray, List.getElem?_cons_zero, List.getElem?_cons_succ]; rfl) (by kernel_rfl) (by kernel_rfl) (by kernel_rfl) (by kernel_rfl) (by intro _ _ _ h; exact h) (Or.inl ⟨by rfl, ?_⟩) HSD.out HCD.out ?_
        rotate_left
        · intro w' hSw
          try dsimp only at hSw
          go_simp
          try with_reducible rfl
        try simp only [Act.put, List.setIfInBounds_toArray, List.set_cons_zero, List.set_cons_succ]
        refine wpAnyT_take (i := 16) (v := ?_) (by simp only [List.getElem?_toArray, List.getElem?_cons_zero, List.getElem?_cons_succ]; rfl) (by kernel_rfl) (by kernel_rfl) (by kernel_rfl) (by kernel_rfl) (by intro _ _ _ h; exact h) (Or.inl ⟨by rfl, ?_⟩) HSD.out HCD.out ?_
        rotate_left
        · intro w' hSw
          try dsimp only at hSw
          go_simp
          try with_reducible rfl
        try simp only [Act.put, List.setIfInBounds_toArray, List.set_cons_zero, List.set_cons_succ]
        refine wpAnyT_one (i := 17) (by kernel_rfl) (wpOp_do (by simp only [List.getElem?_toArray, List.getElem?_cons_zero, List.getElem?_cons_succ]; rfl) fun K hK => ?_)
        go_simp
        refine hK _ _ ⟨⟨HS.out _ (HB1.out.2.1.kept (grownA_of (HD.out _)) (by simp)) (HA1.out.add (HD.out _)), fun _ => HCW.out _ (addB HCF.out (HD.out _))⟩, ?_⟩
        clear hK K
        try simp only [List.setIfInBounds_toArray, List.set_cons_zero, List.set_cons_succ]
        refine wpAnyT_one (i := 18) (by kernel_rfl) (wpOp_do (by simp only [List.getElem?_toArray, List.getElem?_cons_zero, List.getElem?_cons_succ]; rfl) fun K hK => ?_)
        refine step_append_lies _ rfl _ _ 25 rfl (w.heap.size + 1) 3 i0 (.int .i64 0) 1 8 Try.underlying25 hi0 hz0 hz1 hz2 rfl (by decide) (.slice ra l rc) l ((R2 y).map natv) rfl (World.ownsRow.alloc HOWN.out _) ⟨W3.heap.size, 0, none⟩ 1 1 [.int .i64 (2 * (k : Int) + 1)] rfl rfl (World.news_of_block (heap_alloc_new (World.drew W3) _)) (by intro u hu; simp at hu; rcases hu with rfl; rfl) (by decide) (by unfold maxLen; omega) (by omega) (by simp; omega) _ rfl ?_
        intro g6 cap6 w6 hown6 hgr6 hat6 hlt6
        have hA6 : ABox w6 ga x y z u := kept_ty (HA1.out.add (HD.out _)) (World.ownsRow.alloc HOWN.out _) hgr6 (by decide)
        have hB6 : RBox w6 gr s t sv2 (.slice (some ⟨gf, 0, none⟩) N N) (.slice none 0 0) (.slice (some ⟨gd, 0, none⟩) N N) := kept_ty (HB1.out.2.1.kept (grownA_of (HD.out _)) (by simp)) (World.ownsRow.alloc HOWN.out _) hgr6 (by decide)
        have hF6 := kept_ty (addB HCF.out (HD.out _)) (World.ownsRow.alloc HOWN.out _) hgr6 (by decide)
        have C6 := HCW.out _ hF6
        have f6 := frozen_of_row w6 gf y cf _ hF6
        refine hK _ _ ⟨⟨HS.out _ hB6 hA6, fun _ => C6⟩, ?_⟩
        clear hK K
        try simp only [Act.put, List.setIfInBounds_toArray, List.set_cons_zero, List.set_cons_succ]
        refine wpAnyT_one (i := 19) (by kernel_rfl) (wpOp_do (by simp only [List.getElem?_toArray, List.getElem?_cons_zero, List.getElem?_cons_succ]; rfl) fun K hK => ?_)
        go_simp
        refine hK _ _ ⟨⟨HS.out _ hB6 hA6, fun _ => C6⟩, ?_⟩
        clear hK K
        try simp only [List.setIfInBounds_toArray, List.set_cons_zero, List.set_cons_succ]
        refine wpAnyT_one (i := 20) (by kernel_rfl) (wpOp_do (by simp only [List.getElem?_toArray, List.getElem?_cons_zero, List.getElem?_cons_succ]; rfl) fun K hK => ?_)
        go_simp
        refine hK _ _ ⟨⟨HS.out _ (hB6.kept (grown_set w6 gf y _) (fun e => ty_ne hF6 hB6 (by decide) (Option.some.inj e))) ((heap_setCell_other w6 ⟨gf, y, none⟩ ga _ (ty_ne hA6 hF6 (by decide))).trans hA6), fun h => absurd (show true = false from h) (by decide)⟩, ?_⟩
        clear hK K
        try simp only [List.setIfInBounds_toArray, List.set_cons_zero, List.set_cons_succ]
        refine wpAnyT_done (by kernel_rfl) ?_ _
        have hlit : (Value.int .i64 (2 * (k : Int) + 1)) = natv (2 * k + 1) := by unfold natv; rw [Int.natCast_add, Int.natCast_mul]; rfl
        rw [hlit] at hown6
        rw [← HLEN.out] at hown6 hgr6 hat6
        have hbs4 := (HB1.out.add (HD.out _)).rows hyN (by rw [HLEN.out]; exact HCW.out _ (addB HCF.out (HD.out _))) hown6 hgr6 hat6
        rw [HLEN.out] at hbs4
        have hR3 : (fun v => if v = y then R2 y ++ [2 * k + 1] else R2 v) = fromK A (k + 1) := by
          rw [fromK_succ A k HX.out, HR2.out]
        rw [hR3] at hbs4
        have HB4 := Lib.hid hbs4
        clear hR3 hbs4 hlit hA6 hB6 hF6 C6 f6 hown6 hgr6 hat6 hlt6 HS HSD HCD HCW HCF HOWN HD HB1 HA1 z1 z2 hsz R1 HLEN hl5 wk1 wk2
        go_wp2_with fail
        go_roundw
        case rel => exact ⟨k + 1, sv2, by omega, by go_num, HB4⟩
        case measure => simp [intOf]; omega
      · obtain rfl : k = m := by omega
        have HE : Hid (ResOfP w A N s t (.returned (.pointer (some ⟨gr, 0, none⟩))) wr) := Lib.hid (by
          have := hbs.out
          rw [← HL.out] at this
          exact this.done)
        clear hbs
        go_wp2_with fail
        go_ret
        exact HE.out
end Go.Proofs.Ytaoibakbnimnkaa
