/- The law MaxflowTurned. -/
import Derived.Test.YtdihmbbkmbnomaaN11
import Derived.Test.YtdihmbbkmbnomaaU3
namespace Go.Proofs.Ytdihmbbkmbnomaa
open Go.RowKit NetM

/-- The turned network under way: its variable in block g2, its arcs in a row of their own; the network itself in block g1. -/
def TurnS (w wr : World) (g1 g2 : Nat) (N s t : Nat) (a : Option Addr) (l c : Nat) (B : List Arc) : Prop :=
  ∃ a' c', NBox wr g2 N t s a' B.length c' ∧ wr.ownsRow (g2 + 1) 44 4 (.slice a' B.length c') B.length (cellsA B) ∧ NBox wr g1 N s t a l c ∧ Add w wr
theorem turn_push {w wr w6 : World} {o : Obj} {g1 g2 N s t l c g6 cap6 : Nat} {a a' : Option Addr} {c' k : Nat} {B : List Arc} {x y z u : Int} (hb1 : NBox wr g1 N s t a l c) (hadd : Add w wr)
    (n6 : NBox w6 g2 N t s a' k c') (hown : w6.ownsRow (g2 + 1) 44 4 (.slice (some ⟨g6, 0, none⟩) (k + 1) cap6) (k + 1) (cellsA B ++ [.int .i64 x, .int .i64 y, .int .i64 z, .int .i64 u]))
    (hgr : ((World.drew wr).alloc o).grownBy w6 (Value.slice a' k c').ownBlock) (hob : ∀ k', (Value.slice a' k c').ownBlock = some k' → g2 + 1 ≤ k') (hk : k = B.length) (h12 : g1 < g2) (hw : w.heap.size ≤ g1) :
    TurnS w (w6.setCell ⟨g2, 3, none⟩ (.slice (some ⟨g6, 0, none⟩) (k + 1) cap6)) g1 g2 N s t a l c (B ++ [(x, y, z, u)]) := by
  have hl2 : (B ++ [(x, y, z, u)]).length = k + 1 := by rw [List.length_append, hk]; rfl
  have hz := hadd.size
  have hg6 := own_block' hown g6 rfl
  have hD : Add wr ((World.drew wr).alloc o) := Add.trans (b_drew (Below.refl _ _)) (add_new _ o)
  refine ⟨some ⟨g6, 0, none⟩, cap6, ?_, ?_, ?_, ?_⟩
  · rw [hl2]; exact n6.set3 _ _ _
  · rw [hl2, cellsA_snoc]
    exact hown.kept (w' := w6.setCell ⟨g2, 3, none⟩ _) (row := some g2) ⟨rfl, rfl, rfl, by simp, fun k _ hk => heap_setCell_other w6 ⟨g2, 3, none⟩ k _ (fun e => hk (by simp [e]))⟩ (.inr fun e => by have := Option.some.inj (show some g6 = some g2 from e); omega)
  · exact (heap_setCell_other w6 ⟨g2, 3, none⟩ _ _ (by dsimp only; omega)).trans ((hb1.add hD).kept hgr (fun e => by have := hob _ e.symm; omega))
  · exact add_setLow (Below.grown (Add.trans hadd hD) hgr (by simp; omega) (fun k e => by have := hob k e; omega)) (by omega) _ _
theorem turn_get {A : List Arc} {k j : Nat} (hj : j + k + 1 = A.length) : ((A.map turn).reverse).take (k + 1) = ((A.map turn).reverse).take k ++ [turn (at' A j)] := by
  rw [List.take_add_one]
  congr 1
  have h1 : k < ((A.map turn).reverse).length := by simp; omega
  rw [List.getElem?_eq_getElem h1, List.getElem_reverse]
  simp only [Option.toList_some, List.cons.injEq, and_true, List.length_map, List.getElem_map]
  unfold at'
  rw [List.getD, List.getElem?_eq_getElem (by omega), Option.getD_some]
  congr 1
  have : A.length - 1 - k = j := by omega
  simp only [this]
set_option maxRecDepth 100000 in
set_option maxHeartbeats 2000000 in
theorem turned_any {w : World} {v : Value} {bs : List Nat} (h : RdU w v bs) (hb : ∀ x ∈ bs, x < 256) : Calls Try.prog 8 #[v] w (LawB w) := by
  have CT := Lib.hid (new_any h hb)
  have CN : Hid (∀ W g, Tp W g → Calls Try.prog 22 #[.pointer (some ⟨g, 0, none⟩)] W (NetworkP W g)) := Lib.hid fun W g h => network_any h
  have CA : Hid (∀ W, Calls Try.prog 10 #[] W (LawB W)) := Lib.hid awake_any
  obtain ⟨i2, hi2, hq0, hq1, hq2⟩ := info_parts infoArc
  clear h hb
  go_enter Try.func8, Try.ntmps8
  go_wp2_with fail
  refine CT.out.mono ?_
  rintro e w1 ⟨g, rfl, ht, h1, hg⟩
  have HT := Lib.hid ht
  have H1 := Lib.hid h1
  have HG := Lib.hid hg
  clear ht h1 hg
  go_wp2_with fail
  refine (CN.out _ _ HT.out).mono ?_
  intro e w2 hnet
  obtain ⟨vn, N, s, t, A, rfl, hA, hsm, h2⟩ := made_of H1.out HG.out hnet
  obtain ⟨va, rfl, ha⟩ := id hA
  obtain ⟨a, l, c, rfl, hl, -⟩ := id ha
  have CS : Hid (∀ W1, Add w2 W1 → Calls Try.prog 20 #[.agg #[.int .i64 (N : Nat), .int .i64 (s : Nat), .int .i64 (t : Nat), .slice a l c]] W1 (SolvedP W1 N s t A)) := Lib.hid fun W1 hh => solved_any (hA.add hh) hsm.1
  have HSM := Lib.hid hsm
  have HL := Lib.hid hl
  have HAR := Lib.hid ha
  have H2 := Lib.hid h2
  obtain ⟨g1, hg1⟩ : ∃ g1, g1 = w2.heap.size := ⟨_, rfl⟩
  obtain ⟨W3, hW3⟩ : ∃ W3, W3 = (w2.alloc (.cells #[.int .i64 (N : Nat), .int .i64 (s : Nat), .int .i64 (t : Nat), .slice a l c] 24)).alloc (.cells #[.int .i64 (N : Nat), .int .i64 (t : Nat), .int .i64 (s : Nat), .slice none 0 0] 24) := ⟨_, rfl⟩
  have hz3 : (w2.alloc (.cells #[.int .i64 (N : Nat), .int .i64 (s : Nat), .int .i64 (t : Nat), .slice a l c] 24)).heap.size = g1 + 1 := by rw [hg1]; simp
  have hST : TurnS w2 W3 g1 (g1 + 1) N s t a l c [] := by
    refine ⟨none, 0, ?_, World.ownsRow_nil _ _ _ _, ?_, ?_⟩
    · rw [hW3, ← hz3]; exact nbox_new _ N t s none 0 0
    · rw [hW3, hg1]; exact (nbox_new w2 N s t a l c).add (add_new _ _)
    · rw [hW3]; exact Add.trans (add_new _ _) (add_new _ _)
  have hl2 : 2 ≤ l ∧ l ≤ 15 := by have := hsm.2.2; omega
  obtain ⟨hl2, hl15⟩ := hl2
  have hg1w : w2.heap.size ≤ g1 := by omega
  have HST := Lib.hid hST
  clear hA ha hsm hnet h2 HT H1 HG CT CN hST hz3 hl
  go_upto_region 3 with fail
  rw [← hW3, ← hg1]
  have hb1 := HST.out.choose_spec.choose_spec.2.2.1
  have c3 := hb1.c3
  clear hW3 hb1 hg1
  go_wp2_with fail
  clear c3
  go_loopw [5] (fun i wr => ∃ k : Nat, k ≤ l ∧ i = .int .i64 ((l : Int) - 1 - (k : Int)) ∧ Hid (TurnS w2 wr g1 (g1 + 1) N s t a l c (((A.map turn).reverse).take k))) (fun i _ => (intOf i + 1).toNat)
  case atStart => exact ⟨0, Nat.zero_le _, by simp, HST⟩
  case round =>
    clear HST
    obtain ⟨k, hk, rfl, hst⟩ := hrel
    obtain ⟨a', c', hb2, hown, hb1, hadd⟩ := hst.out
    obtain ⟨B, hB⟩ : ∃ B, B = ((A.map turn).reverse).take k := ⟨_, rfl⟩
    have hBl : B.length = k := by rw [hB, List.length_take]; simp; rw [HL.out]; omega
    rw [← hB, hBl] at hb2 hown
    have HBB := Lib.hid hB
    have HBL := Lib.hid hBl
    clear hB hBl
    by_cases hlt : k < l
    · obtain ⟨j, hj⟩ : ∃ j : Nat, (l : Int) - 1 - (k : Int) = (j : Int) := ⟨l - 1 - k, by omega⟩
      have hjl : j < l := by omega
      have hjk : j + k + 1 = l := by omega
      rw [hj]
      have HJ := Lib.hid hj
      clear hj
      obtain ⟨b, off, rfl, p0, p1, p2, -⟩ := HAR.out.cell hjl
      obtain ⟨⟨x, y, z, u⟩, hx⟩ : ∃ x, at' A j = x := ⟨_, rfl⟩
      rw [hx] at p0 p1 p2
      dsimp only at p0 p1 p2
      have hbw : b < w2.heap.size := World.block_lt_of_cell? w2 _ p0
      have HSN : Hid (∀ W, Add w2 W → NBox W g1 N s t (some ⟨b, off, none⟩) l c → W.cell? ⟨g1, 3, none⟩ = some (.slice (some ⟨b, off, none⟩) l c) ∧ W.cell? ⟨b, off + j * 4, none⟩ = some (.int .i64 x) ∧ W.cell? ⟨b, off + j * 4 + 1, none⟩ = some (.int .i64 y) ∧ W.cell? ⟨b, off + j * 4 + 2, none⟩ = some (.int .i64 z)) := Lib.hid fun W ha hn =>
        ⟨hn.c3, (ha.cell (p := ⟨b, off + j * 4, none⟩) hbw).trans p0, (ha.cell (p := ⟨b, off + j * 4 + 1, none⟩) hbw).trans p1, (ha.cell (p := ⟨b, off + j * 4 + 2, none⟩) hbw).trans p2⟩
      obtain ⟨-, q0, q1, q2⟩ := HSN.out _ hadd hb1
      have c3 := hb1.c3
      have d3 := hb2.c3
      have f3 := frozen_of_row wr (g1 + 1) 3 _ 24 hb2
      have z1 := hb2.lt
      have OWNB := Lib.hid (own_block' hown)
      have HB1 := Lib.hid hb1
      have HB2 := Lib.hid hb2
      have HADD := Lib.hid hadd
      have HOWN : Hid ((World.drew wr).ownsRow (g1 + 1 + 1) 44 4 (.slice a' k c') k (cellsA B)) := Lib.hid hown.drew
      have HX := Lib.hid hx
      have e1 : b < wr.heap.size := Nat.lt_of_lt_of_le hbw hadd.size
      have HD : Hid (∀ o, Add wr ((World.drew wr).alloc o)) := Lib.hid fun o => Add.trans (b_drew (Below.refl _ _)) (add_new _ o)
      clear p0 p1 p2 hb1 hb2 hown hadd hx
      go_wp2_with fail
      have HSD : Hid (wr.drew.cell? ⟨g1, 3, none⟩ = some (.slice (some ⟨b, off, none⟩) l c) ∧ wr.drew.cell? ⟨b, off + j * 4, none⟩ = some (.int .i64 x) ∧ wr.drew.cell? ⟨b, off + j * 4 + 1, none⟩ = some (.int .i64 y) ∧ wr.drew.cell? ⟨b, off + j * 4 + 2, none⟩ = some (.int .i64 z)) := Lib.hid (HSN.out _ (b_drew HADD.out) (HB1.out.add (b_drew (Below.refl _ _))))
      have HCD : Hid (wr.drew.cell? ⟨g1 + 1, 3, none⟩ = some (.slice a' k c')) := Lib.hid (HB2.out.add (b_drew (Below.refl _ _))).c3
      refine wp_region_T (fun w' => w'.cell? ⟨g1, 3, none⟩ = some (.slice (some ⟨b, off, none⟩) l c) ∧ w'.cell? ⟨b, off + j * 4, none⟩ = some (.int .i64 x) ∧ w'.cell? ⟨b, off + j * 4 + 1, none⟩ = some (.int .i64 y) ∧ w'.cell? ⟨b, off + j * 4 + 2, none⟩ = some (.int .i64 z)) (fun w' => w'.cell? ⟨g1 + 1, 3, none⟩ = some (.slice a' k c')) 24 (by kernel_rfl) ?_
      show wpAnyT _ _ _ _ _ _ _ 25 #[false, false, false, false, false, false, false, false, false, false, false, false, false, false, false, false, false, false, false, false, false, false, false, false, false] _ _
      refine wpAnyT_take (i := 0) (v := ?_) (by simp only [List.getElem?_toArray, List.getElem?_cons_zero]; rfl) (by kernel_rfl) (by kernel_rfl) (by kernel_rfl) (by kernel_rfl) (by intro _ _ _ h; exact h) (Or.inl ⟨by rfl, ?_⟩) HSD.out HCD.out ?_
      rotate_left
      · intro w' hSw
        try dsimp only at hSw
        go_simp
        try with_reducible rfl
      try simp only [Act.put, List.setIfInBounds_toArray, List.set_cons_zero, List.set_cons_succ]
      refine wpAnyT_take (i := 1) (v := ?_) (by simp only [List.getElem?_toArray, List.getElem?_cons_zero, List.getElem?_cons_succ]; rfl) (by kernel_rfl) (by kernel_rfl) (by kernel_rfl) (by kernel_rfl) (by intro _ _ _ h; exact h) (Or.inl ⟨by rfl, ?_⟩) HSD.out HCD.out ?_
      rotate_left
      · intro w' hSw
        try dsimp only at hSw
        go_simp
        try with_reducible rfl
      try simp only [Act.put, List.setIfInBounds_toArray, List.set_cons_zero, List.set_cons_succ]
      refine wpAnyT_take (i := 2) (v := ?_) (by simp only [List.getElem?_toArray, List.getElem?_cons_zero, List.getElem?_cons_succ]; rfl) (by kernel_rfl) (by kernel_rfl) (by kernel_rfl) (by kernel_rfl) (by intro _ _ _ h; exact h) (Or.inl ⟨by rfl, ?_⟩) HSD.out HCD.out ?_
      rotate_left
      · intro w' hSw
        try dsimp only at hSw
        go_simp
        try with_reducible rfl
      try simp only [Act.put, List.setIfInBounds_toArray, List.set_cons_zero, List.set_cons_succ]
      refine wpAnyT_take (i := 3) (v := ?_) (by simp only [List.getElem?_toArray, List.getElem?_cons_zero, List.getElem?_cons_succ]; rfl) (by kernel_rfl) (by kernel_rfl) (by kernel_rfl) (by kernel_rfl) (by intro _ _ _ h; exact h) (Or.inl ⟨by rfl, ?_⟩) HSD.out HCD.out ?_
      rotate_left
      · intro w' hSw
        try dsimp only at hSw
        go_simp
        try with_reducible rfl
      try simp only [Act.put, List.setIfInBounds_toArray, List.set_cons_zero, List.set_cons_succ]
      refine wpAnyT_take (i := 4) (v := ?_) (by simp only [List.getElem?_toArray, List.getElem?_cons_zero, List.getElem?_cons_succ]; rfl) (by kernel_rfl) (by kernel_rfl) (by kernel_rfl) (by kernel_rfl) (by intro _ _ _ h; exact h) (Or.inl ⟨by rfl, ?_⟩) HSD.out HCD.out ?_
      rotate_left
      · intro w' hSw
        try dsimp only at hSw
        go_simp
        try with_reducible rfl
      try simp only [Act.put, List.setIfInBounds_toArray, List.set_cons_zero, List.set_cons_succ]
      refine wpAnyT_take (i := 5) (v := ?_) (by simp only [List.getElem?_toArray, List.getElem?_cons_zero, List.getElem?_cons_succ]; rfl) (by kernel_rfl) (by kernel_rfl) (by kernel_rfl) (by kernel_rfl) (by intro _ _ _ h; exact h) (Or.inl ⟨by rfl, ?_⟩) HSD.out HCD.out ?_
      rotate_left
      · intro w' hSw
        try dsimp only at hSw
        go_simp
        try with_reducible rfl
      try simp only [Act.put, List.setIfInBounds_toArray, List.set_cons_zero, List.set_cons_succ]
      refine wpAnyT_take (i := 6) (v := ?_) (by simp only [List.getElem?_toArray, List.getElem?_cons_zero, List.getElem?_cons_succ]; rfl) (by kernel_rfl) (by kernel_rfl) (by kernel_rfl) (by kernel_rfl) (by intro _ _ _ h; exact h) (Or.inl ⟨by rfl, ?_⟩) HSD.out HCD.out ?_
      rotate_left
      · intro w' hSw
        try dsimp only at hSw
        go_simp
        try with_reducible rfl
      try simp only [Act.put, List.setIfInBounds_toArray, List.set_cons_zero, List.set_cons_succ]
      refine wpAnyT_take (i := 7) (v := ?_) (by simp only [List.getElem?_toArray, List.getElem?_cons_zero, List.getElem?_cons_succ]; rfl) (by kernel_rfl) (by kernel_rfl) (by kernel_rfl) (by kernel_rfl) (by intro _ _ _ h; exact h) (Or.inl ⟨by rfl, ?_⟩) HSD.out HCD.out ?_
      rotate_left
      · intro w' hSw
        try dsimp only at hSw
        go_simp
        try with_reducible rfl
      try simp only [Act.put, List.setIfInBounds_toArray, List.set_cons_zero, List.set_cons_succ]
      refine wpAnyT_take (i := 8) (v := ?_) (by simp only [List.getElem?_toArray, List.getElem?_cons_zero, List.getElem?_cons_succ]; rfl) (by kernel_rfl) (by kernel_rfl) (by kernel_rfl) (by kernel_rfl) (by intro _ _ _ h; exact h) (Or.inl ⟨by rfl, ?_⟩) HSD.out HCD.out ?_
      rotate_left
      · intro w' hSw
        try dsimp only at hSw
        go_simp
        try with_reducible rfl
      try simp only [Act.put, List.setIfInBounds_toArray, List.set_cons_zero, List.set_cons_succ]
      refine wpAnyT_take (i := 9) (v := ?_) (by simp only [List.getElem?_toArray, List.getElem?_cons_zero, List.getElem?_cons_succ]; rfl) (by kernel_rfl) (by kernel_rfl) (by kernel_rfl) (by kernel_rfl) (by intro _ _ _ h; exact h) (Or.inl ⟨by rfl, ?_⟩) HSD.out HCD.out ?_
      rotate_left
      · intro w' hSw
        try dsimp only at hSw
        go_simp
        try with_reducible rfl
      try simp only [Act.put, List.setIfInBounds_toArray, List.set_cons_zero, List.set_cons_succ]
      refine wpAnyT_take (i := 10) (v := ?_) (by simp only [List.getElem?_toArray, List.getElem?_cons_zero, List.getElem?_cons_succ]; rfl) (by kernel_rfl) (by kernel_rfl) (by kernel_rfl) (by kernel_rfl) (by intro _ _ _ h; exact h) (Or.inl ⟨by rfl, ?_⟩) HSD.out HCD.out ?_
      rotate_left
      · intro w' hSw
        try dsimp only at hSw
        go_simp
        try with_reducible rfl
      try simp only [Act.put, List.setIfInBounds_toArray, List.set_cons_zero, List.set_cons_succ]
      refine wpAnyT_take (i := 11) (v := ?_) (by simp only [List.getElem?_toArray, List.getElem?_cons_zero, List.getElem?_cons_succ]; rfl) (by kernel_rfl) (by kernel_rfl) (by kernel_rfl) (by kernel_rfl) (by intro _ _ _ h; exact h) (Or.inl ⟨by rfl, ?_⟩) HSD.out HCD.out ?_
      rotate_left
      · intro w' hSw
        try dsimp only at hSw
        go_simp
        try with_reducible rfl
      try simp only [Act.put, List.setIfInBounds_toArray, List.set_cons_zero, List.set_cons_succ]
      refine wpAnyT_take (i := 12) (v := ?_) (by simp only [List.getElem?_toArray, List.getElem?_cons_zero, List.getElem?_cons_succ]; rfl) (by kernel_rfl) (by kernel_rfl) (by kernel_rfl) (by kernel_rfl) (by intro _ _ _ h; exact h) (Or.inl ⟨by rfl, ?_⟩) HSD.out HCD.out ?_
      rotate_left
      · intro w' hSw
        try dsimp only at hSw
        go_simp
        try with_reducible rfl
      try simp only [Act.put, List.setIfInBounds_toArray, List.set_cons_zero, List.set_cons_succ]
      refine wpAnyT_take (i := 13) (v := ?_) (by simp only [List.getElem?_toArray, List.getElem?_cons_zero, List.getElem?_cons_succ]; rfl) (by kernel_rfl) (by kernel_rfl) (by kernel_rfl) (by kernel_rfl) (by intro _ _ _ h; exact h) (Or.inl ⟨by rfl, ?_⟩) HSD.out HCD.out ?_
      rotate_left
      · intro w' hSw
        try dsimp only at hSw
        go_simp
        try with_reducible rfl
      try simp only [Act.put, List.setIfInBounds_toArray, List.set_cons_zero, List.set_cons_succ]
      refine wpAnyT_take (i := 14) (v := ?_) (by simp only [List.getElem?_toArray, List.getElem?_cons_zero, List.getElem?_cons_succ]; rfl) (by kernel_rfl) (by kernel_rfl) (by kernel_rfl) (by kernel_rfl) (by intro _ _ _ h; exact h) (Or.inl ⟨by rfl, ?_⟩) HSD.out HCD.out ?_
      rotate_left
      · intro w' hSw
        try dsimp only at hSw
        go_simp
        try with_reducible rfl
      try simp only [Act.put, List.setIfInBounds_toArray, List.set_cons_zero, List.set_cons_succ]
      refine wpAnyT_take (i := 15) (v := ?_) (by simp only [List.getElem?_toArray, List.getElem?_cons_zero, List.getElem?_cons_succ]; rfl) (by kernel_rfl) (by kernel_rfl) (by kernel_rfl) (by kernel_rfl) (by intro _ _ _ h; exact h) (Or.inl ⟨by rfl, ?_⟩) HSD.out HCD.out ?_
      rotate_left
      · intro w' hSw
        try dsimp only at hSw
        go_simp
        try with_reducible rfl
      try simp only [Act.put, List.setIfInBounds_toArray, List.set_cons_zero, List.set_cons_succ]
      refine wpAnyT_take (i := 16) (v := ?_) (by simp only [List.getElem?_toArray, List.getElem?_cons_zero, List.getElem?_cons_succ]; rfl) (by kernel_rfl) (by kernel_rfl) (by kernel_rfl) (by kernel_rfl) (by intro _ _ _ h; exact h) (Or.inl ⟨by rfl, ?_⟩) HSD.out HCD.out ?_
      rotate_left
      · intro w' hSw
        try dsimp only at hSw
        go_simp
        try with_reducible rfl
      try simp only [Act.put, List.setIfInBounds_toArray, List.set_cons_zero, List.set_cons_succ]
      refine wpAnyT_take (i := 17) (v := ?_) (by simp only [List.getElem?_toArray, List.getElem?_cons_zero, List.getElem?_cons_succ]; rfl) (by kernel_rfl) (by kernel_rfl) (by kernel_rfl) (by kernel_rfl) (by intro _ _ _ h; exact h) (Or.inl ⟨by rfl, ?_⟩) HSD.out HCD.out ?_
      rotate_left
      · intro w' hSw
        try dsimp only at hSw
        go_simp
        try with_reducible rfl
      try simp only [Act.put, List.setIfInBounds_toArray, List.set_cons_zero, List.set_cons_succ]
      refine wpAnyT_take (i := 18) (v := ?_) (by simp only [List.getElem?_toArray, List.getElem?_cons_zero, List.getElem?_cons_succ]; rfl) (by kernel_rfl) (by kernel_rfl) (by kernel_rfl) (by kernel_rfl) (by intro _ _ _ h; exact h) (Or.inl ⟨by rfl, ?_⟩) HSD.out HCD.out ?_
      rotate_left
      · intro w' hSw
        try dsimp only at hSw
        go_simp
        try with_reducible rfl
      try simp only [Act.put, List.setIfInBounds_toArray, List.set_cons_zero, List.set_cons_succ]
      refine wpAnyT_take (i := 19) (v := ?_) (by simp only [List.getElem?_toArray, List.getElem?_cons_zero, List.getElem?_cons_succ]; rfl) (by kernel_rfl) (by kernel_rfl) (by kernel_rfl) (by kernel_rfl) (by intro _ _ _ h; exact h) (Or.inl ⟨by rfl, ?_⟩) HSD.out HCD.out ?_
      rotate_left
      · intro w' hSw
        try dsimp only at hSw
        go_simp
        try with_reducible rfl
      try simp only [Act.put, List.setIfInBounds_toArray, List.set_cons_zero, List.set_cons_succ]
      refine wpAnyT_take (i := 20) (v := ?_) (by simp only [List.getElem?_toArray, List.getElem?_cons_zero, List.getElem?_cons_succ]; rfl) (by kernel_rfl) (by kernel_rfl) (by kernel_rfl) (by kernel_rfl) (by intro _ _ _ h; exact h) (Or.inl ⟨by rfl, ?_⟩) HSD.out HCD.out ?_
      rotate_left
      · intro w' hSw
        try dsimp only at hSw
        go_simp
        try with_reducible rfl
      try simp only [Act.put, List.setIfInBounds_toArray, List.set_cons_zero, List.set_cons_succ]
      refine wpAnyT_one (i := 21) (by kernel_rfl) (wpOp_do (by simp only [List.getElem?_toArray, List.getElem?_cons_zero, List.getElem?_cons_succ]; rfl) fun K hK => ?_)
      go_simp
      refine hK _ _ ⟨⟨HSN.out _ (Add.trans HADD.out (HD.out _)) (HB1.out.add (HD.out _)), fun _ => (HB2.out.add (HD.out _)).c3⟩, ?_⟩
      clear hK K
      try simp only [List.setIfInBounds_toArray, List.set_cons_zero, List.set_cons_succ]
      refine wpAnyT_one (i := 22) (by kernel_rfl) (wpOp_do (by simp only [List.getElem?_toArray, List.getElem?_cons_zero, List.getElem?_cons_succ]; rfl) fun K hK => ?_)
      refine step_append_lies _ rfl _ _ 22 rfl (g1 + 1 + 1) 44 i2 (.agg #[.int .i64 0, .int .i64 0, .int .i64 0, .int .i64 0]) 4 32 Try.underlying22 hi2 hq0 hq1 hq2 rfl (by decide) (.slice a' k c') k (cellsA B) rfl (World.ownsRow.alloc HOWN.out _) ⟨wr.heap.size, 0, none⟩ 1 1 [.int .i64 y, .int .i64 x, .int .i64 z, .int .i64 0] rfl rfl (World.news_of_block (heap_alloc_new (World.drew wr) _)) (by intro u hu; simp at hu; rcases hu with rfl | rfl | rfl | rfl <;> rfl) (by decide) (by unfold maxLen; omega) (by omega) (by simp; omega) _ rfl ?_
      intro g6 cap6 w6 hown6 hgr6 hat6 hlt6
      have t6 : Add w2 w6 := Below.grown (Add.trans HADD.out (HD.out _)) hgr6 (by have := HADD.out.size; simp; omega) (fun k' e => by have := (OWNB.out k' e).1; omega)
      have n1 := (HB1.out.add (HD.out _)).kept hgr6 (fun e => by have := (OWNB.out _ e.symm).1; omega)
      have n6 := (HB2.out.add (HD.out _)).kept hgr6 (fun e => by have := (OWNB.out _ e.symm).1; omega)
      have k6 := n6.c3
      have f6 := frozen_of_row w6 (g1 + 1) 3 _ 24 n6
      refine hK _ _ ⟨⟨HSN.out _ t6 n1, fun _ => n6.c3⟩, ?_⟩
      clear hK K
      try simp only [Act.put, List.setIfInBounds_toArray, List.set_cons_zero, List.set_cons_succ]
      refine wpAnyT_one (i := 23) (by kernel_rfl) (wpOp_do (by simp only [List.getElem?_toArray, List.getElem?_cons_zero, List.getElem?_cons_succ]; rfl) fun K hK => ?_)
      go_simp
      refine hK _ _ ⟨⟨HSN.out _ t6 n1, fun _ => n6.c3⟩, ?_⟩
      clear hK K
      try simp only [List.setIfInBounds_toArray, List.set_cons_zero, List.set_cons_succ]
      refine wpAnyT_one (i := 24) (by kernel_rfl) (wpOp_do (by simp only [List.getElem?_toArray, List.getElem?_cons_zero, List.getElem?_cons_succ]; rfl) fun K hK => ?_)
      go_simp
      refine hK _ _ ⟨⟨HSN.out _ (add_setLow t6 (by omega) _ _) ((heap_setCell_other w6 ⟨g1 + 1, 3, none⟩ _ _ (by dsimp only; omega)).trans n1), fun h => absurd (show true = false from h) (by decide)⟩, ?_⟩
      clear hK K
      try simp only [List.setIfInBounds_toArray, List.set_cons_zero, List.set_cons_succ]
      refine wpAnyT_done (by kernel_rfl) ?_ _
      have hpush := turn_push (x := y) (y := x) (z := z) (u := 0) HB1.out HADD.out n6 hown6 hgr6 (fun k' e => (OWNB.out k' e).1) HBL.out.symm (Nat.lt_succ_self _) hg1w
      have HP : Hid (TurnS w2 (w6.setCell ⟨g1 + 1, 3, none⟩ (.slice (some ⟨g6, 0, none⟩) (k + 1) cap6)) g1 (g1 + 1) N s t (some ⟨b, off, none⟩) l c (((A.map turn).reverse).take (k + 1))) := Lib.hid (by
        rw [turn_get (j := j) (by rw [HL.out]; exact hjk), ← HBB.out, HX.out]
        exact hpush)
      have HJ2 : Hid ((j : Int) - 1 = (l : Int) - 1 - ((k + 1 : Nat) : Int)) := Lib.hid (by omega)
      clear hpush t6 n1 n6 k6 f6 hown6 hgr6 hat6 hlt6 q0 q1 q2 c3 d3 f3
      go_wp2_with fail
      go_roundw
      case rel => exact ⟨k + 1, by omega, by rw [HJ2.out], HP⟩
      case measure => have := HJ.out; simp [intOf]
    · obtain rfl : l = k := by omega
      have hB2 : B = (A.map turn).reverse := by rw [HBB.out, List.take_of_length_le (by simp; rw [HL.out]; omega)]
      have hm2 : (l : Int) - 1 - (l : Int) = -1 := by omega
      rw [hm2]
      have hown' : wr.ownsRow (g1 + 1 + 1) 44 4 (.slice a' B.length c') B.length (cellsA B) := by rw [HBL.out]; exact hown
      have hAB := arcs_own hown'
      rw [HBL.out, hB2] at hAB
      have hVT : VNet N t s ((A.map turn).reverse) := by
        obtain ⟨k1, k2, k3, k4, k5, k6, k7⟩ := HSM.out.1
        refine ⟨fun e he => ?_, k3, k2, Ne.symm k4, k5, k6, by simpa using k7⟩
        rw [List.mem_reverse, List.mem_map] at he
        obtain ⟨e2, he2, rfl⟩ := he
        have := k1 e2 he2
        unfold okArc at this ⊢; unfold turn; dsimp only; omega
      have CM : Hid (∀ W1, Add wr W1 → Calls Try.prog 20 #[.agg #[.int .i64 (N : Nat), .int .i64 (t : Nat), .int .i64 (s : Nat), .slice a' l c']] W1 (SolvedP W1 N t s ((A.map turn).reverse))) := Lib.hid fun W1 hh => solved_any (NetA.add ⟨_, rfl, hAB⟩ hh) hVT
      have c0 := hb1.c0
      have c1 := hb1.c1
      have c2 := hb1.c2
      have c3 := hb1.c3
      have HB2 := Lib.hid hb2
      have HADD := Lib.hid hadd
      clear hm2 hown hown' hAB hVT hB2 hb1 hb2 hadd
      go_wp2_with fail
      refine (CS.out _ HADD.out).mono ?_
      rintro e w4 ⟨x, rfl, hopt, h4⟩
      have hB4 := HB2.out.add h4
      have HO := Lib.hid hopt
      have H4 := Lib.hid h4
      clear c0 c1 c2 c3 hopt h4
      have c0 := hB4.c0
      have c1 := hB4.c1
      have c2 := hB4.c2
      have c3 := hB4.c3
      clear hB4
      go_wp2_with fail
      refine (CM.out _ H4.out).mono ?_
      rintro e w5 ⟨y, rfl, hopt, h5⟩
      have hxy : x = y := HO.out.turn hopt HSM.out.1.2.1 HSM.out.1.2.2.1 HSM.out.1.1
      subst hxy
      have d1 : (x == x) = true := by simp
      have H5 := Lib.hid (Add.trans H2.out (Add.trans HADD.out (Add.trans H4.out h5)))
      clear hopt h5 c0 c1 c2 c3
      go_wp2_with fail
      refine (CA.out _).mono ?_
      rintro e w6 ⟨rfl, h6⟩
      have HE : Hid (LawB w (.returned (.bool true)) w6) := Lib.hid ⟨rfl, Add.trans H5.out h6⟩
      clear h6
      go_wp2_with fail
      go_ret
      exact HE.out
end Go.Proofs.Ytdihmbbkmbnomaa
