/- The laws of erasure: the sanity check awake. -/
import Derived.Test.YtmlcenocjpjcfaaE10
namespace Go.Proofs.Ytmlcenocjpjcfaa
open Go.RowKit GfM

theorem reads_lit (w : World) (x : Nat) (hx : x < 256) : Reads (w.alloc (.cells #[.int .u8 (x : Nat)] 5)) (.slice (some ⟨w.heap.size, 0, none⟩) 1 1) [x] := by
  have hb : Bys [x] := fun y hy => by
    have e : y = x := by simpa using hy
    omega
  refine ⟨_, 1, 1, rfl, rfl, Nat.le_refl _, by unfold maxLen; omega, hb, fun _ => ⟨w.heap.size, 0, rfl, fun i hi => ?_⟩⟩
  have e : i = 0 := by omega
  subst e
  rw [Nat.zero_add, cell_of_row _ w.heap.size 0 _ 5 (0, 0) (heap_alloc_new w _)]; rfl
theorem add_alloc (w : World) (o : Obj) : Add w (w.alloc o) := (Below.refl _ _).alloc (Nat.le_refl _) _
theorem size_alloc (w : World) (o : Obj) : (w.alloc o).heap.size = w.heap.size + 1 := by simp
def data59 : List (List Nat) := [[5], [9]]
theorem dim59 : Dim 2 1 data59 := by
  refine ⟨rfl, fun i hi => ?_, fun i => ?_⟩
  · rcases i with _ | _ | i
    · rfl
    · rfl
    · omega
  · rcases i with _ | _ | i
    · intro x hx; have : x = 5 := by simpa [data59] using hx
      omega
    · intro x hx; have : x = 9 := by simpa [data59] using hx
      omega
    · intro x hx; simp [data59] at hx
theorem facs22 : facs 2 2 = [coefZ 0 0, coefZ 0 1] := by
  unfold facs
  rw [if_neg (by decide)]
  show [coefZ ((2 - 2 : Nat) : Int) ((0 : Nat) : Int), coefZ ((2 - 2 : Nat) : Int) ((1 : Nat) : Int)] = _
  simp only [Nat.sub_self, Int.natCast_zero, Int.natCast_one]
theorem row59 : wordR 2 1 data59 2 = [gm (coefZ 0 0) 5 ^^^ gm (coefZ 0 1) 9] := by
  unfold wordR
  rw [if_neg (by decide), facs22]
  simp only [comb, data59, List.replicate_succ, List.replicate_zero, addTo, List.getD_cons_zero, List.getD_cons_succ, Nat.zero_xor]
theorem rows_lit (w : World) : RowsB (((w.alloc (.cells #[.int .u8 5] 5)).alloc (.cells #[.int .u8 9] 5)).alloc (.cells #[.slice (some ⟨w.heap.size, 0, none⟩) 1 1, .slice (some ⟨w.heap.size + 1, 0, none⟩) 1 1] 32))
    (.slice (some ⟨w.heap.size + 1 + 1, 0, none⟩) 2 2) [.slice (some ⟨w.heap.size, 0, none⟩) 1 1, .slice (some ⟨w.heap.size + 1, 0, none⟩) 1 1] data59 := by
  have h0 := ((reads_lit w 5 (by decide)).mono (add_alloc _ (.cells #[.int .u8 9] 5))).mono (add_alloc _ (.cells #[.slice (some ⟨w.heap.size, 0, none⟩) 1 1, .slice (some ⟨w.heap.size + 1, 0, none⟩) 1 1] 32))
  have h1 := (reads_lit (w.alloc (.cells #[.int .u8 5] 5)) 9 (by decide)).mono (add_alloc _ (.cells #[.slice (some ⟨w.heap.size, 0, none⟩) 1 1, .slice (some ⟨w.heap.size + 1, 0, none⟩) 1 1] 32))
  rw [size_alloc] at h1
  have hG := heap_alloc_new ((w.alloc (.cells #[.int .u8 5] 5)).alloc (.cells #[.int .u8 9] 5)) (.cells #[.slice (some ⟨w.heap.size, 0, none⟩) 1 1, .slice (some ⟨w.heap.size + 1, 0, none⟩) 1 1] 32)
  rw [size_alloc, size_alloc] at hG
  refine ⟨_, 2, 2, rfl, rfl, rfl, Nat.le_refl _, by unfold maxLen; omega, fun _ => ⟨_, 0, rfl, fun i hi => ?_⟩, fun i hi => ?_⟩
  · rw [Nat.zero_add, cell_of_row _ _ i _ 32 (0, 0) hG]
    rcases i with _ | _ | i
    · rfl
    · rfl
    · omega
  · rcases i with _ | _ | i
    · exact h0
    · exact h1
    · omega
theorem frags_lit (w : World) (a : Option Addr) (c x : Nat) (h : Reads w (.slice a 1 c) [x]) : FragsB ((w.alloc (.cells #[.int .u8 5] 5)).alloc (.cells #[.int .i64 2, .slice a 1 c, .int .i64 0, .slice (some ⟨w.heap.size, 0, none⟩) 1 1] 34))
    (.slice (some ⟨w.heap.size + 1, 0, none⟩) 2 2) [2, 0] [.slice a 1 c, .slice (some ⟨w.heap.size, 0, none⟩) 1 1] [[x], [5]] := by
  have h0 := (h.mono (add_alloc _ (.cells #[.int .u8 5] 5))).mono (add_alloc _ (.cells #[.int .i64 2, .slice a 1 c, .int .i64 0, .slice (some ⟨w.heap.size, 0, none⟩) 1 1] 34))
  have h1 := (reads_lit w 5 (by decide)).mono (add_alloc _ (.cells #[.int .i64 2, .slice a 1 c, .int .i64 0, .slice (some ⟨w.heap.size, 0, none⟩) 1 1] 34))
  have hG := heap_alloc_new (w.alloc (.cells #[.int .u8 5] 5)) (.cells #[.int .i64 2, .slice a 1 c, .int .i64 0, .slice (some ⟨w.heap.size, 0, none⟩) 1 1] 34)
  rw [size_alloc] at hG
  refine ⟨_, 2, 2, rfl, rfl, rfl, rfl, Nat.le_refl _, by unfold maxLen; omega, fun _ => ⟨_, 0, rfl, fun i hi => ?_⟩, fun i hi => ?_⟩
  · rw [Nat.zero_add, cell_of_row _ _ (i * 2) _ 34 (0, 0) hG, cell_of_row _ _ (i * 2 + 1) _ 34 (0, 0) hG]
    rcases i with _ | _ | i
    · exact ⟨rfl, rfl⟩
    · exact ⟨rfl, rfl⟩
    · omega
  · rcases i with _ | _ | i
    · exact h0
    · exact h1
    · omega
theorem frags_nil (w : World) : FragsB w (.slice none 0 0) [] [] [] := ⟨none, 0, 0, rfl, rfl, rfl, rfl, Nat.le_refl _, by unfold maxLen; omega, fun h => by omega, fun i hi => by omega⟩
theorem decode_nil (w : World) : Calls Try.prog 18 #[.int .i64 2, .int .i64 1, .slice none 0 0] w (RetErr w 10) := by
  refine decode_err (k := 2) (m := 1) ?_ (by decide)
  refine (complete_any (k := 2) (m := 1) (L := 0) (R := []) (frags_nil w) (by decide) (by rfl) rfl (by omega) (fun _ h => by simp at h)).mono fun e w' h => ?_
  unfold CompP at h
  rw [if_neg (by simp), if_pos (by decide)] at h
  exact h
theorem decode59 {w : World} {v : Value} {vs : List Value} {x : Nat} (h : FragsB w v [2, 0] vs [[x], [5]]) (hx : [x] = wordR 2 1 data59 2) : Calls Try.prog 18 #[.int .i64 2, .int .i64 1, v] w (RetNE w 2 data59) := by
  have h1 := complete_word (k := 2) (m := 1) (L := 1) h (by decide) (fun y hy => by
    rcases List.mem_cons.1 hy with rfl | hy
    · omega
    · have : y = 0 := by simpa using hy
      omega) (by decide) (by simp) (by omega) dim59 (fun i hi => by
    rcases i with _ | _ | i
    · exact hx
    · rfl
    · simp at hi; omega)
  exact decode_ok (k := 2) (n := 3) (h1.mono fun _ _ h => h.n (length_wordTo ..)) (by omega) (by omega)
theorem encode59 (w : World) : Calls Try.prog 13 #[.int .i64 2, .int .i64 1, .slice (some ⟨w.heap.size + 1 + 1, 0, none⟩) 2 2] (((w.alloc (.cells #[.int .u8 5] 5)).alloc (.cells #[.int .u8 9] 5)).alloc (.cells #[.slice (some ⟨w.heap.size, 0, none⟩) 1 1, .slice (some ⟨w.heap.size + 1, 0, none⟩) 1 1] 32))
    (fun e w' => ∃ G hs, e = .returned (.tuple #[.slice (some ⟨G, 0, none⟩) 3 3, .int .i64 0]) ∧ RowsB w' (.slice (some ⟨G, 0, none⟩) 3 3) hs (wordTo 2 1 data59 3) ∧ Add w w') := by
  refine (encode_ok (k := 2) (m := 1) (L := 1) (rows_lit w) rfl (by decide) (by omega) (dim_all dim59)).mono fun e w' h => ?_
  obtain ⟨G, hs, he, hr, -, ha⟩ := h.n (length_wordTo ..)
  exact ⟨G, hs, he, hr, Add.trans (Add.trans (add_alloc _ _) (Add.trans (add_alloc _ _) (add_alloc _ _))) ha⟩

set_option maxRecDepth 100000 in
set_option maxHeartbeats 1000000 in
theorem awake_any (w : World) : Calls Try.prog 12 #[] w (fun e w' => e = .returned (.bool true) ∧ Add w w') := by
  have CE := Lib.hid (encode59 w)
  obtain ⟨c0, ec0⟩ : ∃ c, c = coefZ 0 0 := ⟨_, rfl⟩
  obtain ⟨c1, ec1⟩ : ∃ c, c = coefZ 0 1 := ⟨_, rfl⟩
  obtain ⟨p0, ep0⟩ : ∃ p, p = gm c0 5 := ⟨_, rfl⟩
  obtain ⟨p1, ep1⟩ : ∃ p, p = gm c1 9 := ⟨_, rfl⟩
  obtain ⟨x, ex⟩ : ∃ x, x = p0 ^^^ p1 := ⟨_, rfl⟩
  have hc0 : c0 < 256 := by rw [ec0]; exact coefZ_lt _ _
  have hc1 : c1 < 256 := by rw [ec1]; exact coefZ_lt _ _
  have hrow : wordR 2 1 data59 2 = [x] := by rw [row59, ← ec0, ← ec1, ← ep0, ← ep1, ← ex]
  have hxor : bits .xor .u8 (p0 : Int) (p1 : Int) = (x : Int) := by rw [ex]; exact u8_xor_nat p0 p1 (by rw [ep0]; exact gm_lt hc0) (by rw [ep1]; exact gm_lt hc1)
  have K0 : Hid (∀ w, Calls Try.prog 16 #[.int .i64 0, .int .i64 0] w (fun e w' => e = .returned (.int .u8 (c0 : Nat)) ∧ ∃ m, w' = w.drewN m)) := Lib.hid fun w => by rw [ec0]; exact (coef_any 0 0 w).mono fun _ _ h => ⟨h.1, 0, h.2.symm⟩
  have K1 : Hid (∀ w, Calls Try.prog 16 #[.int .i64 0, .int .i64 1] w (fun e w' => e = .returned (.int .u8 (c1 : Nat)) ∧ ∃ m, w' = w.drewN m)) := Lib.hid fun w => by rw [ec1]; exact (coef_any 0 1 w).mono fun _ _ h => ⟨h.1, 0, h.2.symm⟩
  have M0 : Hid (∀ w, Calls Try.prog 24 #[.int .u8 (c0 : Nat), .int .u8 5] w (fun e w' => e = .returned (.int .u8 (p0 : Nat)) ∧ ∃ m, w' = w.drewN m)) := Lib.hid fun w => by rw [ep0]; exact (refMul_any c0 5 hc0 (by decide) w).mono fun _ _ h => ⟨h.1, 0, h.2.symm⟩
  have M1 : Hid (∀ w, Calls Try.prog 24 #[.int .u8 (c1 : Nat), .int .u8 9] w (fun e w' => e = .returned (.int .u8 (p1 : Nat)) ∧ ∃ m, w' = w.drewN m)) := Lib.hid fun w => by rw [ep1]; exact (refMul_any c1 9 hc1 (by decide) w).mono fun _ _ h => ⟨h.1, 0, h.2.symm⟩
  have HROW := Lib.hid hrow
  have HXOR := Lib.hid hxor
  clear hrow hxor ex ep0 ep1 ec0 ec1 hc0 hc1
  go_enter Try.func12, Try.ntmps12
  go_wp2_with fail
  refine CE.out.mono ?_
  rintro e w1 ⟨G, hs, rfl, hr1, hadd1⟩
  obtain ⟨b, off, a, l, c, eb, -, el, -, hcell2, hrd2⟩ := hr1.row (k := 2) (by decide)
  cases eb
  rw [wordTo_get (by decide), HROW.out] at el hrd2
  have el2 : l = 1 := el
  clear el
  subst el2
  rw [Nat.zero_add] at hcell2
  have CD := Lib.hid (decode59 (frags_lit w1 a c x hrd2) HROW.out.symm)
  have HR1 := Lib.hid hr1
  have HRD2 := Lib.hid hrd2
  have HA1 := Lib.hid hadd1
  clear hr1 hrd2 hadd1 CE
  go_wp2_with fail
  refine CD.out.mono ?_
  rintro e w2 ⟨D, hd, rfl, hr2, -, hadd2⟩
  have hA12 : Add w1 w2 := Add.trans (Add.trans (add_alloc _ _) (add_alloc _ _)) hadd2
  have HR2 := Lib.hid hr2
  have HA12 := Lib.hid hA12
  clear hr2 hadd2 hA12 CD
  go_wp2_with fail
  refine (decode_nil w2).mono ?_
  rintro e w3 ⟨rfl, hadd3⟩
  obtain ⟨b, off, a5, l5, c5, eb, -, el5, -, hcell5, hrd5⟩ := (HR2.out.mono hadd3).row (k := 1) (by decide)
  cases eb
  have el6 : l5 = 1 := el5
  clear el5
  subst el6
  rw [Nat.zero_add] at hcell5
  have hA13 := Add.trans HA12.out hadd3
  have hc2 : w3.cell? ⟨G, 2, none⟩ = some (.slice a 1 c) := (hA13.cell (p := ⟨G, 2, none⟩) (World.block_lt_of_cell? w1 _ hcell2)).trans hcell2
  have hrd3 := HRD2.out.mono hA13
  obtain ⟨bx, offx, rfl, hcx⟩ := hrd3.cell (k := 0) (by decide)
  have hcy : w3.cell? ⟨bx, offx, none⟩ = some (.int .u8 (x : Nat)) := hcx
  clear hcx
  have hcv : ∀ q, (convert 32 9 (.slice a5 1 c5)).run Try.prog (w3.drewN q) = .ok (.string ⟨#[9]⟩) (w3.drewN q) := fun q => (conv_all (hrd5.mono (below_drewN (Below.refl _ _) q))).trans rfl
  have HA3 : Hid (Add w w3) := Lib.hid (Add.trans HA1.out hA13)
  clear hcell2 hA13 hrd3 hrd5 hadd3
  have hxor := HXOR.out
  go_wp2_with fail
  go_quiet (first | (go_at_call 16; first | with_reducible exact Calls.quiet_of (K0.out _) | with_reducible exact Calls.quiet_of (K1.out _)) | (go_at_call 24; first | with_reducible exact Calls.quiet_of (M0.out _) | with_reducible exact Calls.quiet_of (M1.out _)))
  go_wp2_with fail
  go_ret
  exact ⟨rfl, below_drewN HA3.out _⟩
end Go.Proofs.Ytmlcenocjpjcfaa
