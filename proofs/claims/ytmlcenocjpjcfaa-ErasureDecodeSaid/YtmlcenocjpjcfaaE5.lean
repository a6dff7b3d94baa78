/- Package erasure: oneTwice and contents. -/
import Derived.Test.YtmlcenocjpjcfaaE4
namespace Go.Proofs.Ytmlcenocjpjcfaa
open Go.RowKit GfM

/-- Which of the 8 numbers occur. -/
def seenV (ix : List Int) : List Value := (List.range 8).map fun j : Nat => .bool (decide ((j : Int) ∈ ix))
def SeenAt (w : World) (g : Nat) (ix : List Int) : Prop := w.heap[g]? = some (.cells (seenV ix).toArray 72 (0, 0))
theorem SeenAt.lt {w : World} {g : Nat} {ix : List Int} (h : SeenAt w g ix) : g < w.heap.size := (Array.getElem?_eq_some_iff.1 h).1
theorem SeenAt.cell {w : World} {g : Nat} {ix : List Int} (h : SeenAt w g ix) {j : Nat} (hj : j < 8) : w.cell? ⟨g, j, none⟩ = some (.bool (decide ((j : Int) ∈ ix))) := by
  rw [cell_of_row w g j _ 72 (0, 0) h]
  simp [seenV, hj]
theorem SeenAt.free {w : World} {g : Nat} {ix : List Int} (h : SeenAt w g ix) (j : Nat) : w.frozen? ⟨g, j, none⟩ = false := frozen_of_row w g j _ 72 h
theorem SeenAt.below {w w' : World} {g : Nat} {ix : List Int} (h : SeenAt w g ix) (hb : Add w w') : SeenAt w' g ix := (hb.block g h.lt).trans h
theorem SeenAt.set {w : World} {g : Nat} {ix : List Int} (h : SeenAt w g ix) {j : Nat} : SeenAt (w.setCell ⟨g, j, none⟩ (.bool true)) g (ix ++ [(j : Int)]) := by
  unfold SeenAt
  rw [heap_setCell_same w g j _ 72 _ h]
  have e : (seenV ix).toArray.setIfInBounds j (.bool true) = (seenV (ix ++ [(j : Int)])).toArray := by
    rw [List.setIfInBounds_toArray]
    congr 1
    refine List.ext_getElem (by simp [seenV]) fun i h1 h2 => ?_
    simp only [seenV, List.getElem_set, List.getElem_map, List.getElem_range]
    split
    · subst_vars; simp
    · rename_i hne
      have hne' : (i : Int) ≠ (j : Int) := fun e => hne (by omega)
      simp [hne']
  rw [e]
set_option maxRecDepth 100000 in
set_option maxHeartbeats 1000000 in
theorem oneTwice_any {w : World} {v : Value} {ix : List Int} {vs : List Value} {rs : List (List Nat)} (h : FragsB w v ix vs rs) (h8 : ∀ x ∈ ix, 0 ≤ x ∧ x < 8) :
    Calls Try.prog 52 #[v] w (fun e w' => e = .returned (.bool (decide (¬ ix.Nodup))) ∧ Add w w') := by
  obtain ⟨ao, c, rfl, hm, hxl, -⟩ := h.isSlice
  unfold maxLen at hm
  obtain ⟨l, hl⟩ : ∃ l, l = rs.length := ⟨_, rfl⟩
  rw [← hl] at h hm hxl ⊢
  have HL := Lib.hid hxl
  have HR := Lib.hid h
  have H8 := Lib.hid h8
  have hm' : l ≤ 9223372036854775807 := by omega
  clear hl h hm hxl h8
  obtain ⟨G, eG⟩ : ∃ G, G = w.heap.size := ⟨_, rfl⟩
  have HS0 : Hid (SeenAt (w.alloc (.cells #[.bool false, .bool false, .bool false, .bool false, .bool false, .bool false, .bool false, .bool false] 72)) w.heap.size (ix.take 0)) := Lib.hid (by rw [List.take_zero]; exact heap_alloc_new w _)
  have HA0 : Hid (Add w (w.alloc (.cells #[.bool false, .bool false, .bool false, .bool false, .bool false, .bool false, .bool false, .bool false] 72))) := Lib.hid ((Below.refl _ _).alloc (Nat.le_refl _) _)
  go_enter Try.func52, Try.ntmps52
  go_wp2_with fail
  go_loopw [8] (fun i wr => ∃ k : Nat, k ≤ l ∧ i = .int .i64 (k : Nat) ∧ (ix.take k).Nodup ∧ SeenAt wr w.heap.size (ix.take k) ∧ Add w wr) (fun i _ => l - (intOf i).toNat)
  case atStart => exact ⟨0, Nat.zero_le _, rfl, List.nodup_nil, HS0.out, HA0.out⟩
  case round =>
    obtain ⟨k, hk, rfl, hrel, hseen, hadd⟩ := hrel
    have HREL := Lib.hid hrel
    have HSEEN := Lib.hid hseen
    have HADD := Lib.hid hadd
    clear hrel hseen hadd
    by_cases h0 : k = l
    · subst h0
      have HF : Hid (decide (¬ ix.Nodup) = false) := Lib.hid (by have := HREL.out; rw [← HL.out, List.take_length] at this; simp [this])
      go_wp2_with fail
      go_ret
      exact ⟨by rw [HF.out]; rfl, HADD.out⟩
    · have hlt : k < l := by omega
      obtain ⟨b, off, a, m, cc, rfl, -, em, hmm, hc0, hc1, -⟩ := (HR.out.mono HADD.out).frag hlt
      have hkx : k < ix.length := by rw [HL.out]; exact hlt
      have hin := H8.out (ix.getD k 0) (by simp only [List.getD, List.getElem?_eq_getElem hkx, Option.getD_some]; exact List.getElem_mem hkx)
      obtain ⟨j, ej⟩ : ∃ j : Nat, ix.getD k 0 = (j : Int) := ⟨(ix.getD k 0).toNat, by omega⟩
      have hj8 : j < 8 := by omega
      rw [ej] at hc0
      have HTK : Hid (ix.take (k + 1) = ix.take k ++ [(j : Int)]) := Lib.hid (by
        rw [List.take_succ_eq_append_getElem hkx]
        simp only [List.getD, List.getElem?_eq_getElem hkx, Option.getD_some] at ej
        rw [ej])
      obtain ⟨W2, eW⟩ : ∃ W2, W2 = wr.alloc (.cells #[.int .i64 (j : Nat), .slice a m cc] 34) := ⟨_, rfl⟩
      have hadd2 : Add wr W2 := by rw [eW]; exact (Below.refl _ _).alloc (Nat.le_refl _) _
      have hs2 := HSEEN.out.below hadd2
      have hcell := hs2.cell hj8
      have hfree := hs2.free j
      have hbox : Fbox W2 wr.heap.size (j : Nat) (.slice a m cc) := by rw [eW]; exact fbox_new _ _ _
      have HA2 : Hid (Add w W2) := Lib.hid (by rw [eW]; exact HADD.out.alloc HADD.out.size _)
      have HNEXT : Hid (SeenAt (W2.setCell ⟨w.heap.size, j, none⟩ (.bool true)) w.heap.size (ix.take (k + 1)) ∧ Add w (W2.setCell ⟨w.heap.size, j, none⟩ (.bool true))) := Lib.hid ⟨by rw [HTK.out]; exact hs2.set, HA2.out.setCell (Nat.le_refl _) _⟩
      clear em h0 hin ej hadd2 hs2 hbox
      subst eW
      by_cases hmem : (j : Int) ∈ ix.take k
      · have hd : decide ((j : Int) ∈ ix.take k) = true := decide_eq_true hmem
        have HF : Hid (decide (¬ ix.Nodup) = true) := Lib.hid (by
          refine decide_eq_true fun hn => ?_
          have h2 : (ix.take (k + 1)).Nodup := hn.sublist (List.take_sublist _ _)
          rw [HTK.out] at h2
          exact (List.nodup_append.1 h2).2.2 _ hmem _ (by simp) rfl)
        rw [hd] at hcell
        clear hmem hd
        go_wp2_with fail
        go_ret
        exact ⟨by rw [HF.out]; rfl, HA2.out⟩
      · have hd : decide ((j : Int) ∈ ix.take k) = false := decide_eq_false hmem
        have HN : Hid ((ix.take (k + 1)).Nodup) := Lib.hid (by
          rw [HTK.out]
          refine List.nodup_append.2 ⟨HREL.out, by simp, fun x hx y hy e => ?_⟩
          have hy' : y = (j : Int) := by simpa using hy
          rw [e, hy'] at hx; exact hmem hx)
        rw [hd] at hcell
        clear hmem hd
        go_wp2_with fail
        go_roundw
        case rel => exact ⟨k + 1, by omega, by go_num, HN.out, HNEXT.out.1, HNEXT.out.2⟩
        case measure => simp [intOf]; omega
end Go.Proofs.Ytmlcenocjpjcfaa
