/- Package erasure: any k rows of a code word give its data; Decode and Rebuild. -/
import Derived.Test.YtmlcenocjpjcfaaE9
namespace Go.Proofs.Ytmlcenocjpjcfaa
open Go.RowKit GfM

/-- k rows of L bytes. -/
theorem comb_getL {L c : Nat} {cs : List Nat} {M : List (List Nat)} {n : Nat} (hr : ∀ j < n, (M.getD j []).length = L) (hc : c < L) (k : Nat) (hk : k ≤ n) : (comb L cs M k).getD c 0 = sumX k fun j => gm (cs.getD j 0) (ent M j c) := by
  induction k with
  | zero => rw [comb, sumX]; simp [List.getD, hc]
  | succ k ih =>
    rw [comb, sumX, getD_addTo' (by rw [length_comb]; exact hc) (by rw [hr k (by omega)]; exact hc), ih (by omega)]
    rfl
theorem wordR_ent {k L c idx : Nat} {data : List (List Nat)} (hd : Dim k L data) (hc : c < L) : (wordR k L data idx).getD c 0 = sumX k fun q => gm ((facs k idx).getD q 0) (ent data q c) := by
  unfold wordR
  by_cases h : idx < k
  · rw [if_pos h]
    have e : facs k idx = unitR k idx := by unfold facs; rw [if_pos h]
    rw [e, sumX_one h (fun q _ hq => by rw [unitR_at h, if_neg hq, gm_zero_l]), unitR_at h, if_pos rfl]
    exact (gm_one_l ((hd.2.2 idx).get c)).symm
  · rw [if_neg h]; exact comb_getL hd.2.1 hc k (Nat.le_refl _)
theorem dim_allL {k L : Nat} {data : List (List Nat)} (hd : Dim k L data) : allLen L data = true := dim_all hd
theorem list_eq_of {a b : List Nat} (hl : a.length = b.length) (h : ∀ c < b.length, a.getD c 0 = b.getD c 0) : a = b := by
  refine List.ext_getElem hl fun i h1 h2 => ?_
  have := h i h2
  simpa [List.getD, h1, h2] using this
/-- What the given rows of a code word give is its data. -/
theorem data_back {k L : Nat} {data R rs : List (List Nat)} {ix : List Int} (hd : Dim k L data) (hl : ix.length = k) (hR : invM (givenM k ix) k = some R) (hlr : rs.length = k)
    (hr : ∀ i < k, rs.getD i [] = wordR k L data (ix.getD i 0).toNat) : prodTo L R rs k k = data := by
  have hM := givenM_dim (k := k) hl
  obtain ⟨hRd, -, h2⟩ := inv_some hM hR
  have hrl : ∀ j < k, (rs.getD j []).length = L := fun j hj => by rw [hr j hj]; exact wordR_dim (dim_all hd) hd.1
  refine List.ext_getElem (by rw [length_prodTo, hd.1]) fun i hi1 hi2 => ?_
  have hi : i < k := by rw [length_prodTo] at hi1; exact hi1
  have e1 : (prodTo L R rs k k)[i] = comb L (R.getD i []) rs k := by simp [prodTo]
  have e2 : data[i] = data.getD i [] := by simp [List.getD, hi2]
  rw [e1, e2]
  refine list_eq_of (by rw [length_comb, hd.2.1 i hi]) fun c hc => ?_
  rw [hd.2.1 i hi] at hc
  rw [comb_getL hrl hc k (Nat.le_refl _)]
  have e3 : (sumX k fun j => gm ((R.getD i []).getD j 0) (ent rs j c)) = mulE' k (ent R) (mulE' k (ent (givenM k ix)) (ent data)) i c := by
    refine sumX_congr fun j hj => ?_
    have e5 : ent rs j c = mulE' k (ent (givenM k ix)) (ent data) j c := by
      show (rs.getD j []).getD c 0 = _
      rw [hr j hj, wordR_ent hd hc]
      refine sumX_congr fun q _ => ?_
      have e6 : ent (givenM k ix) j q = (facs k (ix.getD j 0).toNat).getD q 0 := by
        show ((givenM k ix).getD j []).getD q 0 = _
        rw [givenM_get (by omega)]
      rw [e6]
    rw [e5]; rfl
  rw [e3, ← mulE_assoc (m := L) hRd.by hM.by hd.by hi hc]
  have e4 : mulE' k (mulE' k (ent R) (ent (givenM k ix))) (ent data) i c = mulE' k idE (ent data) i c := mulE_congr (fun q hq => h2 i hi q hq) (fun _ _ => rfl)
  rw [e4]
  exact mul_id_l (m := L) hd.by hi hc

theorem nodup_take {ix : List Int} (h : ix.Nodup) (k : Nat) : (ix.take k).Nodup := h.sublist (List.take_sublist _ _)
theorem agree_all {word : List (List Nat)} {ix : List Int} {rs : List (List Nat)} {n : Nat} (h : ∀ i < n, word.getD (ix.getD i 0).toNat [] = rs.getD i []) : agreeZ word ix rs n = true := by
  unfold agreeZ
  exact List.all_eq_true.2 fun i hi => decide_eq_true (h i (List.mem_range.1 hi))
theorem allLen_of {L : Nat} {rs : List (List Nat)} (h : ∀ i < rs.length, (rs.getD i []).length = L) : allLen L rs = true := by
  unfold allLen
  refine List.all_eq_true.2 fun r hr => ?_
  obtain ⟨i, hi, rfl⟩ := List.mem_iff_getElem.1 hr
  have := h i hi
  simpa [List.getD, hi] using this
/-- Rows of a code word are completed to it. -/
theorem complete_word {w : World} {v : Value} {ix : List Int} {vs : List Value} {rs data : List (List Nat)} {k m L : Nat} (h : FragsB w v ix vs rs) (hc : codeZ k m = true) (hix : ∀ x ∈ ix, 0 ≤ x ∧ x < (k : Int) + m) (hn : ix.Nodup) (hkl : k ≤ rs.length) (hL : L ≤ 100000)
    (hd : Dim k L data) (hr : ∀ i < rs.length, rs.getD i [] = wordR k L data (ix.getD i 0).toNat) :
    Calls Try.prog 39 #[.int .i64 (k : Nat), .int .i64 (m : Nat), v] w (RetRowsE w (wordTo k L data (k + m))) := by
  obtain ⟨c1, c2, c3, c4, c5⟩ := codeZ_iff hc
  obtain ⟨-, -, -, -, hxl, -⟩ := h.isSlice
  have hlen : ∀ i < rs.length, (rs.getD i []).length = L := fun i hi => by rw [hr i hi]; exact wordR_dim (dim_all hd) hd.1
  have h0 : L = (rs.getD 0 []).length := (hlen 0 (by omega)).symm
  have ha : areZ ix ((k : Int) + m) = true := List.all_eq_true.2 fun x hx => by
    have := hix x hx; unfold rowZ; simp only [Bool.and_eq_true, decide_eq_true_eq]; exact this
  have hlt : (ix.take k).length = k := by rw [List.length_take]; omega
  obtain ⟨R, hR⟩ := given_inv (k := k) (m := m) (by omega) (by omega) hlt (nodup_take hn k) (fun x hx => by have := hix x (List.mem_of_mem_take hx); omega)
  have hrs : (rs.take k).length = k := by rw [List.length_take]; omega
  have hback : dataOf k L R rs = data := data_back hd hlt hR hrs fun i hi => by
    have e1 : (rs.take k).getD i [] = rs.getD i [] := by simp [List.getD, hi]
    have e2 : (ix.take k).getD i 0 = ix.getD i 0 := by simp [List.getD, hi]
    rw [e1, e2]; exact hr i (by omega)
  refine (complete_any h hc ha h0 hL (fun _ _ => hR)).mono fun e w' hp => ?_
  unfold CompP at hp
  rw [if_neg (by simp [hn]), if_neg (by omega), if_neg (by unfold oneLen; rw [← h0, allLen_of hlen]; simp), hback, if_pos] at hp
  · exact hp
  · refine agree_all fun i hi => ?_
    have hx := hix (ix.getD i 0) (getD_mem (by omega))
    rw [wordTo_get (by omega)]
    exact (hr i hi).symm

set_option maxRecDepth 100000 in
theorem decode_err {w : World} {v : Value} {k m er : Int} (C : Calls Try.prog 39 #[.int .i64 k, .int .i64 m, v] w (RetErr w er)) (he : er ≠ 0) :
    Calls Try.prog 18 #[.int .i64 k, .int .i64 m, v] w (RetErr w er) := by
  have C1 := Lib.hid C
  have hb : (er != 0) = true := by simpa using he
  clear C he
  go_enter Try.func18, Try.ntmps18
  go_wp2_with fail
  refine C1.out.mono ?_
  rintro e w1 ⟨rfl, hadd⟩
  have HA := Lib.hid hadd
  clear hadd
  go_wp2_with fail
  go_ret2
  exact ⟨rfl, HA.out⟩
/-- A list of n rows and no error are returned. -/
def RetNE (w : World) (n : Nat) (rs : List (List Nat)) (e : Ending) (w' : World) : Prop := ∃ G hs, e = .returned (.tuple #[.slice (some ⟨G, 0, none⟩) n n, .int .i64 0]) ∧ RowsB w' (.slice (some ⟨G, 0, none⟩) n n) hs rs ∧ w.heap.size ≤ G ∧ Add w w'
theorem RetRowsE.n {w w' : World} {n : Nat} {rs : List (List Nat)} {e : Ending} (h : RetRowsE w rs e w') (hn : rs.length = n) : RetNE w n rs e w' := by
  unfold RetRowsE at h; rw [hn] at h; exact h
set_option maxRecDepth 100000 in
theorem decode_ok {w : World} {v : Value} {k n : Nat} {m : Int} {word : List (List Nat)} (C : Calls Try.prog 39 #[.int .i64 (k : Nat), .int .i64 m, v] w (RetNE w n word)) (hk : k ≤ n) (hn : n ≤ 1000) :
    Calls Try.prog 18 #[.int .i64 (k : Nat), .int .i64 m, v] w (RetNE w k (word.take k)) := by
  have C1 := Lib.hid C
  clear C
  go_enter Try.func18, Try.ntmps18
  go_wp2_with fail
  refine C1.out.mono ?_
  rintro e w1 ⟨G, hs, rfl, hr, hG, hadd⟩
  have HE : Hid (RowsB w1 (.slice (some ⟨G, 0, none⟩) k k) (hs.take k) (word.take k) ∧ w.heap.size ≤ G ∧ Add w w1) := Lib.hid ⟨hr.pre hk (Nat.le_refl _) (by unfold maxLen; omega), hG, hadd⟩
  clear hr hG hadd
  go_wp2_with fail
  go_ret2
  exact ⟨G, _, rfl, HE.out.1, HE.out.2⟩
set_option maxRecDepth 100000 in
theorem rebuild_bad {w : World} {v : Value} {k m i s : Int} (hs : IntKind.i64.wrap (k + m) = s) (hr : rowZ i s = false) :
    Calls Try.prog 20 #[.int .i64 k, .int .i64 m, v, .int .i64 i] w (RetErr w 1) := by
  have CR : Hid (∀ w, Calls Try.prog 41 #[.int .i64 i, .int .i64 s] w (RetBo w false)) := Lib.hid fun w => by have := isRow_any i s w; rw [hr] at this; exact this
  clear hr
  go_enter Try.func20, Try.ntmps20
  go_wp2_with (go_at_call 41; (with_reducible refine (CR.out _).mono ?_); rintro e w' ⟨rfl, rfl⟩)
  go_ret2
  exact ⟨rfl, Below.refl _ _⟩
set_option maxRecDepth 100000 in
theorem rebuild_err {w : World} {v : Value} {k m i s er : Int} (hs : IntKind.i64.wrap (k + m) = s) (hr : rowZ i s = true) (C : Calls Try.prog 39 #[.int .i64 k, .int .i64 m, v] w (RetErr w er)) (he : er ≠ 0) :
    Calls Try.prog 20 #[.int .i64 k, .int .i64 m, v, .int .i64 i] w (RetErr w er) := by
  have CR : Hid (∀ w, Calls Try.prog 41 #[.int .i64 i, .int .i64 s] w (RetBo w true)) := Lib.hid fun w => by have := isRow_any i s w; rw [hr] at this; exact this
  have C1 := Lib.hid C
  have hb : (er != 0) = true := by simpa using he
  clear C he hr
  go_enter Try.func20, Try.ntmps20
  go_wp2_with (go_at_call 41; (with_reducible refine (CR.out _).mono ?_); rintro e w' ⟨rfl, rfl⟩)
  refine C1.out.mono ?_
  rintro e w1 ⟨rfl, hadd⟩
  have HA := Lib.hid hadd
  clear hadd
  go_wp2_with fail
  go_ret2
  exact ⟨rfl, HA.out⟩
/-- A row and no error are returned. -/
def RetRow (w : World) (xs : List Nat) (e : Ending) (w' : World) : Prop := ∃ a l c, e = .returned (.tuple #[.slice a l c, .int .i64 0]) ∧ Reads w' (.slice a l c) xs ∧ Add w w'
set_option maxRecDepth 100000 in
theorem rebuild_ok {w : World} {v : Value} {k m n i : Nat} {word : List (List Nat)} (hs : k + m = n) (hr : i < n) (hn : n ≤ 1000) (C : Calls Try.prog 39 #[.int .i64 (k : Nat), .int .i64 (m : Nat), v] w (RetNE w n word)) :
    Calls Try.prog 20 #[.int .i64 (k : Nat), .int .i64 (m : Nat), v, .int .i64 (i : Nat)] w (RetRow w (word.getD i [])) := by
  have CR : Hid (∀ w, Calls Try.prog 41 #[.int .i64 (i : Nat), .int .i64 (n : Nat)] w (RetBo w true)) := Lib.hid fun w => by
    have := isRow_any (i : Nat) (n : Nat) w
    have e : rowZ (i : Nat) (n : Nat) = true := by unfold rowZ; simp; omega
    rw [e] at this; exact this
  have C1 := Lib.hid C
  have hi : (k : Int) + (m : Int) = (n : Int) := by omega
  clear C
  go_enter Try.func20, Try.ntmps20
  go_wp2_with (go_at_call 41; (with_reducible refine (CR.out _).mono ?_); rintro e w' ⟨rfl, rfl⟩)
  refine C1.out.mono ?_
  rintro e w1 ⟨G, hs, rfl, hrows, hG, hadd⟩
  obtain ⟨b, off, a, l, c, eb, -, -, -, hcell, hrd⟩ := hrows.row hr
  cases eb
  rw [Nat.zero_add] at hcell
  have HA := Lib.hid hadd
  have HRD := Lib.hid hrd
  clear hadd hrows hG hrd
  go_wp2_with fail
  go_ret2
  exact ⟨a, l, c, rfl, HRD.out, HA.out⟩
end Go.Proofs.Ytmlcenocjpjcfaa
