/- Rows of bytes compared as strings, whatever their length; package erasure: complete, where it refuses. -/
import Derived.Test.YtmlcenocjpjcfaaE6
import Derived.Test.YtmlcenocjpjcfaaG13
import Derived.Laws.BytesString
import Derived.StillTailTactics
import Derived.BigQuiet
namespace Go.Proofs.Ytmlcenocjpjcfaa
open Go.RowKit GfM

theorem reads_len {w : World} {ao : Option Addr} {n c : Nat} {xs : List Nat} (h : Reads w (.slice ao n c) xs) : xs.length = n := by
  obtain ⟨ao', n', c', e, hl, -⟩ := h
  cases e; exact hl
/-- The string of a slice of bytes. -/
theorem conv_all {w : World} {ao : Option Addr} {n c : Nat} {xs : List Nat} (h : Reads w (.slice ao n c) xs) : (convert 32 9 (.slice ao n c)).run Try.prog w = .ok (.string (strOf xs)) w := by
  have hl := reads_len h
  by_cases h0 : n = 0
  · subst h0
    rw [List.eq_nil_of_length_eq_zero hl]
    rw [run_convert_bytes_string w 32 9 5 ao 0 c Try.underlying32 Try.underlying5 Try.underlying9]
    cases ao <;> simp [Conv.bytesToString, loadCells]
    all_goals rfl
  · obtain ⟨ao', n', c', e, hl, hc, hm, hx, hr⟩ := h
    cases e
    obtain ⟨b, off, rfl, g⟩ := hr (by omega)
    refine run_convert_bytes_arg (P := Try.prog) w 32 5 Try.underlying32 Try.underlying5 b off n c (xs.map fun n : Nat => (n : Int)) (by rw [List.length_map, hl]) (fun i hi => ?_) 9 Try.underlying9
    rw [g i hi]
    simp [List.getD, hl, hi]
theorem strOf_inj {xs ys : List Nat} (hx : Bys xs) (hy : Bys ys) (h : strOf xs = strOf ys) : xs = ys := by
  have h1 := congrArg (fun s : ByteArray => s.data.toList) h
  unfold strOf at h1
  rw [strOfNums_data, strOfNums_data] at h1
  have hl : xs.length = ys.length := by have := congrArg List.length h1; simpa using this
  refine List.ext_getElem hl fun i h2 h3 => ?_
  have h4 := congrArg (fun l : List UInt8 => l[i]?) h1
  simp [h2, h3] at h4
  have a := hx _ (List.getElem_mem h2)
  have b := hy _ (List.getElem_mem h3)
  have h5 := congrArg UInt8.toNat h4
  simp only [UInt8.toNat_ofNat'] at h5
  rw [Nat.mod_eq_of_lt a, Nat.mod_eq_of_lt b] at h5
  exact h5
theorem strOf_eq {xs ys : List Nat} (hx : Bys xs) (hy : Bys ys) : ((strOf xs).toList == (strOf ys).toList) = decide (xs = ys) := by
  by_cases h : xs = ys
  · rw [decide_eq_true h, h]; simp
  · rw [decide_eq_false h, beq_eq_false_iff_ne]
    intro e
    rw [ByteArray.toList_eq, ByteArray.toList_eq] at e
    refine h (strOf_inj hx hy ?_)
    obtain ⟨a, ea⟩ : ∃ a, a = strOf xs := ⟨_, rfl⟩
    obtain ⟨b, eb⟩ : ∃ b, b = strOf ys := ⟨_, rfl⟩
    rw [← ea, ← eb] at e ⊢
    cases a; cases b
    simpa using e
theorem equal_any {w : World} {v v2 : Value} {xs ys : List Nat} (h : Reads w v xs) (h2 : Reads w v2 ys) :
    Calls Try.prog 55 #[v, v2] w (RetBo w (decide (xs = ys))) := by
  have hb := strOf_eq h.limbs h2.limbs
  obtain ⟨ao, c, rfl, -⟩ := h.isSlice
  obtain ⟨ao2, c2, rfl, -⟩ := h2.isSlice
  have hc := conv_all h
  have hc2 := conv_all h2
  obtain ⟨s, es⟩ : ∃ s, s = strOf xs := ⟨_, rfl⟩
  obtain ⟨t, et⟩ : ∃ t, t = strOf ys := ⟨_, rfl⟩
  rw [← es] at hc hb
  rw [← et] at hc2 hb
  obtain ⟨r, er⟩ : ∃ r, r = decide (xs = ys) := ⟨_, rfl⟩
  rw [← er] at hb ⊢
  have HB := Lib.hid hb
  clear es et er hb h h2
  go_enter Try.func55, Try.ntmps55
  go_wp2_with fail
  go_ret
  exact ⟨by rw [← HB.out]; rfl, rfl⟩

/-- The first elements of a list of rows. -/
theorem RowsB.pre {w : World} {ao : Option Addr} {n c : Nat} {vs : List Value} {rs : List (List Nat)} (h : RowsB w (.slice ao n c) vs rs) {k : Nat} (hk : k ≤ n) {c' : Nat} (hc' : k ≤ c') (hm' : c' ≤ maxLen) : RowsB w (.slice ao k c') (vs.take k) (rs.take k) := by
  obtain ⟨ao', n', c0, e, hl, hr, hc, hm, g, hx⟩ := h
  cases e
  refine ⟨ao, k, c', rfl, by rw [List.length_take]; omega, by rw [List.length_take]; omega, hc', hm', fun h0 => ?_, fun i hi => ?_⟩
  · obtain ⟨b, off, e, g⟩ := g (by omega)
    refine ⟨b, off, e, fun i hi => ?_⟩
    rw [g i (by omega)]
    simp [List.getD, hi]
  · have := hx i (by omega)
    have e1 : (vs.take k).getD i undef = vs.getD i undef := by simp [List.getD, hi]
    have e2 : (rs.take k).getD i [] = rs.getD i [] := by simp [List.getD, hi]
    rw [e1, e2]; exact this
theorem FragsB.pre {w : World} {ao : Option Addr} {n c : Nat} {ix : List Int} {vs : List Value} {rs : List (List Nat)} (h : FragsB w (.slice ao n c) ix vs rs) {k : Nat} (hk : k ≤ n) : FragsB w (.slice ao k c) (ix.take k) (vs.take k) (rs.take k) := by
  obtain ⟨ao', n', c0, e, hi, hl, hr, hc, hm, g, hx⟩ := h
  cases e
  refine ⟨ao, k, c, rfl, by rw [List.length_take]; omega, by rw [List.length_take]; omega, by rw [List.length_take]; omega, by omega, hm, fun h0 => ?_, fun i hi => ?_⟩
  · obtain ⟨b, off, e, g⟩ := g (by omega)
    refine ⟨b, off, e, fun i hi => ?_⟩
    obtain ⟨g1, g2⟩ := g i (by omega)
    refine ⟨by rw [g1]; simp [List.getD, hi], by rw [g2]; simp [List.getD, hi]⟩
  · have := hx i (by omega)
    have e1 : (vs.take k).getD i undef = vs.getD i undef := by simp [List.getD, hi]
    have e2 : (rs.take k).getD i [] = rs.getD i [] := by simp [List.getD, hi]
    rw [e1, e2]; exact this

set_option maxRecDepth 100000 in
theorem complete_arg {w : World} {v : Value} {ix : List Int} {vs : List Value} {rs : List (List Nat)} {k m : Int} (h : FragsB w v ix vs rs) (hk : codeZ k m = false ∨ areZ ix (k + m) = false) :
    Calls Try.prog 39 #[.int .i64 k, .int .i64 m, v] w (RetErr w 1) := by
  have CC : Hid (∀ w, Calls Try.prog 30 #[.int .i64 k, .int .i64 m] w (RetBo w (codeZ k m))) := Lib.hid fun w => isCode_any k m w
  have CA : Hid (Calls Try.prog 51 #[v, .int .i64 (k + m)] w (fun e w' => e = .returned (.bool (areZ ix (k + m))) ∧ Add w w')) := Lib.hid (areRows_any h (k + m))
  obtain ⟨ao, c, rfl, -⟩ := h.isSlice
  cases hc : codeZ k m with
  | false =>
    rw [hc] at CC
    clear h hk hc CA
    go_enter Try.func39, Try.ntmps39
    go_wp2_with (go_at_call 30; (with_reducible refine (CC.out _).mono ?_); rintro e w' ⟨rfl, rfl⟩)
    go_ret2
    exact ⟨rfl, Below.refl _ _⟩
  | true =>
    have ha : areZ ix (k + m) = false := by rcases hk with e | e; rw [hc] at e; cases e; exact e
    obtain ⟨c1, c2, c3, c4, c5⟩ := codeZ_iff hc
    rw [hc] at CC
    rw [ha] at CA
    obtain ⟨s, es⟩ : ∃ s, s = k + m := ⟨_, rfl⟩
    have hw : IntKind.i64.wrap (k + m) = s := by rw [IntKind.wrap_i64]; omega
    rw [← es] at CA
    clear h hk hc ha es
    go_enter Try.func39, Try.ntmps39
    go_wp2_with (go_at_call 30; (with_reducible refine (CC.out _).mono ?_); rintro e w' ⟨rfl, rfl⟩)
    refine CA.out.mono ?_
    rintro e w1 ⟨rfl, hadd⟩
    have HA := Lib.hid hadd
    clear hadd
    go_wp2_with fail
    go_ret2
    exact ⟨rfl, HA.out⟩
end Go.Proofs.Ytmlcenocjpjcfaa
