/- Package erasure: Encode; lists of fragments. -/
import Derived.Test.YtmlcenocjpjcfaaE3
namespace Go.Proofs.Ytmlcenocjpjcfaa
open Go.RowKit GfM

/-- A list of rows and no error are returned. -/
def RetRowsE (w : World) (rs : List (List Nat)) (e : Ending) (w' : World) : Prop := ∃ G hs, e = .returned (.tuple #[.slice (some ⟨G, 0, none⟩) rs.length rs.length, .int .i64 0]) ∧ RowsB w' (.slice (some ⟨G, 0, none⟩) rs.length rs.length) hs rs ∧ w.heap.size ≤ G ∧ Add w w'
/-- An error is returned. -/
def RetErr (w : World) (er : Int) (e : Ending) (w' : World) : Prop := e = .returned (.tuple #[.slice none 0 0, .int .i64 er]) ∧ Add w w'
/-- May this be encoded? -/
def encOk (k m : Int) (rs : List (List Nat)) : Bool := codeZ k m && (((rs.length : Nat) : Int) == k) && oneLen rs
theorem codeZ_iff {k m : Int} (h : codeZ k m = true) : 1 ≤ k ∧ k ≤ 6 ∧ 0 ≤ m ∧ m ≤ 4 ∧ k + m ≤ 8 := by
  unfold codeZ at h
  simp only [Bool.and_eq_true, decide_eq_true_eq] at h
  omega
set_option maxRecDepth 100000 in
theorem encode_ok {w : World} {v : Value} {vs : List Value} {rs : List (List Nat)} {k m L : Nat} (h : RowsB w v vs rs) (hk : rs.length = k) (hc : codeZ k m = true) (hL : L ≤ 100000) (hal : allLen L rs = true) :
    Calls Try.prog 13 #[.int .i64 (k : Nat), .int .i64 (m : Nat), v] w (RetRowsE w (wordTo k L rs (k + m))) := by
  obtain ⟨c1, c2, c3, c4, c5⟩ := codeZ_iff hc
  have h0L : (rs.getD 0 []).length = L := allLen_get hal (by omega)
  have CC : Hid (∀ w, Calls Try.prog 30 #[.int .i64 (k : Nat), .int .i64 (m : Nat)] w (RetBo w true)) := Lib.hid fun w => by have := isCode_any k m w; rw [hc] at this; exact this
  have CO : Hid (Calls Try.prog 31 #[v] w (RetBo w true)) := Lib.hid (by have := oneLen_any h; unfold oneLen at this; rw [h0L, hal] at this; exact this)
  have CX : Hid (Calls Try.prog 32 #[v, .int .i64 (m : Nat)] w (RetRows w (wordTo k L rs (k + m)))) := Lib.hid (extend_any h hk (by omega) (by omega) (by omega) hL hal)
  obtain ⟨ao, c, rfl, hm⟩ := h.isSlice
  rw [hk] at CO CX ⊢
  have hne : ((k : Int) != (k : Int)) = false := by simp
  clear h hal hc h0L hm
  go_enter Try.func13, Try.ntmps13
  go_wp2_with first | (go_at_call 30; (with_reducible refine (CC.out _).mono ?_); rintro e w' ⟨rfl, rfl⟩) | (go_at_call 31; (with_reducible refine CO.out.mono ?_); rintro e w' ⟨rfl, rfl⟩)
  refine CX.out.mono ?_
  rintro e w1 ⟨G, hs, rfl, hr, hG, hadd⟩
  have HE := Lib.hid (And.intro hr (And.intro hG hadd))
  clear hr hG hadd
  go_wp2_with fail
  go_ret2
  exact ⟨G, hs, rfl, HE.out.1, HE.out.2.1, HE.out.2.2⟩
set_option maxRecDepth 100000 in
theorem encode_bad {w : World} {v : Value} {vs : List Value} {rs : List (List Nat)} {k m : Int} (h : RowsB w v vs rs) (hk : encOk k m rs = false) :
    Calls Try.prog 13 #[.int .i64 k, .int .i64 m, v] w (RetErr w 1) := by
  have CC : Hid (∀ w, Calls Try.prog 30 #[.int .i64 k, .int .i64 m] w (RetBo w (codeZ k m))) := Lib.hid fun w => isCode_any k m w
  have CO : Hid (Calls Try.prog 31 #[v] w (RetBo w (oneLen rs))) := Lib.hid (oneLen_any h)
  obtain ⟨ao, c, rfl, hm⟩ := h.isSlice
  unfold encOk at hk
  cases hc : codeZ k m with
  | false =>
    rw [hc] at CC
    clear h hk hm hc CO
    go_enter Try.func13, Try.ntmps13
    go_wp2_with (go_at_call 30; (with_reducible refine (CC.out _).mono ?_); rintro e w' ⟨rfl, rfl⟩)
    go_ret2
    exact ⟨rfl, Below.refl _ _⟩
  | true =>
    rw [hc] at CC hk
    by_cases hl : ((rs.length : Nat) : Int) = k
    · have ho : oneLen rs = false := by simpa [hl] using hk
      rw [ho] at CO
      have hne : (((rs.length : Nat) : Int) != k) = false := by simp [hl]
      clear h hk hm hc ho hl
      go_enter Try.func13, Try.ntmps13
      go_wp2_with first | (go_at_call 30; (with_reducible refine (CC.out _).mono ?_); rintro e w' ⟨rfl, rfl⟩) | (go_at_call 31; (with_reducible refine CO.out.mono ?_); rintro e w' ⟨rfl, rfl⟩)
      go_ret2
      exact ⟨rfl, Below.refl _ _⟩
    · have hne : (((rs.length : Nat) : Int) != k) = true := by simpa using hl
      clear h hk hm hc hl CO
      go_enter Try.func13, Try.ntmps13
      go_wp2_with (go_at_call 30; (with_reducible refine (CC.out _).mono ?_); rintro e w' ⟨rfl, rfl⟩)
      go_ret2
      exact ⟨rfl, Below.refl _ _⟩

/-- The slice value v holds in w fragments with the numbers ix and the rows rs of bytes; the headers of these are vs. -/
def FragsB (w : World) (v : Value) (ix : List Int) (vs : List Value) (rs : List (List Nat)) : Prop :=
  ∃ (ao : Option Addr) (n c : Nat), v = .slice ao n c ∧ ix.length = n ∧ vs.length = n ∧ rs.length = n ∧ n ≤ c ∧ c ≤ maxLen ∧
    (0 < n → ∃ b off, ao = some ⟨b, off, none⟩ ∧ ∀ i, i < n → w.cell? ⟨b, off + i * 2, none⟩ = some (.int .i64 (ix.getD i 0)) ∧ w.cell? ⟨b, off + i * 2 + 1, none⟩ = some (vs.getD i undef)) ∧
    ∀ i, i < n → Reads w (vs.getD i undef) (rs.getD i [])
theorem FragsB.mono {w w' : World} {v : Value} {ix : List Int} {vs : List Value} {rs : List (List Nat)} (h : FragsB w v ix vs rs) (hb : Add w w') : FragsB w' v ix vs rs := by
  obtain ⟨ao, n, c, rfl, hi, hl, hr, hc, hm, g, hx⟩ := h
  refine ⟨ao, n, c, rfl, hi, hl, hr, hc, hm, fun hn => ?_, fun i hi => (hx i hi).mono hb⟩
  obtain ⟨b, off, e, g⟩ := g hn
  refine ⟨b, off, e, fun i hi => ?_⟩
  obtain ⟨h1, h2⟩ := g i hi
  exact ⟨(hb.cell (p := ⟨b, off + i * 2, none⟩) (World.block_lt_of_cell? w _ h1)).trans h1, (hb.cell (p := ⟨b, off + i * 2 + 1, none⟩) (World.block_lt_of_cell? w _ h2)).trans h2⟩
theorem FragsB.isSlice {w : World} {v : Value} {ix : List Int} {vs : List Value} {rs : List (List Nat)} (h : FragsB w v ix vs rs) : ∃ ao c, v = .slice ao rs.length c ∧ rs.length ≤ maxLen ∧ ix.length = rs.length ∧ rs.length ≤ c := by
  obtain ⟨ao, n, c, rfl, hi, hl, hr, hc, hm, g, hx⟩ := h
  exact ⟨ao, c, by rw [hr], by omega, by omega, by omega⟩
theorem FragsB.frag {w : World} {ao : Option Addr} {n c : Nat} {ix : List Int} {vs : List Value} {rs : List (List Nat)} (h : FragsB w (.slice ao n c) ix vs rs) {k : Nat} (hk : k < n) :
    ∃ b off a l cc, ao = some ⟨b, off, none⟩ ∧ vs.getD k undef = .slice a l cc ∧ l = (rs.getD k []).length ∧ l ≤ 9223372036854775807 ∧ w.cell? ⟨b, off + k * 2, none⟩ = some (.int .i64 (ix.getD k 0)) ∧ w.cell? ⟨b, off + k * 2 + 1, none⟩ = some (.slice a l cc) ∧ Reads w (.slice a l cc) (rs.getD k []) := by
  obtain ⟨ao, n, c, e, hi, hl, hr, hc, hm, g, hx⟩ := h
  cases e
  obtain ⟨b, off, e, g⟩ := g (by omega)
  have h1 := hx k hk
  obtain ⟨a, cc, e2, hm2⟩ := h1.isSlice
  unfold maxLen at hm2
  exact ⟨b, off, a, _, cc, e, e2, rfl, by omega, (g k hk).1, by rw [(g k hk).2, e2], by rw [← e2]; exact h1⟩
/-- A variable of this type. -/
def Fbox (w : World) (g : Nat) (i : Int) (v : Value) : Prop := w.heap[g]? = some (.cells #[.int .i64 i, v] 34 (0, 0))
theorem Fbox.lt {w : World} {g : Nat} {i : Int} {v : Value} (h : Fbox w g i v) : g < w.heap.size := (Array.getElem?_eq_some_iff.1 h).1
theorem fbox_new (w : World) (i : Int) (v : Value) : Fbox (w.alloc (.cells #[.int .i64 i, v] 34)) w.heap.size i v := heap_alloc_new w _

/-- Are all numbers those of rows of a code word of n rows? -/
def areZ (ix : List Int) (n : Int) : Bool := ix.all fun i => rowZ i n
theorem areZ_take {ix : List Int} {n : Int} {k : Nat} (hk : k < ix.length) (h : areZ (ix.take k) n = true) (hr : rowZ (ix.getD k 0) n = true) : areZ (ix.take (k + 1)) n = true := by
  unfold areZ at h ⊢
  rw [List.take_succ_eq_append_getElem hk, List.all_append, h]
  simp [List.getD, hk] at hr
  simp [hr]
theorem areZ_not {ix : List Int} {n : Int} {k : Nat} (hk : k < ix.length) (hr : rowZ (ix.getD k 0) n = false) : areZ ix n = false := by
  unfold areZ
  simp only [List.getD, List.getElem?_eq_getElem hk, Option.getD_some] at hr
  exact List.all_eq_false.2 ⟨ix[k], List.getElem_mem hk, by simp [hr]⟩
set_option maxRecDepth 100000 in
set_option maxHeartbeats 1000000 in
theorem areRows_any {w : World} {v : Value} {ix : List Int} {vs : List Value} {rs : List (List Nat)} (h : FragsB w v ix vs rs) (n : Int) :
    Calls Try.prog 51 #[v, .int .i64 n] w (fun e w' => e = .returned (.bool (areZ ix n)) ∧ Add w w') := by
  obtain ⟨ao, c, rfl, hm, hxl, -⟩ := h.isSlice
  unfold maxLen at hm
  obtain ⟨l, hl⟩ : ∃ l, l = rs.length := ⟨_, rfl⟩
  rw [← hl] at h hm hxl ⊢
  have HL := Lib.hid hxl
  have HR := Lib.hid h
  have hm' : l ≤ 9223372036854775807 := by omega
  clear hl h hm hxl
  go_enter Try.func51, Try.ntmps51
  go_wp2_with fail
  go_loopw [9] (fun i wr => ∃ k : Nat, k ≤ l ∧ i = .int .i64 (k : Nat) ∧ areZ (ix.take k) n = true ∧ Add w wr) (fun i _ => l - (intOf i).toNat)
  case atStart => exact ⟨0, Nat.zero_le _, rfl, rfl, Below.refl _ _⟩
  case round =>
    obtain ⟨k, hk, rfl, hrel, hadd⟩ := hrel
    have HREL := Lib.hid hrel
    have HADD := Lib.hid hadd
    clear hrel hadd
    by_cases h0 : k = l
    · subst h0
      have HF : Hid (areZ ix n = true) := Lib.hid (by have := HREL.out; rw [← HL.out, List.take_length] at this; exact this)
      go_wp2_with fail
      go_ret
      exact ⟨by rw [HF.out]; rfl, HADD.out⟩
    · have hlt : k < l := by omega
      obtain ⟨b, off, a, m, cc, rfl, -, em, hmm, hc0, hc1, -⟩ := (HR.out.mono HADD.out).frag hlt
      obtain ⟨x, ex⟩ : ∃ x, x = ix.getD k 0 := ⟨_, rfl⟩
      rw [← ex] at hc0
      have C1 : Hid (∀ w, Calls Try.prog 41 #[.int .i64 x, .int .i64 n] w (RetBo w (rowZ x n))) := Lib.hid fun w => isRow_any x n w
      have HX := Lib.hid ex
      have HNEXT : Hid (Add w (wr.alloc (.cells #[.int .i64 x, .slice a m cc] 34))) := Lib.hid (HADD.out.alloc HADD.out.size _)
      clear em h0 ex
      cases hz : rowZ x n with
      | true =>
        rw [hz] at C1
        have HZ := Lib.hid hz
        clear hz
        go_wp2_with (go_at_call 41; (with_reducible refine (C1.out _).mono ?_); rintro e w' ⟨rfl, rfl⟩)
        go_roundw
        case rel => exact ⟨k + 1, by omega, by go_num, areZ_take (by rw [HL.out]; exact hlt) HREL.out (by rw [← HX.out]; exact HZ.out), HNEXT.out⟩
        case measure => simp [intOf]; omega
      | false =>
        rw [hz] at C1
        have HF : Hid (areZ ix n = false) := Lib.hid (areZ_not (by rw [HL.out]; exact hlt) (by rw [← HX.out]; exact hz))
        clear hz
        go_wp2_with (go_at_call 41; (with_reducible refine (C1.out _).mono ?_); rintro e w' ⟨rfl, rfl⟩)
        go_ret
        exact ⟨by rw [HF.out]; rfl, HNEXT.out⟩
end Go.Proofs.Ytmlcenocjpjcfaa
