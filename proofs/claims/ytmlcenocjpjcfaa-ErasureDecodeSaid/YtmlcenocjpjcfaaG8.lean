/- Slices of rows of bytes; package field: haveLength and addMultiple; the law's helper long. -/
import Derived.Test.YtmlcenocjpjcfaaG7
import Derived.Deep.RegionWith
namespace Go.Proofs.Ytmlcenocjpjcfaa
open Go.RowKit GfM

theorem Reads.isSlice {w : World} {v : Value} {xs : List Nat} (h : Reads w v xs) : ∃ ao c, v = .slice ao xs.length c ∧ xs.length ≤ maxLen := by
  obtain ⟨ao, n, c, rfl, hl, hc, hm, -, -⟩ := h
  exact ⟨ao, c, by rw [hl], by omega⟩
theorem Reads.cell {w : World} {ao : Option Addr} {n c : Nat} {xs : List Nat} (h : Reads w (.slice ao n c) xs) {k : Nat} (hk : k < n) : ∃ b off, ao = some ⟨b, off, none⟩ ∧ w.cell? ⟨b, off + k, none⟩ = some (.int .u8 (xs.getD k 0 : Nat)) := by
  obtain ⟨ao, n, c, e, hl, hc, hm, -, g⟩ := h
  cases e
  obtain ⟨b, off, e, g⟩ := g (by omega)
  exact ⟨b, off, e, g k hk⟩

/-- The slice value v holds in w the rows rs of bytes; their headers are vs. -/
def RowsB (w : World) (v : Value) (vs : List Value) (rs : List (List Nat)) : Prop :=
  ∃ (ao : Option Addr) (n c : Nat), v = .slice ao n c ∧ vs.length = n ∧ rs.length = n ∧ n ≤ c ∧ c ≤ maxLen ∧
    (0 < n → ∃ b off, ao = some ⟨b, off, none⟩ ∧ ∀ i, i < n → w.cell? ⟨b, off + i, none⟩ = some (vs.getD i undef)) ∧
    ∀ i, i < n → Reads w (vs.getD i undef) (rs.getD i [])
theorem RowsB.mono {w w' : World} {v : Value} {vs : List Value} {rs : List (List Nat)} (h : RowsB w v vs rs) (hb : Add w w') : RowsB w' v vs rs := by
  obtain ⟨ao, n, c, rfl, hl, hr, hc, hm, g, hx⟩ := h
  refine ⟨ao, n, c, rfl, hl, hr, hc, hm, fun hn => ?_, fun i hi => (hx i hi).mono hb⟩
  obtain ⟨b, off, e, g⟩ := g hn
  refine ⟨b, off, e, fun i hi => ?_⟩
  have h1 := g i hi
  exact (hb.cell (p := ⟨b, off + i, none⟩) (World.block_lt_of_cell? w _ h1)).trans h1
theorem RowsB.isSlice {w : World} {v : Value} {vs : List Value} {rs : List (List Nat)} (h : RowsB w v vs rs) : ∃ ao c, v = .slice ao rs.length c ∧ rs.length ≤ maxLen := by
  obtain ⟨ao, n, c, rfl, hl, hr, hc, hm, g, hx⟩ := h
  exact ⟨ao, c, by rw [hr], by omega⟩
theorem RowsB.row {w : World} {ao : Option Addr} {n c : Nat} {vs : List Value} {rs : List (List Nat)} (h : RowsB w (.slice ao n c) vs rs) {k : Nat} (hk : k < n) :
    ∃ b off a l cc, ao = some ⟨b, off, none⟩ ∧ vs.getD k undef = .slice a l cc ∧ l = (rs.getD k []).length ∧ l ≤ 9223372036854775807 ∧ w.cell? ⟨b, off + k, none⟩ = some (.slice a l cc) ∧ Reads w (.slice a l cc) (rs.getD k []) := by
  obtain ⟨ao, n, c, e, hl, hr, hc, hm, g, hx⟩ := h
  cases e
  obtain ⟨b, off, e, g⟩ := g (by omega)
  have h1 := hx k hk
  obtain ⟨a, cc, e2, hm2⟩ := h1.isSlice
  unfold maxLen at hm2
  exact ⟨b, off, a, _, cc, e, e2, rfl, by omega, by rw [g k hk, e2], by rw [← e2]; exact h1⟩

/-- A bool is returned, and nothing changes. -/
def RetBo (w : World) (b : Bool) (e : Ending) (w' : World) : Prop := e = .returned (.bool b) ∧ w = w'

/-- Have all rows n bytes? -/
def allLen (n : Nat) (rs : List (List Nat)) : Bool := rs.all fun r => r.length == n
theorem allLen_take {n : Nat} {rs : List (List Nat)} {k : Nat} (hk : k < rs.length) (h : allLen n (rs.take k) = true) (hr : (rs.getD k []).length = n) : allLen n (rs.take (k + 1)) = true := by
  unfold allLen at h ⊢
  rw [List.take_succ_eq_append_getElem hk, List.all_append, h]
  simp [List.getD, hk] at hr
  simp [hr]
theorem allLen_not {n : Nat} {rs : List (List Nat)} {k : Nat} (hk : k < rs.length) (hr : (rs.getD k []).length ≠ n) : allLen n rs = false := by
  unfold allLen
  simp only [List.getD, List.getElem?_eq_getElem hk, Option.getD_some] at hr
  exact List.all_eq_false.2 ⟨rs[k], List.getElem_mem hk, by simpa using hr⟩

set_option maxRecDepth 100000 in
theorem haveLength_any {v : Value} {vs : List Value} {rs : List (List Nat)} {w : World} (h : RowsB w v vs rs) (n : Nat) (_hn : n ≤ 9223372036854775807) :
    Calls Try.prog 42 #[v, .int .i64 (n : Nat)] w (RetBo w (allLen n rs)) := by
  obtain ⟨ao, c, rfl, hm⟩ := h.isSlice
  unfold maxLen at hm
  obtain ⟨l, hl⟩ : ∃ l, l = rs.length := ⟨_, rfl⟩
  rw [← hl] at h hm ⊢
  have HL := Lib.hid hl
  have HR := Lib.hid h
  have hm' : l ≤ 9223372036854775807 := by omega
  clear hl h hm
  go_enter Try.func42, Try.ntmps42
  go_wp2_with fail
  go_loop [9] (fun i => ∃ k : Nat, k ≤ l ∧ i = .int .i64 (k : Nat) ∧ allLen n (rs.take k) = true) (fun i => l - (intOf i).toNat)
  case atStart => exact ⟨0, Nat.zero_le _, rfl, rfl⟩
  case round =>
    obtain ⟨k, hk, rfl, hrel⟩ := hrel
    have HREL := Lib.hid hrel
    clear hrel
    by_cases h0 : k = l
    · subst h0
      have HF : Hid (allLen n rs = true) := Lib.hid (by have := HREL.out; rw [HL.out, List.take_length] at this; exact this)
      go_wp2_with fail
      go_ret
      exact ⟨by rw [HF.out]; rfl, rfl⟩
    · have hlt : k < l := by omega
      obtain ⟨b, off, a, m, cc, rfl, -, em, hmm, hcell, -⟩ := HR.out.row hlt
      have HM := Lib.hid em
      clear em h0
      by_cases hmn : m = n
      · have hne : ((m : Int) != (n : Int)) = false := by simp [hmn]
        have HMN := Lib.hid hmn
        clear hmn
        go_wp2_with fail
        go_round
        case rel => exact ⟨k + 1, by omega, by go_num, allLen_take (by rw [← HL.out]; exact hlt) HREL.out (by rw [← HM.out, HMN.out])⟩
        case measure => simp [intOf]; omega
      · have hne : ((m : Int) != (n : Int)) = true := by simp; omega
        have HF : Hid (allLen n rs = false) := Lib.hid (allLen_not (by rw [← HL.out]; exact hlt) (by rw [← HM.out]; exact hmn))
        clear hmn
        go_wp2_with fail
        go_ret
        exact ⟨by rw [HF.out]; rfl, rfl⟩

/-- How many bytes the rows have together. -/
def sumL : List (List Nat) → Nat
  | [] => 0
  | r :: rs => r.length + sumL rs
theorem sumL_append (a b : List (List Nat)) : sumL (a ++ b) = sumL a + sumL b := by
  induction a with
  | nil => simp [sumL]
  | cons r a ih => simp only [List.cons_append, sumL, ih]; omega
theorem sumL_take {rs : List (List Nat)} {k : Nat} (hk : k < rs.length) : sumL (rs.take (k + 1)) = sumL (rs.take k) + (rs.getD k []).length := by
  rw [List.take_succ_eq_append_getElem hk, sumL_append]
  simp [sumL, List.getD, hk]
/-- Every row has at most 2^47 bytes. -/
def Reach (rs : List (List Nat)) : Prop := ∀ k, (rs.getD k []).length ≤ 140737488355328
/-- Are rows too long to be examined? -/
def longR (rs : List (List Nat)) : Bool := decide (40 < rs.length) || decide (1200 < sumL rs)
end Go.Proofs.Ytmlcenocjpjcfaa
