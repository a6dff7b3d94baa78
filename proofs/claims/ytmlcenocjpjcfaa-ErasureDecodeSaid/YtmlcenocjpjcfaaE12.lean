/- Lists of rows that a call makes by appending; the helpers long and shape of the laws of erasure; Rows of package drydocksame. -/
import Derived.Test.YtmlcenocjpjcfaaE10
import Derived.Laws.AppendOwn
import Derived.Maps.AppendAt
import Derived.Deep.DeepCutAuto
namespace Go.Proofs.Ytmlcenocjpjcfaa
open Go.RowKit GfM

/-- The bytes xs of the slice h don't lie in the block of the list v. -/
def AwayV (h : Value) (xs : List Nat) (v : Value) : Prop := ∀ b off n c, h = .slice (some ⟨b, off, none⟩) n c → 0 < xs.length → some b ≠ v.ownBlock
/-- A list that a call makes by appending: headers hs, rows rs. -/
def ListR (w : World) (base : Nat) (v : Value) (hs : List Value) (rs : List (List Nat)) : Prop :=
  w.ownsRow base 32 1 v hs.length hs ∧ hs.length = rs.length ∧ ∀ i, i < hs.length → Reads w (hs.getD i undef) (rs.getD i []) ∧ AwayV (hs.getD i undef) (rs.getD i []) v
theorem ListR.nil (w : World) (base : Nat) : ListR w base (.slice none 0 0) [] [] := ⟨World.ownsRow_nil _ _ _ _, rfl, fun i hi => by simp at hi⟩
theorem ownsRow_add {w w' : World} {base e n size : Nat} {v : Value} {xs : List Value} (h : w.ownsRow base e size v n xs) (hb : Add w w') : w'.ownsRow base e size v n xs := by
  refine ⟨h.1, ?_⟩
  rcases h.2 with hn | ⟨g', cap, cur, e, hg, hgg, rest⟩
  · exact .inl hn
  · refine .inr ⟨g', cap, cur, e, hg, ?_, rest⟩
    rw [hb.block g' (Array.getElem?_eq_some_iff.1 hgg).1]; exact hgg
theorem ownsRow_block {w : World} {base e n size k : Nat} {v : Value} {xs : List Value} (h : w.ownsRow base e size v n xs) (hk : v.ownBlock = some k) : base ≤ k ∧ k < w.heap.size := by
  rcases h.2 with ⟨rfl, _⟩ | ⟨g', cap, cur, rfl, hb, hgg, rest⟩
  · cases hk
  · cases hk; exact ⟨hb, (Array.getElem?_eq_some_iff.1 hgg).1⟩
theorem ListR.add {w w' : World} {base : Nat} {v : Value} {hs : List Value} {rs : List (List Nat)} (h : ListR w base v hs rs) (hb : Add w w') : ListR w' base v hs rs :=
  ⟨ownsRow_add h.1 hb, h.2.1, fun i hi => ⟨(h.2.2 i hi).1.mono hb, (h.2.2 i hi).2⟩⟩
theorem away_fresh {w : World} {h v : Value} {xs : List Nat} {base e n size : Nat} {ys : List Value} (ho : w.ownsRow base e size v n ys) (hb : ∀ b off n c, h = .slice (some ⟨b, off, none⟩) n c → w.heap.size ≤ b) : AwayV h xs v := by
  intro b off n' c e _ e2
  have h1 := hb b off n' c e
  have h2 := (ownsRow_block ho e2.symm).2
  omega
theorem reads_block {w : World} {b off n c : Nat} {xs : List Nat} (h : Reads w (.slice (some ⟨b, off, none⟩) n c) xs) (h0 : 0 < xs.length) : b < w.heap.size := by
  have hl := reads_len h
  obtain ⟨b', off', e, hc⟩ := h.cell (k := 0) (by omega)
  cases e
  have := World.block_lt_of_cell? w _ hc
  simpa using this
theorem Reads.grownV {w w' : World} {h v : Value} {xs : List Nat} (hr : Reads w h xs) (ha : AwayV h xs v) (hg : w.grownBy w' v.ownBlock) : Reads w' h xs := by
  cases hv : v.ownBlock with
  | none => rw [hv] at hg; exact hr.mono ((Below.refl _ _).grown hg (Nat.le_refl _) (by simp))
  | some k =>
    rw [hv] at hg
    refine hr.grown (g := k) ?_ hg
    intro b off n c e h0 e2
    exact ha b off n c e h0 (by rw [hv, e2])
theorem ListR.push {wr w3 : World} {base : Nat} {v v' h : Value} {hs : List Value} {rs : List (List Nat)} {xs : List Nat} {o : Obj} (hl : ListR wr base v hs rs) (hr : Reads wr h xs) (ha : AwayV h xs v)
    (hg : (wr.alloc o).grownBy w3 v.ownBlock) (hown : w3.ownsRow base 32 1 v' (hs.length + 1) (hs ++ [h])) (hat : v'.ownBlock = v.ownBlock ∨ v'.ownBlock = some (wr.heap.size + 1)) : ListR w3 base v' (hs ++ [h]) (rs ++ [xs]) := by
  have hadd : Add wr (wr.alloc o) := (Below.refl _ _).alloc (Nat.le_refl _) _
  have key : ∀ h' xs', Reads wr h' xs' → AwayV h' xs' v → Reads w3 h' xs' ∧ AwayV h' xs' v' := by
    intro h' xs' r1 r2
    refine ⟨(r1.mono hadd).grownV r2 hg, ?_⟩
    intro b off n c e h0 e2
    rcases hat with e3 | e3
    · exact r2 b off n c e h0 (e2.trans e3)
    · subst e
      have := reads_block r1 h0
      rw [e3] at e2
      have e4 := Option.some.inj e2
      omega
  refine ⟨by rw [List.length_append]; exact hown, by simp [hl.2.1], fun i hi => ?_⟩
  simp only [List.length_append, List.length_cons, List.length_nil] at hi
  by_cases hk : i < hs.length
  · have e1 : (hs ++ [h]).getD i undef = hs.getD i undef := by simp only [List.getD]; rw [List.getElem?_append_left hk]
    have e2 : (rs ++ [xs]).getD i [] = rs.getD i [] := by simp only [List.getD]; rw [List.getElem?_append_left (by rw [← hl.2.1]; exact hk)]
    rw [e1, e2]; exact key _ _ (hl.2.2 i hk).1 (hl.2.2 i hk).2
  · have e : i = hs.length := by omega
    subst e
    have e1 : (hs ++ [h]).getD hs.length undef = h := by simp [List.getD]
    have e2 : (rs ++ [xs]).getD hs.length [] = xs := by rw [hl.2.1]; simp [List.getD]
    rw [e1, e2]; exact key _ _ hr ha
theorem ListR.addB {wr w3 : World} {base : Nat} {v : Value} {hs : List Value} {rs : List (List Nat)} {w0 : World} {o : Obj} (hl : ListR wr base v hs rs) (h0 : Add w0 wr) (hb : w0.heap.size ≤ base) (hg : (wr.alloc o).grownBy w3 v.ownBlock) : Add w0 w3 :=
  Below.grown (h0.alloc h0.size o) hg (by have := h0.size; simp; omega) (fun q hq => by have := (ownsRow_block hl.1 hq).1; omega)
theorem ListR.rows {w : World} {base : Nat} {v : Value} {hs : List Value} {rs : List (List Nat)} (h : ListR w base v hs rs) : ∃ ao c, v = .slice ao rs.length c ∧ RowsB w v hs rs := by
  obtain ⟨h1, h2, h3⟩ := h
  rcases h1.2 with ⟨rfl, h0⟩ | ⟨G, cap, cur, rfl, hb, hgg, hn, hm, hs', ht⟩
  · have e : hs = [] := List.eq_nil_of_length_eq_zero h0
    subst e
    have e2 : rs = [] := List.eq_nil_of_length_eq_zero h2.symm
    subst e2
    exact ⟨none, 0, rfl, none, 0, 0, rfl, rfl, rfl, Nat.le_refl _, by unfold maxLen; omega, fun h => by omega, fun i hi => by omega⟩
  · refine ⟨some ⟨G, 0, none⟩, cap, by rw [h2], _, hs.length, cap, rfl, rfl, h2.symm, hn, hm, fun _ => ⟨G, 0, rfl, fun i hi => ?_⟩, fun i hi => (h3 i hi).1⟩
    have := h1.cellAt i (by omega)
    rw [Nat.zero_add, this]
    simp [List.getD, hi]

/-- True is returned; new blocks are laid at most. -/
def LawB (w : World) (e : Ending) (w' : World) : Prop := e = .returned (.bool true) ∧ Add w w'
theorem awake_law (w : World) (C : Calls Try.prog 12 #[] w (fun e w' => e = .returned (.bool true) ∧ Add w w')) : Calls Try.prog 12 #[] w (LawB w) := C

set_option maxRecDepth 100000 in
set_option maxHeartbeats 1000000 in
/-- Two lists of the same rows. -/
theorem sameAll_any {w : World} {v v2 : Value} {vs vs2 : List Value} {rs : List (List Nat)} (h : RowsB w v vs rs) (h2 : RowsB w v2 vs2 rs) :
    Calls Try.prog 15 #[v, v2] w (fun e w' => e = .returned (.bool true) ∧ ∃ q, w' = w.drewN q) := by
  obtain ⟨ao, c, rfl, hm⟩ := h.isSlice
  obtain ⟨ao2, c2, rfl, _⟩ := h2.isSlice
  unfold maxLen at hm
  obtain ⟨n, en⟩ : ∃ n, n = rs.length := ⟨_, rfl⟩
  rw [← en] at h h2 hm ⊢
  have H1 := Lib.hid h
  have H2 := Lib.hid h2
  clear h h2 en
  go_enter Try.func15, Try.ntmps15
  go_wp2_with fail
  go_loopw [5] (fun i wr => ∃ k : Nat, k ≤ n ∧ i = .int .i64 (k : Nat) ∧ ∃ q, wr = w.drewN q) (fun i _ => n - (intOf i).toNat)
  case atStart => exact ⟨0, Nat.zero_le _, rfl, 0, rfl⟩
  case round =>
    obtain ⟨k, hk, rfl, q, rfl⟩ := hrel
    by_cases h0 : k = n
    · subst h0
      go_wp2_with fail
      go_ret
      exact ⟨rfl, _, rfl⟩
    · have hlt : k < n := by omega
      obtain ⟨b, off, a, l, cc, rfl, -, el, hl, hcell, hrd⟩ := H1.out.row hlt
      obtain ⟨b', off', a', l', cc', rfl, -, el', hl', hcell', hrd'⟩ := H2.out.row hlt
      have hcv : ∀ q, (convert 32 9 (.slice a l cc)).run Try.prog (w.drewN q) = .ok (.string (strOf (rs.getD k []))) (w.drewN q) := fun q => conv_all (hrd.mono (below_drewN (Below.refl _ _) q))
      have hcv' : ∀ q, (convert 32 9 (.slice a' l' cc')).run Try.prog (w.drewN q) = .ok (.string (strOf (rs.getD k []))) (w.drewN q) := fun q => conv_all (hrd'.mono (below_drewN (Below.refl _ _) q))
      obtain ⟨s, es⟩ : ∃ s, s = strOf (rs.getD k []) := ⟨_, rfl⟩
      rw [← es] at hcv hcv'
      clear el hrd el' hrd' h0 es
      go_wp2_with fail
      go_quiet (fail)
      go_wp2_with fail
      go_roundw
      case rel => exact ⟨k + 1, by omega, by go_num, _, by first | rfl | exact World.drewN_drewN _ _ _⟩
      case measure => simp [intOf]; omega

/-- The bytes of the first k rows, counted up to 2001 each, and the rows. -/
def lsum (rs : List (List Nat)) : Nat → Nat
  | 0 => rs.length
  | k + 1 => lsum rs k + min (rs.getD k []).length 2001
theorem lsum_mono {rs : List (List Nat)} {i j : Nat} (h : i ≤ j) : lsum rs i ≤ lsum rs j := by
  induction j with
  | zero => have : i = 0 := by omega
            rw [this]; exact Nat.le_refl _
  | succ j ih =>
    by_cases e : i = j + 1
    · rw [e]; exact Nat.le_refl _
    · have := ih (by omega); rw [lsum]; omega
theorem lsum_row {rs : List (List Nat)} {i : Nat} (h : i < rs.length) : min (rs.getD i []).length 2001 ≤ lsum rs rs.length := by
  have := lsum_mono (rs := rs) (i := i + 1) (j := rs.length) h
  rw [lsum] at this; omega
def longE (rs : List (List Nat)) : Bool := decide (2000 < lsum rs rs.length) || decide (30 < rs.length)
theorem longE_false {rs : List (List Nat)} (h : longE rs = false) : rs.length ≤ 30 ∧ ∀ i, (rs.getD i []).length ≤ 2000 := by
  unfold longE at h
  rw [Bool.or_eq_false_iff] at h
  have h1 := of_decide_eq_false h.1
  have h2 := of_decide_eq_false h.2
  refine ⟨by omega, fun i => ?_⟩
  by_cases hi : i < rs.length
  · have := lsum_row hi; omega
  · have : rs.getD i [] = [] := by simp [List.getD, Nat.le_of_not_lt hi]
    rw [this]; exact Nat.zero_le _
end Go.Proofs.Ytmlcenocjpjcfaa
