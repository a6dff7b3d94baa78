/- Lists of fragments that a call makes by appending; the helper chosen of the laws of erasure. -/
import Derived.Test.YtmlcenocjpjcfaaE13
namespace Go.Proofs.Ytmlcenocjpjcfaa
open Go.RowKit GfM

theorem info34 : (Try.prog.info? 34).map (fun i => (i.zero, i.size, i.bytes)) = some (some (.agg #[.int .i64 0, .slice none 0 0]), 2, 32) := by kernel_rfl
/-- The cells of fragments. -/
def cellsF : List Int → List Value → List Value
  | i :: is, h :: hs => .int .i64 i :: h :: cellsF is hs
  | _, _ => []
theorem cellsF_append {a b : List Int} {c d : List Value} (h : a.length = c.length) : cellsF (a ++ b) (c ++ d) = cellsF a c ++ cellsF b d := by
  induction a generalizing c with
  | nil => have : c = [] := List.eq_nil_of_length_eq_zero h.symm
           subst this; rfl
  | cons x a ih => cases c with
    | nil => simp at h
    | cons y c => simp only [List.cons_append, cellsF, ih (by simpa using h)]
theorem cellsF_get {a : List Int} {c : List Value} (h : a.length = c.length) {i : Nat} (hi : i < a.length) : (cellsF a c)[i * 2]? = some (.int .i64 (a.getD i 0)) ∧ (cellsF a c)[i * 2 + 1]? = some (c.getD i undef) := by
  induction a generalizing c i with
  | nil => simp at hi
  | cons x a ih => cases c with
    | nil => simp at h
    | cons y c =>
      cases i with
      | zero => exact ⟨rfl, rfl⟩
      | succ i =>
        have e : (i + 1) * 2 = i * 2 + 1 + 1 := by omega
        rw [e]
        simp only [cellsF, List.getElem?_cons_succ, List.getD_cons_succ]
        exact ih (by simpa using h) (by simpa using hi)
/-- A list that a call makes by appending fragments. -/
def ListF (w : World) (base : Nat) (v : Value) (ix : List Int) (hs : List Value) (rs : List (List Nat)) : Prop :=
  w.ownsRow base 34 2 v hs.length (cellsF ix hs) ∧ ix.length = hs.length ∧ hs.length = rs.length ∧ ∀ i, i < hs.length → Reads w (hs.getD i undef) (rs.getD i []) ∧ AwayV (hs.getD i undef) (rs.getD i []) v
theorem ListF.nil (w : World) (base : Nat) : ListF w base (.slice none 0 0) [] [] [] := ⟨World.ownsRow_nil _ _ _ _, rfl, rfl, fun i hi => by simp at hi⟩
theorem ListF.add {w w' : World} {base : Nat} {v : Value} {ix : List Int} {hs : List Value} {rs : List (List Nat)} (h : ListF w base v ix hs rs) (hb : Add w w') : ListF w' base v ix hs rs :=
  ⟨ownsRow_add h.1 hb, h.2.1, h.2.2.1, fun i hi => ⟨(h.2.2.2 i hi).1.mono hb, (h.2.2.2 i hi).2⟩⟩
theorem ListF.push {wr w3 : World} {base : Nat} {v v' h : Value} {i0 : Int} {ix : List Int} {hs : List Value} {rs : List (List Nat)} {xs : List Nat} {o : Obj} (hl : ListF wr base v ix hs rs) (hr : Reads wr h xs) (ha : AwayV h xs v)
    (hg : (wr.alloc o).grownBy w3 v.ownBlock) (hown : w3.ownsRow base 34 2 v' (hs.length + 1) (cellsF ix hs ++ [.int .i64 i0, h])) (hat : v'.ownBlock = v.ownBlock ∨ v'.ownBlock = some (wr.heap.size + 1)) : ListF w3 base v' (ix ++ [i0]) (hs ++ [h]) (rs ++ [xs]) := by
  have hadd : Add wr (wr.alloc o) := (Below.refl _ _).alloc (Nat.le_refl _) _
  have key : ∀ h' xs', Reads wr h' xs' → AwayV h' xs' v → Reads w3 h' xs' ∧ AwayV h' xs' v' := by
    intro h' xs' r1 r2
    refine ⟨(r1.mono hadd).grownV r2 hg, ?_⟩
    intro b off n c e h0 e2
    rcases hat with e3 | e3
    · exact r2 b off n c e h0 (e2.trans e3)
    · subst e
      have := reads_block r1 h0
      rw [e3] at e2
      have e4 := Option.some.inj e2
      omega
  refine ⟨by rw [List.length_append, cellsF_append hl.2.1]; exact hown, by simp [hl.2.1], by simp [hl.2.2.1], fun i hi => ?_⟩
  simp only [List.length_append, List.length_cons, List.length_nil] at hi
  by_cases hk : i < hs.length
  · have e1 : (hs ++ [h]).getD i undef = hs.getD i undef := by simp only [List.getD]; rw [List.getElem?_append_left hk]
    have e2 : (rs ++ [xs]).getD i [] = rs.getD i [] := by simp only [List.getD]; rw [List.getElem?_append_left (by rw [← hl.2.2.1]; exact hk)]
    rw [e1, e2]; exact key _ _ (hl.2.2.2 i hk).1 (hl.2.2.2 i hk).2
  · have e : i = hs.length := by omega
    subst e
    have e1 : (hs ++ [h]).getD hs.length undef = h := by simp [List.getD]
    have e2 : (rs ++ [xs]).getD hs.length [] = xs := by rw [hl.2.2.1]; simp [List.getD]
    rw [e1, e2]; exact key _ _ hr ha
theorem ListF.addB {wr w3 : World} {base : Nat} {v : Value} {ix : List Int} {hs : List Value} {rs : List (List Nat)} {w0 : World} {o : Obj} (hl : ListF wr base v ix hs rs) (h0 : Add w0 wr) (hb : w0.heap.size ≤ base) (hg : (wr.alloc o).grownBy w3 v.ownBlock) : Add w0 w3 :=
  Below.grown (h0.alloc h0.size o) hg (by have := h0.size; simp; omega) (fun q hq => by have := (ownsRow_block hl.1 hq).1; omega)
theorem ListF.frags {w : World} {base : Nat} {v : Value} {ix : List Int} {hs : List Value} {rs : List (List Nat)} (h : ListF w base v ix hs rs) : ∃ ao c, v = .slice ao rs.length c ∧ FragsB w v ix hs rs := by
  obtain ⟨h1, h2, h3, h4⟩ := h
  rcases h1.2 with ⟨rfl, h0⟩ | ⟨G, cap, cur, rfl, hb, hgg, hn, hm, hs', ht⟩
  · have e : hs = [] := List.eq_nil_of_length_eq_zero h0
    subst e
    have e2 : rs = [] := List.eq_nil_of_length_eq_zero h3.symm
    subst e2
    exact ⟨none, 0, rfl, none, 0, 0, rfl, h2, rfl, rfl, Nat.le_refl _, by unfold maxLen; omega, fun h => by omega, fun i hi => by omega⟩
  · refine ⟨some ⟨G, 0, none⟩, cap, by rw [h3], _, hs.length, cap, rfl, h2, rfl, h3.symm, hn, hm, fun _ => ⟨G, 0, rfl, fun i hi => ?_⟩, fun i hi => (h4 i hi).1⟩
    have g1 := h1.cellAt (i * 2) (by omega)
    have g2 := h1.cellAt (i * 2 + 1) (by omega)
    have g3 := cellsF_get h2 (i := i) (by omega)
    rw [Nat.zero_add, g1, g2]
    exact g3

/-- Which rows are chosen, after i steps, and how many are gone. -/
def chS (k n f wo : Nat) : Nat → List Nat × Nat
  | 0 => ([], 0)
  | i + 1 => if wo / 2 ^ ((f + i) % n) % 2 = 1 ∧ (chS k n f wo i).2 < n - k then ((chS k n f wo i).1, (chS k n f wo i).2 + 1) else ((chS k n f wo i).1 ++ [(f + i) % n], (chS k n f wo i).2)
theorem chS_len (k n f wo i : Nat) : (chS k n f wo i).1.length + (chS k n f wo i).2 = i ∧ (chS k n f wo i).2 ≤ n - k := by
  induction i with
  | zero => exact ⟨rfl, Nat.zero_le _⟩
  | succ i ih =>
    rw [chS]; split
    · exact ⟨by dsimp only; omega, by dsimp only; omega⟩
    · exact ⟨by dsimp only; rw [List.length_append]; simp; omega, ih.2⟩
theorem chS_form (k n f wo i : Nat) : ∀ x ∈ (chS k n f wo i).1, ∃ j < i, x = (f + j) % n := by
  induction i with
  | zero => intro x hx; cases hx
  | succ i ih =>
    intro x hx
    rw [chS] at hx; split at hx
    · obtain ⟨j, hj, e⟩ := ih x hx; exact ⟨j, by omega, e⟩
    · rcases List.mem_append.1 hx with hx | hx
      · obtain ⟨j, hj, e⟩ := ih x hx; exact ⟨j, by omega, e⟩
      · exact ⟨i, by omega, List.mem_singleton.1 hx⟩
theorem mod_two {f j n : Nat} (hf : f < n) (hj : j < n) : (f + j) % n = if f + j < n then f + j else f + j - n := by
  split
  · exact Nat.mod_eq_of_lt (by assumption)
  · rw [Nat.mod_eq_sub_mod (by omega), Nat.mod_eq_of_lt (by omega)]
theorem chS_nodup {k n f wo : Nat} (hf : f < n) (i : Nat) (hi : i ≤ n) : (chS k n f wo i).1.Nodup := by
  induction i with
  | zero => exact List.nodup_nil
  | succ i ih =>
    rw [chS]; split
    · exact ih (by omega)
    · refine List.nodup_append.2 ⟨ih (by omega), List.pairwise_singleton _ _, fun x hx y hy => ?_⟩
      obtain ⟨j, hj, e⟩ := chS_form k n f wo i x hx
      rw [List.mem_singleton.1 hy, e, mod_two hf (by omega), mod_two hf (by omega)]
      split <;> split <;> omega
def chX (k n f wo i : Nat) : List Int := (chS k n f wo i).1.map fun x : Nat => (x : Int)
def chR (word : List (List Nat)) (k n f wo i : Nat) : List (List Nat) := (chS k n f wo i).1.map fun x => word.getD x []

theorem cells_two_new (w : World) (x y : Value) (t : TypeId) : ∀ j u, [x, y][j]? = some u → (w.alloc (.cells #[x, y] t)).cell? ((⟨w.heap.size, 0, none⟩ : Addr).add j) = some u := by
  intro j u hj
  rw [Addr.add_lit, Nat.zero_add, cell_of_row _ w.heap.size j _ t (0, 0) (heap_alloc_new w _)]
  simpa using hj

set_option maxRecDepth 100000 in
set_option maxHeartbeats 4000000 in
theorem chosen_any {w : World} {v : Value} {vs : List Value} {rs : List (List Nat)} {n : Nat} (h : RowsB w v vs rs) (hn : rs.length = n) (hn0 : 0 < n) (hn8 : n ≤ 8) (k f wo : Nat) (hk : k ≤ n) (_hf : f < n) (hwo : wo < 256) :
    Calls Try.prog 23 #[v, .int .i64 (k : Nat), .int .i64 (f : Nat), .int .u8 (wo : Nat)] w (fun e w' => ∃ v' hs, e = .returned v' ∧ ListF w' w.heap.size v' (chX k n f wo n) hs (chR rs k n f wo n) ∧ Add w w') := by
  obtain ⟨i2, hi2, hq0, hq1, hq2⟩ := info_parts info34
  obtain ⟨ao, c, rfl, hm⟩ := h.isSlice
  rw [hn] at h ⊢
  have HR := Lib.hid h
  clear h hn hm
  go_enter Try.func23, Try.ntmps23
  go_wp2_with fail
  go_loopw [9, 10, 11] (fun o g i wr => ∃ (q gg : Nat) (hs : List Value), q ≤ n ∧ i = .int .i64 (q : Nat) ∧ g = .int .i64 (gg : Nat) ∧ gg = (chS k n f wo q).2 ∧ ListF wr w.heap.size o (chX k n f wo q) hs (chR rs k n f wo q) ∧ Add w wr) (fun _ _ i _ => n - (intOf i).toNat)
  case atStart => exact ⟨0, 0, [], Nat.zero_le _, rfl, rfl, rfl, ListF.nil _ _, Below.refl _ _⟩
  case round =>
    obtain ⟨q, gg, hs, hq, rfl, rfl, hg, hl, hadd⟩ := hrel
    have HL := Lib.hid hl
    have HA := Lib.hid hadd
    have HGG := Lib.hid hg
    have hgq : gg ≤ q := by have := (chS_len k n f wo q).1; omega
    have hlen : Hid (hs.length ≤ q) := Lib.hid (by
      have := (chS_len k n f wo q).1
      have h2 := hl.2.2.1
      unfold chR at h2
      rw [List.length_map] at h2
      omega)
    clear hl hadd hg
    by_cases h0 : q = n
    · subst h0
      go_wp2_with fail
      go_ret
      exact ⟨u9, hs, rfl, HL.out, HA.out⟩
    · have hlt : q < n := by omega
      obtain ⟨x, ex⟩ : ∃ x, x = (f + q) % n := ⟨_, rfl⟩
      have hx : x < n := by rw [ex]; exact Nat.mod_lt _ hn0
      have hxi : ((f : Int) + (q : Int)) % (n : Int) = (x : Int) := by rw [ex]; simp
      have hne : ((n : Int) == 0) = false := by rw [beq_eq_false_iff_ne]; omega
      obtain ⟨y, ey⟩ : ∃ y, y = wo / 2 ^ x := ⟨_, rfl⟩
      have hyi : (wo : Int) / 2 ^ x = (y : Int) := by rw [ey]; simp
      have hy : y < 256 := by rw [ey]; exact Nat.lt_of_le_of_lt (Nat.div_le_self _ _) hwo
      have hand := u8_and_nat y 1 hy (by decide)
      rw [show ((1 : Nat) : Int) = 1 from rfl, Nat.and_one_is_mod] at hand
      obtain ⟨b, off, a, l, cc, rfl, -, -, -, hcell, hrd⟩ := (HR.out.mono HA.out).row hx
      obtain ⟨b2, off2, a2, l2, cc2, eb2, -, -, -, hcell2, hrd2⟩ := HR.out.row hx
      have hsame : Value.slice a2 l2 cc2 = .slice a l cc := by
        cases eb2
        have h5 := (HA.out.cell (p := ⟨b, off + x, none⟩) (World.block_lt_of_cell? w _ hcell2)).trans hcell2
        rw [hcell] at h5
        exact (Option.some.inj h5).symm
      rw [hsame] at hrd2
      have hav : AwayV (.slice a l cc) (rs.getD x []) u9 := by
        intro b' off' n' c' e h0 e2
        cases e
        have h1 := reads_block hrd2 h0
        have h2 := (ownsRow_block HL.out.1 e2.symm).1
        omega
      have HTAKE : Hid (¬ (y % 2 = 1 ∧ gg < n - k) → (∀ v' w3 o, (wr.alloc o).grownBy w3 u9.ownBlock → w3.ownsRow w.heap.size 34 2 v' (hs.length + 1) (cellsF (chX k n f wo q) hs ++ [.int .i64 (x : Nat), .slice a l cc]) → (v'.ownBlock = u9.ownBlock ∨ v'.ownBlock = some (wr.heap.size + 1)) → ListF w3 w.heap.size v' (chX k n f wo (q + 1)) (hs ++ [.slice a l cc]) (chR rs k n f wo (q + 1)) ∧ Add w w3) ∧ gg = (chS k n f wo (q + 1)).2) := Lib.hid fun hneg => by
        have e : chS k n f wo (q + 1) = ((chS k n f wo q).1 ++ [x], (chS k n f wo q).2) := by
          rw [chS, if_neg (by rw [← ex, ← ey, ← HGG.out]; exact hneg), ← ex]
        refine ⟨fun v' w3 o h1 h2 h3 => ?_, by rw [e]; exact HGG.out⟩
        have e2 : chX k n f wo (q + 1) = chX k n f wo q ++ [(x : Int)] := by unfold chX; rw [e]; simp
        have e3 : chR rs k n f wo (q + 1) = chR rs k n f wo q ++ [rs.getD x []] := by unfold chR; rw [e]; simp
        rw [e2, e3]
        exact ⟨HL.out.push hrd hav h1 h2 h3, HL.out.addB HA.out (Nat.le_refl _) h1⟩
      have HSKIP : Hid (y % 2 = 1 ∧ gg < n - k → chX k n f wo (q + 1) = chX k n f wo q ∧ chR rs k n f wo (q + 1) = chR rs k n f wo q ∧ gg + 1 = (chS k n f wo (q + 1)).2) := Lib.hid fun hpos => by
        have e : chS k n f wo (q + 1) = ((chS k n f wo q).1, (chS k n f wo q).2 + 1) := by
          rw [chS, if_pos (by rw [← ex, ← ey, ← HGG.out]; exact hpos)]
        unfold chX chR
        rw [e]
        exact ⟨rfl, rfl, by rw [HGG.out]⟩
      have hownV := HL.out.1
      have hsz := HA.out.size
      have hlen := hlen.out
      clear ex ey hrd hrd2 hcell2 hsame hav h0 eb2
      rcases Nat.mod_two_eq_zero_or_one y with h2 | h2
      · rw [h2] at hand
        have HT := Lib.hid (HTAKE.out (by rw [h2]; omega))
        clear h2 HTAKE HSKIP
        go_wp2_with (at_builtin; refine wpList_append_own_at _ rfl _ _ 31 rfl w.heap.size 34 i2 (.agg #[.int .i64 0, .slice none 0 0]) 2 32 Try.underlying31 hi2 hq0 hq1 hq2 rfl (by decide) _ _ _ rfl (World.ownsRow.alloc hownV _) ⟨wr.heap.size, 0, none⟩ 1 1 [.int .i64 (x : Nat), .slice a l cc] rfl rfl (cells_two_new _ _ _ _) (by intro u hu; simp at hu; rcases hu with rfl | rfl <;> rfl) (by unfold maxLen; omega) (by omega) (by simp; omega) ?_)
        intro v' w3 hown3 hgr3 _ hat
        have HEND := Lib.hid (HT.out.1 v' w3 _ hgr3 hown3 hat)
        have hgn := HT.out.2
        have HGN := Lib.hid hgn
        clear hown3 hgr3 hownV hat hgn
        go_wp2_with fail
        go_roundw
        case rel => exact ⟨q + 1, gg, _, by omega, by go_num, rfl, HGN.out, HEND.out.1, HEND.out.2⟩
        case measure => simp [intOf]; omega
      · rw [h2] at hand
        by_cases hgk : gg < n - k
        · have d : decide ((gg : Int) < (n : Int) - (k : Int)) = true := decide_eq_true (by omega)
          obtain ⟨s1, s2, s3⟩ := HSKIP.out ⟨h2, hgk⟩
          have HN : Hid (gg + 1 = (chS k n f wo (q + 1)).2 ∧ ListF wr w.heap.size u9 (chX k n f wo (q + 1)) hs (chR rs k n f wo (q + 1))) := Lib.hid ⟨s3, by rw [s1, s2]; exact HL.out⟩
          clear h2 HTAKE HSKIP s1 s2 s3 hownV hgk
          go_wp2_with fail
          go_roundw
          case rel => exact ⟨q + 1, gg + 1, hs, by omega, by go_num, by go_num, HN.out.1, HN.out.2, HA.out⟩
          case measure => simp [intOf]; omega
        · have d : decide ((gg : Int) < (n : Int) - (k : Int)) = false := decide_eq_false (by omega)
          have HT := Lib.hid (HTAKE.out (by omega))
          clear h2 HTAKE HSKIP hgk
          go_wp2_with (at_builtin; refine wpList_append_own_at _ rfl _ _ 31 rfl w.heap.size 34 i2 (.agg #[.int .i64 0, .slice none 0 0]) 2 32 Try.underlying31 hi2 hq0 hq1 hq2 rfl (by decide) _ _ _ rfl (World.ownsRow.alloc hownV _) ⟨wr.heap.size, 0, none⟩ 1 1 [.int .i64 (x : Nat), .slice a l cc] rfl rfl (cells_two_new _ _ _ _) (by intro u hu; simp at hu; rcases hu with rfl | rfl <;> rfl) (by unfold maxLen; omega) (by omega) (by simp; omega) ?_)
          intro v' w3 hown3 hgr3 _ hat
          have HEND := Lib.hid (HT.out.1 v' w3 _ hgr3 hown3 hat)
          have hgn := HT.out.2
          have HGN := Lib.hid hgn
          clear hown3 hgr3 hownV hat hgn
          go_wp2_with fail
          go_roundw
          case rel => exact ⟨q + 1, gg, _, by omega, by go_num, rfl, HGN.out, HEND.out.1, HEND.out.2⟩
          case measure => simp [intOf]; omega
end Go.Proofs.Ytmlcenocjpjcfaa
