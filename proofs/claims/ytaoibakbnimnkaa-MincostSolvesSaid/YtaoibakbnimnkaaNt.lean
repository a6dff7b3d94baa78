/- The tape of the makers of package drydockmake: New and Next. -/
import Derived.Test.YtaoibakbnimnkaaJU
import Derived.IntWalk
import Derived.LoopTactic
import Derived.Deep.QuietTactic
import Derived.BigQuiet
import Derived.OwnWalk
import Derived.Laws.OwnMore
import Derived.Deep.Cut
import Derived.Maps.AppendAt
namespace Go.Proofs.Ytaoibakbnimnkaa
open Go.RowKit

def u8v (x : Nat) : Value := .int .u8 (x : Nat)
/-- Bytes that are only read. -/
abbrev RdU (w : World) (v : Value) (xs : List Nat) : Prop := Rd w v (xs.map u8v)
/-- A tape lies in block g; its bytes lie elsewhere. -/
def TpS (w : World) (g : Nat) (a : Option Addr) (n c : Nat) (bs : List Nat) : Prop := ∃ at', w.heap[g]? = some (.cells #[.slice a n c, .int .i64 (at' : Nat)] 62 (0, 0)) ∧ bs.length = n ∧ RdU w (.slice a n c) bs ∧ (∀ x ∈ bs, x < 256) ∧ n ≤ 400 ∧ ∀ b off, a = some ⟨b, off, none⟩ → 0 < n → b ≠ g
def Tp (w : World) (g : Nat) : Prop := ∃ a n c bs, TpS w g a n c bs
theorem TpS.lt {w : World} {g : Nat} {a : Option Addr} {n c : Nat} {bs : List Nat} (h : TpS w g a n c bs) : g < w.heap.size := by
  obtain ⟨q, h1, -⟩ := h
  exact (Array.getElem?_eq_some_iff.1 h1).1
theorem TpS.add {w w' : World} {g : Nat} {a : Option Addr} {n c : Nat} {bs : List Nat} (h : TpS w g a n c bs) (hb : Add w w') : TpS w' g a n c bs := by
  have hl := h.lt
  obtain ⟨q, h1, h2, h3, h4, h5, h6⟩ := h
  exact ⟨q, (hb.block g hl).trans h1, h2, h3.add hb, h4, h5, h6⟩
/-- The bytes lie below block B, too. -/
theorem TpS.bytes {w : World} {g : Nat} {a : Option Addr} {n c : Nat} {bs : List Nat} (h : TpS w g a n c bs) : ∀ b off, a = some ⟨b, off, none⟩ → 0 < n → b < w.heap.size := by
  intro b off e hp
  obtain ⟨q, h1, h2, h3, -⟩ := h
  obtain ⟨a', n', c', e2, h4, -, -, h5⟩ := h3
  simp only [Value.slice.injEq] at e2
  obtain ⟨rfl, rfl, rfl⟩ := e2
  obtain ⟨b2, off2, e3, k⟩ := h5 hp
  rw [e] at e3
  have e4 := Option.some.inj e3
  simp only [Addr.mk.injEq, and_true] at e4
  obtain ⟨rfl, rfl⟩ := e4
  have := World.block_lt_of_cell? w _ (k 0 hp)
  simpa using this
theorem TpS.low {w w' : World} {g B : Nat} {a : Option Addr} {n c : Nat} {bs : List Nat} (h : TpS w g a n c bs) (hb : Below B w w') (hg : g < B) (hbb : ∀ b off, a = some ⟨b, off, none⟩ → 0 < n → b < B) : TpS w' g a n c bs := by
  obtain ⟨q, h1, h2, h3, h4, h5, h6⟩ := h
  refine ⟨q, (hb.block g hg).trans h1, h2, ?_, h4, h5, h6⟩
  obtain ⟨a', n', c', e2, k1, k2, k3, k4⟩ := h3
  simp only [Value.slice.injEq] at e2
  obtain ⟨rfl, rfl, rfl⟩ := e2
  refine ⟨a, n, c, rfl, k1, k2, k3, fun hp => ?_⟩
  obtain ⟨b, off, rfl, k⟩ := k4 hp
  exact ⟨b, off, rfl, fun i hi => (hb.cell (p := ⟨b, off + i, none⟩) (hbb b off rfl hp)).trans (k i hi)⟩
/-- What Next returns. -/
def NextP (w : World) (g : Nat) (a : Option Addr) (m c : Nat) (bs : List Nat) (n : Int) (e : Ending) (w' : World) : Prop := ∃ r : Nat, e = .returned (.int .i64 (r : Nat)) ∧ (r : Int) < n ∧ TpS w' g a m c bs ∧ w.grownBy w' (some g) ∧ w'.heap.size = w.heap.size
theorem RdU.cell {w : World} {a : Option Addr} {n c : Nat} {xs : List Nat} (h : RdU w (.slice a n c) xs) {k : Nat} (hk : k < n) : ∃ b off, a = some ⟨b, off, none⟩ ∧ w.cell? ⟨b, off + k, none⟩ = some (.int .u8 (xs.getD k 0 : Nat)) := by
  obtain ⟨a', n', c', e, h1, -, -, h2⟩ := h
  simp only [Value.slice.injEq] at e
  obtain ⟨rfl, rfl, rfl⟩ := e
  obtain ⟨b, off, rfl, q⟩ := h2 (by omega)
  refine ⟨b, off, rfl, ?_⟩
  rw [q k hk]
  rw [List.length_map] at h1
  have : k < xs.length := by omega
  simp [List.getD, this, u8v]
theorem grownN {w : World} (g n : Nat) : w.grownBy (w.drewN n) (some g) := ⟨rfl, rfl, rfl, Nat.le_refl _, fun _ _ _ => rfl⟩
theorem TpS.drewN {w : World} {g : Nat} {a : Option Addr} {m c : Nat} {bs : List Nat} (h : TpS w g a m c bs) (n : Nat) : TpS (w.drewN n) g a m c bs := h.add ⟨rfl, rfl, rfl, Nat.le_refl _, fun _ _ => rfl⟩

set_option maxRecDepth 100000 in
set_option maxHeartbeats 1000000 in
theorem next_any {w : World} {g : Nat} {a : Option Addr} {m c : Nat} {bs : List Nat} {n : Int} (h : TpS w g a m c bs) (hn : 1 ≤ n) (hn2 : n ≤ 1000000) : Calls Try.prog 23 #[.pointer (some ⟨g, 0, none⟩), .int .i64 n] w (NextP w g a m c bs n) := by
  have HT := Lib.hid h
  obtain ⟨q, h1, h2, h3, h4, h5, h6⟩ := h
  have c0 : w.cell? ⟨g, 0, none⟩ = some (.slice a m c) := (cell_of_row w g 0 _ _ _ h1).trans rfl
  have c1 : w.cell? ⟨g, 1, none⟩ = some (.int .i64 (q : Nat)) := (cell_of_row w g 1 _ _ _ h1).trans rfl
  have f1 := frozen_of_row w g 1 _ 62 h1
  have hz := (Array.getElem?_eq_some_iff.1 h1).1
  have H1 := Lib.hid h1
  have H2 := Lib.hid h2
  have H3 := Lib.hid h3
  have H4 := Lib.hid h4
  have H6 := Lib.hid h6
  have HNO : Hid (∀ k, NextP w g a m c bs n (.returned (.int .i64 0)) (w.drewN k)) := Lib.hid fun k => ⟨0, rfl, by show ((0 : Nat) : Int) < n; omega, HT.out.drewN k, grownN g k, rfl⟩
  clear h1 h2 h3 h4 h6
  by_cases hlt : q < m
  · have d1 : decide ((m : Int) ≤ (q : Int)) = false := decide_eq_false (by omega)
    have d1' : decide (m ≤ q) = false := decide_eq_false (by omega)
    by_cases h2n : n < 2
    · have d2 : decide (n < 2) = true := decide_eq_true h2n
      go_enter Try.func23, Try.ntmps23
      go_wp2_with fail
      go_quiet (fail)
      go_wp2_with fail
      go_ret
      exact HNO.out _
    · have d2 : decide (n < 2) = false := decide_eq_false h2n
      obtain ⟨b, off, rfl, q1⟩ := RdU.cell H3.out hlt
      have hbg := H6.out b off rfl (by omega)
      obtain ⟨x, hx⟩ : ∃ x, bs.getD q 0 = x := ⟨_, rfl⟩
      rw [hx] at q1
      have hx2 : x < 256 := by
        rw [← hx]
        have : q < bs.length := by rw [H2.out]; exact hlt
        simp only [List.getD, List.getElem?_eq_getElem this, Option.getD_some]
        exact H4.out _ (List.getElem_mem this)
      have W1 : IntKind.i64.wrap ((q : Int) + 1 - 1) = (q : Int) := by rw [IntWalk.i64_in _ (by omega)]; omega
      clear hx
      go_enter Try.func23, Try.ntmps23
      go_wp2_with fail
      go_quiet (fail)
      clear d1 d1' d2
      go_upto_region 4 with fail
      obtain ⟨W5, hW5⟩ : ∃ W5, W5 = (w.drewN nq).setCell ⟨g, 1, none⟩ (.int .i64 ((q : Int) + 1)) := ⟨_, rfl⟩
      rw [← hW5]
      have k1 : W5.heap[g]? = some (.cells #[.slice (some ⟨b, off, none⟩) m c, .int .i64 ((q : Int) + 1)] 62 (0, 0)) := by
        rw [hW5, heap_setCell_same (w.drewN nq) g 1 _ _ _ H1.out]; rfl
      have k2 : W5.cell? ⟨b, off + q, none⟩ = some (.int .u8 (x : Nat)) := by
        rw [hW5]
        exact (World.cell?_of_block (a := ⟨b, off + q, none⟩) (heap_setCell_other (w.drewN nq) ⟨g, 1, none⟩ b _ hbg)).trans q1
      have c5 : W5.cell? ⟨g, 0, none⟩ = some (.slice (some ⟨b, off, none⟩) m c) := (cell_of_row W5 g 0 _ _ _ k1).trans rfl
      have c6 : W5.cell? ⟨g, 1, none⟩ = some (.int .i64 ((q : Int) + 1)) := (cell_of_row W5 g 1 _ _ _ k1).trans rfl
      have hgr : w.grownBy W5 (some g) := by
        rw [hW5]
        exact ⟨rfl, rfl, rfl, by simp, fun k _ hk => heap_setCell_other (w.drewN nq) ⟨g, 1, none⟩ k _ (fun e => hk (by simp [e]))⟩
      have htp : TpS W5 g (some ⟨b, off, none⟩) m c bs := ⟨q + 1, by rw [k1]; simp, H2.out, by
        obtain ⟨ao, n', c', e, r1, r2, r3, r4⟩ := H3.out
        refine ⟨ao, n', c', e, r1, r2, r3, fun hp => ?_⟩
        obtain ⟨b2, off2, e2, r5⟩ := r4 hp
        refine ⟨b2, off2, e2, fun i hi => ?_⟩
        simp only [Value.slice.injEq] at e
        obtain ⟨e3, -, -⟩ := e
        rw [← e3] at e2
        have e4 := Option.some.inj e2
        simp only [Addr.mk.injEq, and_true] at e4
        obtain ⟨rfl, rfl⟩ := e4
        rw [hW5]
        exact (World.cell?_of_block (a := ⟨b, off + i, none⟩) (heap_setCell_other (w.drewN nq) ⟨g, 1, none⟩ b _ hbg)).trans (r5 i hi), H4.out, h5, fun b2 o2 e hp => H6.out b2 o2 e hp⟩
      have hsz : W5.heap.size = w.heap.size := by rw [hW5]; simp
      have HYES : Hid (∀ k, NextP w g (some ⟨b, off, none⟩) m c bs n (.returned (.int .i64 ((x : Int) % n))) (W5.drewN k)) := Lib.hid fun k => by
        refine ⟨((x : Int) % n).toNat, ?_, ?_, htp.drewN k, ⟨hgr.os, hgr.tape, hgr.output, hgr.size, hgr.block⟩, hsz⟩
        · have := Int.emod_nonneg (x : Int) (show n ≠ 0 by omega)
          rw [Int.toNat_of_nonneg this]
        · have h1 := Int.emod_nonneg (x : Int) (show n ≠ 0 by omega)
          have h2 := Int.emod_lt_of_pos (x : Int) (show 0 < n by omega)
          rw [Int.toNat_of_nonneg h1]; exact h2
      clear hW5 k1 hgr htp hsz c0 c1 f1 q1 HNO
      go_quiet (fail)
      go_wp2_with fail
      go_ret
      exact HYES.out _
  · have d1 : decide ((m : Int) ≤ (q : Int)) = true := decide_eq_true (by omega)
    have d1' : decide (m ≤ q) = true := decide_eq_true (by omega)
    go_enter Try.func23, Try.ntmps23
    go_wp2_with fail
    go_quiet (fail)
    go_wp2_with fail
    go_ret
    exact HNO.out _

theorem infoU8 : (Try.prog.info? 5).map (fun i => (i.zero, i.size, i.bytes)) = some (some (.int .u8 0), 1, 1) := by kernel_rfl
/-- append([]uint8(nil), l...). -/
theorem bytes_append (w : World) {so : Option Addr} {m c : Nat} {bs : List Nat} (h : RdU w (.slice so m c) bs) (hm : m ≤ 100000) :
    ∃ v' w', (Builtin.append_ #[39, 39] 39 #[.slice none 0 0, .slice so m c]).run Try.prog w = .ok v' w' ∧ w'.ownsRow w.heap.size 5 1 v' m (bs.map u8v) ∧ w.grownBy w' none := by
  obtain ⟨i0, hi, hz0, hz1, hz2⟩ := info_parts infoU8
  obtain ⟨a', n', c', e, h1, h2, h3, h4⟩ := h
  simp only [Value.slice.injEq] at e
  obtain ⟨rfl, rfl, rfl⟩ := e
  cases so with
  | none =>
    have hm0 : m = 0 := by
      rcases Nat.eq_zero_or_pos m with h0 | h0
      · exact h0
      · obtain ⟨b, off, e, -⟩ := h4 h0; cases e
    subst hm0
    have hb : bs.map u8v = [] := List.eq_nil_of_length_eq_zero h1
    refine ⟨.slice none 0 0, w, run_append_owned_none (P := Try.prog) (w := w) w.heap.size 39 39 5 i0 1 Try.underlying39 hi (.slice none 0 0) 0 [] (World.ownsRow_nil _ _ _ _), ?_, ⟨rfl, rfl, rfl, Nat.le_refl _, fun _ _ _ => rfl⟩⟩
    rw [hb]; exact World.ownsRow_nil _ _ _ _
  | some ad =>
    have hnews : ∀ j u, (bs.map u8v)[j]? = some u → w.cell? (ad.add j) = some u := by
      intro j u hj
      have hjl : j < m := by rw [← h1]; exact (List.getElem?_eq_some_iff.1 hj).1
      obtain ⟨b, off, e, q⟩ := h4 (by omega)
      obtain rfl := Option.some.inj e
      have e2 : (⟨b, off, none⟩ : Addr).add j = ⟨b, off + j, none⟩ := by unfold Addr.add; split <;> simp_all
      rw [e2, q j hjl]
      simp only [List.getD, hj, Option.getD_some]
    obtain ⟨v', w', hr, r2, r3, -⟩ := run_append_own_at (P := Try.prog) w w.heap.size 39 39 5 i0 (.int .u8 0) 1 1 Try.underlying39 hi hz0 hz1 hz2 rfl (by decide) (.slice none 0 0) 0 [] (World.ownsRow_nil _ _ _ _) ad m c (bs.map u8v) (by rw [h1]; omega) hnews (by intro u hu; obtain ⟨x, -, rfl⟩ := List.mem_map.1 hu; rfl) (by unfold maxLen; omega) (by omega) (Nat.le_refl _)
    rw [Nat.zero_add, List.nil_append] at r2
    exact ⟨v', w', hr, r2, r3⟩
theorem own_slice {w : World} {base e size n : Nat} {v : Value} {xs : List Value} (h : w.ownsRow base e size v n xs) : ∃ a c, v = .slice a n c := by
  rcases h.2 with ⟨rfl, h0⟩ | ⟨g, cap, cur, rfl, -⟩
  · subst h0; exact ⟨none, 0, rfl⟩
  · exact ⟨_, cap, rfl⟩
theorem tape_new {w w' : World} {v' : Value} {m : Nat} {bs : List Nat} (h : w'.ownsRow w.heap.size 5 1 v' m (bs.map u8v)) (hb : ∀ x ∈ bs, x < 256) (hm : m ≤ 400) : Tp (w'.alloc (.cells #[v', .int .i64 0] 62)) w'.heap.size := by
  have hl : bs.length = m := by have := h.1; simpa using this
  have hA := add_new w' (.cells #[v', .int .i64 0] 62)
  have hN := heap_alloc_new w' (.cells #[v', .int .i64 0] 62)
  rcases h.2 with ⟨rfl, h0⟩ | ⟨g, cap, cur, rfl, hb2, hg, hn, hc, hs, ht⟩
  · subst h0
    obtain rfl : bs = [] := List.eq_nil_of_length_eq_zero hl
    exact ⟨none, 0, 0, [], 0, hN, rfl, Rd.nil _, hb, Nat.zero_le _, fun b off e => by cases e⟩
  · have hcs := h.cells (g := g) rfl
    refine ⟨_, m, cap, bs, 0, hN, hl, Rd.add ⟨_, m, cap, rfl, by simpa using hl, hn, hc, fun _ => ⟨g, 0, rfl, fun i hi => ?_⟩⟩ hA, hb, hm, fun b off e hp => ?_⟩
    · have hi2 : i < bs.length := by omega
      have := hcs i (u8v bs[i]) (by simp [hi2])
      have e2 : (⟨g, 0, none⟩ : Addr).add i = ⟨g, 0 + i, none⟩ := by unfold Addr.add; split <;> simp_all
      rw [e2] at this
      rw [this]; simp [List.getD, hi2]
    · have e := Option.some.inj e
      simp only [Addr.mk.injEq, and_true] at e
      have := (Array.getElem?_eq_some_iff.1 hg).1
      omega
/-- A tape is returned. -/
def NewP (w : World) (e : Ending) (w' : World) : Prop := ∃ g, e = .returned (.pointer (some ⟨g, 0, none⟩)) ∧ Tp w' g ∧ Add w w' ∧ w.heap.size ≤ g
theorem new_end {w w' : World} {v' : Value} {m : Nat} {bs : List Nat} (h : w'.ownsRow w.heap.size 5 1 v' m (bs.map u8v)) (hg : w.grownBy w' none) (hb : ∀ x ∈ bs, x < 256) (hm : m ≤ 400) :
    NewP w (.returned (.pointer (some ⟨w'.heap.size, 0, none⟩))) (w'.alloc (.cells #[v', .int .i64 0] 62)) :=
  ⟨_, rfl, tape_new h hb hm, Add.trans ((Below.refl _ _).grown hg (Nat.le_refl _) (by simp)) (add_new _ _), hg.size⟩
theorem RdU.cut {w : World} {so : Option Addr} {m c k : Nat} {bs : List Nat} (h : RdU w (.slice so m c) bs) (hk : k ≤ m) : RdU w (.slice so k c) (bs.take k) := by
  obtain ⟨a', n', c', e, h1, h2, h3, h4⟩ := h
  simp only [Value.slice.injEq] at e
  obtain ⟨rfl, rfl, rfl⟩ := e
  rw [List.length_map] at h1
  refine ⟨so, k, c, rfl, by rw [List.length_map, List.length_take]; omega, by omega, h3, fun hp => ?_⟩
  obtain ⟨b, off, e, q⟩ := h4 (by omega)
  refine ⟨b, off, e, fun i hi => ?_⟩
  rw [q i (by omega)]
  simp [List.getD, hi]
set_option maxRecDepth 100000 in
set_option maxHeartbeats 1000000 in
theorem new_any {w : World} {v : Value} {bs : List Nat} (h : RdU w v bs) (hb : ∀ x ∈ bs, x < 256) : Calls Try.prog 20 #[v] w (NewP w) := by
  obtain ⟨so, m, c, rfl, -, hmc, hcm, -⟩ := id h
  unfold maxLen at hcm
  by_cases hl : 400 < m
  · obtain ⟨v', w', hr, r1, r2⟩ := bytes_append w (h.cut (k := 400) (by omega)) (by omega)
    obtain ⟨a2, c2, rfl⟩ := own_slice r1
    have HE := Lib.hid (new_end r1 r2 (fun x hx => hb x (List.mem_of_mem_take hx)) (Nat.le_refl _))
    have HR := Lib.hid hr
    have d1 : decide ((400 : Int) < (m : Int)) = true := decide_eq_true (by omega)
    clear hr r1 r2 h
    go_enter Try.func20, Try.ntmps20
    go_wp2_with (at_builtin; refine Lib.wpList_append_run _ rfl _ _ _ _ rfl _ _ rfl rfl _ _ HR.out ?_)
    go_ret
    exact HE.out
  · obtain ⟨v', w', hr, r1, r2⟩ := bytes_append w h (by omega)
    obtain ⟨a2, c2, rfl⟩ := own_slice r1
    have HE := Lib.hid (new_end r1 r2 hb (by omega))
    have HR := Lib.hid hr
    have d1 : decide ((400 : Int) < (m : Int)) = false := decide_eq_false (by omega)
    clear hr r1 r2 h
    go_enter Try.func20, Try.ntmps20
    go_wp2_with (at_builtin; refine Lib.wpList_append_run _ rfl _ _ _ _ rfl _ _ rfl rfl _ _ HR.out ?_)
    go_ret
    exact HE.out
end Go.Proofs.Ytaoibakbnimnkaa
