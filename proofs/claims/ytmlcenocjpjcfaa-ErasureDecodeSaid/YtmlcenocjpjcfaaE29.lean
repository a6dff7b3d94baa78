/- The reference Decode: what it returns; its walk as far as the two lists. -/
import Derived.Test.YtmlcenocjpjcfaaE21
import Derived.Test.YtmlcenocjpjcfaaE17
import Derived.Test.YtmlcenocjpjcfaaG27
import Derived.Deep.Cut
import Derived.Deep.AppendLies
import Derived.Deep.RegionLaw
import Derived.BigQuiet
namespace Go.Proofs.Ytmlcenocjpjcfaa
open Go.RowKit GfM

/-- What the reference's Decode returns. -/
def DecP (w : World) (k m L : Nat) (R : List (List Nat)) (ix : List Int) (rs : List (List Nat)) (e : Ending) (w' : World) : Prop :=
  if areZ ix ((k : Int) + m) = false then RetErr w 1 e w' else if ¬ ix.Nodup then RetErr w 8 e w' else if rs.length < k then RetErr w 10 e w' else if oneLen rs = false then RetErr w 11 e w' else
  if agreeZ (wordTo k L (dataOf k L R rs) (k + m)) ix rs rs.length = true then RetLE w (dataOf k L R rs) e w' else RetErr w 11 e w'
theorem decP_arg {w w' : World} {k m L : Nat} {R : List (List Nat)} {ix : List Int} {rs : List (List Nat)} {e : Ending} (h : areZ ix ((k : Int) + m) = false) (h2 : RetErr w 1 e w') : DecP w k m L R ix rs e w' := by unfold DecP; rw [if_pos h]; exact h2
theorem decP_dup {w w' : World} {k m L : Nat} {R : List (List Nat)} {ix : List Int} {rs : List (List Nat)} {e : Ending} (h : areZ ix ((k : Int) + m) = true) (hn : ¬ ix.Nodup) (h2 : RetErr w 8 e w') : DecP w k m L R ix rs e w' := by unfold DecP; rw [if_neg (by rw [h]; decide), if_pos hn]; exact h2
theorem decP_short {w w' : World} {k m L : Nat} {R : List (List Nat)} {ix : List Int} {rs : List (List Nat)} {e : Ending} (h : areZ ix ((k : Int) + m) = true) (hn : ix.Nodup) (hs : rs.length < k) (h2 : RetErr w 10 e w') : DecP w k m L R ix rs e w' := by unfold DecP; rw [if_neg (by rw [h]; decide), if_neg (by simpa using hn), if_pos hs]; exact h2
theorem decP_mis {w w' : World} {k m L : Nat} {R : List (List Nat)} {ix : List Int} {rs : List (List Nat)} {e : Ending} (h : areZ ix ((k : Int) + m) = true) (hn : ix.Nodup) (hs : k ≤ rs.length) (ha : oneLen rs = false ∨ agreeZ (wordTo k L (dataOf k L R rs) (k + m)) ix rs rs.length = false) (h2 : RetErr w 11 e w') : DecP w k m L R ix rs e w' := by
  unfold DecP; rw [if_neg (by rw [h]; decide), if_neg (by simpa using hn), if_neg (by omega)]
  by_cases ho : oneLen rs = false
  · rw [if_pos ho]; exact h2
  · rcases ha with ha | ha
    · exact absurd ha ho
    · rw [if_neg ho, if_neg (by rw [ha]; decide)]; exact h2
theorem decP_ok {w w' : World} {k m L : Nat} {R : List (List Nat)} {ix : List Int} {rs : List (List Nat)} {e : Ending} (h : areZ ix ((k : Int) + m) = true) (hn : ix.Nodup) (hs : k ≤ rs.length) (ho : oneLen rs = true) (ha : agreeZ (wordTo k L (dataOf k L R rs) (k + m)) ix rs rs.length = true) (h2 : RetLE w (dataOf k L R rs) e w') : DecP w k m L R ix rs e w' := by
  unfold DecP; rw [if_neg (by rw [h]; decide), if_neg (by simpa using hn), if_neg (by omega), if_neg (by rw [ho]; decide), if_pos ha]; exact h2
theorem take_nodup {ix : List Int} {q : Nat} (hq : q < ix.length) (hn : (ix.take q).Nodup) (h : ∀ j < q, ix.getD j 0 ≠ ix.getD q 0) : (ix.take (q + 1)).Nodup := by
  rw [List.take_succ_eq_append_getElem hq]
  refine List.nodup_append.2 ⟨hn, by simp, fun x hx y hy e => ?_⟩
  obtain ⟨j, hj, rfl⟩ := List.mem_iff_getElem.1 hx
  rw [List.length_take] at hj
  have h1 := h j (by omega)
  have e1 : ix.getD j 0 = (ix.take q)[j]'(by rw [List.length_take]; omega) := by simp [List.getD, show j < ix.length by omega]
  have e2 : ix.getD q 0 = ix[q] := by simp [List.getD, hq]
  rw [e1, e2] at h1
  simp only [List.mem_singleton] at hy
  exact h1 (by rw [← hy]; exact e)
theorem two_same {ix : List Int} {q j : Nat} (hq : q < ix.length) (hj : j < q) (h : ix.getD q 0 = ix.getD j 0) : ¬ ix.Nodup := by
  intro hn
  have e1 : ix.getD j 0 = ix[j]'(by omega) := by simp [List.getD, show j < ix.length by omega]
  have e2 : ix.getD q 0 = ix[q] := by simp [List.getD, hq]
  rw [e1, e2] at h
  have := List.pairwise_iff_getElem.1 hn j q (by omega) hq hj
  exact this h.symm

/-- Two lists that are built side by side: va has the rows MA of the call's own, vb the headers hsB. -/
def TwoL (w : World) (base : Nat) (va vb : Value) (hsA : List Value) (MA : List (List Nat)) (hsB : List Value) : Prop :=
  ListR w base va hsA MA ∧ (∀ i, i < hsA.length → AwayV (hsA.getD i undef) (MA.getD i []) vb) ∧ w.ownsRow base 32 1 vb hsB.length hsB ∧ (va.ownBlock = none ∨ va.ownBlock ≠ vb.ownBlock)
theorem TwoL.nil (w : World) (base : Nat) : TwoL w base (.slice none 0 0) (.slice none 0 0) [] [] [] := ⟨ListR.nil _ _, fun i hi => by simp at hi, World.ownsRow_nil _ _ _ _, .inl rfl⟩
theorem TwoL.add {w w' : World} {base : Nat} {va vb : Value} {hsA hsB : List Value} {MA : List (List Nat)} (h : TwoL w base va vb hsA MA hsB) (hb : Add w w') : TwoL w' base va vb hsA MA hsB := ⟨h.1.add hb, h.2.1, ownsRow_add h.2.2.1 hb, h.2.2.2⟩
theorem ownsRow_far {w w' : World} {base e n size : Nat} {v : Value} {row : Option Nat} {xs : List Value} (h : w.ownsRow base e size v n xs) (hg : w.grownBy w' row) (hne : row = none ∨ row ≠ v.ownBlock) : w'.ownsRow base e size v n xs := by
  refine ⟨h.1, ?_⟩
  rcases h.2 with hn | ⟨g', cap, cur, e, hg2, hgg, rest⟩
  · exact .inl hn
  · subst e
    refine .inr ⟨g', cap, cur, rfl, hg2, ?_, rest⟩
    have := hg.block g' (Array.getElem?_eq_some_iff.1 hgg).1 (by
      rcases hne with hne | hne
      · rw [hne]; simp
      · exact fun e => hne (by rw [← e]; rfl))
    rw [this]; exact hgg
theorem TwoL.pushA {wr wx w3 : World} {base : Nat} {va va' vb h : Value} {hsA hsB : List Value} {MA : List (List Nat)} {xs : List Nat} {o : Obj} (hl : TwoL wr base va vb hsA MA hsB) (hx : Add wr wx) (hr : Reads wx h xs) (hfr : ∀ b off n c, h = .slice (some ⟨b, off, none⟩) n c → wr.heap.size ≤ b)
    (hg : (wx.alloc o).grownBy w3 va.ownBlock) (hown : w3.ownsRow base 32 1 va' (hsA.length + 1) (hsA ++ [h])) (hat : va'.ownBlock = va.ownBlock ∨ va'.ownBlock = some (wx.heap.size + 1)) : TwoL w3 base va' vb (hsA ++ [h]) (MA ++ [xs]) hsB := by
  have hx2 := hl.add hx
  have hvb : ∀ q, vb.ownBlock = some q → q < wr.heap.size := fun q hq => (ownsRow_block hl.2.2.1 hq).2
  refine ⟨hx2.1.push hr (away_fresh hl.1.1 hfr) hg hown hat, fun i hi => ?_, ?_, ?_⟩
  · simp only [List.length_append, List.length_cons, List.length_nil] at hi
    by_cases hk : i < hsA.length
    · have e1 : (hsA ++ [h]).getD i undef = hsA.getD i undef := by simp only [List.getD]; rw [List.getElem?_append_left hk]
      have e2 : (MA ++ [xs]).getD i [] = MA.getD i [] := by simp only [List.getD]; rw [List.getElem?_append_left (by rw [← hl.1.2.1]; exact hk)]
      rw [e1, e2]; exact hl.2.1 i hk
    · have e : i = hsA.length := by omega
      subst e
      have e1 : (hsA ++ [h]).getD hsA.length undef = h := by simp [List.getD]
      have e2 : (MA ++ [xs]).getD hsA.length [] = xs := by rw [hl.1.2.1]; simp [List.getD]
      rw [e1, e2]; exact away_fresh hl.2.2.1 hfr
  · exact ownsRow_far (ownsRow_add hl.2.2.1 (hx.alloc hx.size o)) hg hl.2.2.2
  · rcases hat with e | e
    · rw [e]; exact hl.2.2.2
    · refine .inr fun e2 => ?_
      rw [e] at e2
      have := hvb _ e2.symm
      have := hx.size
      omega
theorem TwoL.pushB {w3 z w4 : World} {base n : Nat} {va vb vb' h : Value} {hsA hsB : List Value} {MA : List (List Nat)} (hl : TwoL w3 base va vb hsA MA hsB) (hz : Add w3 z) (hg : z.grownBy w4 vb.ownBlock) (hn : n = hsB.length)
    (hown : w4.ownsRow base 32 1 vb' (n + 1) (hsB ++ [h])) (hat : vb'.ownBlock = vb.ownBlock ∨ vb'.ownBlock = some z.heap.size) : TwoL w4 base va vb' hsA MA (hsB ++ [h]) := by
  subst hn
  have hz2 := hl.add hz
  have hva : ∀ q, va.ownBlock = some q → q < w3.heap.size := fun q hq => (ownsRow_block hl.1.1 hq).2
  refine ⟨⟨ownsRow_far hz2.1.1 hg ?_, hl.1.2.1, fun i hi => ⟨(hz2.1.2.2 i hi).1.grownV (hl.2.1 i hi) hg, (hl.1.2.2 i hi).2⟩⟩, fun i hi => ?_, by rw [List.length_append]; exact hown, ?_⟩
  · rcases hl.2.2.2 with e | e
    · cases hb : vb.ownBlock with
      | none => exact .inl rfl
      | some q => exact .inr (by rw [e]; simp)
    · exact .inr (fun e2 => e e2.symm)
  · rcases hat with e | e
    · intro b off n c e1 h0 e2; exact hl.2.1 i hi b off n c e1 h0 (by rw [← e]; exact e2)
    · intro b off n c e1 h0 e2
      have hrd := (hl.1.2.2 i hi).1
      rw [e1] at hrd
      have h1 := reads_block hrd h0
      rw [e] at e2
      have h2 := Option.some.inj e2
      have := hz.size
      omega
  · rcases hat with e | e
    · rw [e]; exact hl.2.2.2
    · by_cases h0 : va.ownBlock = none
      · exact .inl h0
      · refine .inr fun e2 => ?_
        rw [e] at e2
        have := hva _ e2
        have := hz.size
        omega
theorem cell_add {w w' : World} {g i : Nat} {u : Value} (h : w.cell? ⟨g, i, none⟩ = some u) (hb : Add w w') : w'.cell? ⟨g, i, none⟩ = some u := by
  have hlt := World.block_lt_of_cell? w _ h
  rw [hb.cell hlt]; exact h
theorem cell_far {w w' : World} {g i : Nat} {u : Value} {row : Option Nat} (h : w.cell? ⟨g, i, none⟩ = some u) (hb : w.grownBy w' row) (hne : some g ≠ row) : w'.cell? ⟨g, i, none⟩ = some u := by
  have hlt := World.block_lt_of_cell? w _ h
  have e := hb.block g hlt hne
  simp only [World.cell?] at h ⊢
  rw [e]; exact h

theorem cell_new (w : World) (x : Value) (t : TypeId) : (w.alloc (.cells #[x] t)).cell? ⟨w.heap.size, 0, none⟩ = some x := by
  simp
theorem cell_new1 (w : World) (x : Value) (t : TypeId) (o : Obj) : ((w.alloc o).alloc (.cells #[x] t)).cell? ⟨w.heap.size + 1, 0, none⟩ = some x := by
  have := cell_new (w.alloc o) x t
  have e : (w.alloc o).heap.size = w.heap.size + 1 := by simp
  rw [e] at this; exact this
theorem cell_newD (w : World) (x : Value) (t : TypeId) : (w.drew.alloc (.cells #[x] t)).cell? ⟨w.heap.size, 0, none⟩ = some x := cell_new w.drew x t
theorem cell_newE (w : World) (x : Value) (t : TypeId) : (w.alloc (.cells #[x] t)).drew.cell? ⟨w.heap.size, 0, none⟩ = some x := cell_new w x t
theorem news_one {w : World} {b : Nat} {x : Value} (h : w.cell? ⟨b, 0, none⟩ = some x) : ∀ j u, [x][j]? = some u → w.cell? ((⟨b, 0, none⟩ : Addr).add j) = some u := by
  intro j u hj
  match j, hj with
  | 0, hj =>
    simp at hj
    subst hj
    simpa [Addr.add] using h
theorem add_al {w w' : World} {o : Obj} (h : Add w w') : Add w (w'.alloc o) := h.alloc h.size o

theorem listR_frags {w wr : World} {base n c t : Nat} {ao : Option Addr} {ix : List Int} {vs : List Value} {rs : List (List Nat)} {vb : Value} (h : FragsB w (.slice ao n c) ix vs rs) (ht : t ≤ n) (hadd : Add w wr) (hb : w.heap.size ≤ base)
    (ho : wr.ownsRow base 32 1 vb (vs.take t).length (vs.take t)) : ListR wr base vb (vs.take t) (rs.take t) := by
  obtain ⟨ao', n', c', e, hi, hl, hr, hc, hm, g, hx⟩ := h
  cases e
  refine ⟨ho, by rw [List.length_take, List.length_take, hl, hr], fun i hi => ?_⟩
  rw [List.length_take] at hi
  have e1 : (vs.take t).getD i undef = vs.getD i undef := by simp [List.getD, show i < t by omega]
  have e2 : (rs.take t).getD i [] = rs.getD i [] := by simp [List.getD, show i < t by omega]
  rw [e1, e2]
  have hrd := hx i (by omega)
  refine ⟨hrd.mono hadd, ?_⟩
  intro b off n' c' e h0 e3
  rw [e] at hrd
  have k1 := reads_block hrd h0
  have k2 := (ownsRow_block ho e3.symm).1
  omega
theorem allLen_takeAll {L k : Nat} {rs : List (List Nat)} (h : allLen L rs = true) : allLen L (rs.take k) = true := by
  unfold allLen at h ⊢
  exact List.all_eq_true.2 fun r hr => List.all_eq_true.1 h r (List.mem_of_mem_take hr)
theorem oneLen_agree {k m L : Nat} {rs data : List (List Nat)} {ix : List Int} (hd : Dim k L data) (eL : L = (rs.getD 0 []).length) (hix : ∀ x ∈ ix, 0 ≤ x ∧ x < ((k + m : Nat) : Int)) (hl : ix.length = rs.length) (h : agreeZ (wordTo k L data (k + m)) ix rs rs.length = true) : oneLen rs = true := by
  unfold oneLen
  rw [← eL]
  refine allLen_of fun i hi => ?_
  unfold agreeZ at h
  have h1 := of_decide_eq_true (List.all_eq_true.1 h i (List.mem_range.2 hi))
  have h2 := hix (ix.getD i 0) (by simp [List.getD, show i < ix.length by omega])
  rw [wordTo_get (by omega)] at h1
  rw [← h1]
  exact wordR_dim (dim_all hd) hd.1

set_option maxRecDepth 100000 in
set_option maxHeartbeats 8000000 in
theorem refDecode_go {w : World} {v : Value} {ix : List Int} {vs : List Value} {rs R : List (List Nat)} {k m L : Nat} (h : FragsB w v ix vs rs) (hc : codeZ k m = true) (h30 : rs.length ≤ 30) (h2 : ∀ i, (rs.getD i []).length ≤ 2000) (eL : L = (rs.getD 0 []).length)
    (hR : areZ ix ((k : Int) + m) = true → ix.Nodup → k ≤ rs.length → invM (givenM k (ix.take k)) k = some R) :
    Calls Try.prog 19 #[.int .i64 (k : Nat), .int .i64 (m : Nat), v] w (DecP w k m L R ix rs) := by
  obtain ⟨i1, hi1, hy0, hy1, hy2⟩ := info_parts info32
  obtain ⟨c1, c2, c3, c4, c5⟩ := codeZ_iff hc
  have CC : Hid (∀ w, Calls Try.prog 33 #[.int .i64 (k : Nat), .int .i64 (m : Nat)] w (RetBo w true)) := Lib.hid fun w => by have := refCode_any k m w; rw [hc] at this; exact this
  obtain ⟨ao, c, rfl, hm, hxl, -⟩ := h.isSlice
  have hk6 : k ≤ 6 := by omega
  have hk1 : 1 ≤ k := by omega
  have hm4 : m ≤ 4 := by omega
  obtain ⟨N, eN⟩ : ∃ N, N = k + m := ⟨_, rfl⟩
  have hNi : (k : Int) + (m : Int) = (N : Int) := by omega
  have hN8 : N ≤ 8 := by omega
  obtain ⟨l, hl⟩ : ∃ l, l = rs.length := ⟨_, rfl⟩
  rw [← hl] at h hm hxl h30 ⊢
  have HL := Lib.hid hl
  have HXL := Lib.hid hxl
  have HFR := Lib.hid h
  have H2 := Lib.hid h2
  have HELL := Lib.hid eL
  have HRR := Lib.hid hR
  have HNN := Lib.hid eN
  have HC := Lib.hid hc
  clear h hc hl hm hxl h2 eL hR eN c1 c2 c3 c4 c5
  go_enter Try.func19, Try.ntmps19
  go_wp2_with (go_at_call 33; (with_reducible refine (CC.out _).mono ?_); rintro e w' ⟨rfl, rfl⟩)
  go_loopw [8] (fun i wr => ∃ q : Nat, q ≤ l ∧ i = .int .i64 (q : Nat) ∧ areZ (ix.take q) (N : Nat) = true ∧ wr = w) (fun i _ => l - (intOf i).toNat)
  case atStart => exact ⟨0, Nat.zero_le _, rfl, rfl, rfl⟩
  case round =>
    obtain ⟨q, hq, rfl, haz, hw⟩ := hrel
    rw [hw]
    clear hw
    by_cases h0 : q = l
    · have HAZ : Hid (areZ ix (N : Nat) = true) := Lib.hid (by rw [h0, ← HXL.out, List.take_length] at haz; exact haz)
      clear haz
      subst h0
      go_wp2_with fail
      go_loopw [9, 10] (fun i _ wr => ∃ p : Nat, p ≤ q ∧ i = .int .i64 (p : Nat) ∧ (ix.take p).Nodup ∧ ∃ nq, wr = w.drewN nq) (fun i _ _ => q - (intOf i).toNat)
      case atStart => exact ⟨0, Nat.zero_le _, rfl, by simp, 0, rfl⟩
      case round =>
        obtain ⟨p, hp, rfl, hnd, nq, rfl⟩ := hrel
        have HND := Lib.hid hnd
        clear hnd
        by_cases hpq : p = q
        · have HNO : Hid (ix.Nodup) := Lib.hid (by have := HND.out; rw [hpq, ← HXL.out, List.take_length] at this; exact this)
          clear HND
          by_cases hs : q < k
          · have HS : Hid (rs.length < k) := Lib.hid (by rw [← HL.out]; exact hs)
            subst hpq
            go_wp2_with fail
            go_ret2
            exact decP_short (by rw [hNi]; exact HAZ.out) HNO.out HS.out ⟨rfl, below_drewN (Below.refl _ _) _⟩
          · have hkp : k ≤ p := by omega
            subst hpq
            obtain ⟨W1, eW1⟩ : ∃ W1, W1 = w.drewN nq := ⟨_, rfl⟩
            rw [← eW1]
            have HA1 : Hid (Add w W1) := Lib.hid (by rw [eW1]; exact below_drewN (Below.refl _ _) _)
            clear eW1
            have HVL : Hid (vs.length = p) := Lib.hid (by obtain ⟨_, n', _, e, _, hv, _⟩ := HFR.out; cases e; exact hv)
            go_wp2_with fail
            go_loopw [11, 12, 13] (fun a r i wr => ∃ (t : Nat) (hsA : List Value), t ≤ k ∧ i = .int .i64 (t : Nat) ∧ TwoL wr w.heap.size a r hsA (givenM k (ix.take t)) (vs.take t) ∧ Add w wr) (fun _ _ i _ => k - (intOf i).toNat)
            case atStart => exact ⟨0, [], Nat.zero_le _, rfl, TwoL.nil _ _, HA1.out⟩
            case round =>
              obtain ⟨t, hsA, ht, rfl, htw, hadd⟩ := hrel
              have HTW := Lib.hid htw
              have HADD := Lib.hid hadd
              have HLA : Hid (hsA.length = t) := Lib.hid (by rw [htw.1.2.1]; simp [givenM, HXL.out]; omega)
              have HLB : Hid ((vs.take t).length = t) := Lib.hid (by rw [List.length_take, HVL.out]; omega)
              clear htw hadd
              by_cases htk : t = k
              · have hxk : (ix.take k).length = k := by rw [List.length_take, HXL.out]; omega
                have hrk : (rs.take k).length = k := by rw [List.length_take, ← HL.out]; omega
                have hR := HRR.out (by rw [hNi]; exact HAZ.out) HNO.out (by rw [← HL.out]; exact hkp)
                obtain ⟨hRd, -, -⟩ := inv_some (givenM_dim (k := k) hxk) hR
                obtain ⟨hla, hbk⟩ : ListR wr w.heap.size u11 hsA (givenM k (ix.take k)) ∧ ListR wr w.heap.size u12 (vs.take k) (rs.take k) := by
                  have h1 := HTW.out
                  rw [htk] at h1
                  exact ⟨h1.1, listR_frags HFR.out hkp HADD.out (Nat.le_refl _) h1.2.2.1⟩
                obtain ⟨aa, ca, ea, hra⟩ := hla.rows
                obtain ⟨ab, cb, eb, hrb⟩ := hbk.rows
                rw [(givenM_dim (k := k) hxk).1] at ea
                rw [hrk] at eb
                have C1 := Lib.hid (refInvert_ok hra (givenM_dim (k := k) hxk) (by omega) (by omega))
                rw [hR] at C1
                have HRB := Lib.hid hrb
                have HRD := Lib.hid hRd
                have HRK := Lib.hid hrk
                have HGA := Lib.hid HADD.out
                clear HTW HADD HLA HLB hxk hrk hR hRd hla hbk hra hrb
                subst ea
                subst eb
                subst htk
                go_wp2_with fail
                refine C1.out.mono ?_
                rintro e w2 ⟨vi, vsi, rfl, hri, hadd2⟩
                obtain ⟨ai, ci, rfl, -⟩ := hri.isSlice
                rw [HRD.out.1] at hri ⊢
                have HRI := Lib.hid hri
                have HA2 : Hid (Add wr w2) := Lib.hid hadd2
                clear hri hadd2 C1
                cases hal : allLen L (rs.take t) with
                | false =>
                  have HMIS : Hid (oneLen rs = false) := Lib.hid (by
                    cases ho : oneLen rs with
                    | false => rfl
                    | true => unfold oneLen at ho; rw [← HELL.out] at ho; rw [allLen_takeAll ho] at hal; cases hal)
                  obtain ⟨b0, off0, a0, l0, c0, rfl, -, el0, -, hcell0, hrd0⟩ := HRI.out.row (k := 0) (by omega)
                  have el0' : l0 = t := by rw [el0]; exact HRD.out.2.1 0 (by omega)
                  rw [el0'] at hcell0 hrd0
                  rw [Nat.add_zero] at hcell0
                  have C2 : Hid (Calls Try.prog 34 #[.slice a0 t c0, .slice ab t cb] w2 (CombE w2)) := Lib.hid (refCombine_bad hrd0 (HRB.out.mono HA2.out) (by
                    unfold combOk
                    have e : ((rs.take t).getD 0 []).length = L := by rw [HELL.out]; congr 1; simp [List.getD, show 0 < t by omega]
                    rw [e, hal]; simp))
                  clear hal el0 el0' hrd0
                  go_wp2_with fail
                  go_loopw [16, 17] (fun o i wx => o = .slice none 0 0 ∧ i = .int .i64 0 ∧ wx = w2) (fun _ _ _ => 0)
                  case atStart => exact ⟨rfl, rfl, rfl⟩
                  case round =>
                    obtain ⟨rfl, rfl, hw⟩ := hrel
                    rw [hw]
                    clear hw
                    go_wp2_with fail
                    refine C2.out.mono ?_
                    rintro e w3 ⟨rfl, hadd3⟩
                    have HA3 : Hid (Add w w3) := Lib.hid (Add.trans (Add.trans HGA.out HA2.out) hadd3)
                    clear hadd3
                    go_wp2_with fail
                    go_ret2
                    exact decP_mis (by rw [hNi]; exact HAZ.out) HNO.out (by rw [← HL.out]; exact hkp) (.inl HMIS.out) ⟨rfl, HA3.out⟩
                | true =>
                  have HAL := Lib.hid hal
                  have H0 : Hid (((rs.take t).getD 0 []).length = L) := Lib.hid (by rw [HELL.out]; congr 1; simp [List.getD, show 0 < t by omega])
                  have hL2 : L ≤ 2000 := by rw [HELL.out]; exact H2.out 0
                  clear hal
                  go_wp2_with fail
                  go_loopw [16, 17] (fun o i wx => ∃ (y : Nat) (hs : List Value), y ≤ t ∧ i = .int .i64 (y : Nat) ∧ ListR wx w2.heap.size o hs (prodTo L R (rs.take t) t y) ∧ Add w2 wx) (fun _ i _ => t - (intOf i).toNat)
                  case atStart => exact ⟨0, [], Nat.zero_le _, rfl, ListR.nil _ _, Below.refl _ _⟩
                  case round =>
                    obtain ⟨y, hsD, hy, rfl, hl, hadd⟩ := hrel
                    rename World => wx
                    have HLL := Lib.hid hl
                    have HADD := Lib.hid hadd
                    have HLEN : Hid (hsD.length = y) := Lib.hid (by rw [hl.2.1, length_prodTo])
                    clear hl hadd
                    by_cases hyt : y = t
                    · obtain ⟨D, eD⟩ : ∃ D, D = dataOf t L R rs := ⟨_, rfl⟩
                      have eD2 : prodTo L R (rs.take t) t t = D := by rw [eD]; rfl
                      have hl1 := HLL.out
                      rw [hyt, eD2] at hl1
                      obtain ⟨ad, cd, ed, hrd⟩ := hl1.rows
                      have hDl : D.length = t := by rw [← eD2, length_prodTo]
                      rw [hDl] at ed
                      have hDa : allLen L D = true := allLen_of fun i hi => by rw [hDl] at hi; rw [← eD2, prodTo_get hi]; exact length_comb ..
                      have C3 := Lib.hid (refEncode_ok hrd hDl HC.out (by omega) hDa)
                      have HDD := Lib.hid hrd
                      have HDM := Lib.hid (rows_dim hrd hDl hDa)
                      have ED := Lib.hid eD
                      have HA3 : Hid (Add w wx) := Lib.hid (Add.trans (Add.trans HGA.out HA2.out) HADD.out)
                      clear eD eD2 hl1 hrd hDl hDa HLL HLEN
                      subst ed
                      subst hyt
                      go_wp2_with fail
                      refine C3.out.mono ?_
                      rintro e w5 ⟨vw, vsw, rfl, hrw, hadd5⟩
                      obtain ⟨aw, cw, rfl, -⟩ := hrw.isSlice
                      rw [length_wordTo] at hrw ⊢
                      have HW := Lib.hid hrw
                      have HA5 : Hid (Add w w5) := Lib.hid (Add.trans HA3.out hadd5)
                      have HD5 := Lib.hid (HDD.out.mono hadd5)
                      clear hrw hadd5 C3
                      go_wp2_with fail
                      go_loopw [22] (fun i wz => ∃ z : Nat, z ≤ p ∧ i = .int .i64 (z : Nat) ∧ agreeZ (wordTo y L D (y + m)) ix rs z = true ∧ ∃ n, wz = w5.drewN n) (fun i _ => p - (intOf i).toNat)
                      case atStart => exact ⟨0, Nat.zero_le _, rfl, by rfl, 0, rfl⟩
                      case round =>
                        obtain ⟨z, hz, rfl, hag, n5, rfl⟩ := hrel
                        by_cases hzp : z = p
                        · have HAG : Hid (agreeZ (wordTo y L D (y + m)) ix rs rs.length = true) := Lib.hid (by rw [hzp, HL.out] at hag; exact hag)
                          have HONE := Lib.hid (oneLen_agree HDM.out HELL.out (fun x hx => by have := areZ_mem HAZ.out hx; have := HNN.out; omega) (by rw [HXL.out, HL.out]) HAG.out)
                          clear hag
                          subst hzp
                          go_wp2_with fail
                          go_ret2
                          refine decP_ok (by rw [hNi]; exact HAZ.out) HNO.out (by rw [← HL.out]; exact hkp) HONE.out (by rw [← ED.out]; exact HAG.out) ⟨.slice ad y cd, hsD, rfl, ?_, below_drewN HA5.out _⟩
                          rw [← ED.out]
                          exact HD5.out.mono (below_drewN (Below.refl _ _) _)
                        · have hzlt : z < p := by omega
                          obtain ⟨b, off, a, lx, cc, rfl, evz, elx, -, hcI, hcD, hrz⟩ := (HFR.out.mono (below_drewN HA5.out n5)).frag hzlt
                          obtain ⟨xn, ex⟩ : ∃ xn : Nat, ix.getD z 0 = (xn : Int) := by
                            have hti : z < ix.length := by rw [HXL.out]; omega
                            have := areZ_mem HAZ.out (x := ix.getD z 0) (by simp [List.getD, hti])
                            exact ⟨(ix.getD z 0).toNat, by omega⟩
                          have hxn : xn < y + m := by
                            have hti : z < ix.length := by rw [HXL.out]; omega
                            have := areZ_mem HAZ.out (x := ix.getD z 0) (by simp [List.getD, hti])
                            have := HNN.out
                            omega
                          obtain ⟨b1, off1, a1, l1, c1, rfl, -, el1, -, hcell1, hrd1⟩ := (HW.out.mono (below_drewN (Below.refl _ _) n5)).row hxn
                          rw [ex] at hcI
                          have hcv1 : ∀ q, (convert 32 9 (.slice a1 l1 c1)).run Try.prog ((w5.drewN n5).drewN q) = .ok (.string (strOf ((wordTo y L D (y + m)).getD xn []))) ((w5.drewN n5).drewN q) := fun q => conv_all (hrd1.mono (below_drewN (Below.refl _ _) q))
                          have hcv2 : ∀ q, (convert 32 9 (.slice a lx cc)).run Try.prog ((w5.drewN n5).drewN q) = .ok (.string (strOf (rs.getD z []))) ((w5.drewN n5).drewN q) := fun q => conv_all (hrz.mono (below_drewN (Below.refl _ _) q))
                          have hso := strOf_eq hrd1.limbs hrz.limbs
                          by_cases heq : (wordTo y L D (y + m)).getD xn [] = rs.getD z []
                          · have HNEXT : Hid (agreeZ (wordTo y L D (y + m)) ix rs (z + 1) = true) := Lib.hid (agreeZ_succ hag (by rw [ex, Int.toNat_natCast]; exact heq))
                            rw [heq] at hcv1
                            obtain ⟨s0, es⟩ : ∃ s0, s0 = strOf (rs.getD z []) := ⟨_, rfl⟩
                            rw [← es] at hcv1 hcv2
                            obtain ⟨w6, ew6⟩ : ∃ w6, w6 = w5.drewN n5 := ⟨_, rfl⟩
                            have HW6 := Lib.hid ew6
                            rw [← ew6] at hcI hcD hcell1 hcv1 hcv2 ⊢
                            clear hag evz elx el1 hrd1 hrz hso heq es ex hzp ew6
                            go_wp2_with fail
                            go_quiet (fail)
                            go_wp2_with fail
                            go_roundw
                            case rel => exact ⟨z + 1, by omega, by go_num, HNEXT.out, by rw [HW6.out]; exact ⟨_, World.drewN_drewN _ _ _⟩⟩
                            case measure => simp [intOf]; omega
                          · have HBAD : Hid (agreeZ (wordTo y L D (y + m)) ix rs rs.length = false) := Lib.hid (agreeZ_not (by rw [← HL.out]; exact hzlt) (by rw [ex, Int.toNat_natCast]; exact heq))
                            obtain ⟨s1, es1⟩ : ∃ s1, s1 = strOf ((wordTo y L D (y + m)).getD xn []) := ⟨_, rfl⟩
                            obtain ⟨s2, es2⟩ : ∃ s2, s2 = strOf (rs.getD z []) := ⟨_, rfl⟩
                            rw [← es1] at hcv1 hso
                            rw [← es2] at hcv2 hso
                            have hs12 : (s1.toList == s2.toList) = false := by rw [hso]; exact decide_eq_false heq
                            obtain ⟨w6, ew6⟩ : ∃ w6, w6 = w5.drewN n5 := ⟨_, rfl⟩
                            have HA6 : Hid (Add w w6) := Lib.hid (by rw [ew6]; exact below_drewN HA5.out _)
                            rw [← ew6] at hcI hcD hcell1 hcv1 hcv2 ⊢
                            clear hag evz elx el1 hrd1 hrz hso heq es1 es2 ex hzp ew6
                            go_wp2_with fail
                            go_quiet (fail)
                            go_wp2_with fail
                            go_ret2
                            exact decP_mis (by rw [hNi]; exact HAZ.out) HNO.out (by rw [← HL.out]; exact hkp) (.inr (by rw [← ED.out]; exact HBAD.out)) ⟨rfl, below_drewN HA6.out _⟩
                    · have hlt : y < t := by omega
                      obtain ⟨b0, off0, a0, l0, c0, rfl, -, el0, -, hcell0, hrd0⟩ := (HRI.out.mono HADD.out).row hlt
                      have el0' : l0 = t := by rw [el0]; exact HRD.out.2.1 y hlt
                      rw [el0'] at hcell0 hrd0
                      have C2 : Hid (Calls Try.prog 34 #[.slice a0 t c0, .slice ab t cb] wx (CombP wx L (comb L (R.getD y []) (rs.take t) t))) := Lib.hid (by
                        have hrl : (R.getD y []).length = t := HRD.out.2.1 y hlt
                        have := refCombine_ok hrd0 (HRB.out.mono (Add.trans HA2.out HADD.out)) (by rw [H0.out]; omega) (by omega) (by rw [HRK.out, hrl]) (by rw [H0.out]; exact HAL.out)
                        rw [H0.out, hrl] at this; exact this)
                      have HBR : Hid (Bys (R.getD y [])) := Lib.hid hrd0.limbs
                      clear hyt el0 el0' hrd0
                      go_wp2_with fail
                      refine C2.out.mono ?_
                      rintro e w3 ⟨g3, rfl, hown3, hadd3⟩
                      have hl3 := HLL.out.add hadd3
                      have hrd3 := hown3.reads (by unfold maxLen; omega) (bys_comb L (rs.take t) HBR.out t)
                      have hav := away_fresh (h := .slice (some ⟨g3, 0, none⟩) L L) (xs := comb L (R.getD y []) (rs.take t) t) HLL.out.1 (fun b off n' c' e => by cases e; exact hown3.lt.1)
                      have HPUSH : Hid (∀ v' w4 o, (w3.alloc o).grownBy w4 u16.ownBlock → w4.ownsRow w2.heap.size 32 1 v' (hsD.length + 1) (hsD ++ [.slice (some ⟨g3, 0, none⟩) L L]) → (v'.ownBlock = u16.ownBlock ∨ v'.ownBlock = some (w3.heap.size + 1)) → ListR w4 w2.heap.size v' (hsD ++ [.slice (some ⟨g3, 0, none⟩) L L]) (prodTo L R (rs.take t) t (y + 1)) ∧ Add w2 w4) := Lib.hid fun v' w4 o h1 h2 h3 => by
                        rw [prodTo_succ]
                        exact ⟨hl3.push hrd3 hav h1 h2 h3, hl3.addB (Add.trans HADD.out hadd3) (Nat.le_refl _) h1⟩
                      have hownV := hl3.1
                      have hsz := (Add.trans HADD.out hadd3).size
                      have hgk : hsD.length ≤ 8 := by rw [HLEN.out]; omega
                      clear hl3 hrd3 hav hown3 hadd3 C2
                      go_wp2_with (at_builtin; refine wpList_append_own_at _ rfl _ _ 22 rfl w2.heap.size 32 i1 (.slice none 0 0) 1 24 Try.underlying22 hi1 hy0 hy1 hy2 rfl (by decide) _ _ _ rfl (World.ownsRow.alloc hownV _) ⟨w3.heap.size, 0, none⟩ 1 1 [_] rfl rfl (Go.cell_one_new _ _ _) (by intro u hu; simp at hu; subst hu; rfl) (by unfold maxLen; omega) (by omega) (by simp; omega) ?_)
                      intro v' w4 hown4 hgr4 _ hat
                      have HEND := Lib.hid (HPUSH.out v' w4 _ hgr4 hown4 hat)
                      clear hown4 hgr4 hownV hat
                      go_wp2_with fail
                      go_roundw
                      case rel => exact ⟨y + 1, _, by omega, by go_num, HEND.out.1, HEND.out.2⟩
                      case measure => simp [intOf]; omega
              · have htlt : t < k := by omega
                obtain ⟨b, off, a, lx, cc, rfl, evt, -, -, hcI, hcD, -⟩ := (HFR.out.mono HADD.out).frag (show t < p by omega)
                obtain ⟨xn, ex⟩ : ∃ xn : Nat, ix.getD t 0 = (xn : Int) := by
                  have hti : t < ix.length := by rw [HXL.out]; omega
                  have := areZ_mem HAZ.out (x := ix.getD t 0) (by simp [List.getD, hti])
                  exact ⟨(ix.getD t 0).toNat, by omega⟩
                have hxn : xn ≤ 1000 := by
                  have hti : t < ix.length := by rw [HXL.out]; omega
                  have := areZ_mem HAZ.out (x := ix.getD t 0) (by simp [List.getD, hti])
                  omega
                rw [ex] at hcI
                obtain ⟨F, eF⟩ : ∃ F, F = facs k xn := ⟨_, rfl⟩
                have CF : Hid (∀ y, Calls Try.prog 35 #[.int .i64 (k : Nat), .int .i64 (xn : Nat)] y (FacP y k F)) := Lib.hid fun y => by rw [eF]; exact refFactors_any k xn (by omega) hxn y
                have HC : Hid (∀ y, Add w y → y.cell? ⟨b, off + t * 2, none⟩ = some (.int .i64 (xn : Nat)) ∧ y.cell? ⟨b, off + t * 2 + 1, none⟩ = some (.slice a lx cc)) := Lib.hid fun y hy => by
                  obtain ⟨b', off', a', l', c', e, ev', -, -, h1, h2', -⟩ := (HFR.out.mono hy).frag (show t < p by omega)
                  cases e
                  rw [ex] at h1
                  rw [← ev', evt] at h2'
                  exact ⟨h1, h2'⟩
                have HOWA : Hid (∀ y, Add wr y → y.ownsRow w.heap.size 32 1 u11 t hsA) := Lib.hid fun y hy => by have := (HTW.out.add hy).1.1; rw [HLA.out] at this; exact this
                have HNB : Hid (∀ i, wr.heap.size ≤ i → some i ≠ u11.ownBlock) := Lib.hid fun i hi e => by have := (ownsRow_block HTW.out.1.1 e.symm).2; omega
                have hsz := HADD.out.size
                have htp : t < p := by omega
                have hti : t < ix.length := by rw [HXL.out]; omega
                have hbF : Bys F := by rw [eF]; exact bys_facs k xn
                have HPA : Hid (∀ wx o w3 g2 gA cA, Add wr wx → Reads wx (.slice (some ⟨g2, 0, none⟩) k k) F → wr.heap.size ≤ g2 → (wx.alloc o).grownBy w3 u11.ownBlock → w3.ownsRow w.heap.size 32 1 (.slice (some ⟨gA, 0, none⟩) (t + 1) cA) (t + 1) (hsA ++ [.slice (some ⟨g2, 0, none⟩) k k]) → (u11.ownBlock = some gA ∨ gA = wx.heap.size + 1) →
                    TwoL w3 w.heap.size (.slice (some ⟨gA, 0, none⟩) (t + 1) cA) u12 (hsA ++ [.slice (some ⟨g2, 0, none⟩) k k]) (givenM k (ix.take (t + 1))) (vs.take t) ∧ Add w w3) := Lib.hid fun wx o w3 g2 gA cA k1 k2 k3 k4 k5 k6 => by
                  have e : givenM k (ix.take (t + 1)) = givenM k (ix.take t) ++ [F] := by
                    rw [List.take_succ_eq_append_getElem hti]
                    simp only [givenM, List.map_append, List.map_cons, List.map_nil]
                    have e2 : ix[t] = (xn : Int) := by rw [← ex]; simp [List.getD, hti]
                    rw [e2, eF, Int.toNat_natCast]
                  rw [e]
                  refine ⟨HTW.out.pushA k1 k2 (fun b off n c e => by cases e; exact k3) k4 (by rw [HLA.out]; exact k5) (k6.elim (fun e => .inl e.symm) (fun e => .inr (by rw [e]; rfl))), ?_⟩
                  exact Below.grown (add_al (Add.trans HADD.out k1)) k4 (by have := k1.size; simp; omega) (fun q hq => (ownsRow_block HTW.out.1.1 hq).1)
                have HPB : Hid (∀ w3 z w4 gA cA gB cB h1, TwoL w3 w.heap.size (.slice (some ⟨gA, 0, none⟩) (t + 1) cA) u12 h1 (givenM k (ix.take (t + 1))) (vs.take t) → Add w w3 → Add w3 z → z.grownBy w4 u12.ownBlock → w4.ownsRow w.heap.size 32 1 (.slice (some ⟨gB, 0, none⟩) (t + 1) cB) (t + 1) (vs.take t ++ [.slice a lx cc]) → (u12.ownBlock = some gB ∨ gB = z.heap.size) →
                    TwoL w4 w.heap.size (.slice (some ⟨gA, 0, none⟩) (t + 1) cA) (.slice (some ⟨gB, 0, none⟩) (t + 1) cB) h1 (givenM k (ix.take (t + 1))) (vs.take (t + 1)) ∧ Add w w4) := Lib.hid fun w3 z w4 gA cA gB cB h1 k1 k2 k3 k4 k5 k6 => by
                  have htv : t < vs.length := by rw [HVL.out]; omega
                  have e : vs.take (t + 1) = vs.take t ++ [.slice a lx cc] := by
                    rw [List.take_succ_eq_append_getElem htv, ← evt]
                    simp [List.getD, htv]
                  rw [e]
                  refine ⟨k1.pushB k3 k4 HLB.out.symm k5 (k6.elim (fun e => .inl e.symm) (fun e => .inr (by rw [e]; rfl))), ?_⟩
                  exact Below.grown (Add.trans k2 k3) k4 (by have := k2.size; have := k3.size; omega) (fun q hq => (ownsRow_block k1.2.2.1 hq).1)
                have HBL := Lib.hid HLB.out
                have hcIa := fun o => (HC.out (wr.alloc o) (add_al HADD.out)).1
                have hcIb := fun o => (HC.out (wr.drew.alloc o) (add_al (Below.drew HADD.out))).1
                clear htk eF hti
                go_wp2_with fail
                go_region_law (first
                  | (go_simp; go_at_call 35; refine (CF.out _).mono ?_; rintro e w2 ⟨g2, rfl, hown2, hadd2⟩; have hA2 : Add wr w2 := Add.trans (by repeat (first | exact Below.refl _ _ | refine Below.drew ?_ | refine add_al ?_)) hadd2; have hcI2 := (HC.out w2 (Add.trans HADD.out hA2)).1; have hcD2 := (HC.out w2 (Add.trans HADD.out hA2)).2; have hcD2a := fun o => (HC.out (w2.alloc o) (add_al (Add.trans HADD.out hA2))).2; have hsz2 := hA2.size; have hg2 : wr.heap.size ≤ g2 := Nat.le_trans (by first | exact Nat.le_refl _ | (simp; done) | (simp; omega)) hown2.lt.1; have hrd2 := hown2.reads (by unfold maxLen; omega) hbF)
                  | (refine step_append_lies _ rfl _ _ 22 rfl w.heap.size 32 i1 (.slice none 0 0) 1 24 Try.underlying22 hi1 hy0 hy1 hy2 rfl (by decide) u11 t hsA rfl (HOWA.out _ (by repeat (first | exact hA2 | refine Below.drew ?_ | refine add_al ?_))) _ 1 1 [.slice (some ⟨g2, 0, none⟩) k k] rfl rfl (news_one (by first | exact cell_new _ _ _ | exact cell_new1 _ _ _ _ | exact cell_add (cell_new _ _ _) (add_al (Below.refl _ _)))) (by intro u hu; simp at hu; subst hu; rfl) (by omega) (by unfold maxLen; omega) (by omega) (by simp; omega) _ rfl ?_; intro gA cA w3 hownA hgrA hatA hltA; have hT3 := (by first | exact HPA.out _ _ _ _ _ _ hA2 hrd2 hg2 hgrA hownA (hatA.imp id fun e => by rw [e]; simp) | exact HPA.out _ _ _ _ _ _ (add_al hA2) (hrd2.mono (add_al (Below.refl _ _))) hg2 hgrA hownA (hatA.imp id fun e => by rw [e]; simp) : TwoL w3 w.heap.size (.slice (some ⟨gA, 0, none⟩) (t + 1) cA) u12 (hsA ++ [.slice (some ⟨g2, 0, none⟩) k k]) (givenM k (ix.take (t + 1))) (vs.take t) ∧ Add w w3); have hcI3 := (HC.out w3 hT3.2).1; have hcD3 := (HC.out w3 hT3.2).2; have hsz3 := hT3.2.size)
                  | (refine step_append_lies _ rfl _ _ 22 rfl w.heap.size 32 i1 (.slice none 0 0) 1 24 Try.underlying22 hi1 hy0 hy1 hy2 rfl (by decide) u12 t (vs.take t) rfl (by first | exact (by have := hT3.1.2.2.1; rw [HBL.out] at this; exact this) | exact ownsRow_add (by have := hT3.1.2.2.1; rw [HBL.out] at this; exact this) (add_al (Below.refl _ _))) _ 1 1 [.slice a lx cc] rfl rfl (news_one (by first | exact cell_new _ _ _ | exact cell_far (cell_add (cell_add (cell_new wr _ _) hadd2) (add_al (Below.refl _ _))) hgrA (HNB.out _ (Nat.le_refl _)) | exact cell_far (cell_add (cell_add (cell_newD wr _ _) hadd2) (add_al (Below.refl _ _))) hgrA (HNB.out _ (Nat.le_refl _)) | exact cell_far (cell_add (cell_add (cell_newE wr _ _) hadd2) (add_al (Below.refl _ _))) hgrA (HNB.out _ (Nat.le_refl _)) | exact cell_far (cell_add (cell_new w2 _ _) (add_al (Below.refl _ _))) hgrA (HNB.out _ hsz2) | exact cell_far (cell_new1 w2 _ _ _) hgrA (HNB.out _ (by omega)))) (by intro u hu; simp at hu; subst hu; rfl) (by omega) (by unfold maxLen; omega) (by omega) (by first | exact hsz3 | (simp; omega)) _ rfl ?_; intro gB cB w4 hownB hgrB hatB hltB; have hT4 := (by first | exact HPB.out _ _ _ _ _ _ _ _ hT3.1 hT3.2 (Below.refl _ _) hgrB hownB hatB | exact HPB.out _ _ _ _ _ _ _ _ hT3.1 hT3.2 (add_al (Below.refl _ _)) hgrB hownB hatB : TwoL w4 w.heap.size (.slice (some ⟨gA, 0, none⟩) (t + 1) cA) (.slice (some ⟨gB, 0, none⟩) (t + 1) cB) (hsA ++ [.slice (some ⟨g2, 0, none⟩) k k]) (givenM k (ix.take (t + 1))) (vs.take (t + 1)) ∧ Add w w4)))
                all_goals
                  have HT := Lib.hid hT4
                  clear hT4 hT3 hownA hgrA hatA hltA hownB hgrB hatB hltB
                  go_wp2_with fail
                  go_roundw
                  case rel => exact ⟨t + 1, _, by omega, by go_num, HT.out.1, HT.out.2⟩
                  case measure => simp [intOf]; omega
        · have hplt : p < q := by omega
          obtain ⟨b, off, a, lx, cc, rfl, -, -, -, hcI, hcD, -⟩ := (HFR.out.mono (below_drewN (Below.refl _ _) nq)).frag hplt
          clear hpq hcD
          go_wp2_with fail
          go_loopw [10] (fun i wr => ∃ j : Nat, j ≤ p ∧ i = .int .i64 (j : Nat) ∧ (∀ j' < j, ix.getD j' 0 ≠ ix.getD p 0) ∧ ∃ nq, wr = w.drewN nq) (fun i _ => p - (intOf i).toNat)
          case atStart => exact ⟨0, Nat.zero_le _, rfl, fun j' hj' => by omega, _, rfl⟩
          case round =>
            obtain ⟨j, hj, rfl, hall, nj, rfl⟩ := hrel
            by_cases hjp : j = p
            · have HNEXT : Hid ((ix.take (p + 1)).Nodup) := Lib.hid (take_nodup (by rw [HXL.out]; exact hplt) HND.out (fun j' hj' => hall j' (by omega)))
              clear hall
              subst hjp
              go_wp2_with fail
              go_roundw
              case rel => exact ⟨j + 1, by omega, by go_num, HNEXT.out, _, rfl⟩
              case measure => simp [intOf]; omega
            · have hjlt : j < p := by omega
              have hfI : ∀ x, (w.drewN x).cell? ⟨b, off + p * 2, none⟩ = some (.int .i64 (ix.getD p 0)) := fun x => by
                obtain ⟨b', off', a', l', c', e, -, -, -, h1, -, -⟩ := (HFR.out.mono (below_drewN (Below.refl _ _) x)).frag hplt
                cases e; exact h1
              have hfJ : ∀ x, (w.drewN x).cell? ⟨b, off + j * 2, none⟩ = some (.int .i64 (ix.getD j 0)) := fun x => by
                obtain ⟨b', off', a', l', c', e, -, -, -, h1, -, -⟩ := (HFR.out.mono (below_drewN (Below.refl _ _) x)).frag (show j < q by omega)
                cases e; exact h1
              obtain ⟨x, ex⟩ : ∃ x, x = ix.getD p 0 := ⟨_, rfl⟩
              obtain ⟨y, ey⟩ : ∃ y, y = ix.getD j 0 := ⟨_, rfl⟩
              rw [← ex] at hfI
              rw [← ey] at hfJ
              have hf1 := hfI nj
              have hf2 := hfJ nj
              clear hcI
              by_cases hxy : x = y
              · have HDUP : Hid (¬ ix.Nodup) := Lib.hid (two_same (by rw [HXL.out]; exact hplt) hjlt (by rw [← ex, ← ey]; exact hxy))
                have hb : (x == y) = true := by simp [hxy]
                clear hall ex ey hxy hjp
                go_wp2_with fail
                go_quiet (fail)
                go_wp2_with fail
                go_ret2
                exact decP_dup (by rw [hNi]; exact HAZ.out) HDUP.out ⟨rfl, below_drewN (below_drewN (Below.refl _ _) _) _⟩
              · have HALL : Hid (∀ j' < j + 1, ix.getD j' 0 ≠ ix.getD p 0) := Lib.hid fun j' hj' => by
                  by_cases e : j' = j
                  · rw [e, ← ex, ← ey]; exact fun e => hxy e.symm
                  · exact hall j' (by omega)
                have hb : (x == y) = false := by simp [hxy]
                clear hall ex ey hxy hjp
                go_wp2_with fail
                go_quiet (fail)
                go_wp2_with fail
                go_roundw
                case rel => exact ⟨j + 1, by omega, by go_num, HALL.out, _, by first | rfl | exact World.drewN_drewN _ _ _⟩
                case measure => simp [intOf]; omega
    · have hlt : q < l := by omega
      obtain ⟨b, off, a, lx, cc, rfl, -, -, -, hcI, hcD, -⟩ := HFR.out.frag hlt
      obtain ⟨x, ex⟩ : ∃ x, x = ix.getD q 0 := ⟨_, rfl⟩
      rw [← ex] at hcI
      have HNOT : Hid (rowZ x (N : Nat) = false → areZ ix ((k : Int) + m) = false) := Lib.hid fun hz => by rw [hNi]; exact areZ_not (by rw [HXL.out]; exact hlt) (by rw [← ex]; exact hz)
      have HNEXT : Hid (rowZ x (N : Nat) = true → areZ (ix.take (q + 1)) (N : Nat) = true) := Lib.hid fun hz => areZ_take (by rw [HXL.out]; exact hlt) haz (by rw [← ex]; exact hz)
      clear haz ex h0 hcD
      by_cases hx0 : x < 0
      · have d1 : decide (x < 0) = true := decide_eq_true hx0
        have HZ : Hid (areZ ix ((k : Int) + m) = false) := Lib.hid (HNOT.out (by unfold rowZ; simp; omega))
        go_wp2_with fail
        go_ret2
        exact decP_arg HZ.out ⟨rfl, Below.refl _ _⟩
      · have d1 : decide (x < 0) = false := decide_eq_false hx0
        by_cases hxN : x < (N : Int)
        · have d2 : decide ((N : Int) ≤ x) = false := decide_eq_false (by omega)
          have HZ := Lib.hid (HNEXT.out (by unfold rowZ; simp; omega))
          go_wp2_with fail
          go_roundw
          case rel => exact ⟨q + 1, by omega, by go_num, HZ.out, by first | rfl | trivial⟩
          case measure => simp [intOf]; omega
        · have d2 : decide ((N : Int) ≤ x) = true := decide_eq_true (by omega)
          have HZ : Hid (areZ ix ((k : Int) + m) = false) := Lib.hid (HNOT.out (by unfold rowZ; simp; omega))
          go_wp2_with fail
          go_ret2
          exact decP_arg HZ.out ⟨rfl, Below.refl _ _⟩
end Go.Proofs.Ytmlcenocjpjcfaa
