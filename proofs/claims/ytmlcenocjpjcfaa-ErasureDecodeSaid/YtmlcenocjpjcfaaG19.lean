/- Package field: Invert. -/
import Derived.Test.YtmlcenocjpjcfaaG18
import Derived.Test.YtmlcenocjpjcfaaG16
namespace Go.Proofs.Ytmlcenocjpjcfaa
open Go.RowKit GfM

/-- One step of the elimination. -/
def elimAt (M : List (List Nat)) (j : Nat) : Option (List (List Nat)) :=
  match findP M j (M.length - j) j with
  | none => none
  | some i => some (clearC (swapAt [] M i j) j)
/-- The first k steps. -/
def elimTo (M : List (List Nat)) : Nat → Option (List (List Nat))
  | 0 => some M
  | k + 1 => match elimTo M k with
    | none => none
    | some R => elimAt R k
/-- The inverse that the elimination finds. -/
def invM (rs : List (List Nat)) (n : Nat) : Option (List (List Nat)) :=
  match elimTo (extTo rs n n) n with
  | none => none
  | some R => some (R.map (List.drop n))
theorem length_elimAt {M R : List (List Nat)} {j : Nat} (h : elimAt M j = some R) : R.length = M.length := by
  unfold elimAt at h
  split at h
  · cases h
  · cases h; rw [length_clearC, length_swapAt]
theorem length_elimTo {M R : List (List Nat)} {k : Nat} (h : elimTo M k = some R) : R.length = M.length := by
  induction k generalizing R with
  | zero => cases h; rfl
  | succ k ih =>
    rw [elimTo] at h
    split at h
    · cases h
    · rename_i S hS
      rw [length_elimAt h, ih hS]
theorem BysM.swap {M : List (List Nat)} {i j : Nat} (h : BysM M) : BysM (swapAt [] M i j) := by
  unfold swapAt; exact (h.set (h j) i).set (h i) j
theorem bys_elimAt {M R : List (List Nat)} {j : Nat} (hb : BysM M) (h : elimAt M j = some R) : BysM R := by
  unfold elimAt at h
  split at h
  · cases h
  · cases h; exact bys_clearC _ hb.swap
theorem bys_elimTo {M R : List (List Nat)} {k : Nat} (hb : BysM M) (h : elimTo M k = some R) : BysM R := by
  induction k generalizing R with
  | zero => cases h; exact hb
  | succ k ih =>
    rw [elimTo] at h
    split at h
    · cases h
    · rename_i S hS
      exact bys_elimAt (ih hS) h
theorem elimTo_none {M : List (List Nat)} {k n : Nat} (h : elimTo M k = none) (hk : k ≤ n) : elimTo M n = none := by
  induction n with
  | zero => obtain rfl : k = 0 := by omega
            exact h
  | succ n ih =>
    by_cases e : k = n + 1
    · subst e; exact h
    · rw [elimTo, ih (by omega)]
theorem Row.readsFrom {w : World} {g n : Nat} {zs : List Nat} (h : Row w g zs) (hl : zs.length = 2 * n) (hm : n ≤ maxLen) (hb : Bys zs) : Reads w (.slice (some ⟨g, n, none⟩) n n) (zs.drop n) := by
  refine ⟨_, n, n, rfl, by rw [List.length_drop]; omega, Nat.le_refl _, hm, hb.drop n, fun _ => ⟨g, n, rfl, fun i hi => ?_⟩⟩
  rw [h.cell (n + i) (by omega)]
  simp [List.getD, List.getElem?_drop]
theorem bysM_ext {w : World} {v : Value} {vs : List Value} {rs : List (List Nat)} {n : Nat} (h : RowsB w v vs rs) (hn : rs.length = n) : BysM (extTo rs n n) := by
  intro k
  by_cases hk : k < n
  · rw [getD_extTo hk]
    obtain ⟨ao, c, rfl, -⟩ := h.isSlice
    obtain ⟨_, _, _, _, _, _, _, _, _, _, hrd⟩ := h.row (k := k) (by omega)
    intro x hx
    rcases List.mem_append.1 hx with hx | hx
    · exact hrd.limbs x hx
    · exact bys_unitR n k x hx
  · have : (extTo rs n n).getD k [] = [] := by simp [extTo, List.getD, Nat.le_of_not_lt hk]
    rw [this]; exact Bys.nil
/-- The right halves of the first k rows in the place of the rows. -/
def tlv (n g : Nat) : Value := .slice (some ⟨g, n, none⟩) n n
def finH (gs : List Nat) (n k : Nat) : List Value := (gs.take k).map (tlv n) ++ (gs.drop k).map (hdr (2 * n))
theorem finH_step {gs : List Nat} {n k : Nat} (hk : k < gs.length) : (finH gs n k).set k (tlv n (gs.getD k 0)) = finH gs n (k + 1) := by
  have e : ((gs.take k).map (tlv n)).length = k := by simp; omega
  unfold finH
  rw [List.set_append_right _ _ (by omega), e, Nat.sub_self, List.drop_eq_getElem_cons hk, List.map_cons, List.set_cons_zero, List.take_succ_eq_append_getElem hk, List.map_append, List.append_assoc]
  simp [List.getD, hk]
theorem finH_get {gs : List Nat} {n k : Nat} (hk : k < gs.length) : (finH gs n k).getD k undef = hdr (2 * n) (gs.getD k 0) := by
  have e : ((gs.take k).map (tlv n)).length = k := by simp; omega
  unfold finH
  simp only [List.getD]
  rw [List.getElem?_append_right (by omega), e, Nat.sub_self, List.getElem?_map, List.getElem?_drop]
  simp [hk]
theorem length_finH {gs : List Nat} {n k : Nat} (hk : k ≤ gs.length) : (finH gs n k).length = gs.length := by
  unfold finH; simp; omega
theorem fin_rows {wr w' : World} {base G n : Nat} {gs : List Nat} {M : List (List Nat)} (h : Mat wr base G (2 * n) 0 gs M) (hb : BysM M) (hl : M.length = n) (hh : Heads w' G (finH gs n n)) (hg : wr.grownBy w' (some G)) (hn : n ≤ 32) :
    RowsB w' (.slice (some ⟨G, 0, none⟩) n n) (gs.map (tlv n)) (M.map (List.drop n)) := by
  obtain ⟨h1, h2, h3, h4, h5, h6⟩ := h
  have hgl : gs.length = n := by rw [h2.1, hl]
  have hf : finH gs n n = gs.map (tlv n) := by unfold finH; rw [← hgl, List.take_length, List.drop_length]; simp
  rw [hf] at hh
  refine ⟨_, n, n, rfl, by rw [List.length_map, hgl], by rw [List.length_map, hl], Nat.le_refl _, by unfold maxLen; omega, fun _ => ⟨G, 0, rfl, fun i hi => ?_⟩, fun i hi => ?_⟩
  · rw [Nat.zero_add, hh.cell (by rw [List.length_map, hgl]; exact hi)]
  · have hr := h2.2 i (by omega)
    have hmem : gs.getD i 0 ∈ gs := getD_mem (by omega)
    have hr2 := (hr.1.kept hg (fun e => h4 (by rw [← Option.some.inj e]; exact hmem))).readsFrom hr.2 (by unfold maxLen; omega) (hb i)
    have e1 : (gs.map (tlv n)).getD i undef = tlv n (gs.getD i 0) := by
      have : i < gs.length := by omega
      simp [List.getD, this]
    have e2 : (M.map (List.drop n)).getD i [] = (M.getD i []).drop n := by
      have : i < M.length := by omega
      simp [List.getD, this]
    rw [e1, e2]
    exact hr2
theorem elimTo_succ {M0 M : List (List Nat)} {k : Nat} (h : elimTo M0 k = some M) : elimTo M0 (k + 1) = elimAt M k := by rw [elimTo, h]
/-- What Invert returns. -/
def InvP (w : World) (res : Option (List (List Nat))) (e : Ending) (w' : World) : Prop :=
  match res with
  | none => e = .returned (.tuple #[.slice none 0 0, .int .i64 9]) ∧ Add w w'
  | some R => ∃ v vs, e = .returned (.tuple #[v, .int .i64 0]) ∧ RowsB w' v vs R ∧ Add w w'
def InvE (w : World) (e : Ending) (w' : World) : Prop := e = .returned (.tuple #[.slice none 0 0, .int .i64 1]) ∧ Add w w'
/-- May this matrix be inverted? -/
def sqOk (rs : List (List Nat)) : Bool := !(rs.length == 0) && !decide (32 < rs.length) && allLen rs.length rs

set_option maxRecDepth 100000 in
set_option maxHeartbeats 4000000 in
theorem invert_ok {w : World} {v : Value} {vs : List Value} {rs : List (List Nat)} {n : Nat} (h : RowsB w v vs rs) (hn : rs.length = n) (h0 : 0 < n) (h32 : n ≤ 32) (hal : allLen n rs = true) :
    Calls Try.prog 25 #[v] w (InvP w (invM rs n)) := by
  obtain ⟨ao, cr, rfl, hm⟩ := h.isSlice
  have CH : Hid (∀ _w' : World, Calls Try.prog 42 #[.slice ao n cr, .int .i64 (n : Nat)] w (RetBo w true)) := Lib.hid fun _ => by
    have := haveLength_any h n (by omega); rw [hal, hn] at this; exact this
  have CX : Hid (Calls Try.prog 43 #[.slice ao n cr] w (ExtP w rs n)) := Lib.hid (by have := extended_any h hn (by omega) hal; rw [hn] at this; exact this)
  have hbx := bysM_ext h hn
  obtain ⟨M0, eM0⟩ : ∃ M0, M0 = extTo rs n n := ⟨_, rfl⟩
  rw [← eM0] at hbx
  have hl0 : M0.length = n := by rw [eM0, length_extTo]
  obtain ⟨res, eres⟩ : ∃ res, res = invM rs n := ⟨_, rfl⟩
  rw [← eres, hn]
  have HRES : Hid (res = match elimTo M0 n with | none => none | some R => some (R.map (List.drop n))) := Lib.hid (by rw [eres, invM, eM0])
  have hne : ((n : Int) == 0) = false := by rw [beq_eq_false_iff_ne]; omega
  have hd32 : decide ((32 : Int) < (n : Int)) = false := decide_eq_false (by omega)
  have EM := Lib.hid eM0
  have HL := Lib.hid hl0
  have HB := Lib.hid hbx
  clear h hn hal hm eM0 hl0 eres hbx
  go_enter Try.func25, Try.ntmps25
  go_wp2_with (go_at_call 42; (with_reducible refine (CH.out w).mono ?_); rintro e w' ⟨rfl, rfl⟩)
  refine CX.out.mono ?_
  rintro e w1 ⟨G, gs0, rfl, hmat0, hadd0⟩
  rw [← EM.out] at hmat0
  have HMAT0 := Lib.hid hmat0
  have HADD0 := Lib.hid hadd0
  clear hmat0 hadd0 CX CH
  go_wp2_with fail
  go_loopw [27] (fun i wr => ∃ (k : Nat) (gs : List Nat) (M : List (List Nat)), k ≤ n ∧ i = .int .i64 (k : Nat) ∧ elimTo M0 k = some M ∧ Mat wr w.heap.size G (2 * n) 0 gs M ∧ Add w wr) (fun i _ => n - (intOf i).toNat)
  case atStart => exact ⟨0, gs0, M0, Nat.zero_le _, rfl, rfl, HMAT0.out, HADD0.out⟩
  case round =>
    obtain ⟨k, gs, M, hk, rfl, hel, hmat, hadd⟩ := hrel
    have hMl : M.length = n := by rw [length_elimTo hel]; exact HL.out
    have hMb : BysM M := bys_elimTo HB.out hel
    by_cases hkn : k = n
    · have HF : Hid (res = some (M.map (List.drop n))) := Lib.hid (by rw [HRES.out, ← hkn, hel])
      have HM := Lib.hid hmat
      have HA := Lib.hid hadd
      have HML := Lib.hid hMl
      have hgl : gs.length = n := by rw [hmat.2.1.1, hMl]
      have HGL := Lib.hid hgl
      have HH0 : Hid (Heads wr G (finH gs n 0)) := Lib.hid (by
        have := hmat.1
        rw [List.replicate_zero, List.append_nil] at this
        unfold finH; rw [List.take_zero, List.drop_zero]; exact this)
      clear hmat hadd hel hMl hgl
      subst hkn
      rename World => wm
      go_wp2_with fail
      go_loopw [40] (fun i wr' => ∃ q : Nat, q ≤ k ∧ i = .int .i64 (q : Nat) ∧ Heads wr' G (finH gs k q) ∧ wm.grownBy wr' (some G)) (fun i _ => k - (intOf i).toNat)
      case atStart => exact ⟨0, Nat.zero_le _, rfl, HH0.out, grown_of_below (Below.refl _ _) _⟩
      case round =>
        obtain ⟨q, hq, rfl, hh, hg⟩ := hrel
        by_cases hqn : q = k
        · have HEND : Hid (RowsB wr (.slice (some ⟨G, 0, none⟩) k k) (gs.map (tlv k)) (M.map (List.drop k)) ∧ Add w wr) := Lib.hid (by
            rw [hqn] at hh
            exact ⟨fin_rows HM.out hMb HML.out hh hg h32, HA.out.grown hg HA.out.size (fun j hj => by cases hj; exact HM.out.2.2.2.2.1)⟩)
          clear hh hg
          subst hqn
          go_wp2_with fail
          go_ret2
          rw [HF.out]
          exact ⟨_, _, rfl, HEND.out.1, HEND.out.2⟩
        · have hlt : q < k := by omega
          have hlq : q < gs.length := by rw [HGL.out]; exact hlt
          have hc := hh.cell (i := q) (by rw [length_finH (by omega)]; exact hlq)
          rw [finH_get hlq] at hc
          have hf := hh.free q
          obtain ⟨g, eg⟩ : ∃ g, g = gs.getD q 0 := ⟨_, rfl⟩
          rw [← eg] at hc
          unfold hdr at hc
          have HNEXT : Hid (Heads (wr.setCell ⟨G, q, none⟩ (tlv k g)) G (finH gs k (q + 1)) ∧ wm.grownBy (wr.setCell ⟨G, q, none⟩ (tlv k g)) (some G)) := Lib.hid (by
            have h2 := hh.set q (tlv k g)
            rw [eg, finH_step hlq] at h2
            rw [eg]; exact ⟨h2, grown_trans hg (grown_setCell (g := G) q _)⟩)
          clear hh hg eg hqn hlq
          go_wp2_with fail
          go_roundw
          case rel =>
            have e : 2 * k - k = k := by omega
            rw [e]
            exact ⟨q + 1, by omega, by go_num, HNEXT.out.1, HNEXT.out.2⟩
          case measure => simp [intOf]; omega
    · have hlt : k < n := by omega
      have CF : Hid (Calls Try.prog 44 #[.slice (some ⟨G, 0, none⟩) n n, .int .i64 (k : Nat)] wr (PivP wr w.heap.size G (2 * n) gs M k (findP M k (n - k) k))) := Lib.hid (findPivot_any hmat hMb hMl hlt (by omega) (by omega) (by omega))
      have HS : Hid (elimTo M0 (k + 1) = match findP M k (n - k) k with | none => none | some i => some (clearC (swapAt [] M i k) k)) := Lib.hid (by rw [elimTo_succ hel, elimAt, hMl])
      have HA := Lib.hid hadd
      have HML := Lib.hid hMl
      have HBASE := Lib.hid hmat.base_le
      have HGB : Hid (w.heap.size ≤ G) := Lib.hid hmat.2.2.2.2.1
      clear hmat hadd hel hMl hkn
      cases hfp : findP M k (n - k) k with
      | none =>
        rw [hfp] at CF HS
        have HF : Hid (res = none) := Lib.hid (by rw [HRES.out, elimTo_none HS.out (by omega)])
        clear hfp
        go_wp2_with (go_at_call 44; (with_reducible refine CF.out.mono ?_); rintro e w' ⟨rfl, rfl⟩)
        go_ret2
        rw [HF.out]
        exact ⟨rfl, HA.out⟩
      | some i =>
        rw [hfp] at CF HS
        clear hfp
        go_wp2_with fail
        refine CF.out.mono ?_
        rintro e w2 ⟨hki, hil, rfl, hmat2, hg2⟩
        have hl2 : (swapAt [] M i k).length = n := by rw [length_swapAt]; exact HML.out
        have CC := Lib.hid (clearColumn_any hmat2 hMb.swap hl2 hlt (by omega) (by omega) (by omega))
        have HA2 : Hid (Add w w2) := Lib.hid (HA.out.grown hg2 HA.out.size (fun j hj => by cases hj; exact HGB.out))
        clear hmat2 hg2 hl2 hil
        go_wp2_with fail
        refine CC.out.mono ?_
        rintro e w3 ⟨rfl, hmat3, hb3⟩
        have HM3 := Lib.hid hmat3
        have HA3 : Hid (Add w w3) := Lib.hid (Below.trans HA2.out hb3)
        clear hmat3 hb3
        go_wp2_with fail
        go_roundw
        case rel => exact ⟨k + 1, _, _, by omega, by go_num, HS.out, HM3.out, HA3.out⟩
        case measure => simp [intOf]; omega

set_option maxRecDepth 100000 in
theorem invert_bad {w : World} {v : Value} {vs : List Value} {rs : List (List Nat)} (h : RowsB w v vs rs) (hok : sqOk rs = false) :
    Calls Try.prog 25 #[v] w (InvE w) := by
  obtain ⟨ao, cr, rfl, hm⟩ := h.isSlice
  unfold maxLen at hm
  obtain ⟨n, en⟩ : ∃ n, n = rs.length := ⟨_, rfl⟩
  rw [← en] at h hm ⊢
  by_cases h0 : n = 0
  · subst h0
    clear h en hok
    go_enter Try.func25, Try.ntmps25
    go_wp2_with fail
    go_ret2
    exact ⟨rfl, Below.refl _ _⟩
  · have hne : ((n : Int) == 0) = false := by rw [beq_eq_false_iff_ne]; omega
    by_cases h32 : 32 < n
    · have hd : decide ((32 : Int) < (n : Int)) = true := decide_eq_true (by omega)
      clear h h0 hok h32 en
      go_enter Try.func25, Try.ntmps25
      go_wp2_with fail
      go_ret2
      exact ⟨rfl, Below.refl _ _⟩
    · have hd : decide ((32 : Int) < (n : Int)) = false := decide_eq_false (by omega)
      have hal : allLen n rs = false := by
        unfold sqOk at hok
        rw [← en] at hok
        simpa [h0, h32] using hok
      have CH : Hid (∀ _w' : World, Calls Try.prog 42 #[.slice ao n cr, .int .i64 (n : Nat)] w (RetBo w false)) := Lib.hid fun _ => by
        have := haveLength_any h n (by omega); rw [hal] at this; exact this
      clear h h0 hok hal en h32
      go_enter Try.func25, Try.ntmps25
      go_wp2_with (go_at_call 42; (with_reducible refine (CH.out w).mono ?_); rintro e w' ⟨rfl, rfl⟩)
      go_ret2
      exact ⟨rfl, Below.refl _ _⟩
end Go.Proofs.Ytmlcenocjpjcfaa
