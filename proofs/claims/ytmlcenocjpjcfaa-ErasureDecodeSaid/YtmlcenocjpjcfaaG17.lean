/- Package field: clearColumn. -/
import Derived.Test.YtmlcenocjpjcfaaG16
namespace Go.Proofs.Ytmlcenocjpjcfaa
open Go.RowKit GfM

/-- The row, its first k elements multiplied by x. -/
def scaleTo (x : Nat) (row : List Nat) (k : Nat) : List Nat := (row.take k).map (gm x) ++ row.drop k
theorem length_scaleTo (x : Nat) (row : List Nat) (k : Nat) : (scaleTo x row k).length = row.length := by
  unfold scaleTo; rw [List.length_append, List.length_map, List.length_take, List.length_drop]; omega
theorem scaleTo_zero (x : Nat) (row : List Nat) : scaleTo x row 0 = row := by simp [scaleTo]
theorem scaleTo_all (x : Nat) (row : List Nat) : scaleTo x row row.length = row.map (gm x) := by simp [scaleTo]
theorem getD_scaleTo {x : Nat} {row : List Nat} {k : Nat} (hk : k < row.length) : (scaleTo x row k).getD k 0 = row.getD k 0 := by
  have : ((row.take k).map (gm x)).length = k := by simp; omega
  unfold scaleTo
  simp only [List.getD]
  rw [List.getElem?_append_right (by omega), this, Nat.sub_self, List.getElem?_drop]
  simp
theorem scaleTo_step {x : Nat} {row : List Nat} {k : Nat} (hk : k < row.length) : (scaleTo x row k).set k (gm x (row.getD k 0)) = scaleTo x row (k + 1) := by
  have e : ((row.take k).map (gm x)).length = k := by simp; omega
  unfold scaleTo
  rw [List.set_append_right _ _ (by omega), e, Nat.sub_self, List.drop_eq_getElem_cons hk, List.set_cons_zero, List.take_succ_eq_append_getElem hk, List.map_append]
  simp [List.getD, hk]
theorem bys_scale {x : Nat} {row : List Nat} (hx : x < 256) : Bys (row.map (gm x)) := by
  intro y hy
  obtain ⟨z, _, rfl⟩ := List.mem_map.1 hy
  exact gm_lt hx

/-- The first k rows but row j, with the multiple of p taken away that makes their element in column j 0. -/
def clr (j : Nat) (p : List Nat) : Nat → List (List Nat) → List (List Nat)
  | 0, M => M
  | k + 1, M => if k = j then clr j p k M else (clr j p k M).set k (addTo ((clr j p k M).getD k []) (((clr j p k M).getD k []).getD j 0) p)
theorem length_clr (j : Nat) (p : List Nat) (k : Nat) (M : List (List Nat)) : (clr j p k M).length = M.length := by
  induction k with
  | zero => rfl
  | succ k ih => rw [clr]; split; exact ih; rw [List.length_set]; exact ih
theorem clr_ge (j : Nat) (p : List Nat) (k i : Nat) (M : List (List Nat)) (h : k ≤ i) : (clr j p k M).getD i [] = M.getD i [] := by
  induction k with
  | zero => rfl
  | succ k ih =>
    rw [clr]; split
    · exact ih (by omega)
    · simp only [List.getD] at ih ⊢
      rw [List.getElem?_set_ne (by omega)]; exact ih (by omega)
theorem clr_j (j : Nat) (p : List Nat) (k : Nat) (M : List (List Nat)) : (clr j p k M).getD j [] = M.getD j [] := by
  induction k with
  | zero => rfl
  | succ k ih =>
    rw [clr]; split
    · exact ih
    · simp only [List.getD] at ih ⊢
      rw [List.getElem?_set_ne (by omega)]; exact ih
theorem bys_clr {j : Nat} {p : List Nat} {k : Nat} {M : List (List Nat)} (h : BysM M) : BysM (clr j p k M) := by
  induction k with
  | zero => exact h
  | succ k ih =>
    rw [clr]; split
    · exact ih
    · exact ih.set (bys_addTo (ih k) ((ih k).get j)) k
/-- Row j made to have 1 in column j, and all others 0. -/
def clearC (M : List (List Nat)) (j : Nat) : List (List Nat) :=
  clr j ((M.getD j []).map (gm (iv ((M.getD j []).getD j 0)))) M.length (M.set j ((M.getD j []).map (gm (iv ((M.getD j []).getD j 0)))))
theorem length_clearC (M : List (List Nat)) (j : Nat) : (clearC M j).length = M.length := by unfold clearC; rw [length_clr, List.length_set]
theorem bys_clearC {M : List (List Nat)} (j : Nat) (h : BysM M) : BysM (clearC M j) := bys_clr (h.set (bys_scale (iv_lt _)) j)

/-- What clearColumn leaves. -/
def ClrP (w : World) (base G m : Nat) (gs : List Nat) (M : List (List Nat)) (e : Ending) (w' : World) : Prop :=
  e = .returned (.tuple #[]) ∧ Mat w' base G m 0 gs M ∧ Below base w w'
theorem Mat.base_le {w : World} {base G m r : Nat} {gs : List Nat} {M : List (List Nat)} (h : Mat w base G m r gs M) : base ≤ w.heap.size := Nat.le_of_lt (Nat.lt_of_le_of_lt h.2.2.2.2.1 h.1.lt)
theorem Mat.below {w w' : World} {base G m r i : Nat} {gs : List Nat} {M : List (List Nat)} (h : Mat w base G m r gs M) (hi : i < M.length) (hg : w.grownBy w' (some (gs.getD i 0))) : Below base w w' :=
  (Below.refl base w).grown hg h.base_le (fun k hk => by cases hk; exact h.2.2.2.2.2 _ (getD_mem (by rw [h.2.1.1]; exact hi)))

set_option maxRecDepth 100000 in
set_option maxHeartbeats 4000000 in
theorem clearColumn_any {w : World} {base G m n j : Nat} {gs : List Nat} {M : List (List Nat)} (h : Mat w base G m 0 gs M) (hb : BysM M) (hn : M.length = n) (hj : j < n) (hjm : j < m) (hn2 : n ≤ 1000) (hm2 : m ≤ 1000) :
    Calls Try.prog 45 #[.slice (some ⟨G, 0, none⟩) n n, .int .i64 (j : Nat)] w (ClrP w base G m gs (clearC M j)) := by
  have hc := h.cell (i := j) (by rw [hn]; exact hj)
  have hr := h.2.1.2 j (by rw [hn]; exact hj)
  obtain ⟨g, eg⟩ : ∃ g, g = gs.getD j 0 := ⟨_, rfl⟩
  obtain ⟨row, erow⟩ : ∃ row, row = M.getD j [] := ⟨_, rfl⟩
  obtain ⟨z, ez⟩ : ∃ z, z = row.getD j 0 := ⟨_, rfl⟩
  obtain ⟨x, ex⟩ : ∃ x, x = iv z := ⟨_, rfl⟩
  obtain ⟨er, eer⟩ : ∃ er, er = zE z := ⟨_, rfl⟩
  rw [← erow] at hr
  have hrow := hr.1
  have hlen := hr.2
  have hbrow : Bys row := by rw [erow]; exact hb j
  have hz := hrow.cell j (by rw [hlen]; exact hjm)
  rw [← eg] at hc hrow hz
  rw [← ez] at hz
  unfold hdr at hc
  have hz256 : z < 256 := by rw [ez]; exact hbrow.get j
  have hx : x < 256 := by rw [ex]; exact iv_lt z
  have CI : Hid (∀ w, Calls Try.prog 36 #[.int .u8 (z : Nat)] w (RetBE w x er)) := Lib.hid fun w => by rw [ex, eer]; exact inv_any z hz256 w
  have HM := Lib.hid h
  have HN := Lib.hid hn
  have HROW := Lib.hid hrow
  have HL := Lib.hid hlen
  have EG := Lib.hid eg
  have HCL : Hid (clearC M j = clr j (row.map (gm x)) n (M.set j (row.map (gm x)))) := Lib.hid (by unfold clearC; rw [← erow, ← ez, ← ex, hn])
  clear h hn hrow hlen eg ez ex eer hr erow
  go_enter Try.func45, Try.ntmps45
  go_wp2_with (go_at_call 36; (with_reducible refine (CI.out _).mono ?_); rintro e w' ⟨rfl, rfl⟩)
  clear hc hz
  go_loopw [25] (fun i wr => ∃ k : Nat, k ≤ m ∧ i = .int .i64 (k : Nat) ∧ Row wr g (scaleTo x row k) ∧ w.grownBy wr (some g)) (fun i _ => m - (intOf i).toNat)
  case atStart => exact ⟨0, Nat.zero_le _, rfl, by rw [scaleTo_zero]; exact HROW.out, grown_of_below (Below.refl _ _) _⟩
  case round =>
    obtain ⟨k, hk, rfl, hrow, hgr⟩ := hrel
    by_cases h0 : k = m
    · obtain ⟨p, ep⟩ : ∃ p, p = row.map (gm x) := ⟨_, rfl⟩
      obtain ⟨M1, eM1⟩ : ∃ M1, M1 = M.set j p := ⟨_, rfl⟩
      have hp : Row wr g p := by rw [h0, ← HL.out, scaleTo_all, ← ep] at hrow; exact hrow
      have hpl : p.length = m := by rw [ep, List.length_map]; exact HL.out
      have hM1 : Mat wr base G m 0 gs M1 := by rw [eM1]; exact HM.out.write (i := j) (by rw [HN.out]; exact hj) (by rw [← EG.out]; exact hgr) (by rw [← EG.out]; exact hp) hpl
      have hbel : Below base w wr := HM.out.below (i := j) (by rw [HN.out]; exact hj) (by rw [← EG.out]; exact hgr)
      have hb1 : BysM M1 := by rw [eM1, ep]; exact hb.set (bys_scale hx) j
      have hl1 : M1.length = n := by rw [eM1, List.length_set]; exact HN.out
      have hpj : M1.getD j [] = p := by rw [eM1]; simp [List.getD, HN.out, hj]
      have HM1 := Lib.hid hM1
      have HB := Lib.hid hbel
      have HL1 := Lib.hid hl1
      have HPJ := Lib.hid hpj
      have HPL := Lib.hid hpl
      have HC2 : Hid (clearC M j = clr j p n M1) := Lib.hid (by rw [HCL.out, eM1, ep])
      clear hrow hgr hp hM1 hbel hl1 hpj hpl ep eM1
      subst h0
      go_wp2_with fail
      go_loopw [39] (fun i wx => ∃ q : Nat, q ≤ n ∧ i = .int .i64 (q : Nat) ∧ Mat wx base G k 0 gs (clr j p q M1) ∧ Below base w wx) (fun i _ => n - (intOf i).toNat)
      case atStart => exact ⟨0, Nat.zero_le _, rfl, HM1.out, HB.out⟩
      case round =>
        obtain ⟨q, hq, rfl, hmat, hbel⟩ := hrel
        by_cases hqn : q = n
        · have HF : Hid (Mat wr base G k 0 gs (clearC M j)) := Lib.hid (by rw [HC2.out, ← hqn]; exact hmat)
          have HB2 := Lib.hid hbel
          clear hmat hbel
          subst hqn
          go_wp2_with fail
          go_end0
          exact ⟨rfl, HF.out, HB2.out⟩
        · have hlt : q < n := by omega
          have hlq : q < (clr j p q M1).length := by rw [length_clr, HL1.out]; exact hlt
          have hc := hmat.cell hlq
          obtain ⟨gq, egq⟩ : ∃ gq, gq = gs.getD q 0 := ⟨_, rfl⟩
          rw [← egq] at hc
          unfold hdr at hc
          by_cases hqj : q = j
          · have HF : Hid (Mat wr base G k 0 gs (clr j p (q + 1) M1)) := Lib.hid (by rw [clr, if_pos hqj]; exact hmat)
            have HB2 := Lib.hid hbel
            have hne : ((q : Int) != (j : Int)) = false := by simp [hqj]
            clear hmat hbel hqn hqj egq
            go_wp2_with fail
            go_roundw
            case rel => exact ⟨q + 1, by omega, by go_num, HF.out, HB2.out⟩
            case measure => simp [intOf]; omega
          · have hne : ((q : Int) != (j : Int)) = true := by simp only [bne_iff_ne, ne_eq]; omega
            have hrq := hmat.2.1.2 q hlq
            obtain ⟨rq, erq⟩ : ∃ rq, rq = (clr j p q M1).getD q [] := ⟨_, rfl⟩
            rw [← erq, ← egq] at hrq
            have hcf := hrq.1.cell j (by rw [hrq.2]; exact hjm)
            obtain ⟨f, ef⟩ : ∃ f, f = rq.getD j 0 := ⟨_, rfl⟩
            rw [← ef] at hcf
            have hbq := bys_clr (j := j) (p := p) (k := q) hb1
            have hbrq : Bys rq := by rw [erq]; exact hbq q
            have hlj : j < (clr j p q M1).length := by rw [length_clr, HL1.out]; exact hj
            have hrd := hmat.reads hbq hlj (by unfold maxLen; omega)
            rw [clr_j, HPJ.out, ← EG.out] at hrd
            have haw : Away (hdr k g) p gq := by
              intro b off n' c e _
              unfold hdr at e
              cases e
              rw [EG.out, egq]
              exact nodup_getD hmat.2.2.1 (by rw [hmat.2.1.1]; exact hlj) (by rw [hmat.2.1.1]; exact hlq) (fun e => hqj e.symm)
            have HCALL := Lib.hid (addMultiple_any (n := k) (c := k) (f := f) hrq.1 hrd haw hbrq (by rw [ef]; exact hbrq.get j) hrq.2.symm (by omega) (by rw [HPL.out, hrq.2]; exact Nat.le_refl _))
            unfold hdr at HCALL
            have HNEXT : Hid (∀ w', Row w' gq (addTo rq f p) → wr.grownBy w' (some gq) → Mat w' base G k 0 gs (clr j p (q + 1) M1) ∧ Below base w w') := Lib.hid fun w' h1 h2 => by
              refine ⟨?_, hbel.trans (hmat.below hlq (by rw [← egq]; exact h2))⟩
              rw [clr, if_neg hqj, ← erq, ← ef]
              exact hmat.write hlq (by rw [← egq]; exact h2) (by rw [← egq]; exact h1) (by rw [length_addTo]; exact hrq.2)
            clear hmat hbel hqn hqj egq hrq erq ef hbq hbrq hrd haw hlq hlj
            go_wp2_with (go_at_call 57; (with_reducible refine HCALL.out.mono ?_); rintro e w' ⟨rfl, hrow', hgr', hsz'⟩)
            go_roundw
            case rel =>
              obtain ⟨q1, q2⟩ := HNEXT.out _ hrow' hgr'
              exact ⟨q + 1, by omega, by go_num, q1, q2⟩
            case measure => simp [intOf]; omega
    · have hlt : k < m := by omega
      have hkr : k < row.length := by rw [HL.out]; exact hlt
      have hcz := hrow.cell k (by rw [length_scaleTo]; exact hkr)
      rw [getD_scaleTo hkr] at hcz
      have hfree := hrow.free k
      obtain ⟨y, ey⟩ : ∃ y, y = row.getD k 0 := ⟨_, rfl⟩
      obtain ⟨s, es⟩ : ∃ s, s = gm x y := ⟨_, rfl⟩
      have hy : y < 256 := by rw [ey]; exact hbrow.get k
      rw [← ey] at hcz
      have CM : Hid (∀ w, Calls Try.prog 56 #[.int .u8 (x : Nat), .int .u8 (y : Nat)] w (RetB w s)) := Lib.hid fun w => mulE hx hy es.symm w
      have HR2 : Hid (Row (wr.setCell ⟨g, k, none⟩ (.int .u8 (s : Nat))) g (scaleTo x row (k + 1))) := Lib.hid (by
        have := hrow.set k s
        rw [es, ey, scaleTo_step hkr] at this
        rw [es, ey]; exact this)
      have HG := Lib.hid (grown_trans hgr (grown_setCell (w := wr) (g := g) k (.int .u8 (s : Nat))))
      clear hrow hgr ey es h0 hkr
      go_wp2_with (go_at_call 56; (with_reducible refine (CM.out _).mono ?_); rintro e w' ⟨rfl, rfl⟩)
      go_roundw
      case rel => exact ⟨k + 1, by omega, by go_num, HR2.out, HG.out⟩
      case measure => simp [intOf]; omega
end Go.Proofs.Ytmlcenocjpjcfaa
