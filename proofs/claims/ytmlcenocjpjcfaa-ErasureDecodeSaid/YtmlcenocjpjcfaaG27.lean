/- The reference of package field: Invert. -/
import Derived.Test.YtmlcenocjpjcfaaG26
import Derived.Test.YtmlcenocjpjcfaaG20
import Derived.StillTailTactics
import Derived.RegionTactic
import Derived.BigRegion
namespace Go.Proofs.Ytmlcenocjpjcfaa
open Go.RowKit GfM

theorem below_own {w w' : World} {base e n : Nat} {v : Value} {xs : List Value} (h : w.ownsRow base e 1 v n xs) (hb : Add w w') : w'.ownsRow base e 1 v n xs := by
  refine ⟨h.1, ?_⟩
  rcases h.2 with hn | ⟨g', cap, cur, e, hg, hgg, rest⟩
  · exact .inl hn
  · refine .inr ⟨g', cap, cur, e, hg, ?_, rest⟩
    rw [hb.block g' (Array.getElem?_eq_some_iff.1 hgg).1]; exact hgg
theorem own_baseE {w : World} {base e n k : Nat} {v : Value} {xs : List Value} (h : w.ownsRow base e 1 v n xs) (hk : v.ownBlock = some k) : base ≤ k ∧ k < w.heap.size := by
  rcases h.2 with ⟨rfl, _⟩ | ⟨g', cap, cur, rfl, hb, hgg, rest⟩
  · cases hk
  · cases hk; exact ⟨hb, (Array.getElem?_eq_some_iff.1 hgg).1⟩
theorem MatC.below {w w' : World} {base m : Nat} {v : Value} {gs : List (Nat × Nat)} {M : List (List Nat)} (h : MatC w base m v gs M) (hb : Add w w') : MatC w' base m v gs M :=
  ⟨below_own h.1 hb, ⟨h.2.1.1, fun i hi => ⟨(h.2.1.2 i hi).1, below_own (h.2.1.2 i hi).2 hb⟩⟩, h.2.2⟩
/-- A row that grows: v holds the bytes zs. -/
def OwnB (w : World) (base : Nat) (v : Value) (zs : List Nat) : Prop := w.ownsRow base 5 1 v zs.length (zs.map lim)
theorem OwnB.rowC {w : World} {base : Nat} {v : Value} {zs : List Nat} (h : OwnB w base v zs) (hp : 0 < zs.length) : ∃ g cap, v = .slice (some ⟨g, 0, none⟩) zs.length cap ∧ base ≤ g ∧ RowC w g cap zs.length zs := by
  have h' := h
  rcases h.2 with ⟨_, h0⟩ | ⟨g, cap, cur, e, hg, hgg, rest⟩
  · omega
  · subst e
    refine ⟨g, cap, rfl, hg, rfl, ?_⟩
    refine ⟨h'.1, .inr ⟨g, cap, cur, rfl, Nat.zero_le _, hgg, rest⟩⟩
theorem OwnB.grown {w' : World} {base m : Nat} {v : Value} {zs us : List Nat} {vs : List Value} (h : w'.ownsRow base 5 1 v (zs.length + m) (zs.map lim ++ vs)) (hv : vs = us.map lim) (hm : us.length = m) : OwnB w' base v (zs ++ us) := by
  unfold OwnB
  rw [List.length_append, List.map_append, hm, ← hv]; exact h
theorem unit_take {n k j : Nat} (hj : j < n) (hk : k < n) : (unitR n k).take (j + 1) = (unitR n k).take j ++ [if k = j then 1 else 0] := by
  rw [List.take_succ_eq_append_getElem (by rw [length_unitR]; exact hj)]
  congr 1
  have h := unitR_get (n := n) (i := k) (c := j) hk
  have hl : j < (unitR n k).length := by rw [length_unitR]; exact hj
  simp only [List.getD, List.getElem?_eq_getElem hl, Option.getD_some] at h
  rw [h]; rfl
/-- What the rows read as behind an append of a slice that came in. -/
theorem cells_of_reads {w : World} {b off n c : Nat} {xs : List Nat} (h : Reads w (.slice (some ⟨b, off, none⟩) n c) xs) : ∀ j u, (xs.map lim)[j]? = some u → w.cell? ((⟨b, off, none⟩ : Addr).add j) = some u := by
  intro j u hj
  obtain ⟨ao', n', c', e, hl, -, -, -, hr⟩ := h
  cases e
  rw [List.getElem?_map] at hj
  have hjl : j < n := by
    rcases Nat.lt_or_ge j n with h1 | h1
    · exact h1
    · rw [List.getElem?_eq_none (by omega)] at hj; simp at hj
  obtain ⟨b', off', e, g⟩ := hr (by omega)
  cases e
  rw [Addr.add_lit, g j hjl]
  have h4 : j < xs.length := by omega
  simp [h4, List.getD, lim] at hj ⊢
  exact hj
theorem lim_one (zs : List Nat) : ∀ u ∈ zs.map lim, u.oneCell' = true := by
  intro u hu
  obtain ⟨x, _, rfl⟩ := List.mem_map.1 hu
  rfl

theorem MatC.cell {w : World} {base m n G cap i : Nat} {gs : List (Nat × Nat)} {M : List (List Nat)} (h : MatC w base m (.slice (some ⟨G, 0, none⟩) n cap) gs M) (hn : gs.length = n) (hi : i < n) : w.cell? ⟨G, i, none⟩ = some (.slice (some ⟨(gs.getD i (0, 0)).1, 0, none⟩) m (gs.getD i (0, 0)).2) := by
  have h1 := h.1
  rw [hn] at h1
  have h2 := h1.cellAt i (by omega)
  have hl : i < gs.length := by omega
  rw [h2]
  simp [List.getD, hl, hdrC]
theorem MatC.free {w : World} {base m n G cap : Nat} {gs : List (Nat × Nat)} {M : List (List Nat)} (h : MatC w base m (.slice (some ⟨G, 0, none⟩) n cap) gs M) (hn : gs.length = n) (i : Nat) : w.frozen? ⟨G, i, none⟩ = false := by
  have h1 := h.1
  rw [hn] at h1
  exact h1.frozenAt i
theorem MatC.form {w : World} {base m : Nat} {v : Value} {gs : List (Nat × Nat)} {M : List (List Nat)} (h : MatC w base m v gs M) (hp : 0 < gs.length) : ∃ G cap, v = .slice (some ⟨G, 0, none⟩) gs.length cap ∧ base ≤ G := by
  rcases h.1.2 with ⟨_, h0⟩ | ⟨G, cap, cur, e, hb, rest⟩
  · omega
  · exact ⟨G, cap, e, hb⟩
theorem MatC.add {w0 w w' : World} {base m i : Nat} {v : Value} {gs : List (Nat × Nat)} {M : List (List Nat)} (h : MatC w base m v gs M) (hb : base = w0.heap.size) (ha : Add w0 w) (hi : i < gs.length) (hg : w.grownBy w' (some (gs.getD i (0, 0)).1)) : Add w0 w' :=
  ha.grown hg ha.size (fun k hk => by cases hk; rw [← hb]; exact h.2.2.2 _ (getD_mem hi))
theorem MatC.rows {w : World} {base m : Nat} {v : Value} {gs : List (Nat × Nat)} {M : List (List Nat)} (h : MatC w base m v gs M) (hb : BysM M) : RowsB w v (gs.map (hdrC m)) M := by
  have hM := h.2.1.1
  rcases h.1.2 with ⟨rfl, h0⟩ | ⟨G, cap, cur, rfl, hbG, hgg, hn, hm, hs, ht⟩
  · exact ⟨none, 0, 0, rfl, by simp [h0], by omega, Nat.le_refl _, by unfold maxLen; omega, fun hh => by omega, fun i hi => by omega⟩
  · refine ⟨_, gs.length, cap, rfl, by simp, hM.symm, hn, hm, fun _ => ⟨G, 0, rfl, fun i hi => ?_⟩, fun i hi => ?_⟩
    · rw [Nat.zero_add, h.1.cellAt i (by omega)]
      simp [List.getD, hi]
    · have hr := h.2.1.2 i (by rw [← hM]; exact hi)
      have e1 : (gs.map (hdrC m)).getD i undef = hdrC m (gs.getD i (0, 0)) := by simp [List.getD, hi]
      rw [e1]
      exact hr.reads (hb i)
def nextM (M : List (List Nat)) (k : Nat) : Option Nat → Option (List (List Nat))
  | none => none
  | some i => some (clearC (swapAt [] M i k) k)
theorem elimAt_next (M : List (List Nat)) (k : Nat) : elimAt M k = nextM M k (findP M k (M.length - k) k) := by
  unfold elimAt
  cases findP M k (M.length - k) k <;> rfl
def finM (n : Nat) : Option (List (List Nat)) → Option (List (List Nat))
  | none => none
  | some R => some (R.map (List.drop n))
theorem invM_fin (rs : List (List Nat)) (n : Nat) : invM rs n = finM n (elimTo (extTo rs n n) n) := by
  unfold invM
  cases elimTo (extTo rs n n) n <;> rfl
set_option maxRecDepth 100000 in
set_option maxHeartbeats 8000000 in
theorem refInvert_ok {w : World} {v : Value} {vs : List Value} {rs : List (List Nat)} {n : Nat} (h : RowsB w v vs rs) (hd : Dim n n rs) (h0 : 0 < n) (h32 : n ≤ 32) :
    Calls Try.prog 40 #[v] w (InvP w (invM rs n)) := by
  obtain ⟨i0, hi, hz0, hz1, hz2⟩ := info_parts info5
  obtain ⟨i1, hi1, hy0, hy1, hy2⟩ := info_parts info32
  obtain ⟨ao, cr, rfl, hm⟩ := h.isSlice
  rw [hd.1] at h hm ⊢
  have HR := Lib.hid h
  have HD := Lib.hid hd
  obtain ⟨res, eres⟩ : ∃ res, res = invM rs n := ⟨_, rfl⟩
  rw [← eres]
  have ERES := Lib.hid eres
  have hd1 : decide (n < 1) = false := decide_eq_false (by omega)
  have hd32 : decide (32 < n) = false := decide_eq_false (by omega)
  clear h hd hm eres
  go_enter Try.func40, Try.ntmps40
  go_wp2_with fail
  go_loopw [5, 6] (fun t i wr => ∃ (k : Nat) (gs : List (Nat × Nat)), k ≤ n ∧ i = .int .i64 (k : Nat) ∧ MatC wr w.heap.size (2 * n) t gs (extTo rs n k) ∧ Add w wr) (fun _ i _ => n - (intOf i).toNat)
  case atStart => exact ⟨0, [], Nat.zero_le _, rfl, ⟨World.ownsRow_nil _ _ _ _, ⟨rfl, fun i hi => by cases hi⟩, List.nodup_nil, fun x hx => by cases hx⟩, Below.refl _ _⟩
  case round =>
    obtain ⟨k, gs, hk, rfl, hmat, hadd⟩ := hrel
    by_cases hkn : k = n
    · have HML : Hid (gs.length = n) := Lib.hid (by rw [hmat.2.1.1, length_extTo, hkn])
      obtain ⟨G, cap, ev, hbG⟩ := hmat.form (by rw [HML.out]; exact h0)
      rw [HML.out] at ev
      subst ev
      obtain ⟨M0, eM0⟩ : ∃ M0, M0 = extTo rs n n := ⟨_, rfl⟩
      have hd0 : Dim n (2 * n) M0 := by rw [eM0]; exact ext_dim HD.out
      have HM0 : Hid (MatC wr w.heap.size (2 * n) (.slice (some ⟨G, 0, none⟩) n cap) gs M0) := Lib.hid (by rw [hkn, ← eM0] at hmat; exact hmat)
      have HRES : Hid (res = finM n (elimTo M0 n)) := Lib.hid (by rw [ERES.out, invM_fin, eM0])
      have HADD0 := Lib.hid hadd
      have hkn := hkn.symm
      clear hmat hadd eM0
      subst hkn
      go_wp2_with fail
      go_loopw [9] (fun i wr => ∃ (k : Nat) (gs : List (Nat × Nat)) (M : List (List Nat)), k ≤ n ∧ i = .int .i64 (k : Nat) ∧ elimTo M0 k = some M ∧ MatC wr w.heap.size (2 * n) (.slice (some ⟨G, 0, none⟩) n cap) gs M ∧ Add w wr) (fun i _ => n - (intOf i).toNat)
      case atStart => exact ⟨0, gs, M0, Nat.zero_le _, rfl, rfl, HM0.out, HADD0.out⟩
      case round =>
        obtain ⟨k, gs, M, hk, rfl, hel, hmat, hadd⟩ := hrel
        obtain ⟨hdM, -, -⟩ := elimTo_some hd0 hk (by omega) hel
        have HEL := Lib.hid hel
        have HMAT := Lib.hid hmat
        have HADD := Lib.hid hadd
        have HGL : Hid (gs.length = n) := Lib.hid (by rw [hmat.2.1.1, hdM.1])
        clear hel hmat hadd
        by_cases hkn : k = n
        · have HF : Hid (res = some (M.map (List.drop n))) := Lib.hid (by rw [HRES.out, ← hkn, HEL.out, hkn]; rfl)
          have hML : (M.map (List.drop n)).length = n := by rw [List.length_map]; exact hdM.1
          have HBR : Hid (BysM (M.map (List.drop n))) := Lib.hid (fun i => by
            by_cases hi : i < n
            · have e : (M.map (List.drop n)).getD i [] = (M.getD i []).drop n := by
                have : i < M.length := by rw [hdM.1]; exact hi
                simp [List.getD, this]
              rw [e]; exact (hdM.2.2 i).drop n
            · have e : (M.map (List.drop n)).getD i [] = [] := by simp [List.getD, hdM.1, Nat.le_of_not_lt hi]
              rw [e]; exact Bys.nil)
          have HML2 := Lib.hid hML
          have hkn := hkn.symm
          rename World => wm
          clear hML
          subst hkn
          go_wp2_with fail
          go_loopw [17, 18] (fun o i wr => ∃ (q : Nat) (gq : List (Nat × Nat)), q ≤ n ∧ i = .int .i64 (q : Nat) ∧ MatC wr wm.heap.size n o gq ((M.map (List.drop n)).take q) ∧ Add wm wr) (fun _ i _ => n - (intOf i).toNat)
          case atStart => exact ⟨0, [], Nat.zero_le _, rfl, ⟨World.ownsRow_nil _ _ _ _, ⟨rfl, fun i hi => by cases hi⟩, List.nodup_nil, fun x hx => by cases hx⟩, Below.refl _ _⟩
          case round =>
            obtain ⟨q, gq, hq, rfl, hmq, hadq⟩ := hrel
            by_cases hqn : q = n
            · have HEND : Hid (RowsB wr u17 (gq.map (hdrC n)) (M.map (List.drop n)) ∧ Add w wr) := Lib.hid (by
                have e : (M.map (List.drop n)).take q = M.map (List.drop n) := List.take_of_length_le (by rw [HML2.out]; omega)
                rw [e] at hmq
                exact ⟨hmq.rows HBR.out, Add.trans HADD.out hadq⟩)
              have hqn := hqn.symm
              clear hmq hadq
              subst hqn
              go_wp2_with fail
              go_ret2
              rw [HF.out]
              exact ⟨_, _, rfl, HEND.out.1, HEND.out.2⟩
            · have hqlt : q < n := by omega
              have hmt := HMAT.out.below hadq
              have hct := hmt.cell HGL.out hqlt
              have hrt := hmt.2.1.2 q (by rw [hdM.1]; exact hqlt)
              obtain ⟨⟨g, cp⟩, eg⟩ : ∃ y, y = gs.getD q (0, 0) := ⟨_, rfl⟩
              obtain ⟨row, erow⟩ : ∃ row, row = M.getD q [] := ⟨_, rfl⟩
              rw [← eg] at hct hrt
              rw [← erow] at hrt
              simp only at hct hrt
              have hcap := hrt.caps.1
              have hgq : gq.length = q := by rw [hmq.2.1.1, List.length_take, HML2.out]; omega
              have hdl : (row.drop n).length = n := by rw [List.length_drop, hrt.1]; omega
              have HCELLS : Hid (∀ j u, ((row.drop n).map lim)[j]? = some u → wr.cell? ((⟨g, n, none⟩ : Addr).add j) = some u) := Lib.hid fun j u hj => by
                rw [List.getElem?_map] at hj
                have hjl : j < (row.drop n).length := by
                  rcases Nat.lt_or_ge j (row.drop n).length with h1 | h1
                  · exact h1
                  · rw [List.getElem?_eq_none h1] at hj; simp at hj
                rw [Addr.add_lit, hrt.cell (i := n + j) (by omega)]
                rw [List.getElem?_drop] at hj
                have h5 : n + j < row.length := by rw [hrt.1]; omega
                simp [List.getD, h5, lim] at hj ⊢
                exact hj
              have HNXT : Hid ((M.map (List.drop n)).take (q + 1) = (M.map (List.drop n)).take q ++ [row.drop n]) := Lib.hid (by
                have h6 : q < (M.map (List.drop n)).length := by rw [HML2.out]; exact hqlt
                have h7 : q < M.length := by rw [hdM.1]; exact hqlt
                rw [List.take_succ_eq_append_getElem h6, erow]
                simp [List.getD, h7])
              have HMQ := Lib.hid hmq
              have HADQ := Lib.hid hadq
              have HDL := Lib.hid hdl
              have HGQ := Lib.hid hgq
              have h2n : 2 * n - n = n := by omega
              have hcpn : n < cp := by omega
              rename World => wq
              clear hmq hadq hmt hrt eg erow hgq hdl hqn
              go_wp2_with (at_builtin; refine wpList_append_own _ rfl _ _ 32 rfl wq.heap.size 5 i0 (.int .u8 0) 1 1 Try.underlying32 hi hz0 hz1 hz2 rfl (by decide) (.slice none 0 0) 0 [] rfl (World.ownsRow_nil _ _ _ _) ⟨g, n, none⟩ n (cp - n) ((row.drop n).map lim) rfl (by rw [List.length_map, HDL.out, Nat.mul_one]) HCELLS.out (lim_one _) (by unfold maxLen; omega) (by omega) (Nat.le_refl _) ?_)
              intro v1 w1 hown1 hgr1 _
              have HV1 : Hid (OwnB w1 wq.heap.size v1 (row.drop n)) := Lib.hid (by unfold OwnB; rw [HDL.out, List.map_drop]; exact hown1)
              have HAD1 : Hid (Add wq w1) := Lib.hid ((Below.refl _ _).grown hgr1 (Nat.le_refl _) (fun q hq => by cases hq))
              clear hown1 hgr1
              obtain ⟨g2, cap2, rfl, hbg2, hrc2⟩ := HV1.out.rowC (by rw [HDL.out]; exact h0)
              rw [HDL.out] at hrc2 ⊢
              have hmat2 := HMQ.out.below HAD1.out
              have hfr : ∀ x ∈ gq, x.1 ≠ g2 := fun x hx e => by have := HMQ.out.lt.2 x hx; omega
              have hadd2 := Add.trans HADQ.out HAD1.out
              have HPUSH : Hid (∀ v' w3 o, (w1.alloc o).grownBy w3 u17.ownBlock → w3.ownsRow wm.heap.size 32 1 v' (q + 1) (gq.map (hdrC n) ++ [.slice (some ⟨g2, 0, none⟩) n cap2]) → MatC w3 wm.heap.size n v' (gq ++ [(g2, cap2)]) ((M.map (List.drop n)).take (q + 1)) ∧ Add wm w3) := Lib.hid fun v' w3 o h1 h2 => by
                refine ⟨?_, Below.grown (hadd2.alloc hadd2.size o) h1 (by have := hadd2.size; simp; omega) (fun q hq => (own_baseE hmat2.1 hq).1)⟩
                rw [HNXT.out]
                exact hmat2.push hrc2 (Nat.le_trans HADQ.out.size hbg2) hfr h1 (by rw [HGQ.out]; exact h2)
              have hownV := hmat2.1
              have hsz2 := hadd2.size
              have hgl := HGQ.out
              clear hmat2 hadd2 hrc2 hfr
              go_wp2_with (at_builtin; refine wpList_append_own _ rfl _ _ 22 rfl wm.heap.size 32 i1 (.slice none 0 0) 1 24 Try.underlying22 hi1 hy0 hy1 hy2 rfl (by decide) _ _ _ rfl (World.ownsRow.alloc hownV _) ⟨w1.heap.size, 0, none⟩ 1 1 [_] rfl rfl (Go.cell_one_new _ _ _) (by intro u hu; simp at hu; subst hu; rfl) (by unfold maxLen; omega) (by omega) (by simp; omega) ?_)
              intro v' w3 hown3 hgr3 _
              have HEND := Lib.hid (HPUSH.out v' w3 _ hgr3 hown3)
              clear hown3 hgr3 hownV
              go_wp2_with fail
              go_roundw
              case rel => exact ⟨q + 1, _, by omega, by go_num, HEND.out.1, HEND.out.2⟩
              case measure => simp [intOf]; omega
        · have hlt : k < n := by omega
          obtain ⟨fp, efp⟩ : ∃ fp, fp = findP M k (n - k) k := ⟨_, rfl⟩
          have EFP := Lib.hid efp
          have HNEXT : Hid (elimTo M0 (k + 1) = nextM M k fp) := Lib.hid (by rw [elimTo_succ HEL.out, elimAt_next, hdM.1, efp])
          clear efp hkn
          go_wp2_with fail
          go_loop [10] (fun i => ∃ p : Nat, k ≤ p ∧ p ≤ n ∧ i = .int .i64 (p : Nat) ∧ findP M k (n - p) p = fp) (fun i => n - (intOf i).toNat)
          case atStart => exact ⟨k, Nat.le_refl _, by omega, rfl, EFP.out.symm⟩
          case round =>
            obtain ⟨p, hkp, hp, rfl, hfp⟩ := hrel
            by_cases hpn : p = n
            · have hf : fp = none := by rw [← hfp, hpn, Nat.sub_self]; rfl
              have HF : Hid (res = none) := Lib.hid (by
                have h1 : elimTo M0 (k + 1) = none := by rw [HNEXT.out, hf]; rfl
                rw [HRES.out, elimTo_none h1 (by omega)]; rfl)
              have hpn := hpn.symm
              clear hfp hf
              subst hpn
              go_wp2_with fail
              go_ret2
              rw [HF.out]
              exact ⟨rfl, HADD.out⟩
            · have hplt : p < n := by omega
              have hc := HMAT.out.cell HGL.out hplt
              have hr := HMAT.out.2.1.2 p (by rw [hdM.1]; exact hplt)
              obtain ⟨⟨g, cp⟩, eg⟩ : ∃ x, x = gs.getD p (0, 0) := ⟨_, rfl⟩
              rw [← eg] at hc hr
              simp only at hc hr
              have hz := hr.cell (i := k) (by omega)
              obtain ⟨z, ez⟩ : ∃ z, z = (M.getD p []).getD k 0 := ⟨_, rfl⟩
              rw [← ez] at hz
              have HFP := Lib.hid hfp
              have EZ := Lib.hid ez
              have EG := Lib.hid eg
              clear hr hfp ez eg hpn
              by_cases hz0 : z = 0
              · have HR2 : Hid (findP M k (n - (p + 1)) (p + 1) = fp) := Lib.hid (by rw [← findP_step hplt (by rw [← EZ.out]; exact hz0)]; exact HFP.out)
                subst hz0
                go_wp2_with fail
                go_round
                case rel => exact ⟨p + 1, by omega, by omega, by go_num, HR2.out⟩
                case measure => simp [intOf]; omega
              · have hbz : ((z : Int) == 0) = false := by rw [beq_eq_false_iff_ne]; omega
                have hf : fp = some p := by rw [← HFP.out]; exact findP_hit hplt (by rw [← EZ.out]; exact hz0)
                have HN2 : Hid (elimTo M0 (k + 1) = some (clearC (swapAt [] M p k) k)) := Lib.hid (by rw [HNEXT.out, hf]; rfl)
                have hbp : ((p : Int) == (n : Int)) = false := by rw [beq_eq_false_iff_ne]; omega
                have hc2 := HMAT.out.cell HGL.out hlt
                have hf1 := HMAT.out.free HGL.out p
                have hf2 := HMAT.out.free HGL.out k
                obtain ⟨⟨g2, cp2⟩, eg2⟩ : ∃ x, x = gs.getD k (0, 0) := ⟨_, rfl⟩
                rw [← eg2] at hc2
                simp only at hc2
                have HSW := Lib.hid (fun w' e => HMAT.out.swap (w' := w') HGL.out hplt hlt e)
                rw [← eg2, ← EG.out] at HSW
                unfold hdrC at HSW
                clear hf hz0 eg2
                obtain ⟨W2, hW2⟩ : ∃ W2, W2 = ((wr.setCell ⟨G, p, none⟩ (.slice (some ⟨g2, 0, none⟩) (2 * n) cp2)).setCell ⟨G, k, none⟩ (.slice (some ⟨g, 0, none⟩) (2 * n) cp)).drew := ⟨_, rfl⟩
                have HMAT2 : Hid (MatC W2 w.heap.size (2 * n) (.slice (some ⟨G, 0, none⟩) n cap) (swapAt (0, 0) gs p k) (swapAt [] M p k)) := Lib.hid (by rw [hW2]; exact (HSW.out _ rfl).1)
                have HADD2 : Hid (Add w W2) := Lib.hid (by rw [hW2]; exact below_drewN (HADD.out.grown (HSW.out _ rfl).2 HADD.out.size (fun j hj => by cases hj; exact hbG)) 1)
                have EW := Lib.hid hW2
                clear hW2 HSW
                by_cases hpk : p = k
                · have hpk := hpk.symm
                  subst hpk
                  have e2 : g2 = g ∧ cp2 = cp := by rw [hc] at hc2; cases hc2; exact ⟨rfl, rfl⟩
                  obtain ⟨rfl, rfl⟩ := e2
                  clear hc2
                  go_wp2_with fail
                  go_region
                  all_goals
                    rw [← EW.out]
                    have hdS : Dim n (2 * n) (swapAt [] M k k) := swap_dim hdM hplt hlt
                    obtain ⟨S, eS⟩ : ∃ S, S = swapAt [] M k k := ⟨_, rfl⟩
                    obtain ⟨gs2, eg2⟩ : ∃ x, x = swapAt (0, 0) gs k k := ⟨_, rfl⟩
                    have hgl2 : gs2.length = n := by rw [eg2, length_swapAt]; exact HGL.out
                    have hmat2 := HMAT2.out
                    rw [← eS, ← eg2] at hmat2
                    rw [← eS] at hdS
                    have HN3 : Hid (elimTo M0 (k + 1) = some (clearC S k)) := Lib.hid (by rw [eS]; exact HN2.out)
                    obtain ⟨row, erow⟩ : ∃ row, row = S.getD k [] := ⟨_, rfl⟩
                    obtain ⟨z', ez'⟩ : ∃ z', z' = row.getD k 0 := ⟨_, rfl⟩
                    obtain ⟨x, ex⟩ : ∃ x, x = iv z' := ⟨_, rfl⟩
                    obtain ⟨er, eer⟩ : ∃ er, er = zE z' := ⟨_, rfl⟩
                    have hbrow : Bys row := by rw [erow]; exact hdS.2.2 k
                    have hz256 : z' < 256 := by rw [ez']; exact hbrow.get k
                    have hx256 : x < 256 := by rw [ex]; exact iv_lt z'
                    have CI : Hid (∀ w, Calls Try.prog 38 #[.int .u8 (z' : Nat)] w (RetBE w x er)) := Lib.hid fun w => by rw [ex, eer]; exact refInv_any z' hz256 w
                    have hcT := hmat2.cell hgl2 hlt
                    have hrw := hmat2.2.1.2 k (by rw [hdS.1]; exact hlt)
                    obtain ⟨⟨gk, ck⟩, egk⟩ : ∃ y, y = gs2.getD k (0, 0) := ⟨_, rfl⟩
                    rw [← egk] at hcT hrw
                    rw [← erow] at hrw
                    simp only at hcT hrw
                    have hrl : row.length = 2 * n := hrw.1
                    have hzc := hrw.cell (i := k) (by omega)
                    rw [← ez'] at hzc
                    have HCL : Hid (clearC S k = clr k (row.map (gm x)) n (S.set k (row.map (gm x)))) := Lib.hid (by
                      have e0 : (S.getD k []).getD k 0 = z' := by rw [← erow, ← ez']
                      unfold clearC; rw [e0, ← erow, ← ex, hdS.1])
                    have hneG : some G ≠ some gk := fun e => own_neC hmat2.1 hrw e.symm
                    have HFAR : Hid (∀ wq, W2.grownBy wq (some gk) → wq.cell? ⟨G, k, none⟩ = some (.slice (some ⟨gk, 0, none⟩) (2 * n) ck)) := Lib.hid fun wq hg => by
                      rw [hg.cell_far ⟨G, k, none⟩ (World.block_lt_of_cell? W2 _ hcT) hneG]; exact hcT
                    have HM2 := Lib.hid hmat2
                    have HROW := Lib.hid hrw
                    have HRL := Lib.hid hrl
                    have EGK := Lib.hid egk
                    have EROW := Lib.hid erow
                    have HGL2 := Lib.hid hgl2
                    clear hmat2 hrw hrl egk erow ez' ex eer eS eg2 hneG hgl2
                    go_wp2_with (go_at_call 38; (with_reducible refine (CI.out _).mono ?_); rintro e w' ⟨rfl, rfl⟩)
                    clear hcT hzc
                    go_loopw [13] (fun i wr => ∃ q : Nat, q ≤ 2 * n ∧ i = .int .i64 (q : Nat) ∧ RowC wr gk ck (2 * n) (scaleTo x row q) ∧ W2.grownBy wr (some gk)) (fun i _ => 2 * n - (intOf i).toNat)
                    case atStart => exact ⟨0, Nat.zero_le _, rfl, by rw [scaleTo_zero]; exact HROW.out, grown_of_below (Below.refl _ _) _⟩
                    case round =>
                      obtain ⟨q, hq, rfl, hrow, hg⟩ := hrel
                      by_cases hqn : q = 2 * n
                      · obtain ⟨pr, epr⟩ : ∃ pr, pr = row.map (gm x) := ⟨_, rfl⟩
                        obtain ⟨M1, eM1⟩ : ∃ M1, M1 = S.set k pr := ⟨_, rfl⟩
                        have hp : RowC wr gk ck (2 * n) pr := by rw [hqn, ← HRL.out, scaleTo_all, ← epr, HRL.out] at hrow; exact hrow
                        have hM1 : MatC wr w.heap.size (2 * n) (.slice (some ⟨G, 0, none⟩) n cap) gs2 M1 := by
                          rw [eM1]; exact HM2.out.write (i := k) (by rw [hdS.1]; exact hlt) (by rw [← EGK.out]; exact hg) (by rw [← EGK.out]; exact hp)
                        have hadd1 : Add w wr := HM2.out.add rfl HADD2.out (i := k) (by rw [HGL2.out]; exact hlt) (by rw [← EGK.out]; exact hg)
                        have hb1 : BysM M1 := by rw [eM1, epr]; exact hdS.2.2.set (bys_scale hx256) k
                        have hl1 : M1.length = n := by rw [eM1, List.length_set]; exact hdS.1
                        have hpj : M1.getD k [] = pr := by rw [eM1, getD_set [] S k k pr (by rw [hdS.1]; exact hlt), if_pos rfl]
                        have HM1 := Lib.hid hM1
                        have HADD1 := Lib.hid hadd1
                        have HL1 := Lib.hid hl1
                        have HPJ := Lib.hid hpj
                        have HPL : Hid (pr.length = 2 * n) := Lib.hid hp.1
                        have HC2 : Hid (clearC S k = clr k pr n M1) := Lib.hid (by rw [HCL.out, eM1, epr])
                        have HQN := Lib.hid hqn
                        clear hrow hg hp hM1 hadd1 hl1 hpj epr eM1
                        have hq1 : 2 * n ≤ q := by omega
                        have hq2 : q ≤ 2 * n := by omega
                        clear hqn hq
                        go_wp2_with fail
                        go_loopw [14] (fun i wr => ∃ r : Nat, r ≤ n ∧ i = .int .i64 (r : Nat) ∧ MatC wr w.heap.size (2 * n) (.slice (some ⟨G, 0, none⟩) n cap) gs2 (clr k pr r M1) ∧ Add w wr) (fun i _ => n - (intOf i).toNat)
                        case atStart => exact ⟨0, Nat.zero_le _, rfl, HM1.out, HADD1.out⟩
                        case round =>
                          obtain ⟨r, hr, rfl, hmat, hadd⟩ := hrel
                          by_cases hrn : r = n
                          · have HF : Hid (MatC wr w.heap.size (2 * n) (.slice (some ⟨G, 0, none⟩) n cap) gs2 (clearC S k)) := Lib.hid (by
                              have e : clr k pr r M1 = clearC S k := by rw [HC2.out, hrn]
                              rw [← e]; exact hmat)
                            have HA := Lib.hid hadd
                            have hrn := hrn.symm
                            clear hmat hadd
                            subst hrn
                            go_wp2_with fail
                            go_roundw
                            case rel => exact ⟨k + 1, _, _, by omega, by go_num, HN3.out, HF.out, HA.out⟩
                            case measure => simp [intOf]; omega
                          · have hrlt : r < n := by omega
                            have hlr : r < (clr k pr r M1).length := by rw [length_clr, HL1.out]; exact hrlt
                            have hlk : k < (clr k pr r M1).length := by rw [length_clr, HL1.out]; exact hlt
                            have hcr := hmat.cell HGL2.out hrlt
                            have hck := hmat.cell HGL2.out hlt
                            have hrr := hmat.2.1.2 r hlr
                            have hrk := hmat.2.1.2 k hlk
                            rw [clr_j, HPJ.out] at hrk
                            obtain ⟨⟨gr, cr2⟩, egr⟩ : ∃ y, y = gs2.getD r (0, 0) := ⟨_, rfl⟩
                            obtain ⟨rq, erq⟩ : ∃ rq, rq = (clr k pr r M1).getD r [] := ⟨_, rfl⟩
                            rw [← egr] at hcr hrr
                            rw [← EGK.out] at hck hrk
                            rw [← erq] at hrr
                            simp only at hcr hck hrr hrk
                            have hcf := hrr.cell (i := k) (by omega)
                            obtain ⟨f, ef⟩ : ∃ f, f = rq.getD k 0 := ⟨_, rfl⟩
                            rw [← ef] at hcf
                            have hbrq : Bys rq := by rw [erq]; exact (bys_clr (j := k) (p := pr) (k := r) hb1) r
                            have hf256 : f < 256 := by rw [ef]; exact hbrq.get k
                            have hbpr : Bys pr := by have := hb1 k; rw [HPJ.out] at this; exact this
                            by_cases hrkk : r = k
                            · have HF : Hid (MatC wr w.heap.size (2 * n) (.slice (some ⟨G, 0, none⟩) n cap) gs2 (clr k pr (r + 1) M1)) := Lib.hid (by rw [clr, if_pos hrkk]; exact hmat)
                              have HA := Lib.hid hadd
                              have hbr : ((r : Int) != (k : Int)) = false := by simp [hrkk]
                              clear hmat hadd hrn hrkk egr erq ef hrr hrk hlr hlk hck
                              go_wp2_with fail
                              rename World => wm
                              go_loop [16] (fun i => i = .int .i64 0) (fun _ => 0)
                              case atStart => rfl
                              case round =>
                                obtain rfl := hrel
                                go_wp2_with fail
                                go_roundw
                                case rel => exact ⟨r + 1, by omega, by go_num, HF.out, HA.out⟩
                                case measure => simp [intOf]; omega
                            · have hbr : ((r : Int) != (k : Int)) = true := by simp only [bne_iff_ne, ne_eq]; omega
                              have hneG1 : some G ≠ some gr := fun e => own_neC hmat.1 hrr e.symm
                              have hgg : gk ≠ gr := by
                                have := nodup_getD hmat.2.2.1 (by rw [List.length_map, HGL2.out]; exact hlt) (by rw [List.length_map, HGL2.out]; exact hrlt) (fun e => hrkk e.symm)
                                rw [getD_pair _ (by rw [HGL2.out]; exact hlt), getD_pair _ (by rw [HGL2.out]; exact hrlt), ← EGK.out, ← egr] at this
                                exact this
                              rename World => wm
                              have HF1 : Hid (∀ wq, wm.grownBy wq (some gr) → wq.cell? ⟨G, r, none⟩ = some (.slice (some ⟨gr, 0, none⟩) (2 * n) cr2) ∧ wq.cell? ⟨G, k, none⟩ = some (.slice (some ⟨gk, 0, none⟩) (2 * n) ck) ∧ RowC wq gk ck (2 * n) pr) := Lib.hid fun wq hg => by
                                refine ⟨?_, ?_, hrk.kept hg (fun e => hgg (Option.some.inj e))⟩
                                · rw [hg.cell_far ⟨G, r, none⟩ (World.block_lt_of_cell? wm _ hcr) hneG1]; exact hcr
                                · rw [hg.cell_far ⟨G, k, none⟩ (World.block_lt_of_cell? wm _ hck) hneG1]; exact hck
                              have HEND : Hid (∀ wq, RowC wq gr cr2 (2 * n) (addTo rq f pr) → wm.grownBy wq (some gr) → MatC wq w.heap.size (2 * n) (.slice (some ⟨G, 0, none⟩) n cap) gs2 (clr k pr (r + 1) M1) ∧ Add w wq) := Lib.hid fun wq h1 h2 => by
                                refine ⟨?_, hmat.add rfl hadd (i := r) (by rw [HGL2.out]; exact hrlt) (by rw [← egr]; exact h2)⟩
                                rw [clr, if_neg hrkk, ← erq, ← ef]
                                exact hmat.write hlr (by rw [← egr]; exact h2) (by rw [← egr]; exact h1)
                              have HRR := Lib.hid hrr
                              clear hmat hadd hrn hrkk egr erq ef hrr hrk hlr hlk hck hneG1 hgg
                              go_wp2_with fail
                              go_loopw [16] (fun i wr => ∃ m : Nat, m ≤ 2 * n ∧ i = .int .i64 (m : Nat) ∧ RowC wr gr cr2 (2 * n) (addTo rq f (pr.take m)) ∧ wm.grownBy wr (some gr)) (fun i _ => 2 * n - (intOf i).toNat)
                              case atStart => exact ⟨0, Nat.zero_le _, rfl, by rw [List.take_zero, addTo_nil]; exact HRR.out, grown_of_below (Below.refl _ _) _⟩
                              case round =>
                                obtain ⟨m, hm, rfl, hrow, hg⟩ := hrel
                                by_cases hmn : m = 2 * n
                                · have HX := Lib.hid (HEND.out wr (by
                                    have e : pr.take m = pr := by rw [hmn, ← HPL.out, List.take_length]
                                    rw [e] at hrow; exact hrow) hg)
                                  have hm1 : 2 * n ≤ m := by omega
                                  clear hrow hg hmn
                                  go_wp2_with fail
                                  go_roundw
                                  case rel => exact ⟨r + 1, by omega, by go_num, HX.out.1, HX.out.2⟩
                                  case measure => simp [intOf]; omega
                                · have hmlt : m < 2 * n := by omega
                                  obtain ⟨hcr1, hck1, hrk1⟩ := HF1.out wr hg
                                  have hcx := hrk1.cell hmlt
                                  have hcz := hrow.cell hmlt
                                  rw [getD_addTo rq f pr m (by rw [HRR.out.1]; exact hmlt)] at hcz
                                  have hfree := hrow.free m
                                  obtain ⟨z2, ez2⟩ : ∃ z2, z2 = rq.getD m 0 := ⟨_, rfl⟩
                                  obtain ⟨x2, ex2⟩ : ∃ x2, x2 = pr.getD m 0 := ⟨_, rfl⟩
                                  have hz2b : z2 < 256 := by rw [ez2]; exact hbrq.get m
                                  have hx2b : x2 < 256 := by rw [ex2]; exact hbpr.get m
                                  rw [← ez2] at hcz
                                  rw [← ex2] at hcx
                                  obtain ⟨p2, ep2⟩ : ∃ p2, p2 = gm f x2 := ⟨_, rfl⟩
                                  obtain ⟨s, es⟩ : ∃ s, s = z2 ^^^ p2 := ⟨_, rfl⟩
                                  have C1 : Hid (∀ w, Calls Try.prog 24 #[.int .u8 (f : Nat), .int .u8 (x2 : Nat)] w (RetB w p2)) := Lib.hid fun w => by rw [ep2]; exact refMul_any f x2 hf256 hx2b w
                                  have hxor : bits .xor .u8 (z2 : Int) (p2 : Int) = (s : Int) := by rw [es]; exact u8_xor_nat z2 p2 hz2b (by rw [ep2]; exact gm_lt hf256)
                                  have HROW2 : Hid (RowC (wr.setCell ⟨gr, m, none⟩ (.int .u8 (s : Nat))) gr cr2 (2 * n) (addTo rq f (pr.take (m + 1)))) := Lib.hid (by
                                    have := hrow.set m s
                                    rw [es, ep2, ez2, ex2, addTo_step rq f pr m (by rw [HRR.out.1]; exact hmlt) (by rw [HPL.out]; exact hmlt)] at this
                                    rw [es, ep2, ez2, ex2]; exact this)
                                  have HGG := Lib.hid (grown_trans hg (grown_setCell (w := wr) (g := gr) m (.int .u8 (s : Nat))))
                                  clear hrow hg ez2 ex2 ep2 es hmn hz2b hx2b hrk1
                                  go_wp2_with fail
                                  go_still_tail 23, (by kernel_rfl)
                                  still_call ((C1.out _).mono fun _ _ h => ⟨h.1, h.2.symm⟩)
                                  repeat still_step
                                  try refine wpStill_nil ?_
                                  change wpList _ _ _ _ _ wr.drew
                                  go_wp2_with fail
                                  go_roundw
                                  case rel => exact ⟨m + 1, by omega, by go_num, HROW2.out, by first | exact grown_drewN HGG.out 1 | exact HGG.out⟩
                                  case measure => simp [intOf]; omega
                      · have hqlt : q < 2 * n := by omega
                        have hcT := HFAR.out wr hg
                        have hcz := hrow.cell hqlt
                        rw [getD_scaleTo (by rw [HRL.out]; exact hqlt)] at hcz
                        have hfree := hrow.free q
                        obtain ⟨y, ey⟩ : ∃ y, y = row.getD q 0 := ⟨_, rfl⟩
                        have hy : y < 256 := by rw [ey]; exact hbrow.get q
                        obtain ⟨s, es⟩ : ∃ s, s = gm y x := ⟨_, rfl⟩
                        rw [← ey] at hcz
                        have C1 : Hid (∀ w, Calls Try.prog 24 #[.int .u8 (y : Nat), .int .u8 (x : Nat)] w (RetB w s)) := Lib.hid fun w => by rw [es]; exact refMul_any y x hy hx256 w
                        have HROW2 : Hid (RowC (wr.setCell ⟨gk, q, none⟩ (.int .u8 (s : Nat))) gk ck (2 * n) (scaleTo x row (q + 1))) := Lib.hid (by
                          have := hrow.set q s
                          rw [es, gm_comm hy hx256, ey, scaleTo_step (by rw [HRL.out]; exact hqlt)] at this
                          rw [es, gm_comm hy hx256, ey]; exact this)
                        have HGG := Lib.hid (grown_trans hg (grown_setCell (w := wr) (g := gk) q (.int .u8 (s : Nat))))
                        clear hrow hg ey es hqn
                        go_wp2_with fail
                        go_still_tail 15, (by kernel_rfl)
                        still_call ((C1.out _).mono fun _ _ h => ⟨h.1, h.2.symm⟩)
                        repeat still_step
                        try refine wpStill_nil ?_
                        change wpList _ _ _ _ _ wr.drew
                        go_wp2_with fail
                        go_roundw
                        case rel => exact ⟨q + 1, by omega, by go_num, HROW2.out, by first | exact grown_drewN HGG.out 1 | exact HGG.out⟩
                        case measure => simp [intOf]; omega
                · go_wp2_with fail
                  go_region
                  all_goals
                    rw [← EW.out]
                    have hdS : Dim n (2 * n) (swapAt [] M p k) := swap_dim hdM hplt hlt
                    obtain ⟨S, eS⟩ : ∃ S, S = swapAt [] M p k := ⟨_, rfl⟩
                    obtain ⟨gs2, eg2⟩ : ∃ x, x = swapAt (0, 0) gs p k := ⟨_, rfl⟩
                    have hgl2 : gs2.length = n := by rw [eg2, length_swapAt]; exact HGL.out
                    have hmat2 := HMAT2.out
                    rw [← eS, ← eg2] at hmat2
                    rw [← eS] at hdS
                    have HN3 : Hid (elimTo M0 (k + 1) = some (clearC S k)) := Lib.hid (by rw [eS]; exact HN2.out)
                    obtain ⟨row, erow⟩ : ∃ row, row = S.getD k [] := ⟨_, rfl⟩
                    obtain ⟨z', ez'⟩ : ∃ z', z' = row.getD k 0 := ⟨_, rfl⟩
                    obtain ⟨x, ex⟩ : ∃ x, x = iv z' := ⟨_, rfl⟩
                    obtain ⟨er, eer⟩ : ∃ er, er = zE z' := ⟨_, rfl⟩
                    have hbrow : Bys row := by rw [erow]; exact hdS.2.2 k
                    have hz256 : z' < 256 := by rw [ez']; exact hbrow.get k
                    have hx256 : x < 256 := by rw [ex]; exact iv_lt z'
                    have CI : Hid (∀ w, Calls Try.prog 38 #[.int .u8 (z' : Nat)] w (RetBE w x er)) := Lib.hid fun w => by rw [ex, eer]; exact refInv_any z' hz256 w
                    have hcT := hmat2.cell hgl2 hlt
                    have hrw := hmat2.2.1.2 k (by rw [hdS.1]; exact hlt)
                    obtain ⟨⟨gk, ck⟩, egk⟩ : ∃ y, y = gs2.getD k (0, 0) := ⟨_, rfl⟩
                    rw [← egk] at hcT hrw
                    rw [← erow] at hrw
                    simp only at hcT hrw
                    have hrl : row.length = 2 * n := hrw.1
                    have hzc := hrw.cell (i := k) (by omega)
                    rw [← ez'] at hzc
                    have HCL : Hid (clearC S k = clr k (row.map (gm x)) n (S.set k (row.map (gm x)))) := Lib.hid (by
                      have e0 : (S.getD k []).getD k 0 = z' := by rw [← erow, ← ez']
                      unfold clearC; rw [e0, ← erow, ← ex, hdS.1])
                    have hneG : some G ≠ some gk := fun e => own_neC hmat2.1 hrw e.symm
                    have HFAR : Hid (∀ wq, W2.grownBy wq (some gk) → wq.cell? ⟨G, k, none⟩ = some (.slice (some ⟨gk, 0, none⟩) (2 * n) ck)) := Lib.hid fun wq hg => by
                      rw [hg.cell_far ⟨G, k, none⟩ (World.block_lt_of_cell? W2 _ hcT) hneG]; exact hcT
                    have HM2 := Lib.hid hmat2
                    have HROW := Lib.hid hrw
                    have HRL := Lib.hid hrl
                    have EGK := Lib.hid egk
                    have EROW := Lib.hid erow
                    have HGL2 := Lib.hid hgl2
                    clear hmat2 hrw hrl egk erow ez' ex eer eS eg2 hneG hgl2
                    go_wp2_with (go_at_call 38; (with_reducible refine (CI.out _).mono ?_); rintro e w' ⟨rfl, rfl⟩)
                    clear hcT hzc
                    go_loopw [13] (fun i wr => ∃ q : Nat, q ≤ 2 * n ∧ i = .int .i64 (q : Nat) ∧ RowC wr gk ck (2 * n) (scaleTo x row q) ∧ W2.grownBy wr (some gk)) (fun i _ => 2 * n - (intOf i).toNat)
                    case atStart => exact ⟨0, Nat.zero_le _, rfl, by rw [scaleTo_zero]; exact HROW.out, grown_of_below (Below.refl _ _) _⟩
                    case round =>
                      obtain ⟨q, hq, rfl, hrow, hg⟩ := hrel
                      by_cases hqn : q = 2 * n
                      · obtain ⟨pr, epr⟩ : ∃ pr, pr = row.map (gm x) := ⟨_, rfl⟩
                        obtain ⟨M1, eM1⟩ : ∃ M1, M1 = S.set k pr := ⟨_, rfl⟩
                        have hp : RowC wr gk ck (2 * n) pr := by rw [hqn, ← HRL.out, scaleTo_all, ← epr, HRL.out] at hrow; exact hrow
                        have hM1 : MatC wr w.heap.size (2 * n) (.slice (some ⟨G, 0, none⟩) n cap) gs2 M1 := by
                          rw [eM1]; exact HM2.out.write (i := k) (by rw [hdS.1]; exact hlt) (by rw [← EGK.out]; exact hg) (by rw [← EGK.out]; exact hp)
                        have hadd1 : Add w wr := HM2.out.add rfl HADD2.out (i := k) (by rw [HGL2.out]; exact hlt) (by rw [← EGK.out]; exact hg)
                        have hb1 : BysM M1 := by rw [eM1, epr]; exact hdS.2.2.set (bys_scale hx256) k
                        have hl1 : M1.length = n := by rw [eM1, List.length_set]; exact hdS.1
                        have hpj : M1.getD k [] = pr := by rw [eM1, getD_set [] S k k pr (by rw [hdS.1]; exact hlt), if_pos rfl]
                        have HM1 := Lib.hid hM1
                        have HADD1 := Lib.hid hadd1
                        have HL1 := Lib.hid hl1
                        have HPJ := Lib.hid hpj
                        have HPL : Hid (pr.length = 2 * n) := Lib.hid hp.1
                        have HC2 : Hid (clearC S k = clr k pr n M1) := Lib.hid (by rw [HCL.out, eM1, epr])
                        have HQN := Lib.hid hqn
                        clear hrow hg hp hM1 hadd1 hl1 hpj epr eM1
                        have hq1 : 2 * n ≤ q := by omega
                        have hq2 : q ≤ 2 * n := by omega
                        clear hqn hq
                        go_wp2_with fail
                        go_loopw [14] (fun i wr => ∃ r : Nat, r ≤ n ∧ i = .int .i64 (r : Nat) ∧ MatC wr w.heap.size (2 * n) (.slice (some ⟨G, 0, none⟩) n cap) gs2 (clr k pr r M1) ∧ Add w wr) (fun i _ => n - (intOf i).toNat)
                        case atStart => exact ⟨0, Nat.zero_le _, rfl, HM1.out, HADD1.out⟩
                        case round =>
                          obtain ⟨r, hr, rfl, hmat, hadd⟩ := hrel
                          by_cases hrn : r = n
                          · have HF : Hid (MatC wr w.heap.size (2 * n) (.slice (some ⟨G, 0, none⟩) n cap) gs2 (clearC S k)) := Lib.hid (by
                              have e : clr k pr r M1 = clearC S k := by rw [HC2.out, hrn]
                              rw [← e]; exact hmat)
                            have HA := Lib.hid hadd
                            have hrn := hrn.symm
                            clear hmat hadd
                            subst hrn
                            go_wp2_with fail
                            go_roundw
                            case rel => exact ⟨k + 1, _, _, by omega, by go_num, HN3.out, HF.out, HA.out⟩
                            case measure => simp [intOf]; omega
                          · have hrlt : r < n := by omega
                            have hlr : r < (clr k pr r M1).length := by rw [length_clr, HL1.out]; exact hrlt
                            have hlk : k < (clr k pr r M1).length := by rw [length_clr, HL1.out]; exact hlt
                            have hcr := hmat.cell HGL2.out hrlt
                            have hck := hmat.cell HGL2.out hlt
                            have hrr := hmat.2.1.2 r hlr
                            have hrk := hmat.2.1.2 k hlk
                            rw [clr_j, HPJ.out] at hrk
                            obtain ⟨⟨gr, cr2⟩, egr⟩ : ∃ y, y = gs2.getD r (0, 0) := ⟨_, rfl⟩
                            obtain ⟨rq, erq⟩ : ∃ rq, rq = (clr k pr r M1).getD r [] := ⟨_, rfl⟩
                            rw [← egr] at hcr hrr
                            rw [← EGK.out] at hck hrk
                            rw [← erq] at hrr
                            simp only at hcr hck hrr hrk
                            have hcf := hrr.cell (i := k) (by omega)
                            obtain ⟨f, ef⟩ : ∃ f, f = rq.getD k 0 := ⟨_, rfl⟩
                            rw [← ef] at hcf
                            have hbrq : Bys rq := by rw [erq]; exact (bys_clr (j := k) (p := pr) (k := r) hb1) r
                            have hf256 : f < 256 := by rw [ef]; exact hbrq.get k
                            have hbpr : Bys pr := by have := hb1 k; rw [HPJ.out] at this; exact this
                            by_cases hrkk : r = k
                            · have HF : Hid (MatC wr w.heap.size (2 * n) (.slice (some ⟨G, 0, none⟩) n cap) gs2 (clr k pr (r + 1) M1)) := Lib.hid (by rw [clr, if_pos hrkk]; exact hmat)
                              have HA := Lib.hid hadd
                              have hbr : ((r : Int) != (k : Int)) = false := by simp [hrkk]
                              clear hmat hadd hrn hrkk egr erq ef hrr hrk hlr hlk hck
                              go_wp2_with fail
                              rename World => wm
                              go_loop [16] (fun i => i = .int .i64 0) (fun _ => 0)
                              case atStart => rfl
                              case round =>
                                obtain rfl := hrel
                                go_wp2_with fail
                                go_roundw
                                case rel => exact ⟨r + 1, by omega, by go_num, HF.out, HA.out⟩
                                case measure => simp [intOf]; omega
                            · have hbr : ((r : Int) != (k : Int)) = true := by simp only [bne_iff_ne, ne_eq]; omega
                              have hneG1 : some G ≠ some gr := fun e => own_neC hmat.1 hrr e.symm
                              have hgg : gk ≠ gr := by
                                have := nodup_getD hmat.2.2.1 (by rw [List.length_map, HGL2.out]; exact hlt) (by rw [List.length_map, HGL2.out]; exact hrlt) (fun e => hrkk e.symm)
                                rw [getD_pair _ (by rw [HGL2.out]; exact hlt), getD_pair _ (by rw [HGL2.out]; exact hrlt), ← EGK.out, ← egr] at this
                                exact this
                              rename World => wm
                              have HF1 : Hid (∀ wq, wm.grownBy wq (some gr) → wq.cell? ⟨G, r, none⟩ = some (.slice (some ⟨gr, 0, none⟩) (2 * n) cr2) ∧ wq.cell? ⟨G, k, none⟩ = some (.slice (some ⟨gk, 0, none⟩) (2 * n) ck) ∧ RowC wq gk ck (2 * n) pr) := Lib.hid fun wq hg => by
                                refine ⟨?_, ?_, hrk.kept hg (fun e => hgg (Option.some.inj e))⟩
                                · rw [hg.cell_far ⟨G, r, none⟩ (World.block_lt_of_cell? wm _ hcr) hneG1]; exact hcr
                                · rw [hg.cell_far ⟨G, k, none⟩ (World.block_lt_of_cell? wm _ hck) hneG1]; exact hck
                              have HEND : Hid (∀ wq, RowC wq gr cr2 (2 * n) (addTo rq f pr) → wm.grownBy wq (some gr) → MatC wq w.heap.size (2 * n) (.slice (some ⟨G, 0, none⟩) n cap) gs2 (clr k pr (r + 1) M1) ∧ Add w wq) := Lib.hid fun wq h1 h2 => by
                                refine ⟨?_, hmat.add rfl hadd (i := r) (by rw [HGL2.out]; exact hrlt) (by rw [← egr]; exact h2)⟩
                                rw [clr, if_neg hrkk, ← erq, ← ef]
                                exact hmat.write hlr (by rw [← egr]; exact h2) (by rw [← egr]; exact h1)
                              have HRR := Lib.hid hrr
                              clear hmat hadd hrn hrkk egr erq ef hrr hrk hlr hlk hck hneG1 hgg
                              go_wp2_with fail
                              go_loopw [16] (fun i wr => ∃ m : Nat, m ≤ 2 * n ∧ i = .int .i64 (m : Nat) ∧ RowC wr gr cr2 (2 * n) (addTo rq f (pr.take m)) ∧ wm.grownBy wr (some gr)) (fun i _ => 2 * n - (intOf i).toNat)
                              case atStart => exact ⟨0, Nat.zero_le _, rfl, by rw [List.take_zero, addTo_nil]; exact HRR.out, grown_of_below (Below.refl _ _) _⟩
                              case round =>
                                obtain ⟨m, hm, rfl, hrow, hg⟩ := hrel
                                by_cases hmn : m = 2 * n
                                · have HX := Lib.hid (HEND.out wr (by
                                    have e : pr.take m = pr := by rw [hmn, ← HPL.out, List.take_length]
                                    rw [e] at hrow; exact hrow) hg)
                                  have hm1 : 2 * n ≤ m := by omega
                                  clear hrow hg hmn
                                  go_wp2_with fail
                                  go_roundw
                                  case rel => exact ⟨r + 1, by omega, by go_num, HX.out.1, HX.out.2⟩
                                  case measure => simp [intOf]; omega
                                · have hmlt : m < 2 * n := by omega
                                  obtain ⟨hcr1, hck1, hrk1⟩ := HF1.out wr hg
                                  have hcx := hrk1.cell hmlt
                                  have hcz := hrow.cell hmlt
                                  rw [getD_addTo rq f pr m (by rw [HRR.out.1]; exact hmlt)] at hcz
                                  have hfree := hrow.free m
                                  obtain ⟨z2, ez2⟩ : ∃ z2, z2 = rq.getD m 0 := ⟨_, rfl⟩
                                  obtain ⟨x2, ex2⟩ : ∃ x2, x2 = pr.getD m 0 := ⟨_, rfl⟩
                                  have hz2b : z2 < 256 := by rw [ez2]; exact hbrq.get m
                                  have hx2b : x2 < 256 := by rw [ex2]; exact hbpr.get m
                                  rw [← ez2] at hcz
                                  rw [← ex2] at hcx
                                  obtain ⟨p2, ep2⟩ : ∃ p2, p2 = gm f x2 := ⟨_, rfl⟩
                                  obtain ⟨s, es⟩ : ∃ s, s = z2 ^^^ p2 := ⟨_, rfl⟩
                                  have C1 : Hid (∀ w, Calls Try.prog 24 #[.int .u8 (f : Nat), .int .u8 (x2 : Nat)] w (RetB w p2)) := Lib.hid fun w => by rw [ep2]; exact refMul_any f x2 hf256 hx2b w
                                  have hxor : bits .xor .u8 (z2 : Int) (p2 : Int) = (s : Int) := by rw [es]; exact u8_xor_nat z2 p2 hz2b (by rw [ep2]; exact gm_lt hf256)
                                  have HROW2 : Hid (RowC (wr.setCell ⟨gr, m, none⟩ (.int .u8 (s : Nat))) gr cr2 (2 * n) (addTo rq f (pr.take (m + 1)))) := Lib.hid (by
                                    have := hrow.set m s
                                    rw [es, ep2, ez2, ex2, addTo_step rq f pr m (by rw [HRR.out.1]; exact hmlt) (by rw [HPL.out]; exact hmlt)] at this
                                    rw [es, ep2, ez2, ex2]; exact this)
                                  have HGG := Lib.hid (grown_trans hg (grown_setCell (w := wr) (g := gr) m (.int .u8 (s : Nat))))
                                  clear hrow hg ez2 ex2 ep2 es hmn hz2b hx2b hrk1
                                  go_wp2_with fail
                                  go_still_tail 23, (by kernel_rfl)
                                  still_call ((C1.out _).mono fun _ _ h => ⟨h.1, h.2.symm⟩)
                                  repeat still_step
                                  try refine wpStill_nil ?_
                                  change wpList _ _ _ _ _ wr.drew
                                  go_wp2_with fail
                                  go_roundw
                                  case rel => exact ⟨m + 1, by omega, by go_num, HROW2.out, by first | exact grown_drewN HGG.out 1 | exact HGG.out⟩
                                  case measure => simp [intOf]; omega
                      · have hqlt : q < 2 * n := by omega
                        have hcT := HFAR.out wr hg
                        have hcz := hrow.cell hqlt
                        rw [getD_scaleTo (by rw [HRL.out]; exact hqlt)] at hcz
                        have hfree := hrow.free q
                        obtain ⟨y, ey⟩ : ∃ y, y = row.getD q 0 := ⟨_, rfl⟩
                        have hy : y < 256 := by rw [ey]; exact hbrow.get q
                        obtain ⟨s, es⟩ : ∃ s, s = gm y x := ⟨_, rfl⟩
                        rw [← ey] at hcz
                        have C1 : Hid (∀ w, Calls Try.prog 24 #[.int .u8 (y : Nat), .int .u8 (x : Nat)] w (RetB w s)) := Lib.hid fun w => by rw [es]; exact refMul_any y x hy hx256 w
                        have HROW2 : Hid (RowC (wr.setCell ⟨gk, q, none⟩ (.int .u8 (s : Nat))) gk ck (2 * n) (scaleTo x row (q + 1))) := Lib.hid (by
                          have := hrow.set q s
                          rw [es, gm_comm hy hx256, ey, scaleTo_step (by rw [HRL.out]; exact hqlt)] at this
                          rw [es, gm_comm hy hx256, ey]; exact this)
                        have HGG := Lib.hid (grown_trans hg (grown_setCell (w := wr) (g := gk) q (.int .u8 (s : Nat))))
                        clear hrow hg ey es hqn
                        go_wp2_with fail
                        go_still_tail 15, (by kernel_rfl)
                        still_call ((C1.out _).mono fun _ _ h => ⟨h.1, h.2.symm⟩)
                        repeat still_step
                        try refine wpStill_nil ?_
                        change wpList _ _ _ _ _ wr.drew
                        go_wp2_with fail
                        go_roundw
                        case rel => exact ⟨q + 1, by omega, by go_num, HROW2.out, by first | exact grown_drewN HGG.out 1 | exact HGG.out⟩
                        case measure => simp [intOf]; omega
    · rename World => wk
      have hlt : k < n := by omega
      have hMl : gs.length = k := by rw [hmat.2.1.1, length_extTo]
      obtain ⟨b, off, a, l, c, rfl, -, el, hl, hcell, hrd⟩ := (HR.out.mono hadd).row hlt
      obtain ⟨xs, exs⟩ : ∃ xs, xs = rs.getD k [] := ⟨_, rfl⟩
      rw [← exs] at el hrd
      have hxl : xs.length = n := by rw [exs]; exact HD.out.2.1 k hlt
      have eln : n = l := by rw [el, hxl]
      subst eln
      obtain ⟨b', off', rfl, -⟩ := hrd.cell h0
      have HCELLS := Lib.hid (cells_of_reads hrd)
      have HMAT := Lib.hid hmat
      have HADD := Lib.hid hadd
      have HXS := Lib.hid exs
      have HXL := Lib.hid hxl
      have HGL := Lib.hid hMl
      clear hmat hadd hMl el hrd exs hxl hkn
      go_wp2_with (at_builtin; refine wpList_append_own _ rfl _ _ 32 rfl wk.heap.size 5 i0 (.int .u8 0) 1 1 Try.underlying32 hi hz0 hz1 hz2 rfl (by decide) (.slice none 0 0) 0 [] rfl (World.ownsRow_nil _ _ _ _) ⟨b', off', none⟩ n c (xs.map lim) rfl (by rw [List.length_map, HXL.out, Nat.mul_one]) HCELLS.out (lim_one xs) (by unfold maxLen; omega) (by omega) (Nat.le_refl _) ?_)
      intro v1 w1 hown1 hgr1 _
      have HV1 : Hid (OwnB w1 wk.heap.size v1 xs) := Lib.hid (by unfold OwnB; rw [HXL.out]; exact hown1)
      have HAD1 : Hid (Add wk w1) := Lib.hid ((Below.refl _ _).grown hgr1 (Nat.le_refl _) (fun q hq => by cases hq))
      clear hown1 hgr1
      go_wp2_with fail
      go_loopw [7, 8] (fun r i wr => ∃ j : Nat, j ≤ n ∧ i = .int .i64 (j : Nat) ∧ OwnB wr wk.heap.size r (xs ++ (unitR n k).take j) ∧ Add wk wr) (fun _ i _ => n - (intOf i).toNat)
      case atStart => exact ⟨0, Nat.zero_le _, rfl, by rw [List.take_zero, List.append_nil]; exact HV1.out, HAD1.out⟩
      case round =>
        obtain ⟨j, hj, rfl, hrow, hadj⟩ := hrel
        have hul : (xs ++ (unitR n k).take j).length = n + j := by rw [List.length_append, List.length_take, length_unitR, HXL.out, Nat.min_eq_left hj]
        have HADJ := Lib.hid hadj
        have hsz := hadj.size
        by_cases hjn : j = n
        · have hzl : (xs ++ unitR n k).length = 2 * n := by rw [List.length_append, length_unitR, HXL.out]; omega
          have hfull : OwnB wr wk.heap.size u7 (xs ++ unitR n k) := by
            have e : (unitR n k).take n = unitR n k := List.take_of_length_le (by rw [length_unitR]; exact Nat.le_refl _)
            rw [hjn, e] at hrow; exact hrow
          obtain ⟨g, cap, rfl, hbg, hrc⟩ := hfull.rowC (by omega)
          rw [hzl] at hrc ⊢
          have hmat2 := HMAT.out.below HADJ.out
          have hfr : ∀ x ∈ gs, x.1 ≠ g := fun x hx e => by have := HMAT.out.lt.2 x hx; omega
          have hadd2 := Add.trans HADD.out HADJ.out
          have HPUSH : Hid (∀ v' w3 o, (wr.alloc o).grownBy w3 u5.ownBlock → w3.ownsRow w.heap.size 32 1 v' (k + 1) (gs.map (hdrC (2 * n)) ++ [.slice (some ⟨g, 0, none⟩) (2 * n) cap]) → MatC w3 w.heap.size (2 * n) v' (gs ++ [(g, cap)]) (extTo rs n (k + 1)) ∧ Add w w3) := Lib.hid fun v' w3 o h1 h2 => by
            refine ⟨?_, Below.grown (hadd2.alloc hadd2.size o) h1 (by have := hadd2.size; simp; omega) (fun q hq => (own_baseE hmat2.1 hq).1)⟩
            rw [extTo_succ, ← HXS.out]
            exact hmat2.push hrc (Nat.le_trans HADD.out.size hbg) hfr h1 (by rw [HGL.out]; exact h2)
          have hownV := hmat2.1
          have hsz2 := hadd2.size
          have hgl := HGL.out
          have hjn := hjn.symm
          clear hmat2 hadd2 hfull hrc hrow hadj hul hfr hzl
          subst hjn
          go_wp2_with (at_builtin; refine wpList_append_own _ rfl _ _ 22 rfl w.heap.size 32 i1 (.slice none 0 0) 1 24 Try.underlying22 hi1 hy0 hy1 hy2 rfl (by decide) _ _ _ rfl (World.ownsRow.alloc hownV _) ⟨wr.heap.size, 0, none⟩ 1 1 [_] rfl rfl (Go.cell_one_new _ _ _) (by intro u hu; simp at hu; subst hu; rfl) (by unfold maxLen; omega) (by omega) (by simp; omega) ?_)
          intro v' w3 hown3 hgr3 _
          have HEND := Lib.hid (HPUSH.out v' w3 _ hgr3 hown3)
          clear hown3 hgr3 hownV
          go_wp2_with fail
          go_roundw
          case rel => exact ⟨k + 1, _, by omega, by go_num, HEND.out.1, HEND.out.2⟩
          case measure => simp [intOf]; omega
        · have hjlt : j < n := by omega
          obtain ⟨zs, ezs⟩ : ∃ zs, zs = xs ++ (unitR n k).take j := ⟨_, rfl⟩
          rw [← ezs] at hrow hul
          have EZS := Lib.hid ezs
          have hownV := hrow
          unfold OwnB at hownV
          have hlen : zs.length ≤ 64 := by rw [hul]; omega
          clear hrow hadj hjn hul ezs
          by_cases hkj : k = j
          · have hb : ((k : Int) == (j : Int)) = true := by simp [hkj]
            have HB : Hid ((if k = j then 1 else 0) = 1) := Lib.hid (if_pos hkj)
            clear hkj
            go_wp2_with (at_builtin; refine wpList_append_own _ rfl _ _ 32 rfl wk.heap.size 5 i0 (.int .u8 0) 1 1 Try.underlying32 hi hz0 hz1 hz2 rfl (by decide) _ _ _ rfl (World.ownsRow.alloc hownV _) ⟨wr.heap.size, 0, none⟩ 1 1 [_] rfl rfl (Go.cell_one_new _ _ _) (by intro u hu; simp at hu; subst hu; rfl) (by unfold maxLen; omega) (by omega) (by simp; omega) ?_)
            intro v' w3 hown3 hgr3 _
            have HEND : Hid (OwnB w3 wk.heap.size v' (xs ++ (unitR n k).take (j + 1)) ∧ Add wk w3) := Lib.hid (by
              refine ⟨?_, Below.grown (HADJ.out.alloc HADJ.out.size _) hgr3 (by have := HADJ.out.size; simp; omega) (fun q hq => (own_baseE hownV hq).1)⟩
              rw [unit_take hjlt hlt, ← List.append_assoc, ← EZS.out, HB.out]
              exact OwnB.grown (us := [1]) hown3 rfl rfl)
            clear hown3 hgr3 hownV
            go_wp2_with fail
            go_roundw
            case rel => exact ⟨j + 1, by omega, by go_num, HEND.out.1, HEND.out.2⟩
            case measure => simp [intOf]; omega
          · have hb : ((k : Int) == (j : Int)) = false := by rw [beq_eq_false_iff_ne]; omega
            have HB : Hid ((if k = j then 1 else 0) = 0) := Lib.hid (if_neg hkj)
            clear hkj
            go_wp2_with (at_builtin; refine wpList_append_own _ rfl _ _ 32 rfl wk.heap.size 5 i0 (.int .u8 0) 1 1 Try.underlying32 hi hz0 hz1 hz2 rfl (by decide) _ _ _ rfl (World.ownsRow.alloc hownV _) ⟨wr.heap.size, 0, none⟩ 1 1 [_] rfl rfl (Go.cell_one_new _ _ _) (by intro u hu; simp at hu; subst hu; rfl) (by unfold maxLen; omega) (by omega) (by simp; omega) ?_)
            intro v' w3 hown3 hgr3 _
            have HEND : Hid (OwnB w3 wk.heap.size v' (xs ++ (unitR n k).take (j + 1)) ∧ Add wk w3) := Lib.hid (by
              refine ⟨?_, Below.grown (HADJ.out.alloc HADJ.out.size _) hgr3 (by have := HADJ.out.size; simp; omega) (fun q hq => (own_baseE hownV hq).1)⟩
              rw [unit_take hjlt hlt, ← List.append_assoc, ← EZS.out, HB.out]
              exact OwnB.grown (us := [0]) hown3 rfl rfl)
            clear hown3 hgr3 hownV
            go_wp2_with fail
            go_roundw
            case rel => exact ⟨j + 1, by omega, by go_num, HEND.out.1, HEND.out.2⟩
            case measure => simp [intOf]; omega
end Go.Proofs.Ytmlcenocjpjcfaa
