/- Package mincost: search. -/
import Derived.Test.YtaoibakbnimnkaaY9
namespace Go.Proofs.Ytaoibakbnimnkaa
open Go.RowKit NetM

/-- What is known of the search between two nodes; while the steps of node r are looked at. -/
def SchO (A : List Arc) (F P X : List Int) (N : Nat) (D : List Int) (V H : List NC) (k : Nat) : Prop :=
  SR A F P X N D V H ∧ ClS A F P D V N (fun _ => True) ∧ 2 * sumD D + (H.length : Int) ≤ (k : Int) ∧ H.length ≤ N + V.length * 5002
def SchI (A : List Arc) (F P X : List Int) (N : Nat) (D : List Int) (V H : List NC) (r : NC) (M : Int) (i : Nat) : Prop :=
  SR A F P X N D V H ∧ ClS A F P D V r.1 (fun j => j ∈ (fromR A r.1).take i) ∧ Mid X N D V r ∧ 2 * sumD D + (H.length : Int) ≤ M ∧ H.length + 5002 ≤ N + V.length * 5002 + i
def SearchP (wb : World) (A : List Arc) (F P X : List Int) (N : Nat) (e : Ending) (w' : World) : Prop :=
  ∃ vv V D most, e = .returned vv ∧ FR A F P X N V D most ∧ w'.ownsRow wb.heap.size 91 2 vv V.length (flat V) ∧ Add wb w'
def SchW (wb wr : World) (A : List Arc) (F P X : List Int) (N gl gn k : Nat) (vv : Value) : Prop := ∃ g n cap D V H, SchM wb wr gl gn g n cap D V H vv ∧ SchO A F P X N D V H k
def SchV (wb wr : World) (A : List Arc) (F P X : List Int) (N gl gn gb : Nat) (V : List NC) (vv : Value) (r : NC) (M : Int) (i : Nat) : Prop := ∃ g n cap D H, SchM wb wr gl gn g n cap D V H vv ∧ SchI A F P X N D V H r M i ∧ g ≠ gb ∧ wr.heap[gb]? = some (.cells #[.int .i64 (r.1 : Nat), .int .i64 r.2] 91 (0, 0))

theorem abox2_new (w : World) (a : Nat) (c : Int) : (w.alloc (.cells #[.int .i64 (a : Nat), .int .i64 c] 91)).cell? ⟨w.heap.size, 0, none⟩ = some (.int .i64 (a : Nat)) ∧ (w.alloc (.cells #[.int .i64 (a : Nat), .int .i64 c] 91)).cell? ⟨w.heap.size, 1, none⟩ = some (.int .i64 c) :=
  ⟨(cell_of_row _ _ 0 _ _ (0, 0) (heap_alloc_new w _)).trans rfl, (cell_of_row _ _ 1 _ _ (0, 0) (heap_alloc_new w _)).trans rfl⟩
set_option maxRecDepth 100000 in
set_option maxHeartbeats 4000000 in
theorem search_any {w0 wb w : World} {A0 A : List Arc} {N gr ga gs gf gp gx gt gl gn g n cap : Nat} {va sv : Value} {F P X D : List Int} {T : List Bool} {H : List NC} (hCB : CB w0 wb A0 A N gr ga gs gf gp gx gt va sv (roomS A F) P X T)
    (hc : Cir A N) (hP : ∀ x, x < N → -200000000 ≤ P.getD x 0 ∧ P.getD x 0 ≤ 200000000) (hw : within A F) (hX : Bal A F N X) (hr : RedB A F P) {u : Nat} (hu : u < N) (pu : 0 < X.getD u 0)
    (hM : SchM wb w gl gn g n cap D [] H (.slice none 0 0)) (hS : SR A F P X N D [] H) (hH : H.length ≤ N) :
    Calls Try.prog 60 #[.pointer (some ⟨gr, 0, none⟩), sl gl N, .pointer (some ⟨gn, 0, none⟩)] w (SearchP wb A F P X N) := by
  obtain ⟨i2, hi2, hq0, hq1, hq2⟩ := info_parts infoReach
  obtain ⟨K0, hK0⟩ : ∃ K0 : Nat, 2 * sumD D + (H.length : Int) ≤ (K0 : Int) := ⟨(2 * sumD D + (H.length : Int)).toNat, by omega⟩
  have HM0 : Hid (SchW wb w A F P X N gl gn K0 (.slice none 0 0)) := Lib.hid ⟨g, n, cap, D, [], H, hM, hS, ClS.start, hK0, by omega⟩
  have HCB := Lib.hid hCB
  have HC := Lib.hid hc
  have HP := Lib.hid hP
  have HW := Lib.hid hw
  have HXB := Lib.hid hX
  have HRB := Lib.hid hr
  have HPU := Lib.hid pu
  clear hM hS hH hCB hc hP hw hX hr pu hK0
  go_enter Try.func60, Try.ntmps60
  go_wp2_with fail
  go_loopg [7] K0 (fun k vv wr => Hid (SchW wb wr A F P X N gl gn k vv))
  case atStart => exact HM0
  case round =>
    clear HM0
    obtain ⟨g, n, cap, D, V, H, hM, hO⟩ := hrel.out
    obtain ⟨hS, hCl, hmes, hlen⟩ := hO
    have hvl := hS.vlen
    have hN7 := HC.out.nN
    have hne := hS.some hCl HC.out.ok HW.out HXB.out HRB.out hN7 hu HPU.out
    have hHl : H.length = n := hM.2.2.1.2.2.1.symm
    obtain ⟨n', rfl⟩ : ∃ n', n = n' + 1 := by
      cases n with
      | zero => exact absurd (List.eq_nil_of_length_eq_zero hHl) hne
      | succ n' => exact ⟨n', rfl⟩
    have CPOP := Lib.hid (hpop_any hM.2.2.1 hM.2.2.2.1 (by omega))
    unfold fif at CPOP
    have HM := Lib.hid hM
    have HO : Hid (SR A F P X N D V H ∧ ClS A F P D V N (fun _ => True) ∧ 2 * sumD D + (H.length : Int) ≤ (gk : Int) ∧ H.length ≤ N + V.length * 5002) := Lib.hid ⟨hS, hCl, hmes, hlen⟩
    have HHL := Lib.hid hHl
    have hVl : V.length ≤ 700 := by omega
    clear hM hS hCl hmes hlen hne hrel hvl hHl
    have hta : ∀ (W : World) (a : Nat) (c : Int), (Instr.typeAssert (.iface 91 (.agg #[.int .i64 (a : Nat), .int .i64 c])) 20 91 false).run Try.prog W = .ok (.agg #[.int .i64 (a : Nat), .int .i64 c]) W := fun _ _ _ => by kernel_rfl
    go_upto_region 3 with (go_at_call 63; refine CPOP.out.mono ?_; rintro e w2 ⟨r, H', rfl, f2, p2, o2⟩; have HF2 := Lib.hid f2; have HP2 := Lib.hid p2; have HO2 := Lib.hid o2; clear f2 p2 o2; unfold ncv)
    have hrm : r ∈ H := HP2.out.2.1.mem_iff.2 (by simp)
    obtain ⟨b1, b2, b3⟩ := HO.out.1.hh r hrm
    have b0 := (HO.out.1.d0 _ b1).1
    have hM3 := (HM.out.off HO2.out HF2.out HP2.out.1).add (add_new w2 (.cells #[.int .i64 (r.1 : Nat), .int .i64 r.2] 91))
    have hDl := HO.out.1.dl
    have le := IBlk.get hM3.2.1 r.1 (by omega)
    have hHl2 : H'.length = n' := HF2.out.2.2.1.symm
    have HPOS : Hid (0 < gk) := Lib.hid (by
      have h1 := HO.out.2.2.1
      have h2 := sumD_nonneg D fun x hx => (HO.out.1.d0 x (by omega)).1
      have h3 := HHL.out
      omega)
    have HM3 := Lib.hid hM3
    have hCB3 := HCB.out.add hM3.1
    have HCB3 := Lib.hid hCB3
    have c4 := hCB3.1.c4
    have hXl := hCB3.2.2.2.2.2.2.2.2.1
    have xr := IBlk.get hCB3.2.2.2.2.2.1 r.1 (by omega)
    have l1 := hCB3.1.lt
    have l2 := Blk.lt hCB3.2.2.2.2.2.1
    have l3 := Blk.lt hM3.2.1
    obtain ⟨dr, hdr⟩ : ∃ dr, dr = D.getD r.1 0 := ⟨_, rfl⟩
    obtain ⟨xv, hxv⟩ : ∃ xv, xv = X.getD r.1 0 := ⟨_, rfl⟩
    obtain ⟨a, ha⟩ : ∃ a, a = r.1 := ⟨_, rfl⟩
    obtain ⟨c, hcc⟩ : ∃ c, c = r.2 := ⟨_, rfl⟩
    rw [← hdr, ← ha, ← hcc] at le
    rw [← hxv, ← ha, ← hcc] at xr
    rw [← ha, ← hcc] at c4 l1 l2 l3
    rw [← hdr, ← hcc] at b2
    rw [← ha] at b1
    rw [← hcc] at b3
    rw [← hdr] at b0
    rw [← ha, ← hcc]
    rw [← ha, ← hcc] at HM3 HCB3
    have HDR := Lib.hid hdr
    have HXV := Lib.hid hxv
    have HA := Lib.hid ha
    have HCC := Lib.hid hcc
    have hgbn : u7.ownBlock ≠ some w2.heap.size := fun e => by
      obtain ⟨-, cur, q⟩ := own_ty HM.out.2.2.2.2.1 _ e
      have q1 := (Array.getElem?_eq_some_iff.1 q).1
      have q2 := HO2.out.size
      omega
    have hggb : g ≠ w2.heap.size := fun e => by
      obtain ⟨cur, q⟩ := HF2.out.blk
      have q1 := (Array.getElem?_eq_some_iff.1 q).1
      omega
    have hgbk : (w2.alloc (.cells #[.int .i64 (a : Nat), .int .i64 c] 91)).heap[w2.heap.size]? = some (.cells #[.int .i64 (a : Nat), .int .i64 c] 91 (0, 0)) := heap_alloc_new w2 _
    obtain ⟨W3, hW3⟩ : ∃ W3, W3 = w2.alloc (.cells #[.int .i64 (a : Nat), .int .i64 c] 91) := ⟨_, rfl⟩
    have rr := abox2_new w2 a c
    have rlt : w2.heap.size < (w2.alloc (.cells #[.int .i64 (a : Nat), .int .i64 c] 91)).heap.size := by simp
    rw [← hW3] at le xr c4 l1 l2 l3 HM3 HCB3 rr rlt hgbk ⊢
    obtain ⟨gb, hgb⟩ : ∃ gb, gb = w2.heap.size := ⟨_, rfl⟩
    rw [← hgb] at rr rlt hgbn hggb hgbk ⊢
    have HGB := Lib.hid hgbn
    have HGG := Lib.hid hggb
    have HBK := Lib.hid hgbk
    clear hgbn hggb hgbk
    obtain ⟨r0, r1⟩ := rr
    clear hdr hxv ha hcc hM3 hCB3 hW3 hgb CPOP HF2 HO2 HM hrm hDl
    by_cases hst : dr < c
    · have HN : Hid (∀ m, SchW wb (W3.drewN m) A F P X N gl gn (gk - 1) u7) := Lib.hid fun m => by
        have hl := HHL.out
        refine ⟨g, n', cap, D, V, H', HM3.out.add (add_drewN _ _), HO.out.1.stale HP2.out (by rw [← HDR.out, ← HCC.out]; exact hst), HO.out.2.1, ?_, ?_⟩
        · have := HO.out.2.2.1; omega
        · have := HO.out.2.2.2; omega
      go_quiet (fail)
      go_wp2_with fail
      go_roundg (gk - 1)
      case measure => have := HPOS.out; omega
      case rel => exact Lib.hid (HN.out _)
    · have hO3 := HO.out
      have hst' : ¬ D.getD r.1 0 < r.2 := by rw [← HDR.out, ← HCC.out]; exact hst
      have hown := HM3.out.2.2.2.2.1
      have HOWN : Hid (∀ m o, ((W3.drewN m).alloc o).ownsRow wb.heap.size 91 2 u7 V.length (flat V)) := Lib.hid fun m o => World.ownsRow.alloc ((HM3.out.add (add_drewN _ m)).2.2.2.2.1) o
      have HADD : Hid (∀ m o, Add W3 ((W3.drewN m).alloc o)) := Lib.hid fun m o => Add.trans (add_drewN _ _) (add_new _ _)
      have hbs : wb.heap.size ≤ W3.heap.size := HM3.out.1.size
      clear hown
      go_upto_region 4 with (go_quiet (fail))
      go_upto_region 5 with (refine wpList_append_lies _ rfl _ _ 87 rfl wb.heap.size 91 i2 (.agg #[.int .i64 0, .int .i64 0]) 2 16 Try.underlying87 hi2 hq0 hq1 hq2 rfl (by decide) u7 V.length (flat V) rfl (HOWN.out _ _) ⟨W3.heap.size, 0, none⟩ 1 1 [.int .i64 (a : Nat), .int .i64 c] rfl rfl (World.news_of_block (heap_alloc_new (World.drewN W3 _) _)) (by intro u hu; simp at hu; rcases hu with rfl | rfl <;> rfl) (by decide) (by unfold maxLen; omega) (by omega) (by simp; omega) _ rfl ?_; intro g6 cap6 w6 hown6 hgr6 hat6 hlt6)
      have hM6 : SchM wb w6 gl gn g n' cap D (V ++ [r]) H' (.slice (some ⟨g6, 0, none⟩) (V.length + 1) cap6) := (HM3.out.add (HADD.out _ _)).visit (by rw [← HA.out, ← HCC.out]; exact hown6) hgr6 hat6
      have hbk6 : w6.heap[gb]? = some (.cells #[.int .i64 (a : Nat), .int .i64 c] 91 (0, 0)) := by
        have h1 := addB HBK.out (HADD.out nq (.cells #[.int .i64 (a : Nat), .int .i64 c] 91))
        exact (hgr6.block gb (Array.getElem?_eq_some_iff.1 h1).1 (fun e => HGB.out e.symm)).trans h1
      have hCB6 := HCB.out.add hM6.1
      have c4' := hCB6.1.c4
      have xr' := IBlk.get hCB6.2.2.2.2.2.1 a (by omega)
      have xe : X.getD a 0 = xv := by rw [HA.out, HXV.out]
      rw [xe] at xr'
      have r0' : w6.cell? ⟨gb, 0, none⟩ = some (.int .i64 (a : Nat)) := (cell_of_row w6 gb 0 _ _ (0, 0) hbk6).trans rfl
      have r1' : w6.cell? ⟨gb, 1, none⟩ = some (.int .i64 c) := (cell_of_row w6 gb 1 _ _ (0, 0) hbk6).trans rfl
      have HM6 := Lib.hid hM6
      have HBK6 := Lib.hid hbk6
      have HST := Lib.hid hst'
      clear hM6 hbk6 hCB6 hown6 hgr6 hat6 hlt6 HOWN HADD r0 r1 xr c4 le xe l1 l2 l3 rlt HM3 HCB3 HGB HBK hO3 hst'
      by_cases hneg : xv < 0
      · have d1 : decide (xv < 0) = true := decide_eq_true hneg
        have HF : Hid (∀ m, SearchP wb A F P X N (.returned (.slice (some ⟨g6, 0, none⟩) (V.length + 1) cap6)) (w6.drewN m)) := Lib.hid fun m => by
          have k := HM6.out.add (add_drewN w6 m)
          exact ⟨_, V ++ [r], D, _, rfl, HO.out.1.found HO.out.2.1 HP2.out HST.out (by rw [← HXV.out]; exact hneg) hN7, k.2.2.2.2.1, k.1⟩
        go_quiet (fail)
        go_wp2_with fail
        go_ret
        exact HF.out _
      · have d1 : decide (xv < 0) = false := decide_eq_false hneg
        go_upto_region 7 with (go_quiet (fail))
        have HX0 : Hid (0 ≤ X.getD r.1 0) := Lib.hid (by rw [← HXV.out]; omega)
        obtain ⟨W7, hW7⟩ : ∃ W7, W7 = w6.drewN nq := ⟨_, rfl⟩
        have hA7 : Add w6 W7 := by rw [hW7]; exact add_drewN _ _
        rw [← hW7]
        have hM7 := HM6.out.add hA7
        have hbk7 := addB HBK6.out hA7
        have r0'' : W7.cell? ⟨gb, 0, none⟩ = some (.int .i64 (a : Nat)) := (cell_of_row W7 gb 0 _ _ (0, 0) hbk7).trans rfl
        have l7 := (Array.getElem?_eq_some_iff.1 hbk7).1
        have HV0 : Hid (SchV wb W7 A F P X N gl gn gb (V ++ [r]) (.slice (some ⟨g6, 0, none⟩) (V.length + 1) cap6) r ((gk : Int) - 1) 0) := Lib.hid (by
          have k1 := HHL.out
          have k2 := HO.out.2.2.1
          have k3 := HO.out.2.2.2
          have k4 : (V ++ [r]).length = V.length + 1 := by simp
          obtain ⟨f1, f2, f3, f4, f5, f6, f7⟩ := HO.out.1.fresh HP2.out HST.out
          refine ⟨g, n', cap, D, H', hM7, ⟨HO.out.1.visit HP2.out HST.out HX0.out, HO.out.2.1.visit f1 (fun e he => ⟨(HO.out.1.vis e he).1, (f4 e he).1⟩), HO.out.1.mid HP2.out HST.out HX0.out, by omega, by omega⟩, HGG.out, ?_⟩
          rw [← HA.out, ← HCC.out]; exact hbk7)
        obtain ⟨ra, rc, q1, q2, q3, q4⟩ := HCB.out.2.2.2.1.get b1
        obtain ⟨vv, hvv⟩ : ∃ vv, vv = Value.slice (some ⟨g6, 0, none⟩) (V.length + 1) cap6 := ⟨_, rfl⟩
        obtain ⟨V', hV'⟩ : ∃ V', V' = V ++ [r] := ⟨_, rfl⟩
        rw [← hvv, ← hV'] at HV0
        rw [← hvv]
        have HROW : Hid (∀ W, Add wb W → W.cell? ⟨gf, a, none⟩ = some (.slice ra (fromR A a).length rc) ∧ RowR W (banC gp gx) (.slice ra (fromR A a).length rc) (fromR A a)) := Lib.hid fun W hW => by
          obtain ⟨cf, hcf⟩ := HCB.out.2.2.2.1.blk
          refine ⟨?_, q2.kept (grownA_of hW) (far_none _ 0 _)⟩
          rw [cell_of_row W gf a cf _ (0, 0) (addB hcf hW), ← cell_of_row wb gf a cf _ (0, 0) hcf]; exact q1
        have HFL : Hid ((fromR A a).length ≤ 5002) := Lib.hid (by
          have h1 : (fromR A a).length ≤ (List.range (2 * A.length)).length := List.length_filter_le _ _
          have := HC.out.len
          simp at h1; omega)
        have hrow7 := (HROW.out W7 hM7.1).1
        have hCB7 := HCB.out.add hM7.1
        have c2' := hCB7.1.c2
        have lf := hCB7.2.2.2.1.lt
        have lr := hCB7.1.lt
        obtain ⟨L, hL⟩ : ∃ L, L = (fromR A a).length := ⟨_, rfl⟩
        rw [← hL] at hrow7 q3 HROW HFL
        have HLL := Lib.hid hL
        have hcb : c ≤ 700000000000 ∧ 0 ≤ c := by
          obtain ⟨f1, f2, f3, f4, f5, f6, f7⟩ := HO.out.1.fresh HP2.out HST.out
          rw [HCC.out]; exact ⟨by omega, f7⟩
        have HVF : Hid (V'.length ≤ 701) := Lib.hid (by rw [hV', List.length_append, List.length_singleton]; omega)
        unfold maxLen at q4
        clear q1 q2 hL hvv hV' hM7 hbk7 hCB7 hW7 hA7 HX0 HST HXV HM6 HBK6 HP2 HO HHL HGG HDR c4' xr' r0' r1' d1
        go_quiet (fail)
        obtain ⟨W8, hW8⟩ : ∃ W8, W8 = W7.drewN nq := ⟨_, rfl⟩
        have HV8 : Hid (SchV wb W8 A F P X N gl gn gb V' vv r ((gk : Int) - 1) 0) := Lib.hid (by
          obtain ⟨gg, nn, cc, DD, HH, k1, k2, k3, k4⟩ := HV0.out
          have hA : Add W7 W8 := by rw [hW8]; exact add_drewN _ _
          exact ⟨gg, nn, cc, DD, HH, k1.add hA, k2, k3, addB k4 hA⟩)
        rw [← hW8]
        clear hW8 HV0 hrow7 c2' lf lr r0'' l7
        go_wp2_with fail
        go_loopw [48] (fun iv wx => ∃ i : Nat, i ≤ L ∧ iv = .int .i64 i ∧ Hid (SchV wb wx A F P X N gl gn gb V' vv r ((gk : Int) - 1) i)) (fun iv _ => L - (intOf iv).toNat)
        case atStart => exact ⟨0, Nat.zero_le _, rfl, HV8⟩
        case round =>
          clear HV8
          obtain ⟨i, hi, rfl, HV⟩ := hrel
          by_cases hlt : i < L
          · obtain ⟨g1, n1, cap1, D1, H1, hM, hI, hgg, hbk⟩ := HV.out
            obtain ⟨hRow1, hRow2⟩ := HROW.out wr hM.1
            have hCBx := HCB.out.add hM.1
            obtain ⟨-, b, off, rfl, rk⟩ := hRow2.cell hlt
            obtain ⟨j, hj⟩ : ∃ j, j = (fromR A a).getD i 0 := ⟨_, rfl⟩
            rw [← hj] at rk
            have hkl : i < (fromR A a).length := by rw [← HLL.out]; exact hlt
            have him : j ∈ fromR A a := by
              rw [hj, show (fromR A a).getD i 0 = (fromR A a)[i] by simp [List.getD, hkl]]
              exact List.getElem_mem hkl
            obtain ⟨hi1, hi2'⟩ := mem_fromR.1 him
            have hti : tn A j = a := by unfold tn; rw [hi2']; simp
            obtain ⟨e3, e4⟩ := hn_is HC.out.ok hi1
            obtain ⟨z, hz⟩ : ∃ z, z = hn A j := ⟨_, rfl⟩
            rw [← hz] at e3 e4
            have c1 := hCBx.1.c1
            obtain ⟨sc, hsv, hsc1, hsc2, s0, s1, s2, -, sgl⟩ := hCBx.2.2.1.get hi1
            rw [e3] at s0
            rw [hsv] at c1
            have hDl := hI.1.dl
            have dz := IBlk.get hM.2.1 z (by omega)
            have fz := Blk.free hM.2.1 z
            have r1x : wr.cell? ⟨gb, 1, none⟩ = some (.int .i64 c) := by
              rw [HCC.out]; exact (cell_of_row wr gb 1 _ _ (0, 0) hbk).trans rfl
            have l1 := hCBx.1.lt
            have l2 := Blk.lt hM.2.1
            have l3 := (Array.getElem?_eq_some_iff.1 hbk).1
            have CR : Hid (∀ n, Calls Try.prog 52 #[.pointer (some ⟨gr, 0, none⟩), .int .i64 j] (((wr.alloc (.cells #[.int .i64 (z : Nat), .int .i64 (roomS A F j), .int .i64 (costS A j)] 76))).drewN n)
                (fun e w'' => e = .returned (.int .i64 (redS A P j)) ∧ ∃ m, w'' = ((wr.alloc (.cells #[.int .i64 (z : Nat), .int .i64 (roomS A F j), .int .i64 (costS A j)] 76)).drewN n).drewN m)) := Lib.hid fun n =>
              reduced_any (hCBx.add (Add.trans (add_new _ _) (add_drewN _ _))) HC.out HP.out hi1
            have hrdb : -500000000 ≤ redS A P j ∧ redS A P j ≤ 500000000 := by
              have h1 := HC.out.cst j hi1
              obtain ⟨-, h2⟩ := tn_is HC.out.ok hi1
              obtain ⟨-, h3⟩ := hn_is HC.out.ok hi1
              have h4 := HP.out _ h2
              have h5 := HP.out _ h3
              unfold redS; omega
            have HSK : Hid ((0 < roomS A F j → D1.getD z 0 ≤ c + redS A P j) → ∀ n, SchV wb ((wr.alloc (.cells #[.int .i64 (z : Nat), .int .i64 (roomS A F j), .int .i64 (costS A j)] 76)).drewN n) A F P X N gl gn gb V' vv r ((gk : Int) - 1) (i + 1)) := Lib.hid fun hcond n => by
              have hA : Add wr ((wr.alloc (.cells #[.int .i64 (z : Nat), .int .i64 (roomS A F j), .int .i64 (costS A j)] 76)).drewN n) := Add.trans (add_new _ _) (add_drewN _ _)
              obtain ⟨i1, i2, i3, i4, i5⟩ := hI
              rw [HA.out] at hkl hj
              refine ⟨g1, n1, cap1, D1, H1, hM.add hA, ⟨i1, i2.step HC.out.ok hkl (fun x _ => Int.le_refl _) (r := r) (fun e he q => ?_) (fun h0 => ?_), i3, i4, by omega⟩, hgg, addB hbk hA⟩
              · rw [(i1.vis e he).2.1, q, i3.2.2.2.2.2.2.2.2]
              · rw [← hj, ← hz, ← HCC.out]; rw [← hj] at h0; exact hcond h0
            have HPUSH : Hid (0 < roomS A F j → c + redS A P j < D1.getD z 0 → ∀ w8, Add wr w8 → (FrB w8 wb.heap.size gn g1 n1 cap1 H1 ∧ HeapN H1 H1.length ∧ n1 ≤ 5000000000) ∧
                ∀ w9, w9 = w8.setCell ⟨gl, z, none⟩ (.int .i64 (c + redS A P j)) → Calls Try.prog 57 #[fif gn, ncv (z, c + redS A P j)] w9 fun e w' => e = .returned (.tuple #[]) ∧ SchV wb w' A F P X N gl gn gb V' vv r ((gk : Int) - 1) (i + 1)) := Lib.hid fun h0 h1 w8 hA => by
              obtain ⟨i1, i2, i3, i4, i5⟩ := hI
              have hn1 : n1 ≤ 5000000000 := by
                have k1 := hM.2.2.1.2.2.1
                have k2 := HVF.out
                have k3 := HFL.out
                omega
              have hM8 := hM.add hA
              refine ⟨⟨hM8.2.2.1, hM8.2.2.2.1, hn1⟩, fun w9 e9 => ?_⟩
              subst e9
              have hM9 := hM8.put z (c + redS A P j)
              have hbk9 : (w8.setCell ⟨gl, z, none⟩ (.int .i64 (c + redS A P j))).heap[gb]? = some (.cells #[.int .i64 (r.1 : Nat), .int .i64 r.2] 91 (0, 0)) :=
                (heap_setCell_other w8 ⟨gl, z, none⟩ gb _ (ty_ne (addB hbk hA) hM8.2.1 (by decide))).trans (addB hbk hA)
              refine (hpush_any hM9.2.2.1 hM9.2.2.2.1 hn1 (Nat.le_trans hM9.1.size (Nat.le_refl _)) (z, c + redS A P j)).mono ?_
              rintro e w' ⟨rfl, g', cap', h', k1, k2, k3⟩
              refine ⟨rfl, g', n1 + 1, cap', D1.set z (c + redS A P j), h', hM9.off k3 k1 k2.1, ?_, ?_, ?_⟩
              · rw [HA.out] at hkl hj hti
                have hrel := i1.relax (H' := h') i3 HC.out.ok HRB.out hN7 hi1 hti h0 (by rw [← HCC.out, ← hz]; exact h1) (by rw [← HCC.out, ← hz]; exact k2.2)
                rw [← HCC.out, ← hz] at hrel
                obtain ⟨m1, m2, m3⟩ := hrel
                refine ⟨m1, i2.step HC.out.ok hkl m3 (r := r) (fun e he q => ?_) (fun _ => ?_), m2, ?_, ?_⟩
                · rw [(i1.vis e he).2.1, q, i3.2.2.2.2.2.2.2.2]
                · rw [← hj, ← hz, ← HCC.out, getD_set _ (by omega), if_pos rfl]; exact Int.le_refl _
                · rw [sumD_set _ _ _ (by omega), k2.2.length_eq, List.length_cons]; omega
                · rw [k2.2.length_eq, List.length_cons]; omega
              · rcases k3.next with q | q
                · rw [q]; exact hgg
                · have := (Array.getElem?_eq_some_iff.1 hbk9).1
                  omega
              · obtain ⟨cur, hcur⟩ := hM9.2.2.1.blk
                exact off_blk hbk9 k3 (fun q => ty_ne hbk9 hM9.2.2.1.1 (by decide) q) (fun q => hgg q.symm)
            obtain ⟨rm, hrm⟩ : ∃ rm, rm = roomS A F j := ⟨_, rfl⟩
            obtain ⟨rd, hrd⟩ : ∃ rd, rd = redS A P j := ⟨_, rfl⟩
            obtain ⟨co, hco⟩ : ∃ co, co = costS A j := ⟨_, rfl⟩
            obtain ⟨dv, hdv⟩ : ∃ dv, dv = D1.getD z 0 := ⟨_, rfl⟩
            rw [← hrm] at s1 CR HSK HPUSH
            rw [← hrd] at CR HSK HPUSH hrdb
            rw [← hco] at s2 CR HSK
            rw [← hdv] at dz HSK HPUSH
            have hdz := (hI.1.d0 z e4)
            rw [← hdv] at hdz
            obtain ⟨m2, hm2⟩ : ∃ m2, m2 = 2 * A.length := ⟨_, rfl⟩
            rw [← hm2] at c1 hsc1
            have hi3 : j < m2 := by omega
            have W1 : IntKind.i64.wrap (c + rd) = c + rd := IntWalk.i64_in _ (by omega)
            unfold maxLen at hsc2
            clear hI hCBx hRow2 him hi1 hi2' hti e3 hz hsv hrm hrd hco hdv hm2 hkl HV hM hbk hj hDl
            by_cases k1 : 0 < rm
            · have d1 : decide (0 < rm) = true := decide_eq_true k1
              by_cases k2 : c + rd < dv
              · have d2 : decide (c + rd < dv) = true := decide_eq_true k2
                have HPU2 := Lib.hid (HPUSH.out k1 k2)
                have HAX : Hid (∀ n, Add wr ((wr.alloc (.cells #[.int .i64 (z : Nat), .int .i64 rm, .int .i64 co] 76)).drewN n)) := Lib.hid fun n => Add.trans (add_new _ _) (add_drewN _ _)
                go_upto_region 11 with fail
                go_upto_region 12 with (go_quiet ((go_at_call 52; with_reducible exact Calls.quiet_of (CR.out _))))
                have CPU := Lib.hid ((HPU2.out _ (HAX.out nq)).2 _ rfl)
                unfold fif ncv at CPU
                clear HPU2 HPUSH HSK CR
                go_wp2_with (go_at_call 57; refine CPU.out.mono ?_; rintro e w9 ⟨rfl, k9⟩; have HK9 := Lib.hid k9; clear k9)
                go_roundw
                case rel => exact ⟨i + 1, by omega, by go_num, HK9⟩
                case measure => simp [intOf]; omega
              · have d2 : decide (c + rd < dv) = false := decide_eq_false k2
                clear HPUSH
                go_upto_region 11 with fail
                go_upto_region 12 with (go_quiet ((go_at_call 52; with_reducible exact Calls.quiet_of (CR.out _))))
                have HK9 := Lib.hid (HSK.out (fun _ => by omega) nq)
                go_wp2_with fail
                go_roundw
                case rel => exact ⟨i + 1, by omega, by go_num, HK9⟩
                case measure => simp [intOf]; omega
            · have d1 : decide (0 < rm) = false := decide_eq_false k1
              clear HPUSH
              go_upto_region 11 with fail
              go_upto_region 12 with (go_quiet ((go_at_call 52; with_reducible exact Calls.quiet_of (CR.out _))))
              have HK9 := Lib.hid (HSK.out (fun h => absurd h k1) nq)
              go_wp2_with fail
              go_roundw
              case rel => exact ⟨i + 1, by omega, by go_num, HK9⟩
              case measure => simp [intOf]; omega
          · obtain rfl : i = L := by omega
            have HN2 : Hid (SchW wb wr A F P X N gl gn (gk - 1) vv) := Lib.hid (by
              obtain ⟨g1, n1, cap1, D1, H1, hM, ⟨i1, i2, i3, i4, i5⟩, -, -⟩ := HV.out
              refine ⟨g1, n1, cap1, D1, V', H1, hM, i1, ?_, ?_, ?_⟩
              · have h := i2
                rw [HLL.out, HA.out] at h
                exact h.all HC.out.ok
              · have := HPOS.out; omega
              · have := HFL.out; omega)
            clear HV
            go_wp2_with fail
            go_roundg (gk - 1)
            case measure => have := HPOS.out; omega
            case rel => exact HN2
end Go.Proofs.Ytaoibakbnimnkaa
