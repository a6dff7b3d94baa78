/- slices.Repeat of one integer; clear. | Package mincost: approach. -/
import Derived.Test.YtaoibakbnimnkaaYb

namespace Go.Proofs.Ytaoibakbnimnkaa
open Go.RowKit NetM

theorem and_low : ∀ N : Nat, N < 701 → bits BinOp.and .u64 (N : Int) 4294967295 = (N : Int) := by decide +kernel
set_option maxRecDepth 100000 in
theorem mul64_one (w : World) (N : Nat) (hN : N ≤ 700) : Calls Try.prog 65 #[.int .u64 1, .int .u64 N] w fun e w' => e = .returned (.tuple #[.int .u64 0, .int .u64 N]) ∧ w' = w := by
  have h1 := and_low N (by omega)
  have h2 : bits BinOp.and .u64 1 4294967295 = 1 := by decide +kernel
  have h3 : (N : Int) / 4294967296 = 0 := by omega
  have h4 : IntKind.u64.wrap (N : Int) = (N : Int) := by unfold IntKind.wrap; simp [IntKind.signed, IntKind.bits]; omega
  have h5 : bits BinOp.and .u64 0 4294967295 = 0 := by decide +kernel
  have h6 : IntKind.u64.wrap 0 = 0 := by decide +kernel
  go_enter Try.func65, Try.ntmps65
  go_wp2_with fail
  go_ret2
  exact ⟨rfl, rfl⟩
set_option maxRecDepth 100000 in
theorem mul_one_any (w : World) (N : Nat) (hN : N ≤ 700) : Calls Try.prog 61 #[.int .u64 1, .int .u64 N] w fun e w' => e = .returned (.tuple #[.int .u64 0, .int .u64 N]) ∧ w' = w := by
  go_enter Try.func61, Try.ntmps61
  go_wp2_with (go_at_call 65; refine (mul64_one w N hN).mono ?_; rintro e w' ⟨rfl, rfl⟩)
  go_ret2
  exact ⟨rfl, rfl⟩
/-- Integers are copied into a row of integers. -/
theorem copy_ints {w : World} {g o dl dc so sl sc b : Nat} {zs cs : List Int} (h : IBlk w g zs) (hn : cs.length = Nat.min sl dl) (hsrc : ∀ j, j < cs.length → w.cell? ⟨b, so + j, none⟩ = some (.int .i64 (cs.getD j 0))) (hfit : o + cs.length ≤ zs.length) :
    ∃ w', (Builtin.copy_ #[25, 25] 3 #[.slice (some ⟨g, o, none⟩) dl dc, .slice (some ⟨b, so, none⟩) sl sc]).run Try.prog w = .ok (.int .i64 cs.length) w' ∧ IBlk w' g (zs.take o ++ cs ++ zs.drop (o + cs.length)) ∧ w.grownBy w' (some g) := by
  have hrun := run_copy_row (P := Try.prog) w 25 25 3 3 g o dl dc ⟨b, so, none⟩ sl sc _ 3 (cs.map iv) Try.underlying25 (by kernel_rfl) h (by simpa using hn)
    (fun j v hv => by
      have hj : j < cs.length := by have := (List.getElem?_eq_some_iff.1 hv).1; simpa using this
      have e : (⟨b, so, none⟩ : Addr).add j = ⟨b, so + j, none⟩ := by unfold Addr.add; split <;> simp_all
      rw [e, hsrc j hj]
      simp [hj] at hv
      simp [List.getD, hj, ← hv, iv]) (by simpa using hfit) (fun v hv => by
      obtain ⟨y, -, rfl⟩ := List.mem_map.1 hv
      rfl)
  rw [List.length_map] at hrun
  refine ⟨_, hrun, ?_, ?_⟩
  · unfold IBlk Blk
    rw [setRow_heap w g _ _ _ _ h]
    simp [List.map_take, List.map_drop, List.append_assoc]
  · exact ⟨rfl, rfl, rfl, by simp [World.setRow], fun k _ hk => setRow_other w g k _ (fun e => hk (by rw [e]))⟩
/-- What Repeat returns. -/
def RepP (w : World) (N : Nat) (x : Int) (e : Ending) (w' : World) : Prop := ∃ g, e = .returned (.slice (some ⟨g, 0, none⟩) N N) ∧ IBlk w' g (List.replicate N x) ∧ Add w w' ∧ w.heap.size ≤ g
set_option maxRecDepth 100000 in
set_option maxHeartbeats 4000000 in
theorem repeat_any {w : World} {b : Nat} {x : Int} {N : Nat} (hx : w.cell? ⟨b, 0, none⟩ = some (.int .i64 x)) (h0 : 0 < N) (hN : N ≤ 700) :
    Calls Try.prog 56 #[.slice (some ⟨b, 0, none⟩) 1 1, .int .i64 N] w (RepP w N x) := by
  have HMUL := Lib.hid (mul_one_any w N hN)
  obtain ⟨i0, hi, hz0, hz1, hz2⟩ := info_parts infoInt
  have W1 : IntKind.u64.wrap (N : Int) = (N : Int) := by unfold IntKind.wrap; simp [IntKind.signed, IntKind.bits]; omega
  have W2 : IntKind.i64.wrap (N : Int) = (N : Int) := IntWalk.i64_in _ (by omega)
  go_enter Try.func56, Try.ntmps56
  go_upto_region 6 with (go_at_call 61; refine HMUL.out.mono ?_; rintro e w ⟨rfl, rfl⟩)
  have d1 : decide ((N : Int) < 0) = false := decide_eq_false (by omega)
  go_upto_region 7 with (at_make; refine wpList_make_full _ rfl _ _ 25 rfl w.heap.size 3 i0 (.int .i64 0) 1 Try.underlying25 hi hz0 hz1 _ _ _ _ N rfl rfl rfl rfl (by rw [hz2]; omega) (by unfold maxLen; omega) (Nat.le_refl _) ?_; intro w2 hown hgr)
  rw [Nat.mul_one] at hown
  have hI := IBlk.made hown
  have hA2 : Add w w2 := grown_add hgr
  obtain ⟨g, hg⟩ : ∃ g, g = w.heap.size := ⟨_, rfl⟩
  rw [← hg] at hI ⊢
  have hx2 : w2.cell? ⟨b, 0, none⟩ = some (.int .i64 x) := (hA2.cell (p := ⟨b, 0, none⟩) (World.block_lt_of_cell? w _ hx)).trans hx
  have hgw : w.heap.size ≤ g := by omega
  have HA2 := Lib.hid hA2
  have hcur := hI
  clear hown hgr hA2 hi hz0 hz1 hz2 d1 hg hx HMUL W1
  obtain ⟨w3, hcp, hI3, hg3⟩ := copy_ints (o := 0) (dl := N) (dc := N) (so := 0) (sl := 1) (sc := 1) (b := b) (cs := [x]) hI (by simp [Nat.min_def]; omega) (fun j hj => by
    obtain rfl : j = 0 := by simpa using hj
    exact hx2) (by simp; omega)
  have HI3 : Hid (IBlk w3 g (List.replicate 1 x ++ List.replicate (N - 1) 0)) := Lib.hid (by
    have : (List.replicate N (0 : Int)).take 0 ++ [x] ++ (List.replicate N (0 : Int)).drop (0 + [x].length) = List.replicate 1 x ++ List.replicate (N - 1) 0 := by simp
    rw [← this]; exact hI3)
  have HA3 : Hid (Add w w3) := Lib.hid (Below.grown HA2.out hg3 (by have := Blk.lt hI; omega) (fun k e => by have := Option.some.inj e; omega))
  clear hI3 hg3 hI hcur hx2
  go_wp2_with fail
  clear hcp
  go_loopw [8] (fun nv wr => ∃ n : Nat, 0 < n ∧ n ≤ N ∧ nv = .int .i64 n ∧ Hid (IBlk wr g (List.replicate n x ++ List.replicate (N - n) 0)) ∧ Hid (Add w wr)) (fun nv _ => N - (intOf nv).toNat)
  case atStart => exact ⟨1, by omega, by omega, rfl, HI3, HA3⟩
  case round =>
    clear HI3 HA3
    obtain ⟨n, hn0, hn1, rfl, hI, hA⟩ := hrel
    by_cases hlt : n < N
    · have hc : Nat.min n (N - n) ≤ n ∧ Nat.min n (N - n) ≤ N - n ∧ 0 < Nat.min n (N - n) := by simp only [Nat.min_def]; split <;> omega
      obtain ⟨c, hcc⟩ : ∃ c, c = Nat.min n (N - n) := ⟨_, rfl⟩
      rw [← hcc] at hc
      have hID : IBlk wr.drew g (List.replicate n x ++ List.replicate (N - n) 0) := Blk.add hI.out (b_drew (Below.refl _ _))
      obtain ⟨w4, hcp, hI4, hg4⟩ := copy_ints (o := n) (dl := N - n) (dc := N - n) (so := 0) (sl := n) (sc := N) (b := g) (cs := List.replicate c x) hID (by rw [List.length_replicate]; exact hcc) (fun j hj => by
        rw [List.length_replicate] at hj
        have := IBlk.get hID (0 + j) (by simp; omega)
        rw [this]
        simp [List.getD, List.getElem?_append_left, show j < n by omega, hj]) (by simp; omega)
      rw [List.length_replicate] at hcp hI4
      have HI4 : Hid (IBlk w4 g (List.replicate (n + c) x ++ List.replicate (N - (n + c)) 0)) := Lib.hid (by
        have : (List.replicate n x ++ List.replicate (N - n) (0 : Int)).take n ++ List.replicate c x ++ (List.replicate n x ++ List.replicate (N - n) (0 : Int)).drop (n + c) = List.replicate (n + c) x ++ List.replicate (N - (n + c)) 0 := by
          rw [List.take_left' (by simp), List.drop_append, List.drop_eq_nil_of_le (by simp), List.length_replicate, List.nil_append, List.drop_replicate, List.replicate_append_replicate, show N - n - (n + c - n) = N - (n + c) by omega]
        rw [← this]; exact hI4)
      have HA4 : Hid (Add w w4) := Lib.hid (Below.grown (Add.trans hA.out (b_drew (Below.refl _ _))) hg4 (Nat.le_trans hA.out.size (Nat.le_refl _)) (fun k e => by have := Option.some.inj e; omega))
      have hN0 : ¬ N = n := by omega
      have W5 : IntKind.i64.wrap ((n : Int) + (c : Int)) = (n : Int) + (c : Int) := IntWalk.i64_in _ (by omega)
      clear hI4 hg4 hID hI hA hcc
      go_wp2_with fail
      go_region
      clear hcp
      go_wp2_with fail
      go_roundw
      case rel => exact ⟨n + c, by omega, by omega, by go_num, HI4, HA4⟩
      case measure => simp [intOf]; omega
    · obtain rfl : n = N := by omega
      have HF : Hid (RepP w n x (.returned (.slice (some ⟨g, 0, none⟩) n n)) wr) := Lib.hid ⟨g, rfl, by simpa using hI.out, hA.out, hgw⟩
      clear hI hA
      go_wp2_with fail
      go_ret
      exact HF.out
end Go.Proofs.Ytaoibakbnimnkaa

namespace Go.Proofs.Ytaoibakbnimnkaa
open Go.RowKit NetM

/-- What approach leaves. -/
def AppP (w0 : World) (A0 A : List Arc) (N gr ga gs gf gp gx gt : Nat) (va sv : Value) (F P X : List Int) (T : List Bool) (e : Ending) (w' : World) : Prop :=
  (e = .returned (.bool false) ∧ (∀ x, x < N → ¬ 0 < X.getD x 0) ∧ CB w0 w' A0 A N gr ga gs gf gp gx gt va sv (roomS A F) P X T) ∨
  (e = .returned (.bool true) ∧ ∃ V P', NewP A F P X N V P' ∧ CB w0 w' A0 A N gr ga gs gf gp gx gt va sv (roomS A F) P' X T)
/-- While the nodes with too much are pushed. -/
def AppM (w wr : World) (X : List Int) (N gl gn k : Nat) : Prop := ∃ g n cap H, SchM w wr gl gn g n cap (startD X N k) [] H (.slice none 0 0) ∧ H.Perm (srcs X k)
theorem srcs_len (X : List Int) (k : Nat) : (srcs X k).length ≤ k := by
  unfold srcs srcN
  rw [List.length_map]
  exact Nat.le_trans (List.length_filter_le _ _) (by simp)
/-- The empty frontier. -/
theorem front_new {w w2 : World} {gl N : Nat} {X : List Int} (h1 : Add w w2) (h2 : IBlk w2 gl (startD X N 0)) (h3 : w.heap.size ≤ gl) :
    SchM w ((w2.alloc (.cells #[] 91)).alloc (.cells #[.slice (some ⟨w2.heap.size, 0, none⟩) 0 0] 88)) gl (w2.alloc (.cells #[] 91)).heap.size w2.heap.size 0 0 (startD X N 0) [] [] (.slice none 0 0) := by
  have hA : Add w2 ((w2.alloc (.cells #[] 91)).alloc (.cells #[.slice (some ⟨w2.heap.size, 0, none⟩) 0 0] 88)) := Add.trans (add_new _ _) (add_new _ _)
  have hs := h1.size
  refine ⟨Add.trans h1 hA, Blk.add h2 hA, ⟨heap_alloc_new _ _, ?_, rfl, hs, Nat.le_refl _, Nat.zero_le _, ?_⟩, fun k _ hk => by simp at hk, World.ownsRow_nil _ _ _ _, by simp [Value.ownBlock], h3⟩
  · simp; omega
  · have h0 := World.ownsRow_lit (base := w.heap.size) (e := 91) (size := 2) w2 #[] 0 hs (by decide) rfl
    exact h0.alloc _
set_option maxRecDepth 100000 in
set_option maxHeartbeats 4000000 in
theorem approach_any {w0 w : World} {A0 A : List Arc} {N gr ga gs gf gp gx gt : Nat} {va sv : Value} {F P X : List Int} {T : List Bool} (hCB : CB w0 w A0 A N gr ga gs gf gp gx gt va sv (roomS A F) P X T)
    (hc : Cir A N) (hP : ∀ x, x < N → -200000000 ≤ P.getD x 0 ∧ P.getD x 0 ≤ 200000000) (hw : within A F) (hf : Fine A F P) (hX : Bal A F N X) (hr : RedB A F P) (hN0 : 0 < N) :
    Calls Try.prog 54 #[.pointer (some ⟨gr, 0, none⟩)] w (AppP w0 A0 A N gr ga gs gf gp gx gt va sv F P X T) := by
  have HCB := Lib.hid hCB
  have HC := Lib.hid hc
  have HP := Lib.hid hP
  have HW := Lib.hid hw
  have HFI := Lib.hid hf
  have HXB := Lib.hid hX
  have HRB := Lib.hid hr
  have hN7 := hc.nN
  have c2 := hCB.1.c2
  have l1 := hCB.1.lt
  have HREP : Hid (∀ W b, W.cell? ⟨b, 0, none⟩ = some (.int .i64 9223372036854775807) → Calls Try.prog 56 #[.slice (some ⟨b, 0, none⟩) 1 1, .int .i64 N] W (RepP W N 9223372036854775807)) := Lib.hid fun W b h => repeat_any h hN0 hN7
  clear hCB hc hP hw hf hX hr
  go_enter Try.func54, Try.ntmps54
  go_upto_region 2 with (go_at_call 56; refine (HREP.out _ _ ((cell_of_row _ _ 0 _ _ (0, 0) (heap_alloc_new w _)).trans rfl)).mono ?_; rintro e w2 ⟨gl, rfl, k1, k2, k3⟩; have HK := Lib.hid (And.intro k1 (And.intro k2 k3)); clear k1 k2 k3)
  have hA2 : Add w w2 := Add.trans (add_new _ _) HK.out.2.1
  have hgl : w.heap.size ≤ gl := Nat.le_trans (add_new w (.cells #[.int .i64 9223372036854775807] 3)).size HK.out.2.2
  have hM := front_new (X := X) (N := N) hA2 (by rw [startD_zero]; exact HK.out.1) hgl
  obtain ⟨gn, hgn⟩ : ∃ gn, gn = (w2.alloc (.cells #[] 91)).heap.size := ⟨_, rfl⟩
  rw [← hgn] at hM
  have hgn' : w2.heap.size + 1 = gn := by rw [hgn]; simp
  have HM0 : Hid (AppM w ((w2.alloc (.cells #[] 91)).alloc (.cells #[.slice (some ⟨w2.heap.size, 0, none⟩) 0 0] 88)) X N gl gn 0) := Lib.hid ⟨_, 0, 0, [], hM, by
    have : srcs X 0 = [] := rfl
    rw [this]⟩
  have hCB3 := HCB.out.add hM.1
  have c4 := hCB3.1.c4
  have l3 := hCB3.1.lt
  clear HK hM hgn hCB3 c2 l1 hgl hA2
  go_upto_region 3 with fail
  obtain ⟨W3, hW3⟩ : ∃ W3, W3 = (w2.alloc (.cells #[] 91)).alloc (.cells #[.slice (some ⟨w2.heap.size, 0, none⟩) 0 0] 88) := ⟨_, rfl⟩
  rw [← hW3] at HM0 c4 l3 ⊢
  clear hW3 hgn' HREP
  go_wp2_with fail
  clear c4 l3
  go_loopw [21] (fun iv wr => ∃ k : Nat, k ≤ N ∧ iv = .int .i64 k ∧ Hid (AppM w wr X N gl gn k)) (fun iv _ => N - (intOf iv).toNat)
  case atStart => exact ⟨0, Nat.zero_le _, rfl, HM0⟩
  case round =>
    clear HM0
    obtain ⟨k, hk, rfl, HM⟩ := hrel
    obtain ⟨g, n, cap, H, hM, hPm⟩ := HM.out
    have hCB := HCB.out.add hM.1
    by_cases hlt : k < N
    · have c4 := hCB.1.c4
      have hXl := hCB.2.2.2.2.2.2.2.2.1
      have xr := IBlk.get hCB.2.2.2.2.2.1 k (by omega)
      have dl := IBlk.get hM.2.1 k (by rw [startD_len]; exact hlt)
      have df := Blk.free hM.2.1 k
      have l1 := Blk.lt hM.2.1
      have l2 := Blk.lt hCB.2.2.2.2.2.1
      have HSK : Hid (¬ 0 < X.getD k 0 → AppM w wr X N gl gn (k + 1)) := Lib.hid fun h => by
        refine ⟨g, n, cap, H, ?_, ?_⟩
        · rw [startD_succ, if_neg h]; exact hM
        · rw [srcs_succ, if_neg h]; exact hPm
      have CPU : Hid (0 < X.getD k 0 → Calls Try.prog 57 #[fif gn, ncv (k, 0)] (wr.setCell ⟨gl, k, none⟩ (.int .i64 0)) fun e w' => e = .returned (.tuple #[]) ∧ AppM w w' X N gl gn (k + 1)) := Lib.hid fun h => by
        have hM9 := hM.put k 0
        have hn1 : n ≤ 5000000000 := by
          have h1 := hM.2.2.1.2.2.1
          have h2 := hPm.length_eq
          have h3 := srcs_len X k
          omega
        refine (hpush_any hM9.2.2.1 hM9.2.2.2.1 hn1 hM9.1.size (k, 0)).mono ?_
        rintro e w' ⟨rfl, g', cap', h', k1, k2, k3⟩
        refine ⟨rfl, g', n + 1, cap', h', ?_, ?_⟩
        · rw [startD_succ, if_pos h]; exact hM9.off k3 k1 k2.1
        · rw [srcs_succ, if_pos h]
          exact k2.2.trans ((hPm.cons _).trans (List.perm_append_singleton _ _).symm)
      obtain ⟨xv, hxv⟩ : ∃ xv, xv = X.getD k 0 := ⟨_, rfl⟩
      rw [← hxv] at xr HSK CPU
      obtain ⟨dv, hdv⟩ : ∃ dv, dv = (startD X N k).getD k 0 := ⟨_, rfl⟩
      rw [← hdv] at dl
      unfold fif ncv at CPU
      clear hCB hM hPm HM hxv hdv hXl
      by_cases hp : 0 < xv
      · have d1 : decide (0 < xv) = true := decide_eq_true hp
        have CP2 := Lib.hid (CPU.out hp)
        clear CPU HSK
        go_wp2_with (go_at_call 57; refine CP2.out.mono ?_; rintro e w9 ⟨rfl, k9⟩; have HK9 := Lib.hid k9; clear k9)
        go_roundw
        case rel => exact ⟨k + 1, by omega, by go_num, HK9⟩
        case measure => simp [intOf]; omega
      · have d1 : decide (0 < xv) = false := decide_eq_false hp
        have HK9 := Lib.hid (HSK.out hp)
        clear CPU HSK
        go_wp2_with fail
        go_roundw
        case rel => exact ⟨k + 1, by omega, by go_num, HK9⟩
        case measure => simp [intOf]; omega
    · obtain rfl : k = N := by omega
      have v0 := hM.2.2.1.var
      have HCB2 := Lib.hid hCB
      have HM2 := Lib.hid hM
      have HPM := Lib.hid hPm
      clear hCB hM hPm HM
      by_cases hz : n = 0
      · subst hz
        have HF : Hid (AppP w0 A0 A k gr ga gs gf gp gx gt va sv F P X T (.returned (.bool false)) wr) := Lib.hid (.inl ⟨rfl, fun x hx hp => (by
          have h1 := HM2.out.2.2.1.2.2.1
          have h2 : (x, (0 : Int)) ∈ srcs X k := List.mem_map.2 ⟨x, mem_srcN.2 ⟨hx, hp⟩, rfl⟩
          have h3 := HPM.out.mem_iff.2 h2
          rw [List.eq_nil_of_length_eq_zero h1.symm] at h3
          cases h3), HCB2.out⟩)
        go_wp2_with (go_at_call 58; refine len_any.mono ?_; rintro e w9 ⟨rfl, rfl⟩)
        go_ret
        exact HF.out
      · have d1 : ((n : Int) == 0) = false := by simp; omega
        have hsrc : ∃ x, x < k ∧ 0 < X.getD x 0 := by
          have h1 := HM2.out.2.2.1.2.2.1
          cases hh : H with
          | nil => rw [hh] at h1; exact absurd h1 hz
          | cons e t =>
            have h2 := HPM.out.mem_iff.1 (show e ∈ H by rw [hh]; simp)
            obtain ⟨x, hx, -⟩ := List.mem_map.1 h2
            exact ⟨x, mem_srcN.1 hx⟩
        obtain ⟨x, hx1, hx2⟩ := hsrc
        have CS := Lib.hid (search_any (w := wr) HCB.out HC.out HP.out HW.out HXB.out HRB.out hx1 hx2 HM2.out (SR.start.perm HPM.out) (by rw [HPM.out.length_eq]; exact srcs_len X k))
        have CLOW : Hid (∀ w5 vv V D most, FR A F P X k V D most → w5.ownsRow w.heap.size 91 2 vv V.length (flat V) → Add w w5 → Calls Try.prog 59 #[.pointer (some ⟨gr, 0, none⟩), vv] w5 fun e w' => e = .returned (.tuple #[]) ∧ AppP w0 A0 A k gr ga gs gf gp gx gt va sv F P X T (.returned (.bool true)) w') := Lib.hid fun w5 vv V D most hFR hown hA => by
          refine (lower_any (HCB.out.add hA) HP.out hown hFR.ne hFR.last (fun e he => ⟨(hFR.vis e he).1, (hFR.vis e he).2.2⟩) hFR.nd hN7 hFR.mostB).mono ?_
          rintro e w' ⟨rfl, hC⟩
          exact ⟨rfl, .inr ⟨rfl, V, _, hFR.newP HC.out.ok HFI.out HCB.out.2.2.2.2.2.2.2.1, hC⟩⟩
        clear HM2 HPM hx1 hx2
        go_wp2_with (first | (go_at_call 58; refine len_any.mono ?_; rintro e w9 ⟨rfl, rfl⟩) | (go_at_call 60; refine CS.out.mono ?_; rintro e w5 ⟨vv, V, D, most, rfl, k1, k2, k3⟩; have HL := Lib.hid (CLOW.out _ _ _ _ _ k1 k2 k3); clear k1 k2 k3) | (go_at_call 59; refine HL.out.mono ?_; rintro e w6 ⟨rfl, k4⟩; have HF := Lib.hid k4; clear k4))
        go_ret
        exact HF.out
end Go.Proofs.Ytaoibakbnimnkaa
