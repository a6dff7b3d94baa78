/- The reference of layer 12: the walk of Value. | The reference of layer 12: Capacity and Check, for valid networks and others. | The reference of layer 12: Check; what Value, Capacity and Check return for networks that are not valid. -/
import Derived.Test.YtaoibakbnimnkaaJN
import Derived.IntWalk
import Derived.StillTailTactics

namespace Go.Proofs.Ytaoibakbnimnkaa
open Go.RowKit NetM

/-- A variable of type api.Network lies in block g. -/
def NBox (w : World) (g : Nat) (N s t : Int) (a : Option Addr) (m c : Nat) : Prop := w.heap[g]? = some (.cells #[.int .i64 N, .int .i64 s, .int .i64 t, .slice a m c] 24 (0, 0))
theorem NBox.c0 {w : World} {g : Nat} {N s t : Int} {a : Option Addr} {m c : Nat} (h : NBox w g N s t a m c) : w.cell? ⟨g, 0, none⟩ = some (.int .i64 N) := (cell_of_row w g 0 _ _ _ h).trans rfl
theorem NBox.c1 {w : World} {g : Nat} {N s t : Int} {a : Option Addr} {m c : Nat} (h : NBox w g N s t a m c) : w.cell? ⟨g, 1, none⟩ = some (.int .i64 s) := (cell_of_row w g 1 _ _ _ h).trans rfl
theorem NBox.c2 {w : World} {g : Nat} {N s t : Int} {a : Option Addr} {m c : Nat} (h : NBox w g N s t a m c) : w.cell? ⟨g, 2, none⟩ = some (.int .i64 t) := (cell_of_row w g 2 _ _ _ h).trans rfl
theorem NBox.c3 {w : World} {g : Nat} {N s t : Int} {a : Option Addr} {m c : Nat} (h : NBox w g N s t a m c) : w.cell? ⟨g, 3, none⟩ = some (.slice a m c) := (cell_of_row w g 3 _ _ _ h).trans rfl
theorem NBox.lt {w : World} {g : Nat} {N s t : Int} {a : Option Addr} {m c : Nat} (h : NBox w g N s t a m c) : g < w.heap.size := (Array.getElem?_eq_some_iff.1 h).1
theorem NBox.add {w w' : World} {g : Nat} {N s t : Int} {a : Option Addr} {m c : Nat} (h : NBox w g N s t a m c) (hb : Add w w') : NBox w' g N s t a m c := (hb.block g h.lt).trans h
theorem NBox.low {w w' : World} {g b : Nat} {N s t : Int} {a : Option Addr} {m c : Nat} (h : NBox w g N s t a m c) (hb : Below b w w') (hg : g < b) : NBox w' g N s t a m c := (hb.block g hg).trans h
theorem nbox_new (w : World) (N s t : Int) (a : Option Addr) (m c : Nat) : NBox (w.alloc (.cells #[.int .i64 N, .int .i64 s, .int .i64 t, .slice a m c] 24)) w.heap.size N s t a m c := heap_alloc_new w _
theorem grown_add {w w' : World} (h : w.grownBy w' none) : Add w w' := (Below.refl _ _).grown h (Nat.le_refl _) (by simp)
theorem add_drewN (w : World) (n : Nat) : Add w (w.drewN n) := ⟨rfl, rfl, rfl, Nat.le_refl _, fun _ _ => rfl⟩
/-- The cells of arc k. -/
theorem ArcsA.cell {w : World} {a : Option Addr} {m c : Nat} {A : List Arc} (h : ArcsA w (.slice a m c) A) {k : Nat} (hk : k < m) : ∃ b off, a = some ⟨b, off, none⟩ ∧
    w.cell? ⟨b, off + k * 4, none⟩ = some (.int .i64 (at' A k).1) ∧ w.cell? ⟨b, off + k * 4 + 1, none⟩ = some (.int .i64 (at' A k).2.1) ∧
    w.cell? ⟨b, off + k * 4 + 2, none⟩ = some (.int .i64 (at' A k).2.2.1) ∧ w.cell? ⟨b, off + k * 4 + 3, none⟩ = some (.int .i64 (at' A k).2.2.2) := by
  obtain ⟨a', m', c', e, -, -, -, h⟩ := h
  simp only [Value.slice.injEq] at e
  obtain ⟨rfl, rfl, rfl⟩ := e
  exact h k hk
theorem ArcsA.len {w : World} {a : Option Addr} {m c : Nat} {A : List Arc} (h : ArcsA w (.slice a m c) A) : A.length = m := by
  obtain ⟨a', m', c', e, h, -⟩ := h
  simp only [Value.slice.injEq] at e
  obtain ⟨rfl, rfl, rfl⟩ := e
  exact h
theorem RdI.cell {w : World} {a : Option Addr} {m c : Nat} {xs : List Int} (h : RdI w (.slice a m c) xs) {k : Nat} (hk : k < m) : ∃ b off, a = some ⟨b, off, none⟩ ∧ w.cell? ⟨b, off + k, none⟩ = some (.int .i64 (xs.getD k 0)) := by
  obtain ⟨ao, c', e, -, -, hh⟩ := h.open
  simp only [Value.slice.injEq] at e
  obtain ⟨rfl, rfl, rfl⟩ := e
  obtain ⟨b, off, rfl, q⟩ := hh (by omega)
  exact ⟨b, off, rfl, q k hk⟩
theorem VNet.at {N s t : Nat} {A : List Arc} (h : VNet N s t A) {k : Nat} (hk : k < A.length) : ∃ x y : Nat, ∃ z u : Int, at' A k = ((x : Int), (y : Int), z, u) ∧ x < N ∧ y < N ∧ 0 ≤ z ∧ z ≤ 2147483647 := by
  obtain ⟨h1, h2, h3, h4, h5, h6⟩ := okArcs_at h.1 hk
  obtain ⟨⟨x, y, z, u⟩, e⟩ : ∃ q, at' A k = q := ⟨_, rfl⟩
  rw [e] at h1 h2 h3 h4 h5 h6
  dsimp only at h1 h2 h3 h4 h5 h6
  refine ⟨x.toNat, y.toNat, z, u, ?_, by omega, by omega, h5, h6⟩
  rw [e, Int.toNat_of_nonneg h1, Int.toNat_of_nonneg h3]

theorem b_drew {B : Nat} {a w : World} (h : Below B a w) : Below B a w.drew := h.trans ⟨rfl, rfl, rfl, Nat.le_refl _, fun _ _ => rfl⟩
/-- A round that lays a variable and stores into a row of the call's own. -/
theorem round_world {w wr W5 : World} {o : Obj} {g i q : Nat} {u : Value} (hW : W5 = World.setCell ((wr.alloc o).drewN q) ⟨g, i, none⟩ u) (hg : g < wr.heap.size) (hb : w.heap.size ≤ g) (ha : Add w wr) :
    (∀ k, k < wr.heap.size → k ≠ g → W5.heap[k]? = wr.heap[k]?) ∧ W5.heap[wr.heap.size]? = some o ∧ W5.heap.size = wr.heap.size + 1 ∧
    (∀ p : Addr, p.block < wr.heap.size → p.block ≠ g → W5.cell? p = wr.cell? p) ∧ Add w W5 := by
  subst hW
  have k1 : ∀ k, k < wr.heap.size → k ≠ g → (World.setCell ((wr.alloc o).drewN q) ⟨g, i, none⟩ u).heap[k]? = wr.heap[k]? := by
    intro k h1 h2
    rw [heap_setCell_other _ ⟨g, i, none⟩ k u h2]
    exact heap_alloc_old wr o h1
  refine ⟨k1, ?_, by simp, fun p h1 h2 => World.cell?_of_block (k1 _ h1 h2), ?_⟩
  · rw [heap_setCell_other _ ⟨g, i, none⟩ wr.heap.size u (by simp; omega)]
    exact heap_alloc_new wr o
  · have := ((Below.alloc ha ha.size o).trans (⟨rfl, rfl, rfl, Nat.le_refl _, fun _ _ => rfl⟩ : Below w.heap.size (wr.alloc o) ((wr.alloc o).drewN q)))
    exact this.setCell (by simpa using hb) _

set_option maxRecDepth 100000 in
set_option maxHeartbeats 2000000 in
theorem refValue_any {w : World} {v vf : Value} {N s t : Nat} {A : List Arc} {F : List Int} (h : NetA w v N s t A) (hv : VNet N s t A) (hf : RdI w vf F) :
    Calls Try.prog 24 #[v, vf] w (ValP w N s t A F) := by
  obtain ⟨i0, hi, hz0, hz1, hz2⟩ := info_parts infoInt
  have CV : Hid (∀ W1, Add w W1 → Calls Try.prog 31 #[v] W1 (RetB W1 true)) := Lib.hid fun W1 ha => refValid_yes (h.add ha) hv
  obtain ⟨va, rfl, ha⟩ := h
  obtain ⟨a, m, c, rfl, hl, hc, hm, -⟩ := id ha
  obtain ⟨fa, fc, rfl, hfc, hfm, -⟩ := hf.open
  have HV := Lib.hid hv
  have HA := Lib.hid ha
  have HL := Lib.hid hl
  obtain ⟨-, hs, ht, hst, hN, hN2, hm2⟩ := hv
  rw [hl] at hm2
  unfold maxLen at hm hfm
  obtain ⟨n, hn⟩ : ∃ n, F.length = n := ⟨_, rfl⟩
  rw [hn] at hfc hf ⊢
  have HF := Lib.hid hf
  have HN := Lib.hid hn
  clear hl hn ha hf
  have B1 := Lib.hid (nbox_new w N s t a m c)
  have T1 := add_new w (.cells #[.int .i64 N, .int .i64 s, .int .i64 t, .slice a m c] 24)
  by_cases hnm : n = m
  · subst hnm
    go_enter Try.func24, Try.ntmps24
    go_wp2_with fail
    refine (CV.out _ T1).mono ?_
    rintro e w1 ⟨rfl, h1⟩
    replace T1 := Add.trans T1 h1
    have hB := B1.out.add h1
    have b0 := hB.c0
    have b3 := hB.c3
    have hlt := hB.lt
    have HB := Lib.hid hB
    clear h1 hB B1
    have hwf : Hid (((N : Nat) : Int) = (N : Int)) := Lib.hid rfl
    go_wp2_with (at_make; refine wpList_make_full _ rfl _ _ 25 rfl w1.heap.size 3 i0 (.int .i64 0) 1 Try.underlying25 hi hz0 hz1 _ _ _ _ N rfl rfl rfl rfl (by rw [hz2]; omega) (by unfold maxLen; omega) (Nat.le_refl _) ?_)
    intro w2 hown hgr
    have hI := IBlk.made hown
    rw [← netL_nil N] at hI
    have hgr2 : Add w1 w2 := grown_add hgr
    replace T1 := Add.trans T1 hgr2
    have HB := Lib.hid (HB.out.add hgr2)
    obtain ⟨g, hg⟩ : ∃ g, g = w1.heap.size := ⟨_, rfl⟩
    rw [← hg] at hI hlt ⊢
    have HI := Lib.hid hI
    have hgw : w.heap.size ≤ g := Nat.le_of_lt hlt
    clear hown hgr hgr2 hI hg b0 b3
    go_wp2_with fail
    go_loopw [7] (fun i wr => ∃ k : Nat, k ≤ n ∧ i = .int .i64 k ∧ Hid (within (A.take k) (F.take k)) ∧ Hid (IBlk wr g (netL N (A.take k) (F.take k))) ∧ Hid (NBox wr w.heap.size N s t a n c) ∧ Hid (Add w wr)) (fun i _ => n - (intOf i).toNat)
    case atStart => exact ⟨0, Nat.zero_le _, rfl, Lib.hid trivial, HI, HB, Lib.hid T1⟩
    case round =>
      obtain ⟨k, hk, rfl, hpre, hblk, hbox, hadd⟩ := hrel
      have b0 := hbox.out.c0
      have b3 := hbox.out.c3
      have hsz := hbox.out.lt
      have hgs := Blk.lt hblk.out
      by_cases hlt : k < n
      · obtain ⟨b, off, rfl, q0, q1, q2, q3⟩ := (HA.out.add hadd.out).cell hlt
        obtain ⟨b', off', rfl, q4'⟩ := RdI.cell HF.out hlt
        have hbw : b' < w.heap.size := World.block_lt_of_cell? _ _ q4'
        have q4 := (hadd.out.cell (p := ⟨b', off' + k, none⟩) hbw).trans q4'
        clear q4'
        obtain ⟨x, y, z, u, hx, hxN, hyN, hz0, hz1⟩ := HV.out.at (k := k) (by rw [HL.out]; exact hlt)
        rw [hx] at q0 q1 q2 q3
        dsimp only at q0 q1 q2 q3
        have htk := at_take (A := A) (k := k) (by rw [HL.out]; exact hlt)
        have hfk := take_snocI (F := F) (k := k) (by rw [HN.out]; exact hlt)
        obtain ⟨f, hf⟩ : ∃ f, F.getD k 0 = f := ⟨_, rfl⟩
        rw [hf] at q4 hfk
        rw [hx] at htk
        have HTK := Lib.hid htk
        have HFK := Lib.hid hfk
        have HX := Lib.hid hx
        have HFF := Lib.hid hf
        clear hx hf htk hfk
        by_cases hok : 0 ≤ f ∧ f ≤ z
        · obtain ⟨f0, f1⟩ := hok
          have d1 : decide (f < 0) = false := decide_eq_false (by omega)
          have d2 : decide (z < f) = false := decide_eq_false (by omega)
          have hb1 := net_bound (x := (x : Int)) (n := N) (fun a ha => HV.out.1 a (List.mem_of_mem_take ha)) hpre.out
          rw [take_len HL.out (Nat.le_of_lt hlt)] at hb1
          obtain ⟨p, hp⟩ : ∃ p, p = (netL N (A.take k) (F.take k)).getD x 0 := ⟨_, rfl⟩
          rw [← netL_get hxN, ← hp] at hb1
          have hp1 : -5368709117500 ≤ p ∧ p ≤ 5368709117500 := by omega
          have c1 : wr.cell? ⟨g, x, none⟩ = some (.int .i64 p) := by rw [hp]; exact IBlk.get hblk.out x (by rw [netL_len]; exact hxN)
          have fr := Blk.free hblk.out x
          have HP := Lib.hid hp
          clear hb1 hp
          obtain ⟨hp2, hp3⟩ := hp1
          have W1 : IntKind.i64.wrap (p + f) = p + f := IntWalk.i64_in _ (by omega)
          have hbl : b' < wr.heap.size := by omega
          go_wp2_with fail
          go_quiet (fail)
          clear d1 d2
          go_wp2_with fail
          go_region
          go_wp2_with fail
          obtain ⟨W5, hW5⟩ : ∃ W5, W5 = World.setCell ((wr.alloc (.cells #[.int .i64 (x : Nat), .int .i64 (y : Nat), .int .i64 z, .int .i64 u] 35)).drewN (nq + 1)) ⟨g, x, none⟩ (.int .i64 (p + f)) := ⟨_, rfl⟩
          rw [← hW5]
          obtain ⟨s1, s2, s3, s4, s5⟩ := round_world hW5 hgs hgw hadd.out
          have hblk5 : IBlk W5 g ((netL N (A.take k) (F.take k)).set x (p + f)) := by
            rw [hW5]; exact IBlk.put (Blk.add (Blk.add hblk.out (add_new _ _)) (add_drewN _ _)) x (p + f)
          have hbox5 : NBox W5 w.heap.size N s t (some ⟨b, off, none⟩) n c := (s1 _ hsz (by omega)).trans hbox.out
          obtain ⟨q, hq⟩ : ∃ q, q = ((netL N (A.take k) (F.take k)).set x (p + f)).getD y 0 := ⟨_, rfl⟩
          have c2 : W5.cell? ⟨g, y, none⟩ = some (.int .i64 q) := by rw [hq]; exact IBlk.get hblk5 y (by rw [List.length_set, netL_len]; exact hyN)
          have fr2 := Blk.free hblk5 y
          have q5 : W5.cell? ⟨b', off' + k, none⟩ = some (.int .i64 f) := (s4 ⟨b', off' + k, none⟩ hbl (by dsimp only; omega)).trans q4
          have a0 : W5.cell? ⟨wr.heap.size, 1, none⟩ = some (.int .i64 (y : Nat)) := (cell_of_row W5 wr.heap.size 1 _ _ _ s2).trans rfl
          have hgs5 : g < W5.heap.size := by omega
          have W2 : IntKind.i64.wrap (q - f) = q - f := by
            have hq2 : q = p + f ∨ q = (netL N (A.take k) (F.take k)).getD y 0 := by
              rw [hq]; simp only [List.getD, List.getElem?_set]
              split
              · left; simp [netL_len, hxN]
              · right; rfl
            rw [netL_get hyN] at hq2
            have hb2 := net_bound (x := (y : Int)) (n := N) (fun a ha => HV.out.1 a (List.mem_of_mem_take ha)) hpre.out
            rw [take_len HL.out (Nat.le_of_lt hlt)] at hb2
            exact IntWalk.i64_in _ (by omega)
          have hstep : ((netL N (A.take k) (F.take k)).set x (p + f)).set y (q - f) = netL N (A.take (k + 1)) (F.take (k + 1)) := by
            rw [HTK.out, HFK.out]
            refine netL_step (by rw [take_len HL.out (Nat.le_of_lt hlt), take_len HN.out (Nat.le_of_lt hlt)]) hxN hyN (by rw [HP.out]) (by rw [hq])
          have hpre' : within (A.take (k + 1)) (F.take (k + 1)) := by
            rw [HTK.out, HFK.out]
            exact within_snoc hpre.out f0 f1
          have HPRE := Lib.hid hpre'
          have HSTEP := Lib.hid hstep
          have HBLK5 := Lib.hid hblk5
          have HBOX5 := Lib.hid hbox5
          have HADD5 := Lib.hid s5
          clear hW5 s1 s2 s4 s5 hq hstep hpre' hblk5 hbox5 W1 c1 fr q4 b0 b3 HTK HFK HP HX HFF q0 q1 q2 q3
          go_region
          go_wp2_with fail
          go_roundw
          case rel =>
            refine ⟨k + 1, by omega, by go_num, HPRE, Lib.hid ?_, Lib.hid ?_, Lib.hid ?_⟩
            · rw [← HSTEP.out]
              exact IBlk.put (Blk.add HBLK5.out (add_drewN _ _)) y (q - f)
            · exact (heap_setCell_other _ ⟨g, y, none⟩ w.heap.size _ (by dsimp only; omega)).trans HBOX5.out
            · exact Below.setCell (b_drew HADD5.out) (by exact hgw) _
          case measure => simp [intOf]; omega
        · have hno : ValP w N s t A F (.returned (.tuple #[.int .i64 0, .bool false])) (wr.alloc (.cells #[.int .i64 (x : Nat), .int .i64 (y : Nat), .int .i64 z, .int .i64 u] 35)) := by
            refine ⟨0, false, rfl, Add.trans hadd.out (add_new _ _), fun h => Bool.noConfusion h, fun _ => ⟨fun hfl => hok ?_, rfl⟩⟩
            have := (NetM.within_iff.1 hfl.1).2 k (by rw [HL.out]; exact hlt)
            rw [HFF.out, HX.out] at this
            exact this
          have HNO : Hid (∀ q, ValP w N s t A F (.returned (.tuple #[.int .i64 0, .bool false])) ((wr.alloc (.cells #[.int .i64 (x : Nat), .int .i64 (y : Nat), .int .i64 z, .int .i64 u] 35)).drewN q)) := Lib.hid fun q => by
            obtain ⟨v, b, h1, h2, h3⟩ := hno
            exact ⟨v, b, h1, Add.trans h2 (add_drewN _ _), h3⟩
          have hbl : b' < wr.heap.size := by omega
          clear hno
          by_cases hf0 : f < 0
          · have d1 : decide (f < 0) = true := decide_eq_true hf0
            clear hok hf0
            go_wp2_with fail
            go_quiet (fail)
            clear d1
            go_wp2_with fail
            go_ret2
            exact HNO.out _
          · have d1 : decide (f < 0) = false := decide_eq_false hf0
            have d2 : decide (z < f) = true := decide_eq_true (by omega)
            clear hok hf0
            go_wp2_with fail
            go_quiet (fail)
            clear d1 d2
            go_wp2_with fail
            go_ret2
            exact HNO.out _
      · obtain rfl : k = n := by omega
        have htA : A.take k = A := List.take_of_length_le (by rw [HL.out]; exact Nat.le_refl _)
        have htF : F.take k = F := List.take_of_length_le (by rw [HN.out]; exact Nat.le_refl _)
        rw [htA, htF] at hpre hblk
        clear htA htF hlt
        have b1 := hbox.out.c1
        have b2 := hbox.out.c2
        have hHs : ∀ j, j < N → wr.cell? ⟨g, j, none⟩ = some (.int .i64 (net (j : Int) A F)) := fun j hj => by
          rw [IBlk.get hblk.out j (by rw [netL_len]; exact hj), netL_get hj]
        have HC := Lib.hid hHs
        clear hHs
        go_wp2_with fail
        go_loop [9] (fun i => ∃ j : Nat, j ≤ N ∧ i = .int .i64 j ∧ Hid (∀ x : Nat, x < j → x ≠ s → x ≠ t → net (x : Int) A F = 0)) (fun i => N - (intOf i).toNat)
        case atStart => exact ⟨0, Nat.zero_le _, rfl, Lib.hid fun x hx => absurd hx (Nat.not_lt_zero _)⟩
        case round =>
          obtain ⟨j, hj, rfl, hz⟩ := hrel
          by_cases hlt : j < N
          · by_cases h1 : j = s
            · subst h1
              have d1 : ((j : Int) == (j : Int)) = true := by simp
              have d2 : ((j : Int) != (j : Int)) = false := by simp
              go_wp2_with fail
              go_round
              case rel => exact ⟨j + 1, by omega, by go_num, Lib.hid fun x hx e1 e2 => hz.out x (by omega) e1 e2⟩
              case measure => simp [intOf]; omega
            · have d1 : ((j : Int) == (s : Int)) = false := by simp; omega
              have d2 : ((j : Int) != (s : Int)) = true := by simp; omega
              by_cases h2 : j = t
              · subst h2
                have d3 : ((j : Int) == (j : Int)) = true := by simp
                have d4 : ((j : Int) != (j : Int)) = false := by simp
                go_wp2_with fail
                go_round
                case rel => exact ⟨j + 1, by omega, by go_num, Lib.hid fun x hx e1 e2 => hz.out x (by omega) e1 e2⟩
                case measure => simp [intOf]; omega
              · have d3 : ((j : Int) == (t : Int)) = false := by simp; omega
                have d4 : ((j : Int) != (t : Int)) = true := by simp; omega
                have c0 := HC.out j hlt
                obtain ⟨v, hv⟩ : ∃ v, net (j : Int) A F = v := ⟨_, rfl⟩
                rw [hv] at c0
                have HVV := Lib.hid hv
                clear hv
                by_cases h3 : v = 0
                · subst h3
                  have HJ : Hid (∀ x : Nat, x < j + 1 → x ≠ s → x ≠ t → net (x : Int) A F = 0) := Lib.hid fun x hx e1 e2 => by
                    by_cases e : x = j
                    · subst e; exact HVV.out
                    · exact hz.out x (by omega) e1 e2
                  go_wp2_with fail
                  go_round
                  case rel => exact ⟨j + 1, by omega, by go_num, HJ⟩
                  case measure => simp [intOf]; omega
                · have d5 : (v == 0) = false := by simpa using h3
                  have d6 : (v != 0) = true := by simpa using h3
                  have HNO : Hid (ValP w N s t A F (.returned (.tuple #[.int .i64 0, .bool false])) wr) := Lib.hid ⟨0, false, rfl, hadd.out, fun h => Bool.noConfusion h, fun _ => ⟨fun hfl => h3 (HVV.out ▸ hfl.2 j hlt h1 h2), rfl⟩⟩
                  clear h3
                  go_wp2_with fail
                  go_ret2
                  exact HNO.out
          · have c0 := HC.out s hs
            have HYES : Hid (ValP w N s t A F (.returned (.tuple #[.int .i64 (net (s : Int) A F), .bool true])) wr) := Lib.hid ⟨_, true, rfl, hadd.out, fun _ => ⟨⟨hpre.out, fun x hx e1 e2 => hz.out x (by omega) e1 e2⟩, rfl⟩, fun h => Bool.noConfusion h⟩
            obtain ⟨v, hv⟩ : ∃ v, net (s : Int) A F = v := ⟨_, rfl⟩
            rw [hv] at c0 HYES
            clear hv
            go_wp2_with fail
            go_ret2
            exact HYES.out
  · have HNO : Hid (∀ w', Add w w' → ValP w N s t A F (.returned (.tuple #[.int .i64 0, .bool false])) w') := Lib.hid fun w' ha => ⟨0, false, rfl, ha, fun h => Bool.noConfusion h, fun _ => ⟨fun hfl => hnm (by rw [← HN.out, ← HL.out]; exact within_length hfl.1), rfl⟩⟩
    have d1 : ((n : Int) == (m : Int)) = false := by simp; omega
    have d2 : ((n : Int) != (m : Int)) = true := by simp; omega
    clear hnm
    go_enter Try.func24, Try.ntmps24
    go_wp2_with fail
    refine (CV.out _ T1).mono ?_
    rintro e w1 ⟨rfl, h1⟩
    have hB := B1.out.add h1
    have b0 := hB.c0
    have b3 := hB.c3
    have T2 := Lib.hid (Add.trans T1 h1)
    clear h1 hB B1 T1
    go_wp2_with fail
    go_ret2
    exact HNO.out _ T2.out
end Go.Proofs.Ytaoibakbnimnkaa

namespace Go.Proofs.Ytaoibakbnimnkaa
open Go.RowKit NetM

def isCut (N s t : Nat) (S : List Bool) : Prop := S.length = N ∧ getB S s = true ∧ getB S t = false
/-- What Capacity returns for a valid network. -/
def CapP (w : World) (N s t : Nat) (A : List Arc) (S : List Bool) (e : Ending) (w' : World) : Prop :=
  ∃ (v : Int) (b : Bool), e = .returned (.tuple #[.int .i64 v, .bool b]) ∧ Add w w' ∧ (b = true → isCut N s t S ∧ v = capF (cutOf S) A) ∧ (b = false → ¬ isCut N s t S ∧ v = 0)
theorem RdB.cell {w : World} {a : Option Addr} {m c : Nat} {xs : List Bool} (h : RdB w (.slice a m c) xs) {k : Nat} (hk : k < m) : ∃ b off, a = some ⟨b, off, none⟩ ∧ w.cell? ⟨b, off + k, none⟩ = some (.bool (getB xs k)) := by
  obtain ⟨ao, c', e, -, -, hh⟩ := h.open
  simp only [Value.slice.injEq] at e
  obtain ⟨rfl, rfl, rfl⟩ := e
  obtain ⟨b, off, rfl, q⟩ := hh (by omega)
  exact ⟨b, off, rfl, q k hk⟩
theorem cap_take {A : List Arc} {c : Int → Bool} {k : Nat} (h : k < A.length) : capF c (A.take (k + 1)) = capF c (A.take k) + adds c (at' A k) := by
  rw [at_take h, cap_snoc]; rfl
theorem cutOf_nat (S : List Bool) (x : Nat) : cutOf S (x : Int) = getB S x := by simp [cutOf]

end Go.Proofs.Ytaoibakbnimnkaa

namespace Go.Proofs.Ytaoibakbnimnkaa
open Go.RowKit NetM

def checkOk (N s t : Nat) (A : List Arc) (F : List Int) (S : List Bool) : Prop := isFlow N s t A F ∧ isCut N s t S ∧ net s A F = capF (cutOf S) A
/-- What Check returns for a valid network. -/
def CheckP (w : World) (N s t : Nat) (A : List Arc) (F : List Int) (S : List Bool) (e : Ending) (w' : World) : Prop := ∃ b : Bool, e = .returned (.bool b) ∧ Add w w' ∧ (b = true ↔ checkOk N s t A F S)

/-- For networks that are not valid. -/
def NoV (w : World) (e : Ending) (w' : World) : Prop := e = .returned (.tuple #[.int .i64 0, .bool false]) ∧ Add w w'
set_option maxRecDepth 100000 in
set_option maxHeartbeats 1000000 in
theorem refValue_inv {w : World} {v vf : Value} {N s t : Int} {A : List Arc} {F : List Int} (h : NetA w v N s t A) (hv : validB N s t A = false) (hf : RdI w vf F) :
    Calls Try.prog 24 #[v, vf] w (NoV w) := by
  have CV : Hid (∀ W1, Add w W1 → Calls Try.prog 31 #[v] W1 (RetB W1 false)) := Lib.hid fun W1 ha => refValid_not (h.add ha) hv
  obtain ⟨va, rfl, ⟨a, m, c, rfl, -⟩⟩ := h
  obtain ⟨fa, fc, rfl, -⟩ := hf.open
  have T1 := add_new w (.cells #[.int .i64 N, .int .i64 s, .int .i64 t, .slice a m c] 24)
  clear hf hv
  go_enter Try.func24, Try.ntmps24
  go_wp2_with fail
  refine (CV.out _ T1).mono ?_
  rintro e w1 ⟨rfl, h1⟩
  have HF : Hid (NoV w (.returned (.tuple #[.int .i64 0, .bool false])) w1) := Lib.hid ⟨rfl, Add.trans T1 h1⟩
  clear h1 T1
  go_wp2_with fail
  go_ret2
  exact HF.out
end Go.Proofs.Ytaoibakbnimnkaa
