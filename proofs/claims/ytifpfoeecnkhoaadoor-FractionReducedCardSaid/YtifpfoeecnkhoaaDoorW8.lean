/- Format writes the decimal digits of a number. -/
import Derived.Test.YtifpfoeecnkhoaaDoorW7
import Derived.Test.YtifpfoeecnkhoaaDoorPf
import Derived.Deep.LoopGhost
import Derived.Maps.AppendAt
import Derived.Laws.BytesArg
namespace Go.Proofs.YtifpfoeecnkhoaaDoor
open Go.RowKit NatM

theorem info5 : (Tryd.prog.info? 5).map (fun i => (i.zero, i.size, i.bytes)) = some (some (.int .u8 0), 1, 1) := by kernel_rfl

theorem OwnB.apart {w : World} {base g : Nat} {v : Value} {bs zs : List Nat} (h : OwnB w base v bs) (hr : Row w g zs) : v.ownBlock ≠ some g := by
  rcases h.2 with ⟨rfl, _⟩ | ⟨g', cap, cur, rfl, _, hgg, _⟩
  · simp [Value.ownBlock]
  · intro e
    simp [Value.ownBlock] at e
    subst e
    unfold Row at hr
    rw [hr] at hgg
    simp at hgg
theorem OwnB.kept {w w' : World} {base : Nat} {v : Value} {bs : List Nat} {row : Option Nat} (h : OwnB w base v bs) (hg : w.grownBy w' row) (hne : v.ownBlock ≠ row) : OwnB w' base v bs := World.ownsRow.kept h hg (.inr hne)

/-- The digits as they lie in memory. -/
def chars (ds : List Nat) : List Nat := ds.map (48 + ·)
theorem chars_length (ds : List Nat) : (chars ds).length = ds.length := by simp [chars]
theorem chars_snoc (ds : List Nat) (x : Nat) : chars (ds ++ [x]) = chars ds ++ [48 + x] := by simp [chars]
theorem chars_reverse (ds : List Nat) : (chars ds).reverse = chars ds.reverse := by simp [chars]

/-- What the outer loop of Format keeps: R is what is still to be written. -/
def FmtSt (w : World) (g : Nat) (N R : Nat) (d r : Value) (wr : World) : Prop :=
  ∃ (ds zs : List Nat) (m : Nat), r = .slice (some ⟨g, 0, none⟩) m m ∧ Row wr g zs ∧ Limbs zs ∧ m ≤ zs.length ∧ zs.length ≤ 1000000 ∧ Canon (zs.take m) ∧ val (zs.take m) = R ∧
    Digits ds ∧ N = val10 ds + 10 ^ ds.length * R ∧ OwnB wr w.heap.size d (chars ds) ∧ Add w wr ∧ w.heap.size ≤ g ∧ ds.length ≤ 20000

/-- What the inner loop keeps. -/
def FmtIn (w : World) (g : Nat) (T : Nat) (len : Nat) (zs : List Nat) (d q c : Value) (wr : World) : Prop :=
  ∃ (ds : List Nat) (j p : Nat), c = .int .i64 (j : Nat) ∧ j ≤ 9 ∧ q = .int .u32 (p : Nat) ∧ p < 10 ^ (9 - j) ∧ Digits ds ∧ val10 ds + 10 ^ ds.length * p = T ∧ ds.length = len + j ∧
    OwnB wr w.heap.size d (chars ds) ∧ Row wr g zs ∧ Add w wr

theorem inner_step {ds : List Nat} {T p : Nat} (h : val10 ds + 10 ^ ds.length * p = T) : val10 (ds ++ [p % 10]) + 10 ^ (ds ++ [p % 10]).length * (p / 10) = T := by
  rw [val10_snoc, List.length_append, List.length_singleton, Nat.pow_succ, ← h]
  have := Nat.mod_add_div p 10
  conv => rhs; rw [← this]
  rw [Nat.mul_add, Nat.mul_assoc, Nat.add_assoc]

def FmtP (w : World) (N : Nat) (e : Ending) (w' : World) : Prop := ∃ s : ByteArray, e = .returned (.tuple #[.string s, .int .i64 0]) ∧ FmtIs s N ∧ s.size ≤ 1000000 ∧ Add w w'

theorem chars_u8 (ds : List Nat) : ((chars ds).map (fun n : Nat => (n : Int))).map (fun n : Int => UInt8.ofNat n.toNat) = ds.map chr := by
  simp only [chars, List.map_map]
  apply List.map_congr_left
  intro a _
  show UInt8.ofNat (Int.toNat ((48 + a : Nat) : Int)) = UInt8.ofNat (48 + a)
  rw [Int.toNat_natCast]

/-- The text behind the loops: the digits turned round and without the zeros at the front. -/
theorem fmt_text {ds : List Nat} {N : Nat} {X : ByteArray} (hd : Digits ds) (hv : N = val10 ds) (hX : X = ⟨((ds.reverse.map chr).dropWhile (· == 48)).toArray⟩) :
    (N = 0 ∧ X.toList.isEmpty = true) ∨ (X.toList.isEmpty = false ∧ FmtIs X N) := by
  rw [strike ds hd] at hX
  rw [Lib.toList_data, hX]
  by_cases h0 : tlen ds = 0
  · left
    refine ⟨?_, by simp [trim, h0]⟩
    rw [hv, ← val10_trim]; simp [trim, h0, val10]
  · right
    refine ⟨?_, .inr ⟨?_, trim ds, hd.take _, Canon.trim _, by rw [val10_trim, hv], rfl⟩⟩
    · have : (trim ds).length ≠ 0 := by rw [length_trim]; exact h0
      simp
      intro e; rw [e] at this; exact this rfl
    · rw [hv]
      rcases Nat.eq_zero_or_pos (val10 ds) with h | h
      · exfalso
        have e : trim ds = [] := val10_inj (hd.take _) Digits.nil (Canon.trim _) Canon.nil (by rw [val10_trim, h]; rfl)
        have := length_trim ds
        rw [e] at this
        exact h0 this.symm
      · exact h

set_option maxRecDepth 100000 in
set_option maxHeartbeats 4000000 in
theorem format_ok (va : Value) (xs : List Nat) (w : World) (ha : Reads w va xs) (hs : xs.length ≤ 1000000) (hN : val xs < pw 512) :
    Calls Tryd.prog 31 #[va] w (FmtP w (val xs)) := by
  obtain ⟨i0, hi, hz0, hz1, hz2⟩ := info_parts info5
  have LA := small_large ha hN
  have hxl := ha.limbs
  have hHN := Lib.hid hN
  obtain ⟨N, hNv⟩ : ∃ N, N = val xs := ⟨_, rfl⟩
  rw [← hNv]
  have HNV := Lib.hid hNv
  clear hN hNv
  go_enter Tryd.func31, Tryd.ntmps31
  go_wp2_with fail
  refine (large_is false _ _ _ ha LA.out).mono ?_; rintro e w' ⟨rfl, rfl⟩
  go_wp2_with fail
  refine (trim_any _ _ _ ha hs).mono ?_; rintro e w1 ⟨g, n, rfl, hown, hn, hadd⟩
  have hg := hown.lt.1
  have hst : FmtSt w g N N (.slice none 0 0) (.slice (some ⟨g, 0, none⟩) n n) w1 := by
    have hl : (trim xs).length = n := by rw [length_trim, hn]
    refine ⟨[], trim xs, n, rfl, hown.row, hxl.take _, by omega, ?_, ?_, ?_, Digits.nil, by simp [val10], World.ownsRow_nil _ _ _ _, hadd, hg, by simp⟩
    · have := tlen_le xs; omega
    · rw [List.take_of_length_le (by omega)]; exact Canon.trim xs
    · rw [List.take_of_length_le (by omega), val_trim]; exact HNV.out.symm
  clear hown hn hadd
  go_wp2_with fail
  go_loopg [4, 5] N (fun R d r wr => ∃ dv : Value, dv = d ∧ FmtSt w g N R dv r wr)
  case atStart => exact ⟨_, rfl, hst⟩
  case round =>
    clear hst
    obtain ⟨dv, rfl, ds, zs, m, rfl, hrow, hzs, hm, hzl, hcan, hval, hds, hsum, hob, hadd, -, hdl0⟩ := hrel
    by_cases hm0 : m = 0
    · subst hm0
      have hgk : gk = 0 := by rw [← hval]; simp [val]
      rw [hgk, Nat.mul_zero, Nat.add_zero] at hsum
      have HSUM := Lib.hid hsum
      have HGK := Lib.hid hgk
      have hcl : (chars ds).length ≤ 1000000 := by rw [chars_length]; omega
      clear hsum hval hgk
      go_wp2_with fail
      refine (reverse_any dv w.heap.size (chars ds) wr hob hcl).mono ?_
      rintro e w2 ⟨rfl, hob2, hgr⟩
      have hadd2 : Add w w2 := Below.grown hadd hgr hadd.size (fun k hk => (World.ownsRow.lt hob k hk).1)
      obtain ⟨S, hSd, hSs, hconv⟩ : ∃ S : ByteArray, S.data.toList = ds.reverse.map chr ∧ S.size ≤ 1000000 ∧ (convert 64 9 dv).run Tryd.prog w2 = .ok (.string S) w2 := by
        rw [chars_reverse] at hob2
        rcases hob2.form with ⟨rfl, h0⟩ | ⟨g2, cap, rfl, -, -, -⟩
        · refine ⟨ByteArray.empty, ?_, by decide, run_convert_bytes_nil (P := Tryd.prog) w2 64 5 Tryd.underlying64 Tryd.underlying5 0 0 9 Tryd.underlying9⟩
          have h1 : ds.reverse = [] := List.eq_nil_of_length_eq_zero (by have := congrArg List.length h0; simpa [chars] using this)
          rw [h1]; rfl
        · refine ⟨strOfNums ((chars ds.reverse).map fun n : Nat => (n : Int)), by rw [strOfNums_data]; exact chars_u8 _, ?_, ?_⟩
          · rw [strOfNums_size, List.length_map, chars_length, List.length_reverse]; omega
          · refine run_convert_bytes_arg (P := Tryd.prog) w2 64 5 Tryd.underlying64 Tryd.underlying5 g2 0 _ cap _ (by rw [List.length_map]) (fun i hi => ?_) 9 Tryd.underlying9
            rw [Nat.zero_add, World.ownsRow.cellAt hob2 i (by omega)]
            simp [List.getD, hi, byt]
      obtain ⟨X, hX⟩ : ∃ X : ByteArray, X = ⟨((ds.reverse.map chr).dropWhile (· == 48)).toArray⟩ := ⟨_, rfl⟩
      have hcallT : Calls Tryd.prog 46 #[.string S, .string ⟨#[48]⟩] w2 fun e w' => e = .returned (.string X) ∧ w2 = w' :=
        (trimLeft_zero S _ w2 hSd hSs).mono fun e w' h => ⟨by rw [h.1, hX], h.2⟩
      have hXs : X.size ≤ 1000000 := by
        rw [hX]
        have h1 : ((ds.reverse.map chr).dropWhile (· == 48)).length ≤ (ds.reverse.map chr).length := (List.dropWhile_sublist _).length_le
        have h2 : (⟨((ds.reverse.map chr).dropWhile (· == 48)).toArray⟩ : ByteArray).size = ((ds.reverse.map chr).dropWhile (· == 48)).length := rfl
        rw [h2]
        simp only [List.length_map, List.length_reverse] at h1
        omega
      have hfin := fmt_text hds HSUM.out hX
      have HT := Lib.hid hcallT
      have HF := Lib.hid hXs
      clear hX hcallT hSd hXs
      rcases hfin with ⟨hN0, hemp⟩ | ⟨hemp, hfmt⟩
      · have HN0 := Lib.hid hN0
        clear hN0
        go_wp2_with fail
        refine HT.out.mono ?_
        rintro e w' ⟨rfl, rfl⟩
        go_wp2_with fail
        go_ret2
        exact ⟨_, rfl, .inl ⟨HN0.out, rfl⟩, by decide, hadd2⟩
      · go_wp2_with fail
        refine HT.out.mono ?_
        rintro e w' ⟨rfl, rfl⟩
        go_wp2_with fail
        go_ret2
        exact ⟨X, rfl, hfmt, HF.out, hadd2⟩
    · have hml : (zs.take m).length = m := by rw [List.length_take]; omega
      have hR : 1 ≤ gk := by
        rw [← hval]
        rcases Nat.eq_zero_or_pos (val (zs.take m)) with h | h
        · have h1 := val_eq_zero.1 h
          unfold Canon at hcan
          omega
        · exact h
      have hdl : ds.length < 32 * 512 := by
        refine ten_bound (N := N) ?_ (by rw [HNV.out]; exact hHN.out)
        rw [hsum]
        have : 10 ^ ds.length * 1 ≤ 10 ^ ds.length * gk := Nat.mul_le_mul_left _ hR
        omega
      have HSUM := Lib.hid hsum
      have HVAL := Lib.hid hval
      have HML := Lib.hid hml
      clear hsum hval hml
      have hcall := divideLimb_any g m m 1000000000 zs wr hrow hzs hm (by omega) (by decide) (by decide)
      have hcall' : Calls Tryd.prog 44 #[.slice (some ⟨g, 0, none⟩) m m, .int .u32 1000000000] wr (DivLimbP wr g m 1000000000 zs) := hcall
      have HC := Lib.hid hcall'
      have hm1 : 0 < m := by omega
      have hdl2 : ds.length ≤ 19000 := by omega
      have HDS := Lib.hid hds
      clear hdl hm0 hds
      clear hcall hcall'
      go_wp2_with fail
      refine HC.out.mono ?_
      rintro e w2 ⟨zs1, p, rfl, hrow1, hzs1, hdiv, hgr⟩
      have hob1 := hob.kept hgr (hob.apart hrow)
      have HP := Lib.hid hdiv.2.1
      have hadd1 : Add w w2 := Below.grown hadd hgr hadd.size (fun k hk => by cases hk; omega)
      have hin : FmtIn w g (val10 ds + 10 ^ ds.length * p) ds.length zs1 dv (.int .u32 (p : Nat)) (.int .i64 0) w2 := ⟨ds, 0, p, rfl, by omega, rfl, HP.out, HDS.out, rfl, by omega, hob1, hrow1, hadd1⟩
      clear hob1
      go_wp2_with fail
      have HT : ∃ T, T = val10 ds + 10 ^ ds.length * p := ⟨_, rfl⟩
      obtain ⟨T, hT⟩ := HT
      rw [← hT] at hin
      have HT := Lib.hid hT
      clear hT
      go_loopw [4, 6, 19] (fun d q c wr => ∃ dw : Value, dw = d ∧ FmtIn w g T ds.length zs1 dw q c wr) (fun _ _ c _ => 9 - (intOf c).toNat)
      case atStart => exact ⟨_, rfl, hin⟩
      case round =>
        clear hin
        obtain ⟨dw, rfl, es, j, q, rfl, hj, rfl, hq, hes, hsm, hel, hobe, hrowe, hadde⟩ := hrel
        have HSM := Lib.hid hsm
        have HEL := Lib.hid hel
        have hsize := hadde.size
        have hgl := hrowe.lt
        have hlen : es.length ≤ 20009 := by omega
        by_cases hj9 : j < 9
        · have hq9 : q < 1000000000 := Nat.lt_of_lt_of_le hq (Nat.pow_le_pow_right (n := 10) (by decide) (by omega : 9 - j ≤ 9))
          have hq2 : q / 10 < 10 ^ (9 - (j + 1)) := by
            apply Nat.div_lt_of_lt_mul
            rw [Nat.mul_comm, ← Nat.pow_succ, show (9 - (j + 1)).succ = 9 - j from by omega]; exact hq
          have HQ := Lib.hid hq2
          have HQ9 := Lib.hid hq9
          clear hsm hel hq hq2 hq9
          go_wp2_with (at_builtin; refine wpList_append_own _ rfl _ _ 64 rfl w.heap.size 5 i0 (.int .u8 0) 1 1 Tryd.underlying64 hi hz0 hz1 hz2 rfl (by decide) _ _ _ rfl (World.ownsRow.alloc hobe _) ⟨wr.heap.size, 0, none⟩ 1 1 [.int .u8 (48 + (q : Int) % 10)] rfl rfl (cell_one_new _ _ _) (by intro u hu; simp at hu; subst hu; rfl) (by rw [chars_length]; unfold maxLen; omega) (by rw [chars_length]; omega) (by simp; omega) ?_)
          intro v' w3 hown3 hgr3 _
          go_wp2_with fail
          go_roundw
          case rel =>
            have hown4 : OwnB w3 w.heap.size v' (chars (es ++ [q % 10])) := by
              unfold OwnB
              rw [chars_snoc, List.length_append, List.map_append]
              have e1 : [byt (48 + q % 10)] = [Value.int .u8 (48 + (q : Int) % 10)] := by simp [byt]
              simp only [List.map_cons, List.map_nil, List.length_singleton]
              rw [e1]; exact hown3
            have hrow4 : Row w3 g zs1 := (Row.below hrowe ((Below.refl _ _).alloc (Nat.le_refl _) _)).kept hgr3 (hobe.apart hrowe).symm
            have hadd4 : Add w w3 := Below.grown (Below.alloc hadde hsize _) hgr3 (by simp; omega) (fun k hk => (World.ownsRow.lt hobe k hk).1)
            exact ⟨v', rfl, es ++ [q % 10], j + 1, q / 10, by go_num, by omega, by have := HQ9.out; simp; omega, HQ.out, hes.snoc (Nat.mod_lt _ (by decide)), inner_step HSM.out, by rw [List.length_append, HEL.out]; simp; omega, hown4, hrow4, hadd4⟩
          case measure => simp [intOf]; omega
        · obtain rfl : j = 9 := by omega
          have hq0 : q = 0 := by
            have : (10 : Nat) ^ (9 - 9) = 1 := rfl
            omega
          have hml1 : m ≤ zs1.length := by rw [hdiv.1]; exact hm
          have hrd := hrowe.reads hml1 (Nat.le_refl m) (by unfold maxLen; omega) hzs1
          have HE : Hid (N = val10 es + 10 ^ es.length * (gk / 1000000000)) := by
            refine Lib.hid ?_
            have h1 := divAt_done hdiv
            rw [HVAL.out] at h1
            rw [HSUM.out]
            have h2 := HSM.out
            rw [hq0, Nat.mul_zero, Nat.add_zero, HT.out] at h2
            rw [h2, HEL.out, Nat.pow_add, h1.2]
            have h3 := Nat.mod_add_div gk 1000000000
            conv => lhs; rw [← h3]
            rw [Nat.mul_add, Nat.mul_assoc, Nat.add_assoc]
          have HV1 := Lib.hid (divAt_done hdiv).1
          have HQ0 := Lib.hid hq0
          have HZ := Lib.hid hdiv.1
          clear hq0 hsm hel hq hml1
          go_wp2_with fail
          refine (cut_any _ _ _ hrd).mono ?_
          rintro e w' ⟨v', rfl, rfl, hv', ao, c, hao, rfl⟩
          have hml : (zs1.take m).length = m := by rw [List.length_take, HZ.out]; omega
          obtain ⟨m', hm'⟩ : ∃ m', m' = tlen (zs1.take m) := ⟨_, rfl⟩
          rw [← hm'] at hv' ⊢
          have hmm : m' ≤ m := by have := tlen_le (zs1.take m); omega
          have hae : ao = some ⟨g, 0, none⟩ := by
            simp only [Value.slice.injEq] at hao
            exact hao.1.symm
          subst hae
          have HM := Lib.hid hm'
          clear hm' hao hml
          go_wp2_with fail
          go_roundg (gk / 1000000000)
          case measure => omega
          case rel =>
            have ht : zs1.take m' = trim (zs1.take m) := by
              unfold trim; rw [← HM.out, List.take_take, Nat.min_eq_left hmm]
            refine ⟨_, rfl, es, zs1, m', rfl, hrowe, hzs1, by rw [HZ.out]; omega, by rw [HZ.out]; exact hzl, by rw [ht]; exact Canon.trim _, ?_, hes, HE.out, hobe, hadde, hg, by rw [HEL.out]; omega⟩
            rw [ht, val_trim, HV1.out, HVAL.out]
end Go.Proofs.YtifpfoeecnkhoaaDoor
