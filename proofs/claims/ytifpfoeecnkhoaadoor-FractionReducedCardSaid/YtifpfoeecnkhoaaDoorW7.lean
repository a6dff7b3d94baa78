/- strings.TrimLeft with the cutset "0", and slices.Reverse of bytes, do what they promise. -/
import Derived.Test.YtifpfoeecnkhoaaDoorW6
import Derived.Deep.RegionWith
import Derived.BigRegion
import Derived.Lib.TrimByte
namespace Go.Proofs.YtifpfoeecnkhoaaDoor
open Go.RowKit NatM

def TrimByteP (w : World) (l : List UInt8) (c : UInt8) (e : Ending) (w' : World) : Prop := e = .returned (.string ⟨(l.dropWhile (· == c)).toArray⟩) ∧ w = w'
theorem trimLeftByte_any (s : ByteArray) (l : List UInt8) (c : UInt8) (w : World) (hl : s.data.toList = l) (hs : s.size ≤ 1000000) :
    Calls Tryd.prog 58 #[.string s, .int .u8 (c.toNat : Nat)] w (TrimByteP w l c) := by
  have HL := Lib.hid hl
  clear hl
  go_enter Tryd.func58, Tryd.ntmps58
  go_wp2_with fail
  go_loop [0] (fun v => ∃ t : ByteArray, v = .string t ∧ t.size ≤ 1000000 ∧ Hid (t.data.toList.dropWhile (· == c) = l.dropWhile (· == c))) (fun v => Lib.strSize v)
  case atStart => exact ⟨s, rfl, hs, Lib.hid (by rw [HL.out])⟩
  case round =>
    obtain ⟨t, rfl, hts, ht⟩ := hrel
    by_cases h0 : 0 < t.size
    · have hlt : t.data.toList = t[0] :: (t.extract 1 t.size).data.toList := by
        rw [Lib.extract_from]
        have : 0 < t.data.toList.length := by simpa using h0
        rw [List.drop_one]
        cases h : t.data.toList with
        | nil => rw [h] at this; simp at this
        | cons a r =>
          have : t[0] = a := by
            have h2 : t.data.toList[0]? = some a := by rw [h]; rfl
            have h3 : t.data[0]? = some a := by simpa using h2
            exact (Array.getElem?_eq_some_iff.1 h3).2
          simp [this]
      have hsz : (t.extract 1 t.size).size = t.size - 1 := by simp
      by_cases hxc : t[0] = c
      · have he : ((t[0].toNat : Int) == (c.toNat : Int)) = true := by rw [hxc]; simp
        have HT := Lib.hid hlt
        have HSZ := Lib.hid hsz
        have HXC := Lib.hid hxc
        clear hlt hsz hxc
        go_wp2_with fail
        go_round
        case rel =>
          refine ⟨_, rfl, by rw [HSZ.out]; omega, Lib.hid ?_⟩
          rw [← ht.out, HT.out, List.dropWhile_cons, if_pos (by rw [HXC.out]; simp)]
        case measure => show (t.extract 1 t.size).size < t.size; rw [HSZ.out]; omega
      · have he : ((t[0].toNat : Int) == (c.toNat : Int)) = false := by
          rw [beq_eq_false_iff_ne]; intro h; exact hxc (UInt8.toNat_inj.1 (by omega))
        have hfin : TrimByteP w l c (.returned (.string t)) w := by
          refine ⟨?_, rfl⟩
          rw [← ht.out]
          have h2 : t.data.toList.dropWhile (fun x => x == c) = t.data.toList := by
            rw [hlt, List.dropWhile_cons, if_neg (by simpa using hxc)]
          rw [h2]
        clear hlt hsz
        go_wp2_with fail
        go_ret
        exact hfin
    · have hfin : TrimByteP w l c (.returned (.string t)) w := by
        refine ⟨?_, rfl⟩
        rw [← ht.out]
        have h1 : t.data.toList = [] := by
          apply List.eq_nil_of_length_eq_zero
          simp only [Array.length_toList]
          show t.size = 0
          omega
        have h2 : t = ⟨t.data.toList.toArray⟩ := by cases t; simp
        conv => lhs; rw [h2]
        rw [h1]; rfl
      have hz : t.size = 0 := by omega
      go_wp2_with fail
      go_ret
      exact hfin

set_option maxRecDepth 100000 in
/-- strings.TrimLeft(s, "0"). -/
theorem trimLeft_zero (s : ByteArray) (l : List UInt8) (w : World) (hl : s.data.toList = l) (hs : s.size ≤ 1000000) :
    Calls Tryd.prog 46 #[.string s, .string ⟨#[48]⟩] w (TrimByteP w l 48) := by
  have HL := Lib.hid hl
  clear hl
  by_cases h0 : s.toList = []
  · have hfin : TrimByteP w l 48 (.returned (.string s)) w := by
      refine ⟨?_, rfl⟩
      have h2 : s.data.toList = [] := by rw [← Lib.toList_data]; exact h0
      have h3 : s = ⟨s.data.toList.toArray⟩ := by cases s; simp
      rw [HL.out] at h2
      conv => lhs; rw [h3, HL.out]
      rw [h2]; rfl
    have h1 : s.toList.isEmpty = true := by rw [h0]; rfl
    go_enter Tryd.func46, Tryd.ntmps46
    go_wp2_with fail
    go_ret
    exact hfin
  · have h1 : s.toList.isEmpty = false := by simpa using h0
    go_enter Tryd.func46, Tryd.ntmps46
    go_wp2_with fail
    refine (trimLeftByte_any s l 48 _ HL.out hs).mono ?_
    rintro e w' ⟨rfl, rfl⟩
    go_wp2_with fail
    go_ret
    exact ⟨rfl, rfl⟩

def byt (b : Nat) : Value := .int .u8 (b : Nat)
/-- A row of bytes of the call's own. -/
def OwnB (w : World) (base : Nat) (v : Value) (bs : List Nat) : Prop := w.ownsRow base 5 1 v bs.length (bs.map byt)

theorem OwnB.form {w : World} {base : Nat} {v : Value} {bs : List Nat} (h : OwnB w base v bs) : (v = .slice none 0 0 ∧ bs = []) ∨ ∃ g cap, v = .slice (some ⟨g, 0, none⟩) bs.length cap ∧ base ≤ g ∧ bs.length ≤ cap ∧ cap ≤ maxLen := by
  rcases h.2 with ⟨e, e2⟩ | ⟨g, cap, cur, e, hg, hgg, hn, hm, hs, ht⟩
  · exact .inl ⟨e, List.eq_nil_of_length_eq_zero e2⟩
  · exact .inr ⟨g, cap, e, hg, hn, hm⟩

/-- What Reverse does to a row of bytes. -/
def RevP (w : World) (base : Nat) (v : Value) (bs : List Nat) (e : Ending) (w' : World) : Prop :=
  e = .returned (.tuple #[]) ∧ OwnB w' base v bs.reverse ∧ w.grownBy w' v.ownBlock
set_option maxHeartbeats 1000000 in
theorem reverse_any (v : Value) (base : Nat) (bs : List Nat) (w : World) (h : OwnB w base v bs) (hn : bs.length ≤ 1000000) :
    Calls Tryd.prog 45 #[v] w (RevP w base v bs) := by
  rcases h.form with ⟨rfl, rfl⟩ | ⟨g, cap, rfl, hg, hnc, hcm⟩
  · go_enter Tryd.func45, Tryd.ntmps45
    go_wp2_with fail
    refine wp_loop_rounds 1 ?_
    rw [rounds_succ]
    go_wp2_with fail
    go_end0
    exact ⟨rfl, h, World.grownBy.refl _ _⟩
  · obtain ⟨n, hln⟩ : ∃ n, n = bs.length := ⟨_, rfl⟩
    have h' : w.ownsRow base 5 1 (.slice (some ⟨g, 0, none⟩) n cap) n (bs.map byt) := by rw [hln]; exact h
    rw [← hln] at hn hnc ⊢
    have HN := Lib.hid hln
    clear hln h
    unfold maxLen at hcm
    go_enter Tryd.func45, Tryd.ntmps45
    go_wp2_with fail
    go_loopw [2, 3] (fun i j wr => ∃ (k m : Nat) (ys : List Nat), i = .int .i64 (k : Nat) ∧ j = .int .i64 ((m : Int) - 1) ∧ k ≤ m + 1 ∧ Hid (k + m = n) ∧ RevAt bs ys k ∧ wr.ownsRow base 5 1 (.slice (some ⟨g, 0, none⟩) n cap) n (ys.map byt) ∧ w.grownBy wr (some g)) (fun _ j _ => (intOf j + 1).toNat)
    case atStart => exact ⟨0, n, bs, rfl, rfl, by omega, Lib.hid (by omega), revAt_zero _, h', World.grownBy.refl _ _⟩
    case round =>
      obtain ⟨k, m, ys, rfl, rfl, hkm, hkn, hrev, hown, hgr⟩ := hrel
      by_cases hlt : k + 1 < m
      · obtain ⟨j, rfl⟩ : ∃ j, m = j + 1 := ⟨m - 1, by omega⟩
        have hnk := hkn.out
        have hyl : ys.length = n := hrev.1.trans HN.out.symm
        have hjn : j < n := by omega
        have hkn2 : k < n := by omega
        have hkj : k < j := by omega
        have c1 := hown.cellAt k (by omega)
        have c2 := hown.cellAt j (by omega)
        have f1 := hown.frozenAt k
        have f2 := hown.frozenAt j
        obtain ⟨x, hx⟩ : ∃ x, x = ys.getD k 0 := ⟨_, rfl⟩
        obtain ⟨y, hy⟩ : ∃ y, y = ys.getD j 0 := ⟨_, rfl⟩
        have d1 : wr.cell? ⟨g, k, none⟩ = some (.int .u8 (x : Nat)) := by rw [c1, hx]; simp [List.getD, hyl, hkn2, byt]
        have d2 : wr.cell? ⟨g, j, none⟩ = some (.int .u8 (y : Nat)) := by rw [c2, hy]; simp [List.getD, hyl, hjn, byt]
        have HX := Lib.hid hx
        have HY := Lib.hid hy
        have HYL := Lib.hid hyl
        clear c1 c2 hx hy hyl hnk
        go_wp2_with fail
        go_region
        go_wp2_with fail
        go_roundw
        case rel =>
          have s1 := hown.stored k (byt y)
          have s2 := s1.1.stored j (byt x)
          rw [← List.map_set, ← List.map_set] at s2
          have hst := revAt_step hrev (j := j) (by have := hkn.out; have := HN.out; omega) hkj
          rw [← HX.out, ← HY.out] at hst
          exact ⟨k + 1, j, _, by go_num, rfl, by omega, Lib.hid (by have := hkn.out; omega), hst, s2.1, grown_trans hgr (grown_trans s1.2 (grown_drewN s2.2 1))⟩
        case measure => simp [intOf]
      · go_wp2_with fail
        go_end0
        have e : ys = bs.reverse := revAt_done hrev (by have := hkn.out; have := HN.out; omega)
        subst e
        refine ⟨rfl, ?_, hgr⟩
        unfold OwnB
        rw [List.length_reverse, ← HN.out]
        exact hown
end Go.Proofs.YtifpfoeecnkhoaaDoor
