/- Package erasure: Join's refusals; the reference Join. -/
import Derived.Test.YtmlcenocjpjcfaaE24
namespace Go.Proofs.Ytmlcenocjpjcfaa
open Go.RowKit GfM

/-- Bytes and an error number are returned. -/
def RetRE (w : World) (xs : List Nat) (er : Int) (e : Ending) (w' : World) : Prop := ∃ a l c, e = .returned (.tuple #[.slice a l c, .int .i64 er]) ∧ Reads w' (.slice a l c) xs ∧ Add w w'
theorem RetErr.re {w w' : World} {er : Int} {e : Ending} (h : RetErr w er e w') : RetRE w [] er e w' := ⟨none, 0, 0, h.1, Reads.nil _, h.2⟩
def joinOk (n : Int) (rs : List (List Nat)) : Bool := decide (0 ≤ n) && decide (n ≤ (rs.flatten.length : Nat))
def joinR (n : Int) (rs : List (List Nat)) : List Nat := if joinOk n rs then rs.flatten.take n.toNat else []
def joinE (n : Int) (rs : List (List Nat)) : Int := if joinOk n rs then 0 else 1

set_option maxRecDepth 100000 in
theorem join_bad {w : World} {v : Value} {vs : List Value} {rs : List (List Nat)} {n : Int} (h : RowsB w v vs rs) (h30 : rs.length ≤ 30) (h2 : ∀ i, (rs.getD i []).length ≤ 2000) (hn : n < 0 ∨ ((rs.flatten.length : Nat) : Int) < n) :
    Calls Try.prog 28 #[v, .int .i64 n] w (RetErr w 1) := by
  have CT : Hid (Calls Try.prog 46 #[v] w (fun e w' => e = .returned (.int .i64 (rs.flatten.length : Nat)) ∧ w = w')) := Lib.hid (total_any h h30 h2 rfl)
  obtain ⟨T, eT⟩ : ∃ T, T = rs.flatten.length := ⟨_, rfl⟩
  rw [← eT] at CT hn
  obtain ⟨ao, c, rfl, hml⟩ := h.isSlice
  clear h eT h2
  by_cases h0 : n < 0
  · have d1 : decide (n < 0) = true := decide_eq_true h0
    clear hn
    go_enter Try.func28, Try.ntmps28
    go_wp2_with fail
    go_ret2
    exact ⟨rfl, Below.refl _ _⟩
  · have d1 : decide (n < 0) = false := decide_eq_false h0
    have d2 : decide ((T : Int) < n) = true := decide_eq_true (by omega)
    clear hn
    go_enter Try.func28, Try.ntmps28
    go_wp2_with (go_at_call 46; (with_reducible refine CT.out.mono ?_); rintro e w' ⟨rfl, rfl⟩)
    go_ret2
    exact ⟨rfl, Below.refl _ _⟩
theorem join_any {w : World} {v : Value} {vs : List Value} {rs : List (List Nat)} (n : Int) (h : RowsB w v vs rs) (h30 : rs.length ≤ 30) (h2 : ∀ i, (rs.getD i []).length ≤ 2000) :
    Calls Try.prog 28 #[v, .int .i64 n] w (RetRE w (joinR n rs) (joinE n rs)) := by
  unfold joinR joinE
  cases hj : joinOk n rs with
  | true =>
    unfold joinOk at hj
    rw [Bool.and_eq_true] at hj
    have a1 := of_decide_eq_true hj.1
    have a2 := of_decide_eq_true hj.2
    obtain ⟨m, rfl⟩ : ∃ m : Nat, n = (m : Int) := ⟨n.toNat, by omega⟩
    rw [if_pos rfl, if_pos rfl, Int.toNat_natCast]
    exact join_ok h h30 h2 (by omega)
  | false =>
    unfold joinOk at hj
    rw [Bool.and_eq_false_iff] at hj
    rw [if_neg (by decide), if_neg (by decide)]
    refine (join_bad h h30 h2 ?_).mono fun e w' q => q.re
    rcases hj with hj | hj
    · have := of_decide_eq_false hj; omega
    · have := of_decide_eq_false hj; omega

set_option maxRecDepth 100000 in
set_option maxHeartbeats 4000000 in
theorem refJoin_any {w : World} {v : Value} {vs : List Value} {rs : List (List Nat)} (n : Int) (h : RowsB w v vs rs) (h30 : rs.length ≤ 30) (h2 : ∀ i, (rs.getD i []).length ≤ 2000) :
    Calls Try.prog 29 #[v, .int .i64 n] w (RetRE w (joinR n rs) (joinE n rs)) := by
  have HB : Hid (∀ q, Bys (rs.take q).flatten) := Lib.hid fun q => by
    intro x hx
    obtain ⟨r, hr, hxr⟩ := List.mem_flatten.1 hx
    exact bys_flat (rows_bys h) x (List.mem_flatten.2 ⟨r, List.mem_of_mem_take hr, hxr⟩)
  have H2 := Lib.hid h2
  obtain ⟨ao, cr, rfl, hml⟩ := h.isSlice
  obtain ⟨l, hl⟩ : ∃ l, l = rs.length := ⟨_, rfl⟩
  rw [← hl] at h hml h30 ⊢
  have HL := Lib.hid hl
  have HR := Lib.hid h
  clear hl h hml h2
  go_enter Try.func29, Try.ntmps29
  go_wp2_with fail
  go_loopw [6, 7] (fun a i wr => ∃ (so : Option Addr) (N c q : Nat), N = (rs.take q).flatten.length ∧ N ≤ 2000 * q ∧ q ≤ l ∧ a = .slice so N c ∧ i = .int .i64 (q : Nat) ∧ OwnB wr w.heap.size (.slice so N c) (rs.take q).flatten ∧ Add w wr) (fun _ i _ => l - (intOf i).toNat)
  case atStart => exact ⟨none, 0, 0, 0, rfl, Nat.zero_le _, Nat.zero_le _, rfl, rfl, World.ownsRow_nil _ _ _ _, Below.refl _ _⟩
  case round =>
    obtain ⟨so, N, c, q, hN, hNb, hq, rfl, rfl, hown, hadd⟩ := hrel
    by_cases h0 : q = l
    · have hf : (rs.take q).flatten = rs.flatten := by rw [h0, HL.out, List.take_length]
      rw [hf] at hN hown
      have hbf : Bys rs.flatten := by have := HB.out q; rw [hf] at this; exact this
      by_cases hj : 0 ≤ n ∧ n ≤ (N : Int)
      · obtain ⟨m, rfl⟩ : ∃ m : Nat, n = (m : Int) := ⟨n.toNat, by omega⟩
        have hok : joinOk (m : Int) rs = true := by unfold joinOk; rw [← hN]; simp; omega
        have hR : joinR (m : Int) rs = rs.flatten.take m := by unfold joinR; rw [if_pos hok, Int.toNat_natCast]
        have hE : joinE (m : Int) rs = 0 := by unfold joinE; rw [if_pos hok]
        have HEE := Lib.hid hE
        have HRR := Lib.hid hR
        have d1 : decide ((m : Int) < 0) = false := decide_eq_false (by omega)
        have d2 : decide ((N : Int) < (m : Int)) = false := decide_eq_false (by omega)
        have hmN : m ≤ N := by omega
        rcases hown.2 with ⟨e, hz⟩ | ⟨g, cap, cur, e, hbg, hgg, hnc, hcm, hcs, htake⟩
        · cases e
          have hm0 : m = 0 := by omega
          have HEND : Hid (Reads wr (.slice none 0 0) (joinR (m : Int) rs) ∧ Add w wr) := Lib.hid ⟨by rw [hR, hm0, List.take_zero]; exact Reads.nil _, hadd⟩
          clear hR hE hok hN hown hadd hf hbf hj hz
          subst hm0
          subst h0
          go_wp2_with fail
          go_ret2
          exact ⟨_, _, _, by rw [HEE.out]; rfl, HEND.out.1, HEND.out.2⟩
        · obtain ⟨e1, e2, e3⟩ := Value.slice.inj e
          subst e1
          subst e3
          have hown3 : wr.ownsRow w.heap.size 5 1 (.slice (some ⟨g, 0, none⟩) N c) N (rs.flatten.map lim) := by
            have := hown; unfold OwnB at this; rw [← hN] at this; exact this
          have hrd := Reads.own (xs := rs.flatten) hown3 (by omega) hcm hbf
          have HEND : Hid (Reads wr (.slice (some ⟨g, 0, none⟩) m c) (rs.flatten.take m) ∧ Add w wr) := Lib.hid ⟨by
            obtain ⟨ao', n', c', e, hl', hc', hm', -, hr'⟩ := hrd
            cases e
            refine ⟨_, m, c, rfl, by rw [List.length_take]; omega, by omega, hcm, hbf.take m, fun hp => ?_⟩
            obtain ⟨b, off, e, hce⟩ := hr' (by omega)
            refine ⟨b, off, e, fun i hi => ?_⟩
            rw [hce i (by omega), getD_take _ _ _ hi], hadd⟩
          have hmc : m ≤ c := by omega
          clear hR hE hok hN hown hown3 e e2 hadd hf hbf hj hrd hgg hcs htake hnc
          subst h0
          go_wp2_with fail
          go_ret2
          exact ⟨_, _, _, by rw [HEE.out]; rfl, by rw [HRR.out]; exact HEND.out.1, HEND.out.2⟩
      · have hok : joinOk n rs = false := by
          unfold joinOk; rw [← hN]
          rw [Bool.and_eq_false_iff]
          by_cases hz : 0 ≤ n
          · exact .inr (decide_eq_false (by omega))
          · exact .inl (decide_eq_false hz)
        have hR : joinR n rs = [] := by unfold joinR; rw [if_neg (by rw [hok]; decide)]
        have hE : joinE n rs = 1 := by unfold joinE; rw [if_neg (by rw [hok]; decide)]
        have HEE := Lib.hid hE
        have HRR := Lib.hid hR
        have HEND := Lib.hid hadd
        clear hR hE hok hN hown hadd hf hbf
        by_cases hz : n < 0
        · have d1 : decide (n < 0) = true := decide_eq_true hz
          clear hj
          subst h0
          go_wp2_with fail
          go_ret2
          exact ⟨_, _, _, by rw [HEE.out]; rfl, by rw [HRR.out]; exact Reads.nil _, HEND.out⟩
        · have d1 : decide (n < 0) = false := decide_eq_false hz
          have d2 : decide ((N : Int) < n) = true := decide_eq_true (by omega)
          clear hj
          subst h0
          go_wp2_with fail
          go_ret2
          exact ⟨_, _, _, by rw [HEE.out]; rfl, by rw [HRR.out]; exact Reads.nil _, HEND.out⟩
    · have hlt : q < l := by omega
      obtain ⟨b, off, a, lx, cc, rfl, -, el, -, hcell, hrd⟩ := (HR.out.mono hadd).row hlt
      have hx2 : lx ≤ 2000 := by rw [el]; exact H2.out q
      obtain ⟨v', w', hrun, hown', happ⟩ := append_bytes hown hrd (by omega) hadd.size
      have hq2 : q < rs.length := by rw [← HL.out]; exact hlt
      rw [← flat_take hq2] at hown'
      obtain ⟨so', c', rfl⟩ := own_slice hown'
      have HNEXT : Hid (OwnB w' w.heap.size (.slice so' ((rs.take (q + 1)).flatten.length) c') (rs.take (q + 1)).flatten ∧ Add w w') := Lib.hid ⟨hown', happ.add hadd hown⟩
      have hN2 : (rs.take (q + 1)).flatten.length = N + lx := by rw [flat_take hq2, List.length_append, ← hN, el]
      rw [hN2] at HNEXT hrun
      have HN2 := Lib.hid hN2.symm
      have HQ := Lib.hid hrun
      clear hown hadd hrd hown' happ hrun hN2 hN el h0
      go_wp2_with (at_builtin; refine Lib.wpList_append_run _ rfl _ _ _ _ rfl _ _ rfl rfl _ _ HQ.out ?_)
      go_roundw
      case rel => exact ⟨so', N + lx, c', q + 1, HN2.out, by omega, by omega, rfl, by go_num, HNEXT.out.1, HNEXT.out.2⟩
      case measure => simp [intOf]; omega
end Go.Proofs.Ytmlcenocjpjcfaa
