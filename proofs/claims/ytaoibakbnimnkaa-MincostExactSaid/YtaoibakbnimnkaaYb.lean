/- Package mincost: lower. -/
import Derived.Test.YtaoibakbnimnkaaYa
namespace Go.Proofs.Ytaoibakbnimnkaa
open Go.RowKit NetM

/-- While the potentials are lowered: k nodes were. -/
def LowM (w0 wr : World) (A0 A : List Arc) (N gr ga gs gf gp gx gt : Nat) (va sv : Value) (R : Nat → Int) (P X : List Int) (T : List Bool) (V : List NC) (most : Int) (gv k : Nat) : Prop :=
  CB w0 wr A0 A N gr ga gs gf gp gx gt va sv R (lowV P (V.take k) most) X T ∧ ∃ cur, wr.heap[gv]? = some (.cells cur 91 (0, 0)) ∧ cur.toList.take (V.length * 2) = flat V
set_option maxRecDepth 100000 in
set_option maxHeartbeats 4000000 in
theorem lower_any {w0 w : World} {A0 A : List Arc} {N gr ga gs gf gp gx gt base : Nat} {va sv vv : Value} {R : Nat → Int} {P X : List Int} {T : List Bool} {V : List NC} {most : Int} (hCB : CB w0 w A0 A N gr ga gs gf gp gx gt va sv R P X T)
    (hP : ∀ x, x < N → -200000000 ≤ P.getD x 0 ∧ P.getD x 0 ≤ 200000000) (hown : w.ownsRow base 91 2 vv V.length (flat V)) (hne : 0 < V.length) (hlast : (gH V (V.length - 1)).2 = most)
    (hvis : ∀ e ∈ V, e.1 < N ∧ 0 ≤ e.2 ∧ e.2 ≤ most) (hnd : (V.map (·.1)).Nodup) (hN : N ≤ 700) (hm : most ≤ 700000000000) :
    Calls Try.prog 59 #[.pointer (some ⟨gr, 0, none⟩), vv] w fun e w' => e = .returned (.tuple #[]) ∧ CB w0 w' A0 A N gr ga gs gf gp gx gt va sv R (lowV P V most) X T := by
  obtain ⟨gv, cap, rfl, hb1, hb2⟩ := hown.form hne
  have hPl := hCB.2.2.2.2.2.2.2.1
  have hVl : V.length ≤ 700 := by
    have := nodup_len hnd (n := N) fun x hx => by
      obtain ⟨e, he, rfl⟩ := List.mem_map.1 hx
      exact (hvis e he).1
    rw [List.length_map] at this; omega
  obtain ⟨cur, hcur, hct, hcap, hcap2⟩ : ∃ cur, w.heap[gv]? = some (.cells cur 91 (0, 0)) ∧ cur.toList.take (V.length * 2) = flat V ∧ V.length ≤ cap ∧ cap ≤ maxLen := by
    rcases hown.2 with ⟨e, -⟩ | ⟨g', cap', cur, e, q1, q2, q3, q4, q5, q6⟩
    · simp at e
    · simp only [Value.slice.injEq, Option.some.injEq, Addr.mk.injEq, and_true, true_and] at e
      obtain ⟨rfl, rfl⟩ := e
      exact ⟨cur, q2, q6, q3, q4⟩
  have HM0 : Hid (LowM w0 w A0 A N gr ga gs gf gp gx gt va sv R P X T V most gv 0) := Lib.hid ⟨hCB, cur, hcur, hct⟩
  have hrow : ∀ (W : World) (cu : Array Value) (k : Nat), W.heap[gv]? = some (.cells cu 91 (0, 0)) → cu.toList.take (V.length * 2) = flat V → k < V.length → W.cell? ⟨gv, k * 2, none⟩ = some (.int .i64 ((gH V k).1 : Nat)) ∧ W.cell? ⟨gv, k * 2 + 1, none⟩ = some (.int .i64 (gH V k).2) := by
    intro W cu k h1 h2 hk
    have h3 := flat_get V k hk
    rw [cell_of_row W gv _ cu _ (0, 0) h1, cell_of_row W gv _ cu _ (0, 0) h1]
    rw [← h2, List.getElem?_take, List.getElem?_take, if_pos (by omega), if_pos (by omega)] at h3
    simpa [natv, iv] using h3
  have r0 := (hrow w cur (V.length - 1) hcur hct (by omega)).2
  rw [hlast] at r0
  have HROW := Lib.hid hrow
  have HVIS : Hid (∀ k, k < V.length → (gH V k).1 < N ∧ 0 ≤ (gH V k).2 ∧ (gH V k).2 ≤ most) := Lib.hid fun k hk => hvis _ (gV_mem hk)
  have HSTEP : Hid (∀ k, k < V.length → lowV P (V.take (k + 1)) most = (lowV P (V.take k) most).set (gH V k).1 ((lowV P (V.take k) most).getD (gH V k).1 0 - (most - (gH V k).2)) ∧
      -1000000000000 ≤ (lowV P (V.take k) most).getD (gH V k).1 0 ∧ (lowV P (V.take k) most).getD (gH V k).1 0 ≤ 1000000000000 ∧ (lowV P (V.take k) most).length = N) := Lib.hid fun k hk => by
    refine ⟨?_, ?_⟩
    · rw [List.take_succ_eq_append_getElem hk, lowV_snoc]
      have e : gH V k = V[k] := by unfold gH; simp [List.getD, hk]
      rw [e]
    · have hkN := (hvis _ (gV_mem hk)).1
      have hb := hP _ hkN
      rcases lowV_get most (gH V k).1 (V.take k) P ((hnd.sublist ((List.take_sublist k V).map _))) (fun e he => by rw [hPl]; exact (hvis e (List.mem_of_mem_take he)).1) with ⟨e, he, h1, h2⟩ | ⟨h1, h2⟩
      · have := hvis e (List.mem_of_mem_take he)
        rw [h2, lowV_len]; exact ⟨by omega, by omega, hPl⟩
      · rw [h2, lowV_len]; exact ⟨by omega, by omega, hPl⟩
  obtain ⟨L, hL⟩ : ∃ L, L = V.length := ⟨_, rfl⟩
  have HL := Lib.hid hL
  rw [← hL] at hcap r0 hne hVl ⊢
  have hmb : 0 ≤ most := by
    have := hvis _ (gV_mem (k := V.length - 1) (by omega))
    omega
  unfold maxLen at hcap2
  have l0 := (Array.getElem?_eq_some_iff.1 hcur).1
  have hL1 : ((L : Int) - 1) = ((L - 1 : Nat) : Int) := by omega
  have r0' : w.cell? ⟨gv, (L - 1) * 2 + 1, none⟩ = some (.int .i64 most) := r0
  clear hCB hP hown hlast hvis hnd hrow hcur hct hPl hL hb1 hb2 r0
  go_enter Try.func59, Try.ntmps59
  go_wp2_with fail
  go_loopw [16] (fun iv wr => ∃ k : Nat, k ≤ L ∧ iv = .int .i64 k ∧ Hid (LowM w0 wr A0 A N gr ga gs gf gp gx gt va sv R P X T V most gv k)) (fun iv _ => L - (intOf iv).toNat)
  case atStart => exact ⟨0, Nat.zero_le _, rfl, HM0⟩
  case round =>
    clear HM0
    obtain ⟨k, hk, rfl, HM⟩ := hrel
    obtain ⟨hC, cu, hcu, hct⟩ := HM.out
    by_cases hlt : k < L
    · obtain ⟨q0, q1⟩ := HROW.out wr cu k hcu hct (by rw [← HL.out]; exact hlt)
      obtain ⟨v1, v2, v3⟩ := HVIS.out k (by rw [← HL.out]; exact hlt)
      obtain ⟨s1, s2, s3, s4⟩ := HSTEP.out k (by rw [← HL.out]; exact hlt)
      have c3 := hC.1.c3
      obtain ⟨a, ha⟩ : ∃ a, a = (gH V k).1 := ⟨_, rfl⟩
      obtain ⟨c, hcc⟩ : ∃ c, c = (gH V k).2 := ⟨_, rfl⟩
      rw [← ha] at q0 v1 s1 s2 s3
      rw [← hcc] at q1 v2 v3 s1
      have p0 : wr.cell? ⟨gp, a, none⟩ = some (.int .i64 ((lowV P (V.take k) most).getD a 0)) := IBlk.get hC.2.2.2.2.1 a (by omega)
      have pf := Blk.free hC.2.2.2.2.1 a
      have l1 := Blk.lt hC.2.2.2.2.1
      have l2 := hC.1.lt
      have l3 := (Array.getElem?_eq_some_iff.1 hcu).1
      have HN : Hid (∀ W'', Add (wr.setCell ⟨gp, a, none⟩ (.int .i64 ((lowV P (V.take k) most).getD a 0 - (most - c)))) W'' → LowM w0 W'' A0 A N gr ga gs gf gp gx gt va sv R P X T V most gv (k + 1)) := Lib.hid fun W'' hA2 => by
        have h1 := hC.pot a ((lowV P (V.take k) most).getD a 0 - (most - c))
        rw [← s1] at h1
        exact ⟨h1.add hA2, cu, addB ((heap_setCell_other wr ⟨gp, a, none⟩ gv _ (ty_ne hcu hC.2.2.2.2.1 (by decide))).trans hcu) hA2, hct⟩
      obtain ⟨pv, hpv⟩ : ∃ pv, pv = (lowV P (V.take k) most).getD a 0 := ⟨_, rfl⟩
      rw [← hpv] at p0 s2 s3 HN
      have W1 : IntKind.i64.wrap (most - c) = most - c := IntWalk.i64_in _ (by omega)
      have W2 : IntKind.i64.wrap (pv - (most - c)) = pv - (most - c) := IntWalk.i64_in _ (by omega)
      clear hC hcu hct HM ha hcc hpv s1
      go_upto_region 4 with fail
      go_region
      go_wp2_with fail
      go_roundw
      case rel => exact ⟨k + 1, by omega, by go_num, Lib.hid (HN.out _ (b_drew ((Below.refl _ _).alloc (Nat.le_refl _) _)))⟩
      case measure => simp [intOf]; omega
    · obtain rfl : k = L := by omega
      have HF : Hid (CB w0 wr A0 A N gr ga gs gf gp gx gt va sv R (lowV P V most) X T) := Lib.hid (by
        have h := hC
        rwa [HL.out, List.take_of_length_le (Nat.le_refl _)] at h)
      clear hC hcu hct HM
      go_wp2_with fail
      go_end0
      exact ⟨rfl, HF.out⟩
end Go.Proofs.Ytaoibakbnimnkaa
