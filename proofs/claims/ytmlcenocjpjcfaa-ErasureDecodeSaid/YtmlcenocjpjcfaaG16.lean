/- Package field: findPivot. -/
import Derived.Test.YtmlcenocjpjcfaaG15
import Derived.RegionTactic
import Derived.BigRegion
namespace Go.Proofs.Ytmlcenocjpjcfaa
open Go.RowKit GfM

/-- The first row from i on whose element in column j is not 0, among f rows. -/
def findP (M : List (List Nat)) (j : Nat) : Nat → Nat → Option Nat
  | 0, _ => none
  | f + 1, i => if (M.getD i []).getD j 0 = 0 then findP M j f (i + 1) else some i
/-- Elements i and j exchanged. -/
def swapAt {α : Type} (d : α) (l : List α) (i j : Nat) : List α := (l.set i (l.getD j d)).set j (l.getD i d)
def sig (i j k : Nat) : Nat := if k = j then i else if k = i then j else k
theorem length_swapAt {α : Type} (d : α) (l : List α) (i j : Nat) : (swapAt d l i j).length = l.length := by simp [swapAt]
theorem getD_set {α : Type} (d : α) (l : List α) (i k : Nat) (a : α) (hi : i < l.length) : (l.set i a).getD k d = if k = i then a else l.getD k d := by
  by_cases e : k = i
  · subst e; simp [List.getD, hi]
  · rw [if_neg e]; simp only [List.getD]; rw [List.getElem?_set_ne (by omega)]
theorem getD_swapAt {α : Type} (d : α) (l : List α) (i j k : Nat) (hi : i < l.length) (hj : j < l.length) : (swapAt d l i j).getD k d = l.getD (sig i j k) d := by
  unfold swapAt sig
  rw [getD_set d _ _ _ _ (by rw [List.length_set]; exact hj), getD_set d _ _ _ _ hi]
  by_cases h1 : k = j
  · rw [if_pos h1, if_pos h1]
  · rw [if_neg h1, if_neg h1]
    by_cases h2 : k = i
    · rw [if_pos h2, if_pos h2]
    · rw [if_neg h2, if_neg h2]
theorem sig_lt {i j k n : Nat} (hi : i < n) (hj : j < n) (hk : k < n) : sig i j k < n := by
  unfold sig; split
  · exact hi
  · split
    · exact hj
    · exact hk
theorem sig_inj {i j a b : Nat} (h : a ≠ b) : sig i j a ≠ sig i j b := by
  unfold sig; repeat' split
  all_goals omega
theorem nodup_of {gs : List Nat} (h : ∀ a b, a < gs.length → b < gs.length → a ≠ b → gs.getD a 0 ≠ gs.getD b 0) : gs.Nodup := by
  refine List.pairwise_iff_getElem.2 fun i j hi hj hij => ?_
  have := h i j hi hj (by omega)
  simpa [List.getD, hi, hj] using this
theorem mem_swapAt {gs : List Nat} {i j : Nat} (hi : i < gs.length) (hj : j < gs.length) {g : Nat} (h : g ∈ swapAt 0 gs i j) : g ∈ gs := by
  obtain ⟨k, hk, e⟩ := List.mem_iff_getElem.1 h
  have hk' : k < gs.length := by rw [length_swapAt] at hk; exact hk
  have : (swapAt 0 gs i j).getD k 0 = g := by simp [List.getD, hk, e]
  rw [getD_swapAt 0 gs i j k hi hj] at this
  rw [← this]; exact getD_mem (sig_lt hi hj hk')
theorem Mat.swap {w w' : World} {base G m i j : Nat} {gs : List Nat} {M : List (List Nat)} (h : Mat w base G m 0 gs M) (hi : i < M.length) (hj : j < M.length) (hg : w.grownBy w' (some G))
    (hh : Heads w' G (((gs.map (hdr m)).set i (hdr m (gs.getD j 0))).set j (hdr m (gs.getD i 0)))) : Mat w' base G m 0 (swapAt 0 gs i j) (swapAt [] M i j) := by
  obtain ⟨h1, h2, h3, h4, h5, h6⟩ := h
  have li : i < gs.length := by rw [h2.1]; exact hi
  have lj : j < gs.length := by rw [h2.1]; exact hj
  refine ⟨?_, ⟨by rw [length_swapAt, length_swapAt]; exact h2.1, fun k hk => ?_⟩, ?_, fun e => h4 (mem_swapAt li lj e), h5, fun g hgm => h6 g (mem_swapAt li lj hgm)⟩
  · rw [List.replicate_zero, List.append_nil]
    unfold swapAt
    rw [List.map_set, List.map_set]
    exact hh
  · rw [length_swapAt] at hk
    rw [getD_swapAt 0 gs i j k li lj, getD_swapAt [] M i j k hi hj]
    have h7 := h2.2 (sig i j k) (sig_lt hi hj hk)
    exact ⟨h7.1.kept hg (fun e => h4 (by rw [← Option.some.inj e]; exact getD_mem (by rw [h2.1]; exact sig_lt hi hj hk))), h7.2⟩
  · refine nodup_of fun a b ha hb hab => ?_
    rw [length_swapAt] at ha hb
    rw [getD_swapAt 0 gs i j a li lj, getD_swapAt 0 gs i j b li lj]
    exact nodup_getD h3 (sig_lt li lj ha) (sig_lt li lj hb) (sig_inj hab)

/-- What findPivot leaves. -/
def PivP (w : World) (base G m : Nat) (gs : List Nat) (M : List (List Nat)) (j : Nat) (res : Option Nat) (e : Ending) (w' : World) : Prop :=
  match res with
  | none => e = .returned (.bool false) ∧ w' = w
  | some i => j ≤ i ∧ i < M.length ∧ e = .returned (.bool true) ∧ Mat w' base G m 0 (swapAt 0 gs i j) (swapAt [] M i j) ∧ w.grownBy w' (some G)
theorem findP_step {M : List (List Nat)} {j k n : Nat} (hk : k < n) (h : (M.getD k []).getD j 0 = 0) : findP M j (n - k) k = findP M j (n - (k + 1)) (k + 1) := by
  have e : n - k = (n - (k + 1)) + 1 := by omega
  rw [e, findP, if_pos h]
theorem findP_hit {M : List (List Nat)} {j k n : Nat} (hk : k < n) (h : (M.getD k []).getD j 0 ≠ 0) : findP M j (n - k) k = some k := by
  have e : n - k = (n - (k + 1)) + 1 := by omega
  rw [e, findP, if_neg h]
theorem setCell2 {w : World} {G i j : Nat} {hs : List Value} (h : Heads w G hs) (a b : Value) : Heads ((w.setCell ⟨G, i, none⟩ a).setCell ⟨G, j, none⟩ b) G ((hs.set i a).set j b) ∧ w.grownBy ((w.setCell ⟨G, i, none⟩ a).setCell ⟨G, j, none⟩ b) (some G) :=
  ⟨(h.set i a).set j b, grown_trans (grown_setCell i a) (grown_setCell j b)⟩

set_option maxRecDepth 100000 in
set_option maxHeartbeats 4000000 in
theorem findPivot_any {w : World} {base G m n j : Nat} {gs : List Nat} {M : List (List Nat)} (h : Mat w base G m 0 gs M) (_hb : BysM M) (hn : M.length = n) (hj : j < n) (hjm : j < m) (hn2 : n ≤ 1000) (_hm2 : m ≤ 1000) :
    Calls Try.prog 44 #[.slice (some ⟨G, 0, none⟩) n n, .int .i64 (j : Nat)] w (PivP w base G m gs M j (findP M j (n - j) j)) := by
  obtain ⟨res, er⟩ : ∃ res, res = findP M j (n - j) j := ⟨_, rfl⟩
  rw [← er]
  have ER := Lib.hid er
  have HM := Lib.hid h
  have HN := Lib.hid hn
  clear er h hn
  go_enter Try.func44, Try.ntmps44
  go_wp2_with fail
  go_loop [5] (fun i => ∃ k : Nat, j ≤ k ∧ k ≤ n ∧ i = .int .i64 (k : Nat) ∧ findP M j (n - k) k = res) (fun i => n - (intOf i).toNat)
  case atStart => exact ⟨j, Nat.le_refl _, by omega, rfl, ER.out.symm⟩
  case round =>
    obtain ⟨k, hjk, hk, rfl, hrel⟩ := hrel
    by_cases h0 : k = n
    · have HF : Hid (res = none) := Lib.hid (by rw [← hrel, h0, Nat.sub_self]; rfl)
      clear hrel
      subst h0
      go_wp2_with fail
      go_ret
      rw [HF.out]
      exact ⟨rfl, rfl⟩
    · have hlt : k < n := by omega
      have hc := HM.out.cell (i := k) (by rw [HN.out]; exact hlt)
      have hr := HM.out.2.1.2 k (by rw [HN.out]; exact hlt)
      obtain ⟨g, eg⟩ : ∃ g, g = gs.getD k 0 := ⟨_, rfl⟩
      obtain ⟨z, ez⟩ : ∃ z, z = (M.getD k []).getD j 0 := ⟨_, rfl⟩
      have hz := hr.1.cell j (by rw [hr.2]; exact hjm)
      rw [← eg] at hc hz
      rw [← ez] at hz
      unfold hdr at hc
      have EG := Lib.hid eg
      have EZ := Lib.hid ez
      have HREL := Lib.hid hrel
      clear hr eg ez hrel h0
      by_cases hz0 : z = 0
      · have HR2 : Hid (findP M j (n - (k + 1)) (k + 1) = res) := Lib.hid (by rw [← findP_step hlt (by rw [← EZ.out]; exact hz0)]; exact HREL.out)
        subst hz0
        go_wp2_with fail
        go_round
        case rel => exact ⟨k + 1, by omega, by omega, by go_num, HR2.out⟩
        case measure => simp [intOf]; omega
      · have hne : ((z : Int) != 0) = true := by simp; omega
        have HF : Hid (res = some k) := Lib.hid (by rw [← HREL.out]; exact findP_hit hlt (by rw [← EZ.out]; exact hz0))
        have hheads : Heads w G (gs.map (hdr m)) := by have := HM.out.1; rw [List.replicate_zero, List.append_nil] at this; exact this
        have hf1 := hheads.free k
        have hf2 := hheads.free j
        have hc2 := HM.out.cell (i := j) (by rw [HN.out]; exact hj)
        obtain ⟨g2, eg2⟩ : ∃ g, g = gs.getD j 0 := ⟨_, rfl⟩
        rw [← eg2] at hc2
        unfold hdr at hc2
        have HEND : Hid (PivP w base G m gs M j (some k) (.returned (.bool true)) ((w.setCell ⟨G, k, none⟩ (.slice (some ⟨g2, 0, none⟩) m m)).setCell ⟨G, j, none⟩ (.slice (some ⟨g, 0, none⟩) m m))) := Lib.hid (by
          obtain ⟨q1, q2⟩ := setCell2 (i := k) (j := j) hheads (hdr m g2) (hdr m g)
          refine ⟨hjk, by rw [HN.out]; exact hlt, rfl, HM.out.swap (by rw [HN.out]; exact hlt) (by rw [HN.out]; exact hj) q2 ?_, q2⟩
          rw [eg2, EG.out] at q1
          rw [eg2, EG.out]; exact q1)
        clear hheads eg2 hz0
        by_cases hkj : k = j
        · subst hkj
          have e2 : g2 = g := by rw [hc] at hc2; cases hc2; rfl
          have e3 := e2.symm
          subst e3
          clear hc2
          go_wp2_with fail
          go_region
          all_goals
            go_wp2_with fail
            go_ret
            rw [HF.out]
            obtain ⟨q1, q2, -, q4, q5⟩ := HEND.out
            exact ⟨q1, q2, rfl, q4.drew 1, grown_drewN q5 1⟩
        · go_wp2_with fail
          go_region
          all_goals
            go_wp2_with fail
            go_ret
            rw [HF.out]
            obtain ⟨q1, q2, -, q4, q5⟩ := HEND.out
            exact ⟨q1, q2, rfl, q4.drew 1, grown_drewN q5 1⟩
end Go.Proofs.Ytmlcenocjpjcfaa
