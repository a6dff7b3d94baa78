/- Package field: addMultiple. -/
import Derived.Test.YtmlcenocjpjcfaaG8
import Derived.Deep.AppendLies
namespace Go.Proofs.Ytmlcenocjpjcfaa
open Go.RowKit GfM

/-- zs with f times xs added to its first elements. -/
def addTo : List Nat → Nat → List Nat → List Nat
  | z :: zs, f, x :: xs => (z ^^^ gm f x) :: addTo zs f xs
  | zs, _, [] => zs
  | [], _, _ :: _ => []
theorem addTo_nil (zs : List Nat) (f : Nat) : addTo zs f [] = zs := by cases zs <;> rfl
theorem length_addTo (zs : List Nat) (f : Nat) (xs : List Nat) : (addTo zs f xs).length = zs.length := by
  induction zs generalizing xs with
  | nil => cases xs <;> rfl
  | cons z zs ih => cases xs with
    | nil => rfl
    | cons x xs => simp [addTo, ih]
theorem getD_addTo (zs : List Nat) (f : Nat) (xs : List Nat) (k : Nat) (hk : k < zs.length) : (addTo zs f (xs.take k)).getD k 0 = zs.getD k 0 := by
  induction k generalizing zs xs with
  | zero => rw [List.take_zero, addTo_nil]
  | succ k ih =>
    cases zs with
    | nil => simp at hk
    | cons z zs => cases xs with
      | nil => rw [List.take_nil, addTo_nil]
      | cons x xs => simp only [List.take_succ_cons, addTo, List.getD_cons_succ]; exact ih zs xs (by simpa using hk)
theorem addTo_step (zs : List Nat) (f : Nat) (xs : List Nat) (k : Nat) (hk : k < zs.length) (hx : k < xs.length) : (addTo zs f (xs.take k)).set k (zs.getD k 0 ^^^ gm f (xs.getD k 0)) = addTo zs f (xs.take (k + 1)) := by
  induction k generalizing zs xs with
  | zero =>
    cases zs with
    | nil => simp at hk
    | cons z zs => cases xs with
      | nil => simp at hx
      | cons x xs => simp [addTo, addTo_nil]
  | succ k ih =>
    cases zs with
    | nil => simp at hk
    | cons z zs => cases xs with
      | nil => simp at hx
      | cons x xs =>
        simp only [List.take_succ_cons, addTo, List.getD_cons_succ, List.set_cons_succ]
        rw [ih zs xs (by simpa using hk) (by simpa using hx)]
theorem bys_addTo {zs xs : List Nat} {f : Nat} (hz : Bys zs) (hf : f < 256) : Bys (addTo zs f xs) := by
  induction zs generalizing xs with
  | nil => cases xs <;> exact Bys.nil
  | cons z zs ih => cases xs with
    | nil => exact hz
    | cons x xs =>
      intro y hy
      rcases List.mem_cons.1 hy with rfl | h
      · exact xor_lt (hz z (by simp)) (gm_lt hf)
      · exact ih (fun a ha => hz a (by simp [ha])) y h

/-- The slice v of the bytes xs does not lie in block g. -/
def Away (v : Value) (xs : List Nat) (g : Nat) : Prop := ∀ b off n c, v = .slice (some ⟨b, off, none⟩) n c → 0 < xs.length → b ≠ g
theorem Away.of_lt {w : World} {v : Value} {xs : List Nat} {g : Nat} (h : Reads w v xs) (hg : w.heap.size ≤ g) : Away v xs g := by
  intro b off n c e hp
  obtain ⟨ao, n', c', e', hl, hc, hm, hx, hr⟩ := h
  rw [e'] at e; cases e
  obtain ⟨b', off', e2, hcell⟩ := hr (by omega)
  cases e2
  have h1 := hcell 0 (by omega)
  have := World.block_lt_of_cell? w _ h1
  simp at this; omega
theorem Reads.grown {w w' : World} {v : Value} {xs : List Nat} {g : Nat} (h : Reads w v xs) (ha : Away v xs g) (hg : w.grownBy w' (some g)) : Reads w' v xs := by
  obtain ⟨ao, n, c, rfl, hl, hc, hm, hx, hr⟩ := h
  refine ⟨ao, n, c, rfl, hl, hc, hm, hx, fun hn => ?_⟩
  obtain ⟨b, off, e, hcell⟩ := hr hn
  subst e
  refine ⟨b, off, rfl, fun i hi => ?_⟩
  have h1 := hcell i hi
  have hlt := World.block_lt_of_cell? w _ h1
  rw [← h1]
  exact hg.cell_far ⟨b, off + i, none⟩ hlt (fun e => ha b off n c rfl (by omega) (Option.some.inj e))
/-- What addMultiple leaves: the row in block g, and all else as it was. -/
def AddP (w : World) (g : Nat) (zs : List Nat) (e : Ending) (w' : World) : Prop := e = .returned (.tuple #[]) ∧ Row w' g zs ∧ w.grownBy w' (some g) ∧ w'.heap.size = w.heap.size

set_option maxRecDepth 100000 in
theorem addMultiple_any {g n c f : Nat} {zs xs : List Nat} {v : Value} {w : World} (hr : Row w g zs) (hx : Reads w v xs) (ha : Away v xs g) (hz : Bys zs) (hf : f < 256) (hn : n = zs.length) (hm : n ≤ 9223372036854775807) (hl : xs.length ≤ zs.length) :
    Calls Try.prog 57 #[.slice (some ⟨g, 0, none⟩) n c, .int .u8 (f : Nat), v] w (AddP w g (addTo zs f xs)) := by
  have hbx := hx.limbs
  obtain ⟨ao, cx, rfl, -⟩ := hx.isSlice
  obtain ⟨m, em⟩ : ∃ m, m = xs.length := ⟨_, rfl⟩
  rw [← em] at hx ha ⊢
  have hmn : m ≤ n := by omega
  have HX := Lib.hid hx
  have HA := Lib.hid ha
  have HN := Lib.hid hn
  have HM := Lib.hid em
  have HR := Lib.hid hr
  clear hx ha hn em hl hr
  go_enter Try.func57, Try.ntmps57
  go_wp2_with fail
  go_loopw [10] (fun i wr => ∃ k : Nat, k ≤ m ∧ i = .int .i64 (k : Nat) ∧ Row wr g (addTo zs f (xs.take k)) ∧ w.grownBy wr (some g) ∧ wr.heap.size = w.heap.size) (fun i _ => m - (intOf i).toNat)
  case atStart => exact ⟨0, Nat.zero_le _, rfl, by rw [List.take_zero, addTo_nil]; exact HR.out, grown_of_below (Below.refl _ _) _, rfl⟩
  case round =>
    obtain ⟨k, hk, rfl, hrow, hgr, hsz⟩ := hrel
    by_cases h0 : k = m
    · subst h0
      have HROW : Hid (Row wr g (addTo zs f xs)) := Lib.hid (by rw [HM.out, List.take_length] at hrow; exact hrow)
      have HG := Lib.hid hgr
      have HS := Lib.hid hsz
      clear hrow hgr hsz
      go_wp2_with fail
      go_end0
      exact ⟨rfl, HROW.out, HG.out, HS.out⟩
    · have hlt : k < m := by omega
      have hkn : k < n := by omega
      have hkz : k < zs.length := by rw [← HN.out]; exact hkn
      have hkx : k < xs.length := by rw [← HM.out]; exact hlt
      have hxr := HX.out.grown (HA.out) hgr
      obtain ⟨b, off, rfl, hcx⟩ := hxr.cell hlt
      have hcz := hrow.cell k (by rw [length_addTo]; exact hkz)
      rw [getD_addTo zs f xs k hkz] at hcz
      have hfree := hrow.free k
      obtain ⟨z, ez⟩ : ∃ z, z = zs.getD k 0 := ⟨_, rfl⟩
      obtain ⟨x, ex⟩ : ∃ x, x = xs.getD k 0 := ⟨_, rfl⟩
      have hz256 : z < 256 := by rw [ez]; exact hz.get k
      have hx256 : x < 256 := by rw [ex]; exact hbx.get k
      rw [← ez] at hcz
      rw [← ex] at hcx
      obtain ⟨q, eq⟩ : ∃ q, q = gm f x := ⟨_, rfl⟩
      obtain ⟨s, es⟩ : ∃ s, s = z ^^^ q := ⟨_, rfl⟩
      have C1 : Hid (∀ w, Calls Try.prog 56 #[.int .u8 (f : Nat), .int .u8 (x : Nat)] w (RetB w q)) := Lib.hid fun w => mulE hf hx256 eq.symm w
      have C2 : Hid (∀ w, Calls Try.prog 37 #[.int .u8 (z : Nat), .int .u8 (q : Nat)] w (RetB w s)) := Lib.hid fun w => addE hz256 (by rw [eq]; exact gm_lt hf) es.symm w
      have HROW : Hid (Row (wr.setCell ⟨g, k, none⟩ (.int .u8 (s : Nat))) g (addTo zs f (xs.take (k + 1)))) := Lib.hid (by
        have := hrow.set k s
        rw [es, eq, ez, ex, addTo_step zs f xs k hkz hkx] at this
        rw [es, eq, ez, ex]; exact this)
      have HG := Lib.hid (grown_trans hgr (grown_setCell (w := wr) (g := g) k (.int .u8 (s : Nat))))
      have HS : Hid ((wr.setCell ⟨g, k, none⟩ (.int .u8 (s : Nat))).heap.size = w.heap.size) := Lib.hid (by rw [← hsz]; simp)
      clear hrow hgr hsz ez ex eq es hxr h0 hz256 hx256 hkz hkx
      go_wp2_with fail
      go_region_with (first | (go_at_call 56; (with_reducible refine (C1.out _).mono ?_); rintro e w' ⟨rfl, rfl⟩) | (go_at_call 37; (with_reducible refine (C2.out _).mono ?_); rintro e w' ⟨rfl, rfl⟩))
      all_goals
        go_wp2_with fail
        go_roundw
        case rel => exact ⟨k + 1, by omega, by go_num, HROW.out, grown_drewN HG.out 1, HS.out⟩
        case measure => simp [intOf]; omega
end Go.Proofs.Ytmlcenocjpjcfaa
