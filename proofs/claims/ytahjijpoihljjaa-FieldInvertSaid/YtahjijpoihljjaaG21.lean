/- The helper square of the laws of field. -/
import Derived.Test.YtahjijpoihljjaaG19
import Derived.Test.YtahjijpoihljjaaG13
import Derived.Laws.AppendOwn
import Derived.Maps.AppendAt
namespace Go.Proofs.Ytahjijpoihljjaa
open Go.RowKit GfM

/-- Row i of the matrix of n rows that the bytes l fill. -/
def sqRow (l : List Nat) (n i : Nat) : List Nat := (List.range n).map fun j => l.getD (i * n + j) 0
def sqTo (l : List Nat) (n k : Nat) : List (List Nat) := (List.range k).map (sqRow l n)
theorem length_sqRow (l : List Nat) (n i : Nat) : (sqRow l n i).length = n := by simp [sqRow]
theorem length_sqTo (l : List Nat) (n k : Nat) : (sqTo l n k).length = k := by simp [sqTo]
theorem sqTo_succ (l : List Nat) (n k : Nat) : sqTo l n (k + 1) = sqTo l n k ++ [sqRow l n k] := by simp [sqTo, List.range_succ]
theorem sqRow_get {l : List Nat} {n i j : Nat} (h : j < n) : (sqRow l n i).getD j 0 = l.getD (i * n + j) 0 := by simp [sqRow, List.getD, h]
theorem bys_sqRow {l : List Nat} (h : Bys l) (n i : Nat) : Bys (sqRow l n i) := by
  intro x hx
  obtain ⟨j, _, rfl⟩ := List.mem_map.1 hx
  exact h.get _
theorem bysM_sq {l : List Nat} (h : Bys l) (n k : Nat) : BysM (sqTo l n k) := by
  intro i
  by_cases hi : i < k
  · have : (sqTo l n k).getD i [] = sqRow l n i := by simp [sqTo, List.getD, hi]
    rw [this]; exact bys_sqRow h n i
  · have : (sqTo l n k).getD i [] = [] := by simp [sqTo, List.getD, Nat.le_of_not_lt hi]
    rw [this]; exact Bys.nil
theorem fill_rest {S : List Nat} {n j : Nat} (h : S.length = n) (hj : j ≤ n) (hz : ∀ k, j ≤ k → k < n → S.getD k 0 = 0) : fillTo S n j = S := by
  have e : S.drop j = List.replicate (n - j) 0 := by
    refine List.eq_replicate_iff.2 ⟨by rw [List.length_drop, h], fun b hb => ?_⟩
    obtain ⟨k, hk, e⟩ := List.mem_iff_getElem.1 hb
    rw [List.length_drop] at hk
    have h2 := hz (j + k) (by omega) (by omega)
    rw [List.getElem_drop] at e
    have h3 : j + k < S.length := by omega
    simp only [List.getD, List.getElem?_eq_getElem h3, Option.getD_some] at h2
    rw [← e]; exact h2
  unfold fillTo
  rw [← e, List.take_append_drop]

/-- A matrix that the call made by appending rows. -/
def SqM (w : World) (base m : Nat) (v : Value) (gs : List Nat) (M : List (List Nat)) : Prop :=
  w.ownsRow base 34 1 v gs.length (gs.map (hdr m)) ∧ RowsAt w m gs M ∧ ∀ g ∈ gs, base ≤ g
theorem own_ne {w : World} {base n g : Nat} {v : Value} {xs : List Value} {zs : List Nat} (h : w.ownsRow base 34 1 v n xs) (hr : Row w g zs) : some g ≠ v.ownBlock := by
  rcases h.2 with ⟨rfl, _⟩ | ⟨g', cap, cur, rfl, hb, hgg, rest⟩
  · intro e; cases e
  · intro e
    have e2 : g = g' := Option.some.inj e
    subst e2
    unfold Row at hr
    rw [hgg] at hr
    simp at hr
theorem own_base {w : World} {base n k : Nat} {v : Value} {xs : List Value} (h : w.ownsRow base 34 1 v n xs) (e : v.ownBlock = some k) : base ≤ k ∧ k < w.heap.size := by
  rcases h.2 with ⟨rfl, _⟩ | ⟨g', cap, cur, rfl, hb, hgg, rest⟩
  · cases e
  · cases e; exact ⟨hb, (Array.getElem?_eq_some_iff.1 hgg).1⟩
/-- All that the matrix consists of lies below block g. -/
def SqLt (g : Nat) (v : Value) (gs : List Nat) : Prop := (∀ x ∈ gs, x < g) ∧ ∀ k, v.ownBlock = some k → k < g
theorem SqM.lt {w : World} {base m : Nat} {v : Value} {gs : List Nat} {M : List (List Nat)} (h : SqM w base m v gs M) : SqLt w.heap.size v gs := ⟨h.2.1.lt, fun _ hk => (own_base h.1 hk).2⟩
theorem SqM.kept {w w' : World} {base m g : Nat} {v : Value} {gs : List Nat} {M : List (List Nat)} (h : SqM w base m v gs M) (hg : w.grownBy w' (some g)) (hl : SqLt g v gs) : SqM w' base m v gs M := by
  refine ⟨h.1.kept hg ?_, h.2.1.kept hg (fun x hx e => by have := hl.1 x hx; have := Option.some.inj e; omega), h.2.2⟩
  cases hv : v.ownBlock with
  | none => exact Or.inl rfl
  | some k => right; intro e; have := hl.2 k hv; have := Option.some.inj e; omega
theorem SqM.kept0 {w w' : World} {base m : Nat} {v : Value} {gs : List Nat} {M : List (List Nat)} (h : SqM w base m v gs M) (hg : w.grownBy w' none) : SqM w' base m v gs M := by
  refine ⟨h.1.kept hg ?_, h.2.1.kept hg (fun x hx e => by cases e), h.2.2⟩
  cases hv : v.ownBlock with
  | none => exact Or.inl rfl
  | some k => right; intro e; cases e

/-- What square returns. -/
def SqP (w : World) (l : List Nat) (n : Nat) (e : Ending) (w' : World) : Prop := ∃ v gs, e = .returned v ∧ SqM w' w.heap.size n v gs (sqTo l n n) ∧ Add w w'
theorem SqM.push {wr w3 : World} {base m g : Nat} {v v' : Value} {gs : List Nat} {M : List (List Nat)} {zs : List Nat} {o : Obj} (h : SqM wr base m v gs M) (hr : Row wr g zs) (hl : zs.length = m) (hb : base ≤ g) (hg : (wr.alloc o).grownBy w3 v.ownBlock)
    (hown : w3.ownsRow base 34 1 v' (gs.length + 1) (gs.map (hdr m) ++ [hdr m g])) : SqM w3 base m v' (gs ++ [g]) (M ++ [zs]) := by
  have h1 := h.kept0 (World.grownBy_alloc wr o none)
  have hr1 : Row (wr.alloc o) g zs := hr.kept (World.grownBy_alloc wr o none) (by simp)
  refine ⟨by rw [List.length_append, List.map_append]; exact hown, (h1.2.1.push hr1 hl).kept hg ?_, ?_⟩
  · intro x hx
    rcases List.mem_append.1 hx with hx | hx
    · obtain ⟨i, hi, rfl⟩ := List.mem_iff_getElem.1 hx
      have := (h1.2.1.2 i (by rw [← h1.2.1.1]; exact hi)).1
      have e : gs.getD i 0 = gs[i] := by simp [List.getD, hi]
      rw [e] at this
      exact own_ne h1.1 this
    · rw [List.mem_singleton.1 hx]; exact own_ne h1.1 hr1
  · intro x hx
    rcases List.mem_append.1 hx with hx | hx
    · exact h.2.2 x hx
    · rw [List.mem_singleton.1 hx]; exact hb

set_option maxRecDepth 100000 in
set_option maxHeartbeats 4000000 in
theorem square_any {w : World} {v : Value} {l : List Nat} {n : Nat} (h : Reads w v l) (hn : n ≤ 8) (hn0 : 0 < n) :
    Calls Try.prog 29 #[.int .i64 (n : Nat), v] w (SqP w l n) := by
  obtain ⟨i0, hi, hz0, hz1, hz2⟩ := info_parts info5
  obtain ⟨i1, hi1, hy0, hy1, hy2⟩ := info_parts info34
  have hbl := h.limbs
  obtain ⟨ao, c, rfl, hm⟩ := h.isSlice
  unfold maxLen at hm
  obtain ⟨L, eL⟩ : ∃ L, L = l.length := ⟨_, rfl⟩
  rw [← eL] at h hm ⊢
  have HR := Lib.hid h
  have HL := Lib.hid eL
  clear h eL
  go_enter Try.func29, Try.ntmps29
  go_wp2_with fail
  go_loopw [5, 6] (fun o i wr => ∃ (k : Nat) (gs : List Nat), k ≤ n ∧ i = .int .i64 (k : Nat) ∧ SqM wr w.heap.size n o gs (sqTo l n k) ∧ Add w wr) (fun _ i _ => n - (intOf i).toNat)
  case atStart => exact ⟨0, [], Nat.zero_le _, rfl, ⟨World.ownsRow_nil _ _ _ _, RowsAt.nil _ _, fun g hg => by cases hg⟩, Below.refl _ _⟩
  case round =>
    obtain ⟨k, gs, hk, rfl, hsq, hadd⟩ := hrel
    by_cases h0 : k = n
    · have HF : Hid (SqM wr w.heap.size n u5 gs (sqTo l n n)) := Lib.hid (by rw [h0] at hsq; exact hsq)
      have HA := Lib.hid hadd
      clear hsq hadd
      subst h0
      go_wp2_with fail
      go_ret
      exact ⟨u5, gs, rfl, HF.out, HA.out⟩
    · have hlt : k < n := by omega
      obtain ⟨p, ep⟩ : ∃ p, p = k * n := ⟨_, rfl⟩
      have hp64 : p ≤ 64 := by rw [ep]; exact Nat.mul_le_mul (show k ≤ 8 by omega) hn
      have hpi : (k : Int) * (n : Int) = (p : Int) := by rw [ep]; simp
      have EP := Lib.hid ep
      have HSQ := Lib.hid hsq
      have HADD := Lib.hid hadd
      clear hsq hadd ep h0
      go_wp2_with (at_make; refine wpList_make_full _ rfl _ _ 34 rfl wr.heap.size 5 i0 (.int .u8 0) 1 Try.underlying34 hi hz0 hz1 _ _ _ _ n rfl rfl (by omega) (by omega) (by rw [hz2]; omega) (by unfold maxLen; omega) (Nat.le_refl _) ?_)
      intro w1 hown hgr
      have hown := Own.made hown
      obtain ⟨g, eg⟩ : ∃ g, g = wr.heap.size := ⟨_, rfl⟩
      rw [← eg] at hown ⊢
      have HG0 := Lib.hid (hown.row)
      have hsz1 : g < w1.heap.size := hown.row.lt
      have HSQ1 := Lib.hid (HSQ.out.kept0 hgr)
      have HADD1 : Hid (Add w w1) := Lib.hid (HADD.out.grown hgr HADD.out.size (by simp))
      have hbg : w.heap.size ≤ g := by rw [eg]; exact HADD.out.size
      have HREAD := Lib.hid (HR.out.mono HADD1.out)
      have HWG : Hid (wr.grownBy w1 none) := Lib.hid hgr
      have HLT : Hid (SqLt g u5 gs) := Lib.hid (by rw [eg]; exact HSQ.out.lt)
      clear hown hgr eg
      go_wp2_with fail
      rename World => w1'
      go_loopw [8] (fun i wx => ∃ j : Nat, j ≤ n ∧ i = .int .i64 (j : Nat) ∧ Row wx g (fillTo (sqRow l n k) n j) ∧ w1'.grownBy wx (some g)) (fun i _ => n - (intOf i).toNat)
      case atStart => exact ⟨0, Nat.zero_le _, rfl, by rw [fillTo_zero]; exact HG0.out, grown_of_below (Below.refl _ _) _⟩
      case round =>
        obtain ⟨j, hj, rfl, hrow, hg⟩ := hrel
        have hsq2 := HSQ1.out.kept hg HLT.out
        have hadd2 : Add w wr := HADD1.out.grown hg HADD1.out.size (fun q hq => by cases hq; exact hbg)
        by_cases hjn : j = n
        · have hfull : Row wr g (sqRow l n k) := by rw [hjn, fillTo_all (length_sqRow ..)] at hrow; exact hrow
          have hjn := hjn.symm
          subst hjn
          have HPUSH : Hid (∀ v' w3 o, (wr.alloc o).grownBy w3 u5.ownBlock → w3.ownsRow w.heap.size 34 1 v' (gs.length + 1) (gs.map (hdr n) ++ [.slice (some ⟨g, 0, none⟩) n n]) → SqM w3 w.heap.size n v' (gs ++ [g]) (sqTo l n (k + 1)) ∧ Add w w3) := Lib.hid fun v' w3 o h1 h2 => by
            rw [sqTo_succ]
            refine ⟨hsq2.push hfull (length_sqRow ..) hbg h1 h2, ?_⟩
            exact Below.grown (hadd2.alloc hadd2.size o) h1 (by have := hadd2.size; simp; omega) (fun q hq => (own_base hsq2.1 hq).1)
          have hownV := hsq2.1
          have hsz := hadd2.size
          have hgk : gs.length ≤ 8 := by rw [hsq2.2.1.1, length_sqTo]; omega
          clear hsq2 hadd2 hfull
          clear hrow hg
          go_wp2_with (at_builtin; refine wpList_append_own _ rfl _ _ 35 rfl w.heap.size 34 i1 (.slice none 0 0) 1 24 Try.underlying35 hi1 hy0 hy1 hy2 rfl (by decide) _ _ _ rfl (World.ownsRow.alloc hownV _) ⟨wr.heap.size, 0, none⟩ 1 1 [_] rfl rfl (Go.cell_one_new _ _ _) (by intro u hu; simp at hu; subst hu; rfl) (by unfold maxLen; omega) (by omega) (by simp; omega) ?_)
          intro v' w3 hown3 hgr3 _
          have HEND := Lib.hid (HPUSH.out v' w3 _ hgr3 hown3)
          clear hown3 hgr3 hownV
          go_wp2_with fail
          go_roundw
          case rel => exact ⟨k + 1, _, by omega, by go_num, HEND.out.1, HEND.out.2⟩
          case measure => simp [intOf]; omega
        · have hjlt : j < n := by omega
          by_cases hin : p + j < L
          · have hfree := hrow.free j
            obtain ⟨old, eold⟩ : ∃ old, old = (fillTo (sqRow l n k) n j).getD j 0 := ⟨_, rfl⟩
            have hcz := hrow.cell j (by rw [length_fillTo (length_sqRow ..) hj]; exact hjlt)
            rw [← eold] at hcz
            obtain ⟨b, off, rfl, hcl⟩ := (HR.out.mono hadd2).cell hin
            obtain ⟨y, ey⟩ : ∃ y, y = l.getD (p + j) 0 := ⟨_, rfl⟩
            rw [← ey] at hcl
            have HROW : Hid (Row (wr.setCell ⟨g, j, none⟩ (.int .u8 (y : Nat))) g (fillTo (sqRow l n k) n (j + 1))) := Lib.hid (by
              have h2 := hrow.set j y
              rw [ey, EP.out, ← sqRow_get hjlt, fillTo_step (length_sqRow ..) hjlt] at h2
              rw [ey, EP.out, ← sqRow_get hjlt]; exact h2)
            have HGG := Lib.hid (grown_trans hg (grown_setCell (w := wr) (g := g) j (.int .u8 (y : Nat))))
            clear hrow hg hsq2 hadd2 eold ey hjn
            go_wp2_with fail
            go_roundw
            case rel => exact ⟨j + 1, by omega, by go_num, HROW.out, HGG.out⟩
            case measure => simp [intOf]; omega
          · have hfull : Row wr g (sqRow l n k) := by
              rw [fill_rest (length_sqRow ..) hj (fun q h1 h2 => by
                rw [sqRow_get h2, ← EP.out]
                have h3 : l.length ≤ p + q := by rw [← HL.out]; omega
                simp [List.getD, List.getElem?_eq_none h3])] at hrow
              exact hrow
            have hdec : decide ((p : Int) + (j : Int) < (L : Int)) = false := decide_eq_false (by omega)
            have HPUSH : Hid (∀ v' w3 o, (wr.alloc o).grownBy w3 u5.ownBlock → w3.ownsRow w.heap.size 34 1 v' (gs.length + 1) (gs.map (hdr n) ++ [.slice (some ⟨g, 0, none⟩) n n]) → SqM w3 w.heap.size n v' (gs ++ [g]) (sqTo l n (k + 1)) ∧ Add w w3) := Lib.hid fun v' w3 o h1 h2 => by
              rw [sqTo_succ]
              refine ⟨hsq2.push hfull (length_sqRow ..) hbg h1 h2, ?_⟩
              exact Below.grown (hadd2.alloc hadd2.size o) h1 (by have := hadd2.size; simp; omega) (fun q hq => (own_base hsq2.1 hq).1)
            have hownV := hsq2.1
            have hsz := hadd2.size
            have hgk : gs.length ≤ 8 := by rw [hsq2.2.1.1, length_sqTo]; omega
            clear hsq2 hadd2 hfull
            clear hrow hg
            go_wp2_with (at_builtin; refine wpList_append_own _ rfl _ _ 35 rfl w.heap.size 34 i1 (.slice none 0 0) 1 24 Try.underlying35 hi1 hy0 hy1 hy2 rfl (by decide) _ _ _ rfl (World.ownsRow.alloc hownV _) ⟨wr.heap.size, 0, none⟩ 1 1 [_] rfl rfl (Go.cell_one_new _ _ _) (by intro u hu; simp at hu; subst hu; rfl) (by unfold maxLen; omega) (by omega) (by simp; omega) ?_)
            intro v' w3 hown3 hgr3 _
            have HEND := Lib.hid (HPUSH.out v' w3 _ hgr3 hown3)
            clear hown3 hgr3 hownV
            go_wp2_with fail
            go_roundw
            case rel => exact ⟨k + 1, _, by omega, by go_num, HEND.out.1, HEND.out.2⟩
            case measure => simp [intOf]; omega
end Go.Proofs.Ytahjijpoihljjaa
