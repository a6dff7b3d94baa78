/- Package erasure: appends of bytes and of zeros onto a row of the call's own; the references Join and Split. -/
import Derived.Test.YtmlcenocjpjcfaaE23
import Derived.Test.YtmlcenocjpjcfaaE21
import Derived.Test.YtmlcenocjpjcfaaG27
import Derived.Test.YtmlcenocjpjcfaaE17
import Derived.Laws.OwnMore
namespace Go.Proofs.Ytmlcenocjpjcfaa
open Go.RowKit GfM

theorem run_append_owned_c {P : Program} {w : World} (base : Nat) (t ty e : TypeId) (i : TypeInfo) (size : Nat) (ht : P.underlying t = some (.slice e)) (hi : P.info? e = some i)
    (v : Value) (n : Nat) (xs : List Value) (hown : w.ownsRow base e size v n xs) (c : Nat) :
    (Builtin.append_ #[t, t] ty #[v, .slice none 0 c]).run P w = .ok v w := by
  rcases hown.2 with ⟨rfl, rfl⟩ | ⟨g, cap, cur, rfl, _, _, hnc, _⟩
  · simp [Builtin.append_, run_underlying ht, sizeOf, typeInfo, hi, Builtin.lenOf, Builtin.firstCells]
  · simp [Builtin.append_, run_underlying ht, sizeOf, typeInfo, hi, Builtin.lenOf, Builtin.firstCells, hnc, storeCells]
/-- The world behind an append onto v. -/
def Appd (w w' : World) (v v' : Value) : Prop := w.grownBy w' v.ownBlock ∧ (v'.ownBlock = v.ownBlock ∨ v'.ownBlock = some w.heap.size)
theorem Appd.add {w0 w w' : World} {v v' : Value} {zs : List Nat} (h : Appd w w' v v') (h0 : Add w0 w) (ho : OwnB w w0.heap.size v zs) : Add w0 w' :=
  h0.grown h.1 h0.size (fun _ hq => (ownsRow_block ho hq).1)
theorem append_bytes {w : World} {base m c : Nat} {v : Value} {so : Option Addr} {xs ys : List Nat} (hown : OwnB w base v xs) (hr : Reads w (.slice so m c) ys) (h63 : xs.length + m ≤ 1000000) (hb : base ≤ w.heap.size) :
    ∃ v' w', (Builtin.append_ #[32, 32] 32 #[v, .slice so m c]).run Try.prog w = .ok v' w' ∧ OwnB w' base v' (xs ++ ys) ∧ Appd w w' v v' := by
  obtain ⟨i0, hi0, hz0, hz1, hz2⟩ := info_parts info5
  have hyl := reads_len hr
  cases so with
  | none =>
    obtain ⟨ao, n', c', e, hl, -, -, -, hc⟩ := hr
    cases e
    have hm : m = 0 := by
      rcases Nat.eq_zero_or_pos m with h | h
      · exact h
      · obtain ⟨b, off, e, -⟩ := hc h
        cases e
    subst hm
    have : ys = [] := List.eq_nil_of_length_eq_zero hl
    subst this
    exact ⟨v, w, run_append_owned_c base 32 32 5 i0 1 Try.underlying32 hi0 v _ _ hown c, by rw [List.append_nil]; exact hown, ⟨rfl, rfl, rfl, Nat.le_refl _, fun _ _ _ => rfl⟩, .inl rfl⟩
  | some ad =>
    have hnews : ∀ j u, (ys.map lim)[j]? = some u → w.cell? (ad.add j) = some u := by
      intro j u hu
      have h0 : 0 < (ys.map lim).length := by
        have := (List.getElem?_eq_some_iff.1 hu).1; omega
      obtain ⟨ad', e, h⟩ := copy_src hr h0
      cases e; exact h j u hu
    obtain ⟨v', w', hr2, h2, h3, -, h5⟩ := run_append_own_at (P := Try.prog) (w := w) base 32 32 5 i0 (.int .u8 0) 1 1 Try.underlying32 hi0 hz0 hz1 hz2 rfl (by decide) v xs.length (xs.map lim) hown ad m c (ys.map lim) (by rw [List.length_map]; omega) hnews (lim_one _) (by unfold maxLen; omega) (by omega) hb
    refine ⟨v', w', hr2, ?_, h3, h5⟩
    unfold OwnB
    rw [List.length_append, List.map_append, show ys.length = m by omega]
    exact h2
theorem zeroCells_u8 (n : Nat) : Builtin.zeroCells (Value.int .u8 0).cells n = (List.replicate n (lim 0)).toArray := by
  apply Array.ext
  · simp [Builtin.zeroCells, Value.cells]
  · intro i h1 h2
    have e : i % 1 = 0 := Nat.mod_one i
    simp [Builtin.zeroCells, Value.cells, lim, e]
/-- append(v, make([]byte, k)...). -/
theorem append_zeros {w : World} {base k : Nat} {v : Value} {xs : List Nat} (hown : OwnB w base v xs) (h63 : xs.length + k ≤ 1000000) (hb : base ≤ w.heap.size) :
    ∃ v' w', (Builtin.append_ #[32, 3] 32 #[v, .int .i64 (k : Nat)]).run Try.prog w = .ok v' w' ∧ OwnB w' base v' (xs ++ List.replicate k 0) ∧ Appd w w' v v' := by
  obtain ⟨i0, hi0, hz0, hz1, hz2⟩ := info_parts info5
  have ht : Try.prog.underlying 32 = some (.slice 5) := Try.underlying32
  have htn : Try.prog.underlying 3 = some (.int .i64) := Try.underlying3
  have hw : IntKind.i64.wrap (k : Int) = k := by rw [IntKind.wrap_i64]; omega
  have hw0 : IntKind.i64.wrap 0 = 0 := by decide
  have hneg : ¬ ((k : Int) < 0) := by omega
  have h48 : ¬ (281474976710656 < (k : Int)) := by omega
  have hl1 : (xs ++ List.replicate k 0).length = xs.length + k := by simp
  have hmap : ((xs ++ List.replicate k 0).map lim) = xs.map lim ++ List.replicate k (lim 0) := by simp
  have grown : ∀ old : Nat, old < xs.length + k → ∀ (row : Option Nat) (cs : Array Value), cs = (xs.map lim).toArray →
      OwnB (w.drew.alloc (.cells (cs ++ Builtin.zeroCells (Value.int .u8 0).cells k ++ Builtin.zeroCells (Value.int .u8 0).cells (grownCap w (xs.length + k) old 5 - (xs.length + k))) 5)) base (.slice (some ⟨w.heap.size, 0, none⟩) (xs.length + k) (grownCap w (xs.length + k) old 5)) (xs ++ List.replicate k 0) ∧
      w.grownBy (w.drew.alloc (.cells (cs ++ Builtin.zeroCells (Value.int .u8 0).cells k ++ Builtin.zeroCells (Value.int .u8 0).cells (grownCap w (xs.length + k) old 5 - (xs.length + k))) 5)) row := by
    intro old ho row cs ecs
    subst ecs
    have hge := grownCap_ge w (xs.length + k) old 5
    have hcm : grownCap w (xs.length + k) old 5 ≤ maxLen := grownCap_le_maxLen w (xs.length + k) old 5 (by unfold maxLen; omega)
    refine ⟨?_, ⟨rfl, rfl, rfl, by simp, fun q hq _ => heap_alloc_old w.drew _ hq⟩⟩
    unfold OwnB
    rw [hl1, hmap]
    refine ⟨by simp, .inr ⟨w.heap.size, _, _, rfl, hb, heap_alloc_new w.drew _, hge, hcm, ?_, ?_⟩⟩
    · rw [zeroCells_u8, zeroCells_u8]; simp; omega
    · rw [zeroCells_u8, zeroCells_u8]
      simp only [Array.toList_append, List.append_assoc]
      rw [← List.append_assoc]
      exact List.take_left' (by simp)
  have hroom : ∀ g cap cur, v = .slice (some ⟨g, 0, none⟩) xs.length cap → base ≤ g → w.heap[g]? = some (.cells cur 5 (0, 0)) → xs.length + k ≤ cap → cap ≤ maxLen → cur.size = cap * 1 → cur.toList.take (xs.length * 1) = xs.map lim →
      ∃ v' w', (Builtin.append_ #[32, 3] 32 #[v, .int .i64 (k : Nat)]).run Try.prog w = .ok v' w' ∧ OwnB w' base v' (xs ++ List.replicate k 0) ∧ Appd w w' v v' := by
    intro g cap cur ev hbg hg hfit hcm hcs htake
    subst ev
    have hst := run_storeCells_at Try.prog g xs.length 5 (List.replicate k (lim 0)) 0 cur w hg (by simp; omega) (by intro u hu; rw [List.eq_of_mem_replicate hu]; rfl)
    simp only [Nat.add_zero, List.length_replicate] at hst
    have hst0 := run_storeCells_at Try.prog g xs.length 5 [] 0 cur w hg (by simp; omega) (by simp)
    have hrun : (Builtin.append_ #[32, 3] 32 #[.slice (some ⟨g, 0, none⟩) xs.length cap, .int .i64 (k : Nat)]).run Try.prog w = .ok (.slice (some ⟨g, 0, none⟩) (xs.length + k) cap) (w.setRow g (cur.toList.take xs.length ++ List.replicate k (lim 0) ++ cur.toList.drop (xs.length + k)).toArray) := by
      by_cases hk : k = 0
      · subst hk
        have hfit2 : xs.length ≤ cap := hfit
        have hself : w.setRow g (cur.toList.take xs.length ++ List.replicate 0 (lim 0) ++ cur.toList.drop (xs.length + 0)).toArray = w := by
          simp only [List.replicate_zero, List.append_nil, List.take_append_drop, Nat.add_zero, Array.toArray_toList]
          exact setRow_self w g cur 5 (0, 0) hg
        rw [hself]
        simp [Builtin.append_, run_underlying ht, run_underlying htn, sizeOf, typeInfo, hi0, hz2, asInt, asIntOf, hw0, hfit2, storeCells]
      · have hns : ¬ (k * i0.size = 0) := by rw [hz1]; omega
        rw [hz1] at hns
        simp [Builtin.append_, run_underlying ht, run_underlying htn, sizeOf, typeInfo, zeroValue, hi0, hz0, hz1, hz2, asInt, asIntOf, hw, hneg, h48, hk, hfit, zeroCells_u8, Addr.add_lit, hst]
    refine ⟨_, _, hrun, ?_, ⟨rfl, rfl, rfl, by simp, fun q _ hq => setRow_other w g q _ (fun e => hq (by simp [Value.ownBlock, e]))⟩, .inl rfl⟩
    unfold OwnB
    rw [hl1, hmap]
    refine ⟨by simp, .inr ⟨g, cap, _, rfl, hbg, setRow_heap w g cur _ 5 _ hg, hfit, hcm, ?_, ?_⟩⟩
    · simp; omega
    · rw [Nat.mul_one] at htake ⊢
      rw [htake]
      exact List.take_left' (by simp)
  rcases hown.2 with ⟨rfl, h0⟩ | ⟨g, cap, cur, rfl, hbg, hg, hnc, hcm, hcs, htake⟩
  · have hx : xs = [] := List.eq_nil_of_length_eq_zero h0
    subst hx
    by_cases hk : k = 0
    · subst hk
      refine ⟨.slice none 0 0, w, ?_, hown, ⟨rfl, rfl, rfl, Nat.le_refl _, fun _ _ _ => rfl⟩, .inl rfl⟩
      simp [Builtin.append_, run_underlying ht, run_underlying htn, sizeOf, typeInfo, hi0, hz2, asInt, asIntOf, hw0]
    · have hr := Lib.run_append_nil_zeros (P := Try.prog) w 32 3 32 5 i0 (.int .u8 0) .i64 .i64 ht htn hi0 hz0 k (by omega) (by omega) (by omega) (by rw [hz2]; simp at h63; omega)
      have hg := grown 0 (by simp; omega) (Value.ownBlock (.slice none 0 0)) #[] rfl
      simp only [List.length_nil, Nat.zero_add, List.nil_append, Array.empty_append] at hg ⊢
      exact ⟨_, _, hr, hg.1, hg.2, .inr rfl⟩
  · by_cases hfit : xs.length + k ≤ cap
    · exact hroom g cap cur rfl hbg hg hfit hcm hcs htake
    · have hk : 0 < k := by omega
      have holds : ∀ j u, (xs.map lim)[j]? = some u → w.cell? ((⟨g, 0, none⟩ : Addr).add j) = some u := World.ownsRow.cells (g := g) hown rfl
      have hold : (Builtin.firstCells i0.size xs.length (.slice (some ⟨g, 0, none⟩) xs.length cap)).run Try.prog w.drew = .ok (xs.map lim).toArray w.drew := by
        rw [hz1]
        exact run_firstCells_some w.drew 1 xs.length ⟨g, 0, none⟩ xs.length cap (xs.map lim) (by simp) (by simpa using holds)
      have hr := Lib.run_append_grow_zeros (P := Try.prog) w 32 3 32 5 i0 (.int .u8 0) .i64 .i64 ht htn hi0 hz0 (some ⟨g, 0, none⟩) xs.length cap (xs.map lim) hold k hk (by omega) (by omega) (by omega) (by rw [hz2]; omega) (growslice_fits (by omega) (by rw [hz2]; omega))
      have hg2 := grown cap (by omega) (Value.ownBlock (.slice (some ⟨g, 0, none⟩) xs.length cap)) _ rfl
      exact ⟨_, _, hr, hg2.1, hg2.2, .inr rfl⟩
end Go.Proofs.Ytmlcenocjpjcfaa
