/- Trim, Bits, and the division by one limb return what they promise. -/
import Derived.Test.YtifpfoeecnkhoaaDoorW4
import Derived.Laws.CopyOwn
namespace Go.Proofs.YtifpfoeecnkhoaaDoor
open Go.RowKit NatM

theorem size44 : (Tryd.prog.info? 26).map (·.size) = some 1 := by kernel_rfl

/-- What Trim returns: a new row with the canonical limbs. -/
def TrimP (w : World) (xs : List Nat) (e : Ending) (w' : World) : Prop :=
  ∃ g n, e = .returned (.slice (some ⟨g, 0, none⟩) n n) ∧ Own w' w.heap.size g n (trim xs) ∧ n = tlen xs ∧ Add w w'
theorem trim_any (va : Value) (xs : List Nat) (w : World) (ha : Reads w va xs) (hs : xs.length ≤ 1000000) :
    Calls Tryd.prog 43 #[va] w (TrimP w xs) := by
  obtain ⟨i0, hi, hz0, hz1, hz2⟩ := info_parts info26
  have l1 := tlen_le xs
  obtain ⟨n, hn⟩ : ∃ n, n = tlen xs := ⟨_, rfl⟩
  have hns : n ≤ 1000000 := by omega
  have HN := Lib.hid hn
  clear hn l1
  go_enter Tryd.func43, Tryd.ntmps43
  go_wp2_with fail
  refine (cut_any _ _ _ ha).mono ?_; rintro e w' ⟨va', rfl, rfl, hva, ao, c, -, rfl⟩
  rw [← HN.out] at hva ⊢
  go_wp2_with (at_make; refine wpList_make_full _ rfl _ _ 23 rfl w.heap.size 26 i0 (.int .u32 0) 1 Tryd.underlying23 hi hz0 hz1 _ _ _ _ n rfl rfl (by omega) (by omega) (by rw [hz2]; omega) (by unfold maxLen; omega) (Nat.le_refl _) ?_)
  intro w1 hown hgr
  have hadd : Add w w1 := (Below.refl _ _).grown hgr (Nat.le_refl _) (by simp)
  have hown := Own.made hown
  have hheap := hown.heap
  clear hgr
  obtain ⟨cur, hcur⟩ : ∃ cur, cur = (List.replicate n 0).map lim := ⟨_, rfl⟩
  rw [← hcur] at hheap
  have hcl : cur.length = n := by rw [hcur]; simp
  obtain ⟨cs, hcs⟩ : ∃ cs, cs = (trim xs).map lim := ⟨_, rfl⟩
  have hcsl : cs.length = n := by rw [hcs]; simp [length_trim, HN.out]
  have hone : ∀ v ∈ cs, v.oneCell' = true := by
    rw [hcs]; intro v hv
    obtain ⟨x, _, rfl⟩ := List.mem_map.1 hv
    rfl
  have hpos : 0 < cs.length → (some ⟨w.heap.size, 0, none⟩ : Option Addr) = some ⟨w.heap.size, 0, none⟩ ∧ ∃ ad, ao = some ad ∧ ∀ j v, cs[j]? = some v → w1.cell? (ad.add j) = some v := by
    intro h0
    obtain ⟨ao', n', c', e, hl, -, -, -, hr⟩ := hva
    simp only [Value.slice.injEq] at e
    obtain ⟨rfl, rfl, rfl⟩ := e
    obtain ⟨b, off, rfl, g⟩ := hr (by omega)
    refine ⟨rfl, _, rfl, fun j v hj => ?_⟩
    rw [hcs, List.getElem?_map] at hj
    have hjl : j < n := by
      rcases Nat.lt_or_ge j n with h1 | h1
      · exact h1
      · rw [List.getElem?_eq_none (by omega)] at hj; simp at hj
    have h2 := g j hjl
    have h3 := (hadd.cell (p := ⟨b, off + j, none⟩) (World.block_lt_of_cell? w _ h2)).trans h2
    rw [Addr.add_lit, h3]
    have h4 : j < (trim xs).length := by omega
    simp [h4, List.getD] at hj ⊢
    exact hj
  have HCL := Lib.hid hcl
  have HCSL := Lib.hid hcsl
  have HCS := Lib.hid hcs
  have HPOS := Lib.hid hpos
  have HONE := Lib.hid hone
  have HHEAP := Lib.hid hheap
  clear hcl hcsl hcs hpos hone hheap hcur hown hva
  have hmin : n = Nat.min n n := (Nat.min_self n).symm
  have HMIN := Lib.hid hmin
  clear hmin
  go_wp2_with (with_reducible refine wpList_copy_splice rfl (.tmp 9) (.tmp 10) 23 23 rfl 26 Tryd.underlying23 size44 _ _ _ _ _ _ rfl rfl w.heap.size 0 cur 26 HHEAP.out cs (HCSL.out.trans HMIN.out) HPOS.out (by rw [HCL.out, HCSL.out]; omega) HONE.out w.heap.size w hadd (Nat.le_refl _) ?_)
  intro w2 HG2 hB2
  go_wp2_with fail
  go_ret
  refine ⟨w.heap.size, n, rfl, Own.of_heap ?_ (Nat.le_refl _) (by rw [length_trim, HN.out]) (by unfold maxLen; omega), HN.out, hB2⟩
  rw [HG2.out, ← HCS.out]
  unfold splice
  rw [List.take_zero, List.drop_of_length_le (by rw [HCL.out, HCSL.out]; omega), List.nil_append, List.append_nil]
end Go.Proofs.YtifpfoeecnkhoaaDoor
