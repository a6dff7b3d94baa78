/- Any k different rows of a code word determine its data: their factors have an inverse. Plain facts. -/
import Derived.Test.YtmlcenocjpjcfaaE6
namespace Go.Proofs.Ytmlcenocjpjcfaa
open Go.RowKit GfM

theorem len_split {α : Type} (p : α → Bool) (l : List α) : (l.filter p).length + (l.filter fun x => !p x).length = l.length := by
  induction l with
  | nil => rfl
  | cons a l ih =>
    simp only [List.filter_cons]
    cases p a <;> simp <;> omega
theorem nodup_le {l m : List Nat} (hn : l.Nodup) (hs : ∀ x ∈ l, x ∈ m) : l.length ≤ m.length := by
  induction l generalizing m with
  | nil => exact Nat.zero_le _
  | cons a l ih =>
    obtain ⟨h1, h2⟩ := List.nodup_cons.1 hn
    have ha := hs a (by simp)
    have := ih (m := m.erase a) h2 (fun x hx => (List.mem_erase_of_ne (fun e => h1 (by rw [← e]; exact hx))).2 (hs x (by simp [hx])))
    rw [List.length_erase_of_mem ha] at this
    have h3 : 0 < m.length := List.length_pos_of_mem ha
    simp only [List.length_cons]; omega
theorem nodup_map {α β : Type} {l : List α} {f : α → β} (h : l.Nodup) (hf : ∀ x ∈ l, ∀ y ∈ l, f x = f y → x = y) : (l.map f).Nodup := by
  induction l with
  | nil => exact List.nodup_nil
  | cons a l ih =>
    obtain ⟨h1, h2⟩ := List.nodup_cons.1 h
    rw [List.map_cons]
    refine List.nodup_cons.2 ⟨fun hm => ?_, ih h2 (fun x hx y hy => hf x (by simp [hx]) y (by simp [hy]))⟩
    obtain ⟨b, hb, e⟩ := List.mem_map.1 hm
    exact h1 (by rw [← hf b (by simp [hb]) a (by simp) e]; exact hb)
theorem nodup_range (n : Nat) : (List.range n).Nodup := List.nodup_range
/-- A sum over some columns, where the others do not count. -/
theorem cS_filter (p : Nat → Bool) (v : Nat → Nat) (r n : Nat) (h : ∀ c < n, p c = false → v c = 0) :
    cS (((List.range n).filter p).map fun c => (c, v c)) r = sumX n fun c => gm (v c) (iv (r ^^^ c)) := by
  induction n with
  | zero => rfl
  | succ n ih =>
    rw [List.range_succ, List.filter_append, List.map_append, cS_append, ih (fun c hc => h c (by omega)), sumX]
    congr 1
    cases hp : p n with
    | true => simp [hp, cS]
    | false => simp [hp, cS, h n (by omega) hp, gm_zero_l]
theorem getD_of_mem {ix : List Int} {x : Int} (h : x ∈ ix) : ∃ i, i < ix.length ∧ ix.getD i 0 = x := by
  obtain ⟨i, hi, e⟩ := List.mem_iff_getElem.1 h
  exact ⟨i, hi, by simp [List.getD, hi, e]⟩
theorem unitR_at {k i c : Nat} (hi : i < k) : (unitR k i).getD c 0 = if c = i then 1 else 0 := by
  unfold unitR
  simp only [List.getD]
  by_cases h : c = i
  · subst h; rw [List.getElem?_set_self (by simpa using hi), if_pos rfl]; rfl
  · rw [List.getElem?_set_ne (fun e => h e.symm), if_neg h, List.getElem?_replicate]; split <;> rfl
theorem given_inv {k m : Nat} {ix : List Int} (hk : k ≤ 64) (hm : m ≤ 64) (hl : ix.length = k) (hn : ix.Nodup) (hb : ∀ x ∈ ix, 0 ≤ x ∧ x < ((k + m : Nat) : Int)) : ∃ R, invM (givenM k ix) k = some R := by
  cases hI : invM (givenM k ix) k with
  | some R => exact ⟨R, rfl⟩
  | none =>
    exfalso
    obtain ⟨v, j, hj, hv, hvb, hz⟩ := inv_none (givenM_dim hl) hI
    have hrow : ∀ x ∈ ix, sumX k (fun c => gm ((facs k x.toNat).getD c 0) (v c)) = 0 := by
      intro x hx
      obtain ⟨i, hi, e⟩ := getD_of_mem hx
      have h1 := hz i (by omega)
      unfold ent at h1
      rw [givenM_get hi, e] at h1
      exact h1
    have hunit : ∀ c : Nat, c < k → (c : Int) ∈ ix → v c = 0 := by
      intro c hc hx
      have h1 := hrow _ hx
      have e : facs k ((c : Int).toNat) = unitR k c := by unfold facs; rw [if_pos (by simpa using hc)]; rfl
      rw [e, sumX_one hc (fun q _ hq => by rw [unitR_at hc, if_neg hq, gm_zero_l]), unitR_at hc, if_pos rfl, gm_one_l (hvb c hc)] at h1
      exact h1
    have hcau : ∀ p ∈ (((List.range k).filter fun c : Nat => !decide ((c : Int) ∈ ix)).map fun c => (c, v c)), p.2 = 0 := by
      refine cauchy _ ((ix.filter fun x => !decide (x < (k : Int))).map fun x => 128 + (x.toNat - k)) ?_ ?_ ?_ ?_ ?_ ?_ ?_
      · rw [List.length_map, List.length_map]
        have h1 := len_split (fun x => decide (x < (k : Int))) ix
        have h2 := len_split (fun c : Nat => decide ((c : Int) ∈ ix)) (List.range k)
        have h3 : ((ix.filter fun x => decide (x < (k : Int))).map Int.toNat).length ≤ ((List.range k).filter fun c : Nat => decide ((c : Int) ∈ ix)).length := by
          refine nodup_le (nodup_map (hn.filter _) (fun x hx y hy e => ?_)) (fun x hx => ?_)
          · have := hb x ((List.mem_filter.1 hx).1)
            have := hb y ((List.mem_filter.1 hy).1)
            omega
          · obtain ⟨y, hy, rfl⟩ := List.mem_map.1 hx
            obtain ⟨hy1, hy2⟩ := List.mem_filter.1 hy
            have := hb y hy1
            have hy3 : y < (k : Int) := by simpa using hy2
            refine List.mem_filter.2 ⟨List.mem_range.2 (by omega), ?_⟩
            have e : ((y.toNat : Nat) : Int) = y := by omega
            simp [e, hy1]
        rw [List.length_map] at h3
        rw [List.length_range] at h2
        omega
      · refine nodup_map (hn.filter _) (fun x hx y hy e => ?_)
        obtain ⟨hx1, hx2⟩ := List.mem_filter.1 hx
        obtain ⟨hy1, hy2⟩ := List.mem_filter.1 hy
        have hx3 : ¬ x < (k : Int) := by simpa using hx2
        have hy3 : ¬ y < (k : Int) := by simpa using hy2
        have := hb x hx1
        have := hb y hy1
        omega
      · have e : (((List.range k).filter fun c : Nat => !decide ((c : Int) ∈ ix)).map fun c => (c, v c)).map (·.1) = (List.range k).filter fun c : Nat => !decide ((c : Int) ∈ ix) := by
          rw [List.map_map]; simp [Function.comp_def]
        rw [e]; exact (nodup_range k).filter _
      · intro r hr
        obtain ⟨x, hx, rfl⟩ := List.mem_map.1 hr
        have := hb x ((List.mem_filter.1 hx).1)
        omega
      · intro p hp
        obtain ⟨c, hc, rfl⟩ := List.mem_map.1 hp
        have hck := List.mem_range.1 ((List.mem_filter.1 hc).1)
        exact ⟨by show c < 256; omega, hvb c hck⟩
      · intro p hp r hr
        obtain ⟨c, hc, rfl⟩ := List.mem_map.1 hp
        obtain ⟨x, hx, rfl⟩ := List.mem_map.1 hr
        have hck := List.mem_range.1 ((List.mem_filter.1 hc).1)
        show c ≠ _
        omega
      · intro r hr
        obtain ⟨x, hx, rfl⟩ := List.mem_map.1 hr
        obtain ⟨hx1, hx2⟩ := List.mem_filter.1 hx
        have hx3 : ¬ x < (k : Int) := by simpa using hx2
        have hxb := hb x hx1
        rw [cS_filter _ v _ k (fun c hc h => hunit c hc (by simpa using h))]
        have h1 := hrow x hx1
        rw [← h1]
        refine sumX_congr fun c hc => ?_
        rw [facs_get (by omega) hc, coefZ_in (by omega) (by omega), gm_comm (iv_lt _) (hvb c hc)]
    by_cases hjx : (j : Int) ∈ ix
    · exact hv (hunit j hj hjx)
    · exact hv (hcau (j, v j) (List.mem_map.2 ⟨j, List.mem_filter.2 ⟨List.mem_range.2 hj, by simp [hjx]⟩, rfl⟩))
end Go.Proofs.Ytmlcenocjpjcfaa
