/- Texts of numbers: what Format writes Parse reads, also behind zeros. -/
import Derived.Test.YtjgaeodihijalaaDoorR8
import Derived.Test.YtjgaeodihijalaaDoorA
namespace Go.Proofs.YtjgaeodihijalaaDoor
open Go.RowKit NatM Go.Proofs.YtjgaeodihijalaaDoor.Api

theorem chr_dig {d : Nat} (h : d < 10) : (chr d).toNat = 48 + d := by unfold chr; simp; omega
theorem chr_all {l : List Nat} (h : Digits l) : AllDig (l.map chr) := by
  intro b hb
  obtain ⟨d, hd, rfl⟩ := List.mem_map.1 hb
  have := h d hd
  unfold IsDig
  rw [chr_dig this]; omega
theorem dval_chr {ds : List Nat} (h : Digits ds) : dval 0 (ds.reverse.map chr) = val10 ds := by
  induction ds with
  | nil => rfl
  | cons x xs ih =>
    rw [List.reverse_cons, List.map_append, List.map_cons, List.map_nil, dval_snoc, ih h.tail, chr_dig h.head]
    simp only [val10]; omega
theorem fmt_parse {t : ByteArray} {N : Nat} (h : FmtIs t N) : isNum t ∧ dval 0 t.data.toList = N := by
  rcases h with ⟨rfl, rfl⟩ | ⟨h0, ds, hd, hc, hv, rfl⟩
  · refine ⟨⟨by decide, ?_⟩, by decide⟩
    intro b hb
    simp at hb
    subst hb; unfold IsDig; decide
  · refine ⟨⟨?_, ?_⟩, ?_⟩
    · intro e
      have : ds = [] := by
        have h2 : ((ds.reverse.map chr).toArray).size = 0 := e
        simpa using h2
      rw [this] at hv
      simp [val10] at hv; omega
    · show AllDig (ds.reverse.map chr)
      exact chr_all fun z hz => hd z (by simpa using hz)
    · show dval 0 (ds.reverse.map chr) = N
      rw [dval_chr hd]; exact hv
theorem ten_le_val10 {ds : List Nat} (hc : Canon ds) (h : ds ≠ []) : 10 ^ (ds.length - 1) ≤ val10 ds := by
  rcases List.eq_nil_or_concat ds with e | ⟨us, t, e⟩
  · exact absurd e h
  · rw [List.concat_eq_append] at e
    subst e
    have ht : t ≠ 0 := by
      intro e0
      subst e0
      unfold Canon at hc
      have := tlen_top (us ++ [0]) (by rw [hc]; simp)
      rw [hc] at this
      simp [List.getD] at this
    rw [val10_snoc]
    simp only [List.length_append, List.length_singleton, Nat.add_sub_cancel]
    have : 10 ^ us.length * 1 ≤ 10 ^ us.length * t := Nat.mul_le_mul_left _ (by omega)
    omega
theorem fmt_size {t : ByteArray} {N L : Nat} (h : FmtIs t N) (hN : N < pw L) : t.size ≤ 32 * L + 1 := by
  rcases h with ⟨rfl, rfl⟩ | ⟨h0, ds, hd, hc, hv, rfl⟩
  · show 1 ≤ _; omega
  · show ((ds.reverse.map chr).toArray).size ≤ _
    simp only [List.size_toArray, List.length_map, List.length_reverse]
    by_cases e : ds = []
    · rw [e]; simp
    · have h1 := ten_le_val10 hc e
      rw [hv] at h1
      have := ten_bound h1 hN
      omega
/-- k zeros. -/
def zeros (k : Nat) : ByteArray := ⟨(List.replicate k 48).toArray⟩
theorem zeros_size (k : Nat) : (zeros k).size = k := by simp [zeros, ByteArray.size]
theorem zeros_succ (k : Nat) : zeros k ++ (⟨#[48]⟩ : ByteArray) = zeros (k + 1) := by
  have : (⟨#[48]⟩ : ByteArray) = ⟨([48] : List UInt8).toArray⟩ := rfl
  unfold zeros
  rw [this, ByteArray.mk_append_mk, List.replicate_succ']
theorem zeros_list (k : Nat) (t : ByteArray) : (zeros k ++ t).data.toList = List.replicate k 48 ++ t.data.toList := by
  rw [show t = ⟨t.data.toList.toArray⟩ from by cases t; simp]
  unfold zeros
  rw [ByteArray.mk_append_mk]
theorem dval_zeros (k : Nat) (l : List UInt8) : dval 0 (List.replicate k 48 ++ l) = dval 0 l := by
  rw [dval_append]
  congr 1
  induction k with
  | zero => rfl
  | succ k ih => rw [List.replicate_succ', dval_snoc, ih]; rfl
theorem parseS_num {s : ByteArray} {N : Nat} (h5 : s.size ≤ 5000) (hn : isNum s) (hv : dval 0 s.data.toList = N) (hN : N < pw 512) : parseS s = (N, 0) := by
  unfold parseS
  rw [if_neg (by omega), if_neg (by simpa using hn), if_neg (by omega), hv]
theorem isNum_zeros {k : Nat} {t : ByteArray} (h : isNum t) : isNum (zeros k ++ t) := by
  refine ⟨?_, ?_⟩
  · rw [ByteArray.size_append']; have := h.1; omega
  · rw [zeros_list]
    intro b hb
    rcases List.mem_append.1 hb with h1 | h1
    · have := (List.mem_replicate.1 h1).2
      subst this; unfold IsDig; decide
    · exact h.2 b h1
/-- Parse, when its answer is known. -/
theorem parseN (p : Nat × Nat) {s : ByteArray} {w : World} (hs : Hid (s.size ≤ 1000000 ∧ parseS s = p)) : Calls Tryd.prog 40 #[.string s] w (fun e w' => ∃ v, e = .returned (.tuple #[v, .int .i64 (p.2 : Nat)]) ∧ Num w' v p.1 ∧ Add w w') := by
  have := parse_any s w hs.out.1
  rw [hs.out.2] at this
  exact this
theorem refParseN (p : Nat × Nat) {s : ByteArray} {w : World} (hs : Hid (s.size ≤ 1000000 ∧ parseS s = p)) : Calls Tryd.prog 41 #[.string s] w (fun e w' => ∃ v, e = .returned (.tuple #[v, .int .i64 (p.2 : Nat)]) ∧ Num w' v p.1 ∧ Add w w') := by
  have := refParse_any s w hs.out.1
  rw [hs.out.2] at this
  exact this
end Go.Proofs.YtjgaeodihijalaaDoor
