/- The law ErasureDetects: its walk, for all arguments. -/
import Derived.Test.YtmlcenocjpjcfaaE15
import Derived.Test.YtmlcenocjpjcfaaE14
namespace Go.Proofs.Ytmlcenocjpjcfaa
open Go.RowKit GfM

/-- Row i of the word, with one byte of row I changed. -/
def spoil (word : List (List Nat)) (I p y i : Nat) : List Nat := if i = I then (word.getD i []).set p ((word.getD i []).getD p 0 ^^^ y) else word.getD i []
def spoilTo (word : List (List Nat)) (I p y n : Nat) : List (List Nat) := (List.range n).map (spoil word I p y)
def upTo (n : Nat) : List Int := (List.range n).map fun i : Nat => (i : Int)
theorem length_spoilTo (word : List (List Nat)) (I p y n : Nat) : (spoilTo word I p y n).length = n := by simp [spoilTo]
theorem spoilTo_succ (word : List (List Nat)) (I p y n : Nat) : spoilTo word I p y (n + 1) = spoilTo word I p y n ++ [spoil word I p y n] := by simp [spoilTo, List.range_succ]
theorem spoilTo_get {word : List (List Nat)} {I p y n i : Nat} (h : i < n) : (spoilTo word I p y n).getD i [] = spoil word I p y i := by simp [spoilTo, List.getD, h]
theorem upTo_succ (n : Nat) : upTo (n + 1) = upTo n ++ [(n : Int)] := by simp [upTo, List.range_succ]
theorem upTo_get {n i : Nat} (h : i < n) : (upTo n).getD i 0 = (i : Int) := by simp [upTo, List.getD, h]
theorem length_upTo (n : Nat) : (upTo n).length = n := by simp [upTo]
theorem length_spoil {word : List (List Nat)} {I p y i L : Nat} (h : (word.getD i []).length = L) : (spoil word I p y i).length = L := by
  unfold spoil; split
  · rw [List.length_set]; exact h
  · exact h

/-- Two words of one code with a common first row .. : the data are read off. -/
theorem upTo_take {n k : Nat} (h : k ≤ n) : (upTo n).take k = upTo k := by
  unfold upTo; rw [← List.map_take, List.take_range, Nat.min_eq_left h]
/-- The factors of the first k rows are the identity. -/
theorem given_upTo (k : Nat) : givenM k (upTo k) = (List.range k).map (unitR k) := by
  unfold givenM upTo
  rw [List.map_map]
  refine List.map_congr_left fun i hi => ?_
  have := List.mem_range.1 hi
  show facs k (Int.toNat (i : Int)) = _
  unfold facs
  rw [if_pos (by simpa using this)]; rfl
theorem set_ne {xs : List Nat} {p y : Nat} (hp : p < xs.length) (hy : y ≠ 0) : (xs.set p (xs.getD p 0 ^^^ y)).getD p 0 ≠ xs.getD p 0 := by
  have e : (xs.set p (xs.getD p 0 ^^^ y)).getD p 0 = xs.getD p 0 ^^^ y := by simp only [List.getD]; rw [List.getElem?_set_self hp]; rfl
  rw [e]
  intro h
  have h2 : xs.getD p 0 ^^^ (xs.getD p 0 ^^^ y) = xs.getD p 0 ^^^ xs.getD p 0 := by rw [h]
  rw [← Nat.xor_assoc, Nat.xor_self, Nat.zero_xor] at h2
  exact hy h2
theorem getD_listset {l : List (List Nat)} {i k : Nat} {a : List Nat} (hi : i < l.length) : (l.set i a).getD k [] = if k = i then a else l.getD k [] := getD_set [] l i k a hi
/-- A change of one byte is not a code word: where no parity row was changed, a parity row no longer fits. -/
theorem spoil_differs {k L I p y : Nat} {data : List (List Nat)} {m : Nat} (hd : Dim k L data) (hk : 0 < k) (hk64 : k ≤ 64) (hm : 0 < m) (hI : I < k + m) (hp : p < L) (hy : y ≠ 0) (hy256 : y < 256) :
    ∃ i, i < k + m ∧ wordR k L ((spoilTo (wordTo k L data (k + m)) I p y k)) i ≠ spoil (wordTo k L data (k + m)) I p y i := by
  by_cases hIk : I < k
  · refine ⟨k, by omega, fun e => ?_⟩
    -- the data with one byte changed
    have e1 : spoil (wordTo k L data (k + m)) I p y k = wordR k L data k := by
      unfold spoil; rw [if_neg (by omega), wordTo_get (by omega)]
    rw [e1] at e
    obtain ⟨D, eD⟩ : ∃ D, D = spoilTo (wordTo k L data (k + m)) I p y k := ⟨_, rfl⟩
    rw [← eD] at e
    have hrow : ∀ i < k, D.getD i [] = if i = I then (data.getD i []).set p ((data.getD i []).getD p 0 ^^^ y) else data.getD i [] := by
      intro i hi
      rw [eD, spoilTo_get hi]
      unfold spoil
      rw [wordTo_get (by omega)]
      have e2 : wordR k L data i = data.getD i [] := by unfold wordR; rw [if_pos hi]
      rw [e2]
    have hDd : Dim k L D := by
      refine ⟨by rw [eD]; exact length_spoilTo .., fun i hi => ?_, fun i => ?_⟩
      · rw [hrow i hi]; split
        · rw [List.length_set]; exact hd.2.1 i hi
        · exact hd.2.1 i hi
      · by_cases hi : i < k
        · rw [hrow i hi]; split
          · intro x hx
            rcases List.mem_or_eq_of_mem_set hx with hx | rfl
            · exact hd.2.2 i x hx
            · exact xor_lt ((hd.2.2 i).get p) hy256
          · exact hd.2.2 i
        · have : D.getD i [] = [] := by rw [eD]; simp [spoilTo, List.getD, Nat.le_of_not_lt hi]
          rw [this]; exact Bys.nil
    have h1 : (wordR k L D k).getD p 0 = (wordR k L data k).getD p 0 := by rw [e]
    rw [wordR_ent hDd hp, wordR_ent hd hp] at h1
    have h2 : (sumX k fun q => gm ((facs k k).getD q 0) (ent D q p)) = (sumX k fun q => gm ((facs k k).getD q 0) (ent data q p)) ^^^ gm ((facs k k).getD I 0) y := by
      have e3 : (sumX k fun q => gm ((facs k k).getD q 0) (ent D q p)) = sumX k fun q => gm ((facs k k).getD q 0) (ent data q p) ^^^ (if q = I then gm ((facs k k).getD I 0) y else 0) := by
        refine sumX_congr fun q hq => ?_
        have e4 : ent D q p = ent data q p ^^^ (if q = I then y else 0) := by
          show (D.getD q []).getD p 0 = _
          rw [hrow q hq]
          by_cases hqI : q = I
          · rw [if_pos hqI, if_pos hqI]
            simp only [List.getD]
            rw [List.getElem?_set_self (by have := hd.2.1 q hq; simp only [List.getD] at this; omega)]
            rfl
          · rw [if_neg hqI, if_neg hqI, Nat.xor_zero]; rfl
        rw [e4, gm_xor_r]
        by_cases hqI : q = I
        · rw [if_pos hqI, if_pos hqI, hqI]
        · rw [if_neg hqI, if_neg hqI, gm_zero_r]
      rw [e3, sumX_xor]
      congr 1
      rw [sumX_one (f := fun q => if q = I then gm ((facs k k).getD I 0) y else 0) hIk (fun q _ hq => by rw [if_neg hq])]
      rw [if_pos rfl]
    rw [h2] at h1
    obtain ⟨S, eS⟩ : ∃ S, S = sumX k fun q => gm ((facs k k).getD q 0) (ent data q p) := ⟨_, rfl⟩
    rw [← eS] at h1
    have h3 : S ^^^ (S ^^^ gm ((facs k k).getD I 0) y) = S ^^^ S := by rw [h1]
    rw [← Nat.xor_assoc, Nat.xor_self, Nat.zero_xor] at h3
    rw [facs_get (by omega) hIk, Nat.sub_self] at h3
    exact gm_ne (coefZ_lt _ _) hy256 (coefZ_ne (by omega) (by omega)) hy h3
  · refine ⟨I, hI, fun e => ?_⟩
    have hD : spoilTo (wordTo k L data (k + m)) I p y k = data := by
      refine List.ext_getElem (by rw [length_spoilTo, hd.1]) fun i h1 h2 => ?_
      have hi : i < k := by rw [length_spoilTo] at h1; exact h1
      have e1 : (spoilTo (wordTo k L data (k + m)) I p y k)[i] = spoil (wordTo k L data (k + m)) I p y i := by simp [spoilTo]
      rw [e1]; unfold spoil
      rw [if_neg (by omega), wordTo_get (by omega)]
      unfold wordR; rw [if_pos hi]; simp [List.getD, h2]
    rw [hD] at e
    unfold spoil at e
    rw [if_pos rfl, wordTo_get hI] at e
    have hl : (wordR k L data I).length = L := wordR_dim (dim_all hd) hd.1
    exact set_ne (xs := wordR k L data I) (p := p) (y := y) (by rw [hl]; exact hp) hy (by rw [← e])

/-- Rows of a code word, one of them with one byte changed, are refused. -/
theorem complete_spoilt {w : World} {v : Value} {hs : List Value} {data : List (List Nat)} {A B N n I p y : Nat} (hf : FragsB w v (upTo N) hs (spoilTo (wordTo A n data N) I p y N)) (hc : codeZ A B = true) (hN : N = A + B) (hn : n ≤ 1000) (hd : Dim A n data) (hB : 0 < B) (hI : I < N) (hp : p < n) (hy : y ≠ 0) (hy256 : y < 256) :
    Calls Try.prog 39 #[.int .i64 (A : Nat), .int .i64 (B : Nat), v] w (RetErr w 11) := by
  obtain ⟨c1, c2, c3, c4, c5⟩ := codeZ_iff hc
  have hup : (upTo N).Nodup := nodup_map (nodup_range N) (fun x _ y _ e => by omega)
  have hlen : ∀ i < N, ((spoilTo (wordTo A n data N) I p y N).getD i []).length = n := fun i hi => by
    rw [spoilTo_get hi]; exact length_spoil (by rw [wordTo_get hi]; exact wordR_dim (dim_all hd) hd.1)
  have hNl : (spoilTo (wordTo A n data N) I p y N).length = N := length_spoilTo ..
  have h0 : n = ((spoilTo (wordTo A n data N) I p y N).getD 0 []).length := (hlen 0 (by omega)).symm
  have ha : areZ (upTo N) ((A : Int) + B) = true := List.all_eq_true.2 fun x hx => by
    obtain ⟨i, hi, rfl⟩ := List.mem_map.1 hx
    have := List.mem_range.1 hi
    unfold rowZ; simp only [Bool.and_eq_true, decide_eq_true_eq]; omega
  have hlt : ((upTo N).take A).length = A := by rw [List.length_take, length_upTo]; omega
  obtain ⟨R, hR⟩ := given_inv (k := A) (m := B) (by omega) (by omega) hlt (nodup_take hup A) (fun x hx => by
    have := areZ_mem ha (List.mem_of_mem_take hx); omega)
  have htk : (spoilTo (wordTo A n data N) I p y N).take A = spoilTo (wordTo A n data N) I p y A := by
    unfold spoilTo; rw [← List.map_take, List.take_range, Nat.min_eq_left (by omega)]
  have hDd : Dim A n (spoilTo (wordTo A n data N) I p y A) := by
    refine ⟨length_spoilTo .., fun i hi => ?_, fun i => ?_⟩
    · rw [spoilTo_get hi]; exact length_spoil (by rw [wordTo_get (by omega)]; exact wordR_dim (dim_all hd) hd.1)
    · by_cases hi : i < A
      · rw [spoilTo_get hi]
        have hb : Bys ((wordTo A n data N).getD i []) := by
          rw [wordTo_get (by omega)]; unfold wordR; rw [if_pos hi]; exact hd.2.2 i
        unfold spoil; split
        · intro x hx
          rcases List.mem_or_eq_of_mem_set hx with hx | rfl
          · exact hb x hx
          · exact xor_lt (hb.get p) hy256
        · exact hb
      · have : (spoilTo (wordTo A n data N) I p y A).getD i [] = [] := by simp [spoilTo, List.getD, Nat.le_of_not_lt hi]
        rw [this]; exact Bys.nil
  have hback : dataOf A n R (spoilTo (wordTo A n data N) I p y N) = spoilTo (wordTo A n data N) I p y A := by
    unfold dataOf
    rw [htk]
    rw [upTo_take (show A ≤ N by omega)] at hR
    refine data_back hDd (length_upTo A) hR (length_spoilTo ..) fun i hi => ?_
    rw [upTo_get hi]
    unfold wordR
    rw [if_pos (by simpa using hi)]
    simp
  refine (complete_any hf hc ha h0 (by omega) (fun _ _ => hR)).mono fun e w' hpp => ?_
  unfold CompP at hpp
  rw [if_neg (by simp [hup]), if_neg (by omega), if_neg (by unfold oneLen; rw [← h0, allLen_of (fun i hi => hlen i (by omega))]; simp), hback, ← hN, if_neg] at hpp
  · exact hpp
  · obtain ⟨i, hi, hne⟩ := spoil_differs (m := B) hd (by omega) (by omega) hB (by omega) hp hy hy256 (I := I) (p := p) (y := y)
    rw [← hN] at hi hne
    have := agreeZ_not (word := wordTo A n (spoilTo (wordTo A n data N) I p y A) N) (ix := upTo N) (rs := spoilTo (wordTo A n data N) I p y N) (n := N) hi (by
      rw [upTo_get hi, spoilTo_get hi]
      have e : (Int.toNat (i : Int)) = i := by simp
      rw [e, wordTo_get hi]; exact hne)
    rw [length_spoilTo, this]
    simp
end Go.Proofs.Ytmlcenocjpjcfaa
