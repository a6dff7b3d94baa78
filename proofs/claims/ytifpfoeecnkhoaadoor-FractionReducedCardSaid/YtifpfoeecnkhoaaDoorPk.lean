/- Plain facts on long division: a window of a list of limbs, a multiple taken from it, the guessed digit is right or too great by one, and the quotient digit by digit. No program is read here. -/
import Derived.Test.YtifpfoeecnkhoaaDoorPg
namespace NatM

/-! A window -/
def put (zs : List Nat) (o : Nat) (ws : List Nat) : List Nat := zs.take o ++ (ws ++ zs.drop (o + ws.length))
theorem put_length {zs ws : List Nat} {o : Nat} (h : o + ws.length ≤ zs.length) : (put zs o ws).length = zs.length := by
  unfold put
  simp only [List.length_append, List.length_take, List.length_drop]; omega
theorem put_getD {zs ws : List Nat} {o i : Nat} (h : o + ws.length ≤ zs.length) (hi : i < ws.length) : (put zs o ws).getD (o + i) 0 = ws.getD i 0 := by
  unfold put
  simp only [List.getD]
  rw [List.getElem?_append_right (by rw [List.length_take]; omega), List.length_take, Nat.min_eq_left (by omega), Nat.add_sub_cancel_left, List.getElem?_append_left hi]
theorem put_set {zs ws : List Nat} {o i s : Nat} (h : o + ws.length ≤ zs.length) (hi : i < ws.length) : (put zs o ws).set (o + i) s = put zs o (ws.set i s) := by
  unfold put
  rw [List.set_append_right _ _ (by rw [List.length_take]; omega), List.length_take, Nat.min_eq_left (by omega), Nat.add_sub_cancel_left, List.set_append_left _ _ hi, List.length_set]
theorem put_self {zs : List Nat} {o m : Nat} (h : o + m ≤ zs.length) : put zs o ((zs.drop o).take m) = zs := by
  unfold put
  have e : ((zs.drop o).take m).length = m := by simp; omega
  rw [e]
  have h2 : (zs.drop o).drop m = zs.drop (o + m) := by rw [List.drop_drop]
  rw [← h2, List.take_append_drop, List.take_append_drop]
theorem window_length {zs : List Nat} {o m : Nat} (h : o + m ≤ zs.length) : ((zs.drop o).take m).length = m := by simp; omega
theorem put_limbs {zs ws : List Nat} {o : Nat} (h : Limbs zs) (g : Limbs ws) : Limbs (put zs o ws) := by
  unfold put; exact (h.take _).append (g.append (h.drop _))
theorem put_put {zs ws us : List Nat} {o : Nat} (h : o + ws.length ≤ zs.length) (e : us.length = ws.length) : put (put zs o ws) o us = put zs o us := by
  unfold put
  have h1 : (zs.take o).length = o := by rw [List.length_take]; omega
  rw [List.take_append_of_le_length (by omega), List.take_of_length_le (by omega)]
  congr 2
  rw [List.drop_append, List.drop_append]
  rw [List.drop_of_length_le (by rw [h1]; omega), List.drop_of_length_le (by rw [h1]; omega), h1, e]
  simp only [Nat.add_sub_cancel_left, Nat.sub_self, List.drop_zero, List.nil_append]

/-! A multiple taken out -/
def SubMul (ws0 ds ws : List Nat) (q i b c : Nat) : Prop :=
  ws.length = ws0.length ∧ val (ws.take i) + q * val (ds.take i) = val (ws0.take i) + pw i * (b + c) ∧ ∀ k, i ≤ k → ws.getD k 0 = ws0.getD k 0
theorem subMul_zero (ws ds : List Nat) (q : Nat) : SubMul ws ds ws q 0 0 0 := ⟨rfl, by simp [val], fun _ _ => rfl⟩
theorem subMul_step {ws0 ds ws : List Nat} {q i b c s b' c' low : Nat} (h : SubMul ws0 ds ws q i b c) (hi : i < ws0.length) (e1 : low + 4294967296 * c' = c + q * ds.getD i 0) (e2 : s + low + b = ws.getD i 0 + 4294967296 * b') :
    SubMul ws0 ds (ws.set i s) q (i + 1) b' c' := by
  obtain ⟨hl, hv, ha⟩ := h
  refine ⟨by simpa using hl, ?_, fun k hk => by rw [getD_set_ne _ _ _ _ (by omega)]; exact ha k (by omega)⟩
  have e3 := ha i (Nat.le_refl _)
  rw [e3] at e2
  rw [val_take_succ, val_take_succ, val_take_succ, take_set_lt, getD_set_self _ _ _ (by omega), pw_succ]
  have e4 : pw i * (s + q * ds.getD i 0 + (b + c)) = pw i * (ws0.getD i 0 + 4294967296 * (b' + c')) := by
    congr 1; omega
  have e5 : pw i * (4294967296 * (b' + c')) = 4294967296 * pw i * (b' + c') := by rw [← Nat.mul_assoc, Nat.mul_comm (pw i)]
  have e6 : q * (pw i * ds.getD i 0) = pw i * (q * ds.getD i 0) := Nat.mul_left_comm _ _ _
  rw [Nat.mul_add (pw i) (s + q * ds.getD i 0), Nat.mul_add (pw i) s, Nat.mul_add (pw i) (ws0.getD i 0), e5] at e4
  rw [Nat.mul_add q, e6]
  omega
/-- The last limb. -/
theorem subMul_last {ws0 ds ws : List Nat} {q n b c s b' : Nat} (h : SubMul ws0 ds ws q n b c) (hn : ws0.length = n + 1) (e : s + c + b = ws.getD n 0 + 4294967296 * b') :
    (ws.set n s).length = n + 1 ∧ val (ws.set n s) + q * val (ds.take n) = val ws0 + pw (n + 1) * b' := by
  obtain ⟨hl, hv, ha⟩ := h
  have hlen : (ws.set n s).length = n + 1 := by simp [hl, hn]
  refine ⟨hlen, ?_⟩
  have e3 := ha n (Nat.le_refl _)
  rw [e3] at e
  have t1 : val (ws.set n s) = val (ws.take n) + pw n * s := by
    have : (ws.set n s).take (n + 1) = ws.set n s := List.take_of_length_le (by omega)
    rw [← this, val_take_succ, take_set_lt, getD_set_self _ _ _ (by omega)]
  have t2 : val ws0 = val (ws0.take n) + pw n * ws0.getD n 0 := by
    have : ws0.take (n + 1) = ws0 := List.take_of_length_le (by omega)
    rw [← val_take_succ, this]
  rw [t1, t2, pw_succ]
  have e4 : pw n * (s + (b + c)) = pw n * (ws0.getD n 0 + 4294967296 * b') := by congr 1; omega
  have e5 : pw n * (4294967296 * b') = 4294967296 * pw n * b' := by rw [← Nat.mul_assoc, Nat.mul_comm (pw n)]
  rw [Nat.mul_add (pw n) s, Nat.mul_add (pw n) (ws0.getD n 0), e5] at e4
  omega

/-! The divisor added back -/
def AddAt (ws0 ds ws : List Nat) (i c : Nat) : Prop :=
  ws.length = ws0.length ∧ val (ws.take i) + pw i * c = val (ws0.take i) + val (ds.take i) ∧ ∀ k, i ≤ k → ws.getD k 0 = ws0.getD k 0
theorem addAt_zero (ws ds : List Nat) : AddAt ws ds ws 0 0 := ⟨rfl, by simp [val], fun _ _ => rfl⟩
theorem addAt_step {ws0 ds ws : List Nat} {i c s c' : Nat} (h : AddAt ws0 ds ws i c) (hi : i < ws0.length) (e : s + 4294967296 * c' = ws.getD i 0 + ds.getD i 0 + c) : AddAt ws0 ds (ws.set i s) (i + 1) c' := by
  obtain ⟨hl, hv, ha⟩ := h
  refine ⟨by simpa using hl, ?_, fun k hk => by rw [getD_set_ne _ _ _ _ (by omega)]; exact ha k (by omega)⟩
  rw [ha i (Nat.le_refl _)] at e
  rw [val_take_succ, val_take_succ, val_take_succ, take_set_lt, getD_set_self _ _ _ (by omega), pw_succ]
  have e4 : pw i * (s + 4294967296 * c') = pw i * (ws0.getD i 0 + ds.getD i 0 + c) := by rw [e]
  have e5 : pw i * (4294967296 * c') = 4294967296 * pw i * c' := by rw [← Nat.mul_assoc, Nat.mul_comm (pw i)]
  simp only [Nat.mul_add] at e4
  omega
theorem addAt_last {ws0 ds ws : List Nat} {n c : Nat} (h : AddAt ws0 ds ws n c) (hn : ws0.length = n + 1) :
    (ws.set n ((ws.getD n 0 + c) % 4294967296)).length = n + 1 ∧ ∃ k, val (ws.set n ((ws.getD n 0 + c) % 4294967296)) + pw (n + 1) * k = val ws0 + val (ds.take n) := by
  obtain ⟨hl, hv, ha⟩ := h
  have hlen : (ws.set n ((ws.getD n 0 + c) % 4294967296)).length = n + 1 := by simp [hl, hn]
  refine ⟨hlen, (ws.getD n 0 + c) / 4294967296, ?_⟩
  have t1 : val (ws.set n ((ws.getD n 0 + c) % 4294967296)) = val (ws.take n) + pw n * ((ws.getD n 0 + c) % 4294967296) := by
    have : (ws.set n ((ws.getD n 0 + c) % 4294967296)).take (n + 1) = ws.set n ((ws.getD n 0 + c) % 4294967296) := List.take_of_length_le (by omega)
    rw [← this, val_take_succ, take_set_lt, getD_set_self _ _ _ (by omega)]
  have t2 : val ws0 = val (ws0.take n) + pw n * ws0.getD n 0 := by
    have : ws0.take (n + 1) = ws0 := List.take_of_length_le (by omega)
    rw [← val_take_succ, this]
  rw [t1, t2, pw_succ, ha n (Nat.le_refl _)]
  have e4 : pw n * ((ws0.getD n 0 + c) % 4294967296 + 4294967296 * ((ws0.getD n 0 + c) / 4294967296)) = pw n * (ws0.getD n 0 + c) := by rw [Nat.mod_add_div]
  have e5 : pw n * (4294967296 * ((ws0.getD n 0 + c) / 4294967296)) = 4294967296 * pw n * ((ws0.getD n 0 + c) / 4294967296) := by rw [← Nat.mul_assoc, Nat.mul_comm (pw n)]
  rw [Nat.mul_add, Nat.mul_add, e5] at e4
  omega

/-! The guessed digit -/
def guessOf (w2 w1 w0 d1 d0 : Nat) : Nat := min (((w2 * 4294967296 + w1) * 4294967296 + w0) / (d1 * 4294967296 + d0)) 4294967295
theorem knuth {P wl W3 dl D2 : Nat} (hw : wl < P) (hd : dl < P) (hD : 4294967296 ≤ D2) (hlt : wl + P * W3 < 4294967296 * (dl + P * D2)) :
    (wl + P * W3) / (dl + P * D2) ≤ min (W3 / D2) 4294967295 ∧ min (W3 / D2) 4294967295 ≤ (wl + P * W3) / (dl + P * D2) + 1 := by
  have hPpos : 0 < P := by omega
  have hDpos : 0 < dl + P * D2 := by have : 0 < P * D2 := Nat.mul_pos hPpos (by omega); omega
  obtain ⟨q, hq⟩ : ∃ q, q = (wl + P * W3) / (dl + P * D2) := ⟨_, rfl⟩
  rw [← hq]
  have hqD : q * (dl + P * D2) ≤ wl + P * W3 := by rw [hq]; exact Nat.div_mul_le_self _ _
  have hqB : q < 4294967296 := by rw [hq]; exact Nat.div_lt_of_lt_mul (by rw [Nat.mul_comm (dl + P * D2)]; exact hlt)
  have hqd : q * D2 ≤ W3 := by
    have h1 : P * (q * D2) ≤ q * (dl + P * D2) := by
      rw [Nat.mul_add, ← Nat.mul_assoc q P D2, Nat.mul_comm q P, Nat.mul_assoc]; omega
    have h2 : P * (q * D2) < P * (W3 + 1) := by rw [Nat.mul_add]; omega
    have := Nat.lt_of_mul_lt_mul_left h2
    omega
  constructor
  · refine Nat.le_min.2 ⟨(Nat.le_div_iff_mul_le (by omega)).2 hqd, by omega⟩
  · obtain ⟨g, hg⟩ : ∃ g, g = min (W3 / D2) 4294967295 := ⟨_, rfl⟩
    rw [← hg]
    have hgB : g ≤ 4294967295 := by rw [hg]; exact Nat.min_le_right _ _
    have hgd : g * D2 ≤ W3 := by
      have : g ≤ W3 / D2 := by rw [hg]; exact Nat.min_le_left _ _
      exact (Nat.le_div_iff_mul_le (by omega)).1 this
    rcases Nat.eq_zero_or_pos g with h0 | h0
    · omega
    · have h1 : g * (dl + P * D2) ≤ g * dl + P * W3 := by
        rw [Nat.mul_add, ← Nat.mul_assoc g P D2, Nat.mul_comm g P, Nat.mul_assoc]
        have := Nat.mul_le_mul_left P hgd
        omega
      have h2 : g * dl ≤ P * D2 := by
        have a : g * dl ≤ 4294967296 * P := Nat.mul_le_mul (by omega) (by omega)
        have b : P * 4294967296 ≤ P * D2 := Nat.mul_le_mul_left _ hD
        omega
      have h3 : (g - 1) * (dl + P * D2) ≤ wl + P * W3 := by
        rw [Nat.sub_mul, Nat.one_mul]; omega
      have h4 : g - 1 ≤ q := by rw [hq]; exact (Nat.le_div_iff_mul_le hDpos).2 h3
      omega

theorem two_limbs (v P a b : Nat) : v + P * a + 4294967296 * P * b = v + P * (b * 4294967296 + a) := by
  have e1 : 4294967296 * P * b = P * (b * 4294967296) := by simp only [Nat.mul_comm, Nat.mul_left_comm]
  rw [e1, Nat.mul_add]; omega
theorem three_limbs (v P a b c : Nat) : v + P * a + 4294967296 * P * b + 4294967296 * (4294967296 * P) * c = v + P * ((c * 4294967296 + b) * 4294967296 + a) := by
  have e1 : 4294967296 * P * b = P * (b * 4294967296) := by simp only [Nat.mul_comm, Nat.mul_left_comm]
  have e2 : 4294967296 * (4294967296 * P) * c = P * (c * 4294967296 * 4294967296) := by simp only [Nat.mul_comm, Nat.mul_left_comm]
  rw [e1, e2, Nat.add_mul, Nat.mul_add, Nat.mul_add]; omega

/-- The three leading limbs of a window, the two of a divisor. -/
theorem guess_near {ws ds : List Nat} {n : Nat} (hw : Limbs ws) (hd : Limbs ds) (hn : 2 ≤ n) (hl : ws.length = n + 1) (hld : n ≤ ds.length) (htop : ds.getD (n - 1) 0 ≠ 0) (hlt : val ws < 4294967296 * val (ds.take n)) :
    val ws / val (ds.take n) ≤ guessOf (ws.getD n 0) (ws.getD (n - 1) 0) (ws.getD (n - 2) 0) (ds.getD (n - 1) 0) (ds.getD (n - 2) 0) ∧
    guessOf (ws.getD n 0) (ws.getD (n - 1) 0) (ws.getD (n - 2) 0) (ds.getD (n - 1) 0) (ds.getD (n - 2) 0) ≤ val ws / val (ds.take n) + 1 := by
  obtain ⟨m, rfl⟩ : ∃ m, n = m + 2 := ⟨n - 2, by omega⟩
  simp only [Nat.add_sub_cancel, show m + 2 - 1 = m + 1 from by omega] at htop ⊢
  have tw : val ws = val (ws.take m) + pw m * ((ws.getD (m + 2) 0 * 4294967296 + ws.getD (m + 1) 0) * 4294967296 + ws.getD m 0) := by
    have : ws.take (m + 2 + 1) = ws := List.take_of_length_le (by omega)
    conv => lhs; rw [← this]
    rw [val_take_succ, val_take_succ, val_take_succ, show pw (m + 2) = 4294967296 * pw (m + 1) from pw_succ (m + 1), show pw (m + 1) = 4294967296 * pw m from pw_succ m]
    exact three_limbs _ _ _ _ _
  have td : val (ds.take (m + 2)) = val (ds.take m) + pw m * (ds.getD (m + 1) 0 * 4294967296 + ds.getD m 0) := by
    rw [val_take_succ, val_take_succ, show pw (m + 1) = 4294967296 * pw m from pw_succ m]
    exact two_limbs _ _ _ _
  have bw : val (ws.take m) < pw m := by
    have a := val_lt (hw.take m)
    rw [List.length_take, Nat.min_eq_left (by omega)] at a
    exact a
  have bd : val (ds.take m) < pw m := by
    have a := val_lt (hd.take m)
    rw [List.length_take, Nat.min_eq_left (by omega)] at a
    exact a
  unfold guessOf
  rw [tw, td] at hlt ⊢
  exact knuth bw bd (by omega) hlt

/-! The quotient digit by digit, from the top -/
def LongDiv (A0 D : Nat) (zs qs : List Nat) (i : Nat) : Prop := A0 = val zs + pw i * (val (qs.drop i) * D) ∧ val zs < pw i * D
theorem longDiv_window {zs : List Nat} {D j n : Nat} (hD : D < pw n) (hl : j + (n + 1) ≤ zs.length) (h : val zs < pw (j + 1) * D) :
    val zs = val (zs.take j) + pw j * val ((zs.drop j).take (n + 1)) ∧ val ((zs.drop j).take (n + 1)) < 4294967296 * D := by
  have h1 : val zs < pw (j + (n + 1)) := by
    have a : pw (j + 1) * D < pw (j + 1) * pw n := Nat.mul_lt_mul_of_pos_left hD (pw_pos _)
    rw [← pw_add] at a
    rw [show j + (n + 1) = j + 1 + n from by omega]; omega
  have h2 : val zs = val (zs.take (j + (n + 1))) := by
    have a := val_take_drop zs (j + (n + 1)) hl
    rcases Nat.eq_zero_or_pos (val (zs.drop (j + (n + 1)))) with b | b
    · rw [a, b]; omega
    · have c : pw (j + (n + 1)) * 1 ≤ pw (j + (n + 1)) * val (zs.drop (j + (n + 1))) := Nat.mul_le_mul_left _ b
      omega
  have h3 : zs.take (j + (n + 1)) = zs.take j ++ (zs.drop j).take (n + 1) := by rw [List.take_add]
  have h4 : val zs = val (zs.take j) + pw j * val ((zs.drop j).take (n + 1)) := by
    rw [h2, h3, val_append, List.length_take, Nat.min_eq_left (by omega)]
  refine ⟨h4, ?_⟩
  rw [pw_succ] at h
  have h5 : pw j * val ((zs.drop j).take (n + 1)) < pw j * (4294967296 * D) := by
    have e5 : pw j * (4294967296 * D) = 4294967296 * pw j * D := by simp only [Nat.mul_assoc, Nat.mul_left_comm]
    rw [e5]; omega
  exact Nat.lt_of_mul_lt_mul_left h5
theorem ld_arith {A0 vz P vt vw W q D Q : Nat} (h1 : A0 = vz + 4294967296 * P * (Q * D)) (h3 : vz = vt + P * W) (e : vw + q * D = W) : A0 = vt + P * vw + P * ((q + 4294967296 * Q) * D) := by
  rw [h1, h3, ← e, Nat.add_mul, Nat.mul_add P vw, Nat.mul_add P (q * D)]
  have a1 : 4294967296 * P * (Q * D) = P * (4294967296 * Q * D) := by simp only [Nat.mul_assoc, Nat.mul_left_comm]
  rw [a1]; omega
theorem ld_less {vt P vw D : Nat} (h1 : vt < P) (h2 : vw < D) : vt + P * vw < P * D := by
  have a : P * (vw + 1) ≤ P * D := Nat.mul_le_mul_left _ h2
  rw [Nat.mul_add] at a; omega
theorem drop_set_cons {qs : List Nat} {j q : Nat} (hq : j < qs.length) : val ((qs.set j q).drop j) = q + 4294967296 * val (qs.drop (j + 1)) := by
  rw [List.drop_eq_getElem_cons (by simpa using hq : j < (qs.set j q).length), List.getElem_set_self, List.drop_set_of_lt (by omega)]
  rfl
end NatM
