/- nearer: a step of Lehmer's algorithm. -/
import Derived.Test.YtifpfoeecnkhoaaDoorW20
import Derived.Test.YtifpfoeecnkhoaaDoorW21
namespace Go.Proofs.YtifpfoeecnkhoaaDoor
open Go.RowKit NatM

/-- Block g, of the call's own, holds the canonical limbs of N in its first m places. -/
def At (w : World) (base g m : Nat) (zs : List Nat) (N : Nat) : Prop :=
  base ≤ g ∧ Row w g zs ∧ m ≤ zs.length ∧ zs.length ≤ 1000002 ∧ Limbs zs ∧ Canon (zs.take m) ∧ val (zs.take m) = N
theorem At.len {w : World} {base g m : Nat} {zs : List Nat} {N k : Nat} (h : At w base g m zs N) (hN : N < pw k) : m ≤ k := by
  obtain ⟨-, -, h1, -, h2, h3, h4⟩ := h
  have := tlen_le_of_val (xs := zs.take m) k (by rw [h4]; exact hN)
  unfold Canon at h3
  rw [h3, List.length_take, Nat.min_eq_left h1] at this
  exact this
theorem At.reads {w : World} {base g m : Nat} {zs : List Nat} {N : Nat} (h : At w base g m zs N) : Reads w (.slice (some ⟨g, 0, none⟩) m m) (zs.take m) := by
  obtain ⟨-, h1, h2, h3, h4, -⟩ := h
  exact h1.reads h2 (Nat.le_refl _) (by unfold maxLen; omega) h4
theorem At.below {w w' : World} {base g m : Nat} {zs : List Nat} {N : Nat} (h : At w base g m zs N) (hb : Add w w') : At w' base g m zs N := by
  obtain ⟨h0, h1, h2⟩ := h
  exact ⟨h0, h1.below hb, h2⟩
theorem NumOwn.at {w : World} {base : Nat} {v : Value} {N : Nat} (h : NumOwn w base v N) : ∃ g m zs, v = .slice (some ⟨g, 0, none⟩) m m ∧ At w base g m zs N := by
  obtain ⟨g, zs, m, rfl, h1, h2, h3, h4, h5, h6, h7⟩ := h
  exact ⟨g, m, zs, rfl, h1, h2, h3, h4, h5, h6, h7⟩

/-- Two numbers in blocks of their own. -/
def Pair (w : World) (base : Nat) (v1 v2 : Value) (A B : Nat) : Prop :=
  ∃ ga gb m n xs ys, v1 = .slice (some ⟨ga, 0, none⟩) m m ∧ v2 = .slice (some ⟨gb, 0, none⟩) n n ∧ ga ≠ gb ∧ At w base ga m xs A ∧ At w base gb n ys B
def NearP (w : World) (base A B : Nat) (e : Ending) (w' : World) : Prop :=
  ∃ v1 v2 A' B', e = .returned (.tuple #[v1, v2]) ∧ Pair w' base v1 v2 A' B' ∧ B' < B ∧ B' ≤ A' ∧ A' ≤ B ∧ Nat.gcd A' B' = Nat.gcd A B ∧ Below base w w'

theorem cut_at (g m c : Nat) (zs : List Nat) (w : World) (hr : Row w g zs) (hm : m ≤ zs.length) (hc : m ≤ c) (hc' : c ≤ 10000000) (hx : Limbs zs) :
    Calls Tryd.prog 37 #[.slice (some ⟨g, 0, none⟩) m c] w (fun e w' => ∃ m', e = .returned (.slice (some ⟨g, 0, none⟩) m' m') ∧ w = w' ∧ m' ≤ m ∧ Canon (zs.take m') ∧ val (zs.take m') = val (zs.take m)) := by
  refine (cut_any _ _ w (hr.reads hm hc (by unfold maxLen; omega) hx)).mono ?_
  rintro e w' ⟨v', rfl, rfl, hv', ao, c', hao, rfl⟩
  simp only [Value.slice.injEq] at hao
  obtain ⟨rfl, h2, -⟩ := hao
  have hle : tlen (zs.take m) ≤ m := by have := tlen_le (zs.take m); omega
  have ht : zs.take (tlen (zs.take m)) = trim (zs.take m) := by unfold trim; rw [List.take_take, Nat.min_eq_left hle]
  exact ⟨_, rfl, rfl, hle, by rw [ht]; exact Canon.trim _, by rw [ht, val_trim]⟩

/-- The leading digits of two numbers. -/
theorem lead {A B s : Nat} (hA : A < pw 512) (hBA : B ≤ A) (h62 : 62 ≤ nb A) (hs : (s : Int) = (nb A : Int) - 62) :
    A / 2 ^ s < 4611686018427387904 ∧ B / 2 ^ s ≤ A / 2 ^ s ∧ s ≤ 1000000 := by
  have h1 : nb A ≤ 32 * 512 := nb_lt_pw.1 hA
  have h2 := lt_nb A
  refine ⟨?_, Nat.div_le_div_right hBA, by omega⟩
  apply Nat.div_lt_of_lt_mul
  have : (2 : Nat) ^ s * 4611686018427387904 = 2 ^ nb A := by
    rw [show (4611686018427387904 : Nat) = 2 ^ 62 from by decide, ← Nat.pow_add]; congr 1; omega
  omega

set_option maxRecDepth 100000 in
set_option maxHeartbeats 4000000 in
theorem nearer_any (ga gb m n base A B : Nat) (xs ys : List Nat) (w : World) (ha : At w base ga m xs A) (hb : At w base gb n ys B) (hne : ga ≠ gb) (hBA : B ≤ A) (hA : A < pw 512) (hn : 2 < n) :
    Calls Tryd.prog 64 #[.slice (some ⟨ga, 0, none⟩) m m, .slice (some ⟨gb, 0, none⟩) n n] w (NearP w base A B) := by
  have hm512 := ha.len hA
  have hn512 := hb.len (Nat.lt_of_le_of_lt hBA hA)
  have hB2 : pw 2 ≤ B := by
    rcases Nat.lt_or_ge B (pw 2) with h | h
    · have := hb.len h; omega
    · exact h
  have hBn : B < pw n := by
    have h := val_lt ((hb.2.2.2.2.1).take n)
    rw [List.length_take, Nat.min_eq_left hb.2.2.1, hb.2.2.2.2.2.2] at h
    exact h
  have hnm : n ≤ m := by
    rcases Nat.lt_or_ge m n with h | h
    · have h1 := val_lt ((ha.2.2.2.2.1).take m)
      rw [List.length_take, Nat.min_eq_left ha.2.2.1, ha.2.2.2.2.2.2] at h1
      have := hb.len (Nat.lt_of_le_of_lt hBA h1)
      omega
    · exact h
  have h64 : 64 < nb A := by
    apply lt_nb_of_le
    have : pw 2 = 2 ^ 64 := by rw [pw_two]
    omega
  obtain ⟨s, hs⟩ : ∃ s : Nat, (nb A : Int) - 62 = (s : Int) := ⟨nb A - 62, by omega⟩
  obtain ⟨bA, hbA⟩ : ∃ bA, bA = nb A := ⟨_, rfl⟩
  have hl := lead hA hBA (by omega) hs.symm
  rw [← hbA] at hs h64
  have bAb : bA ≤ 16384 := by rw [hbA]; exact nb_lt_pw.1 hA
  obtain ⟨X0, hX⟩ : ∃ X0, X0 = A / 2 ^ s := ⟨_, rfl⟩
  obtain ⟨Y0, hY⟩ : ∃ Y0, Y0 = B / 2 ^ s := ⟨_, rfl⟩
  have q1 : Hid (A = X0 * 2 ^ s + A % 2 ^ s) := Lib.hid (by rw [hX, Nat.mul_comm]; exact (Nat.div_add_mod _ _).symm)
  have q2 : Hid (B = Y0 * 2 ^ s + B % 2 ^ s) := Lib.hid (by rw [hY, Nat.mul_comm]; exact (Nat.div_add_mod _ _).symm)
  have q3 : Hid (A % 2 ^ s < 2 ^ s) := Lib.hid (Nat.mod_lt _ (Nat.pow_pos (by decide)))
  have q4 : Hid (B % 2 ^ s < 2 ^ s) := Lib.hid (Nat.mod_lt _ (Nat.pow_pos (by decide)))
  have HX := Lib.hid hX
  have HY := Lib.hid hY
  rw [← hX, ← hY] at hl
  obtain ⟨hl1, hl2, hl3⟩ := hl
  have vA : val (xs.take m) = A := ha.2.2.2.2.2.2
  have vB : val (ys.take n) = B := hb.2.2.2.2.2.2
  have lA : (xs.take m).length = m := by rw [List.length_take, Nat.min_eq_left ha.2.2.1]
  have lB : (ys.take n).length = n := by rw [List.length_take, Nat.min_eq_left hb.2.2.1]
  have HB := Lib.hid (bits_any _ _ w ha.reads (by omega))
  rw [vA, ← hbA] at HB
  have HW1 := Lib.hid (window_any _ _ s w ha.reads hl3 (by rw [vA, ← hX]; exact hl1))
  rw [vA, ← hX] at HW1
  have HW2 := Lib.hid (window_any _ _ s w hb.reads hl3 (by rw [vB, ← hY]; omega))
  rw [vB, ← hY] at HW2
  have HLP := Lib.hid (leap_any X0 Y0 A B (2 ^ s) (A % 2 ^ s) (B % 2 ^ s) w hl2 hl1 q1 q2 q3 q4)
  have HDV := fun w' (h : Add w w') => divide_any _ _ _ _ w' (ha.below h).reads (hb.below h).reads (by omega) (by omega) hb.2.2.2.2.2.1 (by rw [vB]; have := pw_pos 2; omega)
  rw [vA, vB] at HDV
  have HDVH := Lib.hid HDV
  have HVA := Lib.hid vA
  have HVB := Lib.hid vB
  have HBN := Lib.hid hBn
  have HA0 := Lib.hid hA
  have HB0 := Lib.hid hBA
  clear HDV hX hY vA vB hbA q1 q2 q3 q4 hB2 hBn hA hBA
  go_enter Tryd.func64, Tryd.ntmps64
  go_wp2_with fail
  refine HB.out.mono ?_; rintro e w' ⟨rfl, rfl⟩
  go_wp2_with fail
  refine HW1.out.mono ?_; rintro e w' ⟨rfl, rfl⟩
  go_wp2_with fail
  refine HW2.out.mono ?_; rintro e w' ⟨rfl, rfl⟩
  go_wp2_with fail
  refine HLP.out.mono ?_; rintro e w1 ⟨a, b, c, d, ok, rfl, hok, hadd⟩
  have hA2 : Add w1 ((w1.alloc (.cells #[.int .i64 a, .int .i64 b] 94)).alloc (.cells #[.int .i64 c, .int .i64 d] 94)) := ((Below.refl _ _).alloc (Nat.le_refl _) _).alloc (by simp) _
  have t1 : Two ((w1.alloc (.cells #[.int .i64 a, .int .i64 b] 94)).alloc (.cells #[.int .i64 c, .int .i64 d] 94)) w1.heap.size a b := (two_new w1 a b).below ((Below.refl _ _).alloc (Nat.le_refl _) _)
  have t2 : Two ((w1.alloc (.cells #[.int .i64 a, .int .i64 b] 94)).alloc (.cells #[.int .i64 c, .int .i64 d] 94)) (w1.heap.size + 1) c d := by
    have := two_new (w1.alloc (.cells #[.int .i64 a, .int .i64 b] 94)) c d
    simpa using this
  have hadd2 := Add.trans hadd hA2
  clear hA2
  cases ok
  · clear hok t1 t2
    go_wp2_with fail
    refine (HDVH.out _ hadd2).mono ?_
    rintro e w3 ⟨vq, vr, rfl, hq, hr, hadd3⟩
    have hadd4 := Add.trans hadd2 hadd3
    have hF : NearP w' base A B (.returned (.tuple #[.slice (some ⟨gb, 0, none⟩) n n, vr])) w3 := by
      obtain ⟨g, m', zs, rfl, h1, h2⟩ := hr.at
      have hlt := hb.2.1.lt
      have hsz := hadd2.size
      have hbb := hb.1
      have hBp : 0 < B := by
        rcases Nat.eq_zero_or_pos B with h | h
        · have := hb.len (k := 0) (by rw [h]; exact pw_pos 0); omega
        · exact h
      refine ⟨_, _, B, A % B, rfl, ⟨gb, g, n, m', ys, zs, rfl, rfl, by omega, hb.below hadd4, ⟨by omega, h2⟩⟩, Nat.mod_lt _ hBp, Nat.le_of_lt (Nat.mod_lt _ hBp), Nat.le_refl _, ?_, hadd4.mono (by omega)⟩
      rw [Nat.gcd_comm B, ← Nat.gcd_rec, Nat.gcd_comm]
    clear hq hr hadd4 hadd2 hadd
    go_wp2_with fail
    go_ret2
    exact hF
  · obtain ⟨f1, f2, U, V, hU, hV, hVU, hUB, hg⟩ := hok rfl
    have hbb := hb.1
    have hlt := hb.2.1.lt
    have lxs := ha.2.2.1
    have lys := hb.2.2.1
    have hcall := fun (wx : World) (h : Add w' wx) => apply_gen a b c d ga gb m n m n base U V xs ys wx (ha.below h).2.1 (hb.below h).2.1 hne ha.1 hb.1 hnm lxs lys (by omega) ha.2.2.2.2.1 hb.2.2.2.2.1 f1 f2 (Lib.hid (by rw [HVA.out, HVB.out]; exact hU)) (Lib.hid (by rw [HVA.out, HVB.out]; exact hV)) (Lib.hid (by have := HBN.out; omega)) (Lib.hid (by have := HBN.out; omega))
    have HCALL := Lib.hid hcall
    have HU := Lib.hid hU
    have HV := Lib.hid hV
    clear hcall hU hV f1 f2
    have c1 := t1.fst
    have c2 := t1.snd
    have c3 := t2.fst
    have c4 := t2.snd
    go_wp2_with fail
    refine (HCALL.out _ hadd2).mono ?_
    rintro e w3 ⟨zs, us, rfl, hr1, hr2, hzl, hul, hzs, hus, hvz, hvu, hb3⟩
    have hb4 : Below base w' w3 := Below.trans (hadd2.mono (by omega)) hb3
    clear c1 c2 c3 c4 t1 t2
    have HZL := Lib.hid hzl
    have HUL := Lib.hid hul
    have hlx := ha.2.2.2.1
    have hly := hb.2.2.2.1
    go_wp2_with fail
    refine (cut_at ga n m zs w3 hr1 (by omega) hnm (by omega) hzs).mono ?_
    rintro e wy ⟨m1, rfl, rfl, hm1, hcz, hvz1⟩
    go_wp2_with fail
    refine (cut_at gb n n us _ hr2 (by omega) (Nat.le_refl _) (by omega) hus).mono ?_
    rintro e wz ⟨m2, rfl, rfl, hm2, hcu, hvu1⟩
    have hF : NearP _ base A B (.returned (.tuple #[.slice (some ⟨ga, 0, none⟩) m1 m1, .slice (some ⟨gb, 0, none⟩) m2 m2])) _ :=
      ⟨_, _, U, V, rfl, ⟨ga, gb, m1, m2, zs, us, rfl, rfl, hne, ⟨ha.1, hr1, by omega, by omega, hzs, hcz, by rw [hvz1, hvz]⟩, ⟨hb.1, hr2, by omega, by omega, hus, hcu, by rw [hvu1, hvu]⟩⟩, by omega, by omega, hUB, hg, hb4⟩
    clear HCALL HU HV HZL HUL hb4
    go_wp2_with fail
    go_ret2
    exact hF
end Go.Proofs.YtifpfoeecnkhoaaDoor
