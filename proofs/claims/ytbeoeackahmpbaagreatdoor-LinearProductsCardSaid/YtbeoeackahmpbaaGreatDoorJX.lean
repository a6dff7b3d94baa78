/- Package fraction: Sum. | The reference of layer 2: Sum. -/
import Derived.Test.YtbeoeackahmpbaaGreatDoorJP
import Derived.Test.YtbeoeackahmpbaaGreatDoorJQ

namespace Go.Proofs.YtbeoeackahmpbaaGreatDoor
open Go.RowKit NatM Go.Proofs.YtbeoeackahmpbaaGreatDoor.Api

/-- A list of fractions in memory. -/
def FracsA (w : World) (v : Value) (L : List Tri) : Prop := ∃ (a : Option Addr) (n c : Nat), v = .slice a n c ∧ L.length = n ∧ n ≤ 100000 ∧
  ∀ i, i < n → ∃ b off s an m cn ad d cd, a = some ⟨b, off, none⟩ ∧ w.cell? ⟨b, off + i * 3, none⟩ = some (.bool s) ∧ w.cell? ⟨b, off + i * 3 + 1, none⟩ = some (.slice an m cn) ∧ w.cell? ⟨b, off + i * 3 + 2, none⟩ = some (.slice ad d cd) ∧
    FracA w (.agg #[.bool s, .slice an m cn, .slice ad d cd]) (L.getD i (false, 0, 0))
theorem FracsA.mono {w w' : World} {v : Value} {L : List Tri} (h : FracsA w v L) (hb : Add w w') : FracsA w' v L := by
  obtain ⟨a, n, c, rfl, hl, hn, h⟩ := h
  refine ⟨a, n, c, rfl, hl, hn, fun i hi => ?_⟩
  obtain ⟨b, off, s, an, m, cn, ad, d, cd, h1, h2, h3, h4, h5⟩ := h i hi
  have k := fun (p : Addr) (v : Value) (g : w.cell? p = some v) => (hb.cell (p := p) (World.block_lt_of_cell? w _ g)).trans g
  exact ⟨b, off, s, an, m, cn, ad, d, cd, h1, k _ _ h2, k _ _ h3, k _ _ h4, h5.mono hb⟩
theorem fitQ_lt (q : Rat) : (fitQ q).1.2.1 < pw 128 ∧ (fitQ q).1.2.2 < pw 128 := by
  unfold fitQ
  split
  · exact ⟨pw_pos 128, pw_pos 128⟩
  · next h =>
    have h1 : q.num.natAbs < pw 128 := by omega
    have h2 : q.den < pw 128 := by omega
    exact ⟨h1, h2⟩
theorem addF_lt128 {x y : Tri} {s : Bool} {N D c : Nat} (h : addF x y = ((s, N, D), c)) : N < pw 128 ∧ D < pw 128 := by
  have g : (addF x y).1.2.1 < pw 128 ∧ (addF x y).1.2.2 < pw 128 := by
    unfold addF
    split
    · exact fitQ_lt _
    · exact ⟨pw_pos 128, pw_pos 128⟩
  rw [h] at g; exact g
theorem sumF_step0 {t x : Tri} {l : List Tri} {r : Tri} (h : addF t x = (r, 0)) : sumF t (x :: l) = sumF r l := by
  rw [sumF, h, if_pos rfl]
theorem sumF_stop {t x : Tri} {l : List Tri} {r : Tri} {c : Nat} (h : addF t x = (r, c)) (hc : c ≠ 0) : sumF t (x :: l) = ((false, 0, 0), c) := by
  rw [sumF, h, if_neg hc]
theorem drop_get {L : List Tri} {k n : Nat} (hn : L.length = n) (hk : k < n) : L.drop k = L.getD k (false, 0, 0) :: L.drop (k + 1) := by
  rw [List.drop_eq_getElem_cons (by omega)]; simp [List.getD, show k < L.length by omega]
/-- A result of which the parts have names. -/
def ResE2 (w : World) (s : Bool) (N D c : Nat) (e : Ending) (w' : World) : Prop := ∃ a n k a' n' k', e = .returned (.tuple #[.agg #[.bool s, .slice a n k, .slice a' n' k'], .int .i64 (c : Nat)]) ∧ Num w' (.slice a n k) N ∧ Num w' (.slice a' n' k') D ∧ Add w w'
theorem resE2 {w : World} {p : Tri × Nat} {s : Bool} {N D c : Nat} {e : Ending} {w' : World} (g : ResF w p e w') (h : Hid (p = ((s, N, D), c))) : ResE2 w s N D c e w' := by
  obtain ⟨v, he, ⟨a, n, k, a', n', k', rfl, h1, h2⟩, h3⟩ := g
  have e1 := h.out
  subst e1
  exact ⟨a, n, k, a', n', k', he, h1, h2, h3⟩
theorem Box.other2 {w : World} {g k : Nat} {b an n cn ad d cd} (h : Box w k b an n cn ad d cd) (hk : k ≠ g) (u0 u1 u2 : Value) : Box (put3 w g u0 u1 u2) k b an n cn ad d cd := (put3_other u0 u1 u2 hk).trans h
theorem nzi {c : Nat} (h : c ≠ 0) : ((c : Int) != 0) = true := by simp [bne]; omega
set_option maxRecDepth 100000 in
set_option maxHeartbeats 2000000 in
theorem sumN (p : Tri × Nat) {v : Value} {L : List Tri} {w : World} (hl : FracsA w v L) (hT : Tab w) (hp : Hid (sumF (false, 0, 1) L = p)) :
    Calls Tryz.prog 107 #[v] w (ResF w p) := by
  have hlw := hl
  have hTw := hT
  obtain ⟨a, n, c, rfl, hn, hn1, hc⟩ := hl
  have HN := Lib.hid hn
  clear hn hc
  obtain ⟨T, hR⟩ := laid_var w false none 0 0 none 0 0
  replace hT := hT.mono T
  have r1 : Hid (((-9223372036854775808 : Int) ≤ 0 ∧ (0 : Int) ≤ 9223372036854775807) ∧ (-9223372036854775808 : Int) ≤ 1 ∧ (1 : Int) ≤ 9223372036854775807) := Lib.hid (by decide)
  go_enter Tryz.func107, Tryz.ntmps107
  go_wp2_with fail
  refine (makeC false 0 1 hT r1 (Lib.hid make01)).mono ?_
  rintro e w1 ⟨a1, n1, k1, e1, d1, l1, rfl, x1, y1, h1⟩
  replace hT := hT.mono h1
  replace hR := hR.mono h1
  replace T := Add.trans T h1
  clear h1 r1
  have LT := Lib.hid hR.lt
  obtain ⟨tt, hS⟩ := laid_var w1 false a1 n1 k1 e1 d1 l1
  replace hT := hT.mono tt
  replace hR := hR.mono tt
  replace x1 := x1.mono tt
  replace y1 := y1.mono tt
  replace T := Add.trans T tt
  clear tt
  have LS : Hid (w.heap.size < w1.heap.size) := LT
  clear LT
  have B0 : Hid ((0 : Nat) < pw 128 ∧ (1 : Nat) < pw 128) := Lib.hid ⟨pw_pos 128, small128 (by decide)⟩
  go_wp2_with fail
  go_loopw [5, 14] (fun er i wr => ∃ (k : Nat) (s : Bool) (a2 : Option Addr) (n2 k2 : Nat) (e2 : Option Addr) (d2 l2 N D : Nat), k ≤ n ∧ i = .int .i64 (k : Nat) ∧ er = .int .i64 0 ∧ Box wr w1.heap.size s a2 n2 k2 e2 d2 l2 ∧ Num wr (.slice a2 n2 k2) N ∧ Num wr (.slice e2 d2 l2) D ∧ Hid (N < pw 128 ∧ D < pw 128) ∧ Hid (sumF (s, N, D) (L.drop k) = p) ∧ Box wr w.heap.size false none 0 0 none 0 0 ∧ Add w wr) (fun _ i _ => n - (intOf i).toNat)
  case atStart => exact ⟨0, _, _, _, _, _, _, _, _, _, Nat.zero_le _, rfl, rfl, hS, x1, y1, B0, hp, hR, T⟩
  case round =>
    clear hS x1 y1 hR T B0 hp
    obtain ⟨k, s, a2, n2, k2, e2, d2, l2, N, D, hk, rfl, rfl, hS, x1, y1, HB, HP, hR, T⟩ := hrel
    by_cases hlt : k < n
    · have hl := hlw.mono T
      have hT := hTw.mono T
      have hgk := drop_get HN.out hlt
      have hl1 := hl
      obtain ⟨aa, nn, cc, he, hnn, -, hel⟩ := hl1
      simp only [Value.slice.injEq] at he
      obtain ⟨rfl, rfl, rfl⟩ := he
      obtain ⟨b, off, sx, an, m, cn, ad, d, cd, rfl, q0, q1, q2, qe⟩ := hel k hlt
      clear hel hnn
      obtain ⟨xk, hxk⟩ : ∃ x, L.getD k (false, 0, 0) = x := ⟨_, rfl⟩
      rw [hxk] at qe hgk
      obtain ⟨s3, N3, D3, c3, hadd⟩ : ∃ s3 N3 D3 c3, addF (s, N, D) xk = ((s3, N3, D3), c3) := ⟨_, _, _, _, rfl⟩
      have HB3 := Lib.hid (addF_lt128 hadd)
      have HD := Lib.hid hadd
      have HG := Lib.hid hgk
      obtain ⟨tt, hx⟩ := laid_var wr sx an m cn ad d cd
      replace hS := hS.mono tt
      replace hR := hR.mono tt
      replace hl := hl.mono tt
      replace hT := hT.mono tt
      replace qe := qe.mono tt
      replace x1 := x1.mono tt
      replace y1 := y1.mono tt
      replace T := Add.trans T tt
      have ht : FracA (wr.alloc (.cells #[.bool sx, .slice an m cn, .slice ad d cd] 37)) (.agg #[.bool s, .slice a2 n2 k2, .slice e2 d2 l2]) (s, N, D) := ⟨_, _, _, _, _, _, rfl, num_nv x1 (lt_up HB.out.1 (by decide)), num_nv y1 (lt_up HB.out.2 (by decide))⟩
      have hc0 := hS.c0
      have hc1 := hS.c1
      have hc2 := hS.c2
      have hd0 := hx.c0
      have hd1 := hx.c1
      have hd2 := hx.c2
      clear tt hadd hgk hxk x1 y1 HB
      by_cases c0 : c3 = 0
      · subst c0
        have HP2 : Hid (sumF (s3, N3, D3) (L.drop (k + 1)) = p) := Lib.hid (by rw [← HP.out, HG.out, sumF_step0 HD.out])
        clear HP HG
        go_wp2_with fail
        refine ((addN' _ ht qe hT (Lib.hid rfl)).mono fun _ _ g => resE2 g HD).mono ?_
        rintro e w3 ⟨a4, n4, k4, e4, d4, l4, rfl, x1, y1, h3⟩
        replace hS := hS.mono h3
        replace hR := hR.mono h3
        replace T := Add.trans T h3
        clear h3 ht qe hx hl hT hc0 hc1 hc2 hd0 hd1 hd2 q0 q1 q2 HD
        have s0 := hS.c0
        have s1 := hS.c1
        have s2 := hS.c2
        have s3' := hS.fr 0
        have s4 := hS.fr 1
        have s5 := hS.fr 2
        have hS2 := hS.put s3 a4 n4 k4 e4 d4 l4
        have hR2 := Box.other2 hR (show w.heap.size ≠ w1.heap.size by have := LS.out; omega) (.bool s3) (.slice a4 n4 k4) (.slice e4 d4 l4)
        have x2 := x1.put hS (.bool s3) (.slice a4 n4 k4) (.slice e4 d4 l4)
        have y2 := y1.put hS (.bool s3) (.slice a4 n4 k4) (.slice e4 d4 l4)
        have T2 := put3_below (.bool s3) (.slice a4 n4 k4) (.slice e4 d4 l4) T (show w.heap.size ≤ w1.heap.size by have := LS.out; omega)
        have HF := Lib.hid (And.intro hS2 (And.intro hR2 (And.intro x2 (And.intro y2 T2))))
        clear hS2 hR2 x2 y2 T2 hS hR x1 y1 T
        unfold put3 at HF
        go_wp2_with fail
        obtain ⟨f1, f2, f3, f4, f5⟩ := HF.out
        exact ⟨⟨k + 1, _, _, _, _, _, _, _, _, _, by omega, by go_num, rfl, f1, f3, f4, HB3, HP2, f2, f5⟩, by simp only [intOf]; omega⟩
      · have hz := nzi c0
        have hp : ((false, 0, 0), c3) = p := by
          rw [← HP.out, HG.out, sumF_stop HD.out c0]
        subst hp
        clear HP HG c0
        go_wp2_with fail
        refine ((addN' _ ht qe hT (Lib.hid rfl)).mono fun _ _ g => resE2 g HD).mono ?_
        rintro e w3 ⟨a4, n4, k4, e4, d4, l4, rfl, x1, y1, h3⟩
        replace hS := hS.mono h3
        replace hR := hR.mono h3
        replace T := Add.trans T h3
        clear h3 ht qe hx hl hT hc0 hc1 hc2 hd0 hd1 hd2 q0 q1 q2 HD
        have s0 := hS.c0
        have s1 := hS.c1
        have s2 := hS.c2
        have s3' := hS.fr 0
        have s4 := hS.fr 1
        have s5 := hS.fr 2
        have hR2 := Box.other2 hR (show w.heap.size ≠ w1.heap.size by have := LS.out; omega) (.bool s3) (.slice a4 n4 k4) (.slice e4 d4 l4)
        have T2 := put3_below (.bool s3) (.slice a4 n4 k4) (.slice e4 d4 l4) T (show w.heap.size ≤ w1.heap.size by have := LS.out; omega)
        have r0 := hR2.c0
        have r1 := hR2.c1
        have r2 := hR2.c2
        have r3 := hR2.fr 0
        have r4 := hR2.fr 1
        have r5 := hR2.fr 2
        have hF := resF_put (w := w) (p := ((false, 0, 0), c3)) hR2 (fracT_zero _) T2 (Nat.le_refl _)
        unfold put3 at hF r0 r1 r2 r3 r4 r5
        have HF := Lib.hid hF
        clear hF hR2 T2 hS hR T x1 y1 HB3
        go_wp2_with fail
        exact bodyPost_ret (v := .tuple #[.agg #[.bool false, .slice none 0 0, .slice none 0 0], .int .i64 (c3 : Nat)]) (by simp [results, Tryz.results107, go_sem, r0, r1, r2]) rfl HF.out
    · obtain rfl : k = n := by omega
      have hp : ((s, N, D), 0) = p := by
        have := HP.out
        rwa [List.drop_of_length_le (by rw [HN.out]; exact Nat.le_refl _), sumF] at this
      subst hp
      have hc0 := hS.c0
      have hc1 := hS.c1
      have hc2 := hS.c2
      have s0 := hR.c0
      have s1 := hR.c1
      have s2 := hR.c2
      have s3 := hR.fr 0
      have s4 := hR.fr 1
      have s5 := hR.fr 2
      have hF := resF_put (w := w) (p := ((s, N, D), 0)) hR ⟨a2, n2, k2, e2, d2, l2, rfl, x1, y1⟩ T (Nat.le_refl _)
      unfold put3 at hF
      have HF := Lib.hid hF
      clear hF hS x1 y1 HB HP hR T hk hlt
      go_wp2_with fail
      exact bodyPost_ret (v := .tuple #[.agg #[.bool s, .slice a2 n2 k2, .slice e2 d2 l2], .int .i64 0]) (by simp [results, Tryz.results107, go_sem, s0, s1, s2]) rfl HF.out
end Go.Proofs.YtbeoeackahmpbaaGreatDoor

namespace Go.Proofs.YtbeoeackahmpbaaGreatDoor
open Go.RowKit NatM Go.Proofs.YtbeoeackahmpbaaGreatDoor.Api
end Go.Proofs.YtbeoeackahmpbaaGreatDoor
