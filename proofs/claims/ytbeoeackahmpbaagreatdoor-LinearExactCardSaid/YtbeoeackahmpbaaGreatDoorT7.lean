import Derived.Test.YtbeoeackahmpbaaGreatDoorJV2
import Derived.Test.YtbeoeackahmpbaaGreatDoorJV5
import Derived.Test.YtbeoeackahmpbaaGreatDoorJO
namespace Go.Proofs.YtbeoeackahmpbaaGreatDoor
open Go.RowKit NatM Go.Proofs.YtbeoeackahmpbaaGreatDoor.Api LinM
abbrev FrI := Bool × List Nat × List Nat
def triI (x : FrI) : Tri := (x.1, val x.2.1, val x.2.2)
theorem FracI.mono {w w' : World} {v : Value} {b : Bool} {xs ys : List Nat} (h : FracI w v b xs ys) (hb : Add w w') : FracI w' v b xs ys := by
 obtain ⟨an, n, cn, ad, d, cd, e, h1, h2⟩ := h
 exact ⟨an, n, cn, ad, d, cd, e, h1.mono hb, h2.mono hb⟩
def RowI (w : World) (v : Value) (n : Nat) (x : Nat → FrI) : Prop :=
 ∃ ao c, v = .slice ao n c ∧ n ≤ c ∧ c ≤ maxLen ∧ (0 < n → ∃ b off, ao = some ⟨b, off, none⟩ ∧ ∀ i, i < n → ∃ s an m cn ad d cd, w.cell? ⟨b, off + i * 3, none⟩ = some (.bool s) ∧ w.cell? ⟨b, off + i * 3 + 1, none⟩ = some (.slice an m cn) ∧ w.cell? ⟨b, off + i * 3 + 2, none⟩ = some (.slice ad d cd) ∧ FracI w (.agg #[.bool s, .slice an m cn, .slice ad d cd]) (x i).1 (x i).2.1 (x i).2.2)
def MatI (w : World) (v : Value) (n : Nat) (m : Nat → Nat) (X : Nat → Nat → FrI) : Prop :=
 ∃ ao c, v = .slice ao n c ∧ n ≤ c ∧ c ≤ maxLen ∧ (0 < n → ∃ b off, ao = some ⟨b, off, none⟩ ∧ ∀ i, i < n → ∃ u, w.cell? ⟨b, off + i, none⟩ = some u ∧ RowI w u (m i) (X i))
def MatsI (w : World) (v : Value) (N : Nat) (n : Nat → Nat) (m : Nat → Nat → Nat) (X : Nat → Nat → Nat → FrI) : Prop :=
 ∃ ao c, v = .slice ao N c ∧ N ≤ c ∧ c ≤ maxLen ∧ (0 < N → ∃ b off, ao = some ⟨b, off, none⟩ ∧ ∀ i, i < N → ∃ u, w.cell? ⟨b, off + i, none⟩ = some u ∧ MatI w u (n i) (m i) (X i))
theorem RowI.add {w w' : World} {v : Value} {n : Nat} {x : Nat → FrI} (h : RowI w v n x) (hb : Add w w') : RowI w' v n x := by
 obtain ⟨ao, c, e, h1, h2, h3⟩ := h
 refine ⟨ao, c, e, h1, h2, fun hn => ?_⟩
 obtain ⟨b, off, e, h4⟩ := h3 hn
 refine ⟨b, off, e, fun i hi => ?_⟩
 obtain ⟨s, an, m, cn, ad, d, cd, g1, g2, g3, g4⟩ := h4 i hi
 exact ⟨s, an, m, cn, ad, d, cd, cell_addL g1 hb, cell_addL g2 hb, cell_addL g3 hb, g4.mono hb⟩
theorem MatI.add {w w' : World} {v : Value} {n : Nat} {m : Nat → Nat} {X : Nat → Nat → FrI} (h : MatI w v n m X) (hb : Add w w') : MatI w' v n m X := by
 obtain ⟨ao, c, e, h1, h2, h3⟩ := h
 refine ⟨ao, c, e, h1, h2, fun hn => ?_⟩
 obtain ⟨b, off, e, h4⟩ := h3 hn
 refine ⟨b, off, e, fun i hi => ?_⟩
 obtain ⟨u, g1, g2⟩ := h4 i hi
 exact ⟨u, cell_addL g1 hb, g2.add hb⟩
theorem MatI.isSlice {w : World} {v : Value} {n : Nat} {m : Nat → Nat} {X : Nat → Nat → FrI} (h : MatI w v n m X) : ∃ ao c, v = .slice ao n c ∧ n ≤ 9223372036854775807 := by
 obtain ⟨ao, c, e, h1, h2, -⟩ := h
 unfold maxLen at h2
 exact ⟨ao, c, e, by omega⟩
theorem RowI.get {w : World} {a : Option Addr} {n n' c : Nat} {x : Nat → FrI} (h : RowI w (.slice a n' c) n x) {i : Nat} (hi : i < n) :
 ∃ b off s an m cn ad d cd, a = some ⟨b, off, none⟩ ∧ w.cell? ⟨b, off + i * 3, none⟩ = some (.bool s) ∧ w.cell? ⟨b, off + i * 3 + 1, none⟩ = some (.slice an m cn) ∧ w.cell? ⟨b, off + i * 3 + 2, none⟩ = some (.slice ad d cd) ∧ m = (x i).2.1.length ∧ d = (x i).2.2.length ∧ m ≤ 9223372036854775807 ∧ d ≤ 9223372036854775807 := by
 obtain ⟨ao, c', e, h1, h2, h3⟩ := h
 simp only [Value.slice.injEq] at e
 obtain ⟨rfl, rfl, rfl⟩ := e
 obtain ⟨b, off, e, h4⟩ := h3 (by omega)
 obtain ⟨s, an, m, cn, ad, d, cd, g1, g2, g3, an', m', cn', ad', d', cd', e', k1, k2⟩ := h4 i hi
 simp only [Value.agg.injEq, Array.mk.injEq, List.cons.injEq, Value.slice.injEq, and_true] at e'
 obtain ⟨-, ⟨rfl, rfl, rfl⟩, rfl, rfl, rfl⟩ := e'
 obtain ⟨_, _, _, q1, q2, q3, q4, -⟩ := k1
 obtain ⟨_, _, _, p1, p2, p3, p4, -⟩ := k2
 simp only [Value.slice.injEq] at q1 p1
 obtain ⟨rfl, rfl, rfl⟩ := q1
 obtain ⟨rfl, rfl, rfl⟩ := p1
 unfold maxLen at q4 p4
 exact ⟨b, off, s, an, m, cn, ad, d, cd, e, g1, g2, g3, q2.symm, p2.symm, by omega, by omega⟩
theorem MatI.row {w : World} {ao : Option Addr} {n n' c : Nat} {m : Nat → Nat} {X : Nat → Nat → FrI} (h : MatI w (.slice ao n' c) n m X) {i : Nat} (hi : i < n) :
 ∃ b off a l, ao = some ⟨b, off, none⟩ ∧ m i ≤ 9223372036854775807 ∧ w.cell? ⟨b, off + i, none⟩ = some (.slice a (m i) l) ∧ RowI w (.slice a (m i) l) (m i) (X i) := by
 obtain ⟨ao', c', e, h1, h2, h3⟩ := h
 simp only [Value.slice.injEq] at e
 obtain ⟨rfl, rfl, rfl⟩ := e
 obtain ⟨b, off, e, h4⟩ := h3 (by omega)
 obtain ⟨u, g1, g2⟩ := h4 i hi
 obtain ⟨a, l, rfl, k1, k2, -⟩ := id g2
 unfold maxLen at k2
 exact ⟨b, off, a, l, e, by omega, g1, g2⟩
theorem MatsI.mat {w : World} {ao : Option Addr} {N N' c : Nat} {n : Nat → Nat} {m : Nat → Nat → Nat} {X : Nat → Nat → Nat → FrI} (h : MatsI w (.slice ao N' c) N n m X) {i : Nat} (hi : i < N) :
 ∃ b off a l, ao = some ⟨b, off, none⟩ ∧ n i ≤ 9223372036854775807 ∧ w.cell? ⟨b, off + i, none⟩ = some (.slice a (n i) l) ∧ MatI w (.slice a (n i) l) (n i) (m i) (X i) := by
 obtain ⟨ao', c', e, h1, h2, h3⟩ := h
 simp only [Value.slice.injEq] at e
 obtain ⟨rfl, rfl, rfl⟩ := e
 obtain ⟨b, off, e, h4⟩ := h3 (by omega)
 obtain ⟨u, g1, g2⟩ := h4 i hi
 obtain ⟨a, l, rfl, k1⟩ := g2.isSlice
 exact ⟨b, off, a, l, e, k1, g1, g2⟩
def goodE (x : FrI) : Prop := x.2.1.length ≤ 4 ∧ x.2.2.length ≤ 4
def goodR (m : Nat) (x : Nat → FrI) : Prop := m ≤ 30 ∧ ∀ k, k < m → goodE (x k)
def goodM (n : Nat) (m : Nat → Nat) (X : Nat → Nat → FrI) : Prop := n ≤ 30 ∧ ∀ j, j < n → goodR (m j) (X j)
theorem RowI.arg {w : World} {v : Value} {n : Nat} {x : Nat → FrI} (h : RowI w v n x) (hg : goodR n x) : RowP false w v n (fun i => triI (x i)) := by
 obtain ⟨ao, c, e, h1, h2, h3⟩ := h
 refine ⟨ao, c, e, h1, h2, fun hn => ?_⟩
 obtain ⟨b, off, e, h4⟩ := h3 hn
 refine ⟨b, off, e, fun i hi => ?_⟩
 obtain ⟨s, an, m, cn, ad, d, cd, g1, g2, g3, g4⟩ := h4 i hi
 exact ⟨s, an, m, cn, ad, d, cd, g1, g2, g3, g4.arg (by have := hg.2 i hi; unfold longB; unfold goodE at this; simp; omega)⟩
theorem MatI.arg {w : World} {v : Value} {n : Nat} {m : Nat → Nat} {X : Nat → Nat → FrI} (h : MatI w v n m X) (hg : goodM n m X) : MatP false w v n m (fun i j => triI (X i j)) := by
 obtain ⟨ao, c, e, h1, h2, h3⟩ := h
 refine ⟨ao, c, e, h1, h2, fun hn => ?_⟩
 obtain ⟨b, off, e, h4⟩ := h3 hn
 refine ⟨b, off, e, fun i hi => ?_⟩
 obtain ⟨u, g1, g2⟩ := h4 i hi
 exact ⟨u, g1, g2.arg (hg.2 i hi)⟩
def LongP (w : World) (N : Nat) (n : Nat → Nat) (m : Nat → Nat → Nat) (X : Nat → Nat → Nat → FrI) (e : Ending) (w' : World) : Prop := ∃ t : Bool, e = .returned (.bool t) ∧ (t = false → ∀ i, i < N → goodM (n i) (m i) (X i)) ∧ Add w w'
set_option maxRecDepth 100000 in
set_option maxHeartbeats 4000000 in
theorem longN {w : World} {v : Value} {N : Nat} {n : Nat → Nat} {m : Nat → Nat → Nat} {X : Nat → Nat → Nat → FrI} (h : MatsI w v N n m X) (hN : N ≤ 10) :
 Calls Tryz.prog 11 #[v] w (LongP w N n m X) := by
 obtain ⟨ao, c, rfl, -, -, -⟩ := id h
 have HA := Lib.hid h
 have HT : Hid (∀ w', Add w w' → LongP w N n m X (.returned (.bool true)) w') := Lib.hid fun w' ha => ⟨true, rfl, (fun e => by cases e), ha⟩
 clear h
 go_enter Tryz.func11, Tryz.ntmps11
 go_wp2_with fail
 go_loopw [3] (fun i wr => ∃ k : Nat, k ≤ N ∧ i = .int .i64 (k : Nat) ∧ Hid (∀ i, i < k → goodM (n i) (m i) (X i)) ∧ wr = w) (fun i _ => N - (intOf i).toNat)
 case atStart => exact ⟨0, Nat.zero_le _, rfl, Lib.hid fun i hi => by omega, rfl⟩
 case round =>
  obtain ⟨k, hk, rfl, HG, rfl⟩ := hrel
  by_cases h0 : k = N
  · have HF : Hid (LongP wr N n m X (.returned (.bool false)) wr) := Lib.hid ⟨false, rfl, fun _ i hi => HG.out i (by omega), Below.refl _ _⟩
    subst h0
    clear HG HT HA
    go_wp2_with fail
    go_ret
    exact HF.out
  · have hlt : k < N := by omega
    obtain ⟨b, off, a, l, rfl, hn63, c0, r0⟩ := HA.out.mat hlt
    have HR := Lib.hid r0
    obtain ⟨nk, hnk⟩ : ∃ q, q = n k := ⟨_, rfl⟩
    rw [← hnk] at hn63 c0
    have HNK := Lib.hid hnk
    clear r0 hnk h0
    by_cases c1 : 30 < nk
    · have d1 : decide ((30 : Int) < (nk : Int)) = true := by simp; omega
      have f1 : (30 : Int) < (nk : Int) := by omega
      go_wp2_with fail
      go_ret
      exact HT.out _ (Below.refl _ _)
    · have d1 : decide ((30 : Int) < (nk : Int)) = false := by simp; omega
      have f1 : ¬ ((30 : Int) < (nk : Int)) := by omega
      go_wp2_with fail
      go_loopw [4, 5] (fun s j wq => ∃ q S : Nat, q ≤ nk ∧ j = .int .i64 (q : Nat) ∧ s = .int .i64 (S : Nat) ∧ S ≤ 30 * q ∧ Hid (∀ j, j < q → goodR (m k j) (X k j)) ∧ wq = wr) (fun _ j _ => nk - (intOf j).toNat)
      case atStart => exact ⟨0, 0, Nat.zero_le _, rfl, rfl, by omega, Lib.hid fun j hj => by omega, rfl⟩
      case round =>
       obtain ⟨q, S, hq, rfl, rfl, hS, HQ, rfl⟩ := hrel
       by_cases h1 : q = nk
       · subst h1
         by_cases c2 : 60 < S
         · have d2 : decide ((60 : Int) < (S : Int)) = true := by simp; omega
           have f2 : (60 : Int) < (S : Int) := by omega
           go_wp2_with fail
           go_ret
           exact HT.out _ (Below.refl _ _)
         · have d2 : decide ((60 : Int) < (S : Int)) = false := by simp; omega
           have f2 : ¬ ((60 : Int) < (S : Int)) := by omega
           have HN : Hid (∀ i, i < k + 1 → goodM (n i) (m i) (X i)) := Lib.hid fun i hi => by
            by_cases e : i = k
            · subst e
              exact ⟨by rw [← HNK.out]; omega, fun j hj => HQ.out j (by rw [HNK.out]; exact hj)⟩
            · exact HG.out i (by omega)
           go_wp2_with fail
           go_roundw
           case rel => exact ⟨k + 1, by omega, by go_num, HN, trivial⟩
           case measure => simp [intOf]; omega
       · have hlt2 : q < nk := by omega
         obtain ⟨b2, off2, a2, l2, rfl, hm63, c2, r2⟩ := HR.out.row (i := q) (by rw [← HNK.out]; exact hlt2)
         have HR2 := Lib.hid r2
         obtain ⟨mq, hmq⟩ : ∃ z, z = m k q := ⟨_, rfl⟩
         rw [← hmq] at hm63 c2
         have HMQ := Lib.hid hmq
         clear r2 hmq h1
         by_cases c3 : 30 < mq
         · have d3 : decide ((30 : Int) < (mq : Int)) = true := by simp; omega
           have f3 : (30 : Int) < (mq : Int) := by omega
           go_wp2_with fail
           go_ret
           exact HT.out _ (Below.refl _ _)
         · have d3 : decide ((30 : Int) < (mq : Int)) = false := by simp; omega
           have f3 : ¬ ((30 : Int) < (mq : Int)) := by omega
           go_wp2_with fail
           go_loopw [6] (fun i wp => ∃ p : Nat, p ≤ mq ∧ i = .int .i64 (p : Nat) ∧ Hid (∀ i, i < p → goodE (X k q i)) ∧ wp = wr) (fun i _ => mq - (intOf i).toNat)
           case atStart => exact ⟨0, Nat.zero_le _, rfl, Lib.hid fun i hi => by omega, rfl⟩
           case round =>
            obtain ⟨p, hp, rfl, HP, rfl⟩ := hrel
            by_cases h2 : p = mq
            · subst h2
              have HN : Hid (∀ j, j < q + 1 → goodR (m k j) (X k j)) := Lib.hid fun j hj => by
               by_cases e : j = q
               · subst e
                 exact ⟨by rw [← HMQ.out]; omega, fun i hi => HP.out i (by rw [HMQ.out]; exact hi)⟩
               · exact HQ.out j (by omega)
              go_wp2_with fail
              go_roundw
              case rel => exact ⟨q + 1, S + p, by omega, by go_num, by go_num, by omega, HN, trivial⟩
              case measure => simp [intOf]; omega
            · have hlt3 : p < mq := by omega
              obtain ⟨b3, off3, sx, an, x1, cn, ad, x2, cd, rfl, k0, k1, k2, e1, e2, u1, u2⟩ := HR2.out.get (i := p) (by rw [← HMQ.out]; exact hlt3)
              have HE := Lib.hid (And.intro e1 e2)
              clear e1 e2 h2
              by_cases c4 : 4 < x1
              · have d4 : decide ((4 : Int) < (x1 : Int)) = true := by simp; omega
                have f4 : (4 : Int) < (x1 : Int) := by omega
                go_wp2_with fail
                go_ret
                exact HT.out _ (Below.refl _ _)
              · have d4 : decide ((4 : Int) < (x1 : Int)) = false := by simp; omega
                have f4 : ¬ ((4 : Int) < (x1 : Int)) := by omega
                by_cases c5 : 4 < x2
                · have d5 : decide ((4 : Int) < (x2 : Int)) = true := by simp; omega
                  have f5 : (4 : Int) < (x2 : Int) := by omega
                  go_wp2_with fail
                  go_ret
                  exact HT.out _ (Below.refl _ _)
                · have d5 : decide ((4 : Int) < (x2 : Int)) = false := by simp; omega
                  have f5 : ¬ ((4 : Int) < (x2 : Int)) := by omega
                  have HN : Hid (∀ i, i < p + 1 → goodE (X k q i)) := Lib.hid fun i hi => by
                   by_cases e : i = p
                   · subst e
                     exact ⟨by rw [← HE.out.1]; omega, by rw [← HE.out.2]; omega⟩
                   · exact HP.out i (by omega)
                  go_wp2_with fail
                  go_roundw
                  case rel => exact ⟨p + 1, by omega, by go_num, HN, trivial⟩
                  case measure => simp [intOf]; omega
end Go.Proofs.YtbeoeackahmpbaaGreatDoor
