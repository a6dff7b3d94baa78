/- Intervals as they came in; are they too long to be looked at?
(With the texts that are joined here: Package interval: Sub, Mul, Scale. | Package interval: Inside; intervals are the same; the reference of layer 3: Valid, Width; numbers of the laws. | The numbers of the laws of layer 3: within; the sanity check awake. | The reference of layer 3: Less, Same; pair, Outward.) -/
import Derived.Test.YtifpfoeecnkhoaaGreatDoorZI
import Derived.Test.YtifpfoeecnkhoaaGreatDoorZG

namespace Go.Proofs.YtifpfoeecnkhoaaGreatDoor
open Go.RowKit NatM Go.Proofs.YtifpfoeecnkhoaaGreatDoor.Api

/-- Two ends without an error. -/
def OkI (w : World) (s1 : Bool) (N1 D1 : Nat) (s2 : Bool) (N2 D2 : Nat) (e : Ending) (w' : World) : Prop := ∃ a1 n1 k1 e1 d1 l1 a2 m2 k2 e2 d4 l2, e = .returned (.tuple #[.agg #[.bool s1, .slice a1 n1 k1, .slice e1 d1 l1, .bool s2, .slice a2 m2 k2, .slice e2 d4 l2], .int .i64 0]) ∧ Num w' (.slice a1 n1 k1) N1 ∧ Num w' (.slice e1 d1 l1) D1 ∧ Num w' (.slice a2 m2 k2) N2 ∧ Num w' (.slice e2 d4 l2) D2 ∧ Add w w'
theorem ResI.ok {w : World} {s1 : Bool} {N1 D1 : Nat} {s2 : Bool} {N2 D2 : Nat} {e : Ending} {w' : World} (h : ResI w (((s1, N1, D1), (s2, N2, D2)), 0) e w') : OkI w s1 N1 D1 s2 N2 D2 e w' := by
  obtain ⟨v, rfl, ⟨a1, a2, a3, a4, a5, a6, a7, a8, a9, b1, b2, b3, rfl, g1, g2, g3, g4⟩, T⟩ := h
  exact ⟨a1, a2, a3, a4, a5, a6, a7, a8, a9, b1, b2, b3, rfl, g1, g2, g3, g4, T⟩
theorem scaledC (s1 : Bool) (N1 D1 : Nat) (s2 : Bool) (N2 D2 : Nat) {v v' : Value} {x : Tri} {a : Iv} {w : World} (hx : FracA w v x) (ha : IvA w v' a) (hT : Tab w) (h : Hid (okF x = true ∧ okI a = true))
    (g1 : Hid (mulF x a.1 = (can (qv x * qv a.1), 0))) (g2 : Hid (mulF x a.2 = (can (qv x * qv a.2), 0))) (hp : Hid ((can (lo2 (qv x) (qv a.1) (qv a.2)), can (hi2 (qv x) (qv a.1) (qv a.2))) = ((s1, N1, D1), (s2, N2, D2)))) :
    Calls Tryz.prog 38 #[v, v'] w (ResI w (((s1, N1, D1), (s2, N2, D2)), 0)) := by
  obtain ⟨s, N, D⟩ := x
  have e := scaled_is h.out.1 (okI_iff.1 h.out.2).2.2 s rfl
  rw [← hp.out, ← e]
  cases s
  · rw [if_neg (by simp)]
    exact scaledN_false _ _ _ _ _ _ hx ha hT g1 g2
  · rw [if_pos rfl]
    exact scaledN_true _ _ _ _ _ _ hx ha hT g1 g2
theorem put6_cell {w : World} {g k i : Nat} (u0 u1 u2 u3 u4 u5 : Value) (h : k ≠ g) : (put6 w g u0 u1 u2 u3 u4 u5).cell? ⟨k, i, none⟩ = w.cell? ⟨k, i, none⟩ := cell_other (fun _ hj => put6_other u0 u1 u2 u3 u4 u5 hj) _ h
theorem mul_ends {i j : Nat} {a b : Iv} {P1 P2 P3 P4 : Tri} (za : SzI i a) (zb : SzI j b) (zk : i + j ≤ 128) (h1 : (can (lo2 (qv a.1) (qv b.1) (qv b.2)), can (hi2 (qv a.1) (qv b.1) (qv b.2))) = (P1, P2)) (h2 : (can (lo2 (qv a.2) (qv b.1) (qv b.2)), can (hi2 (qv a.2) (qv b.1) (qv b.2))) = (P3, P4)) :
    (Sz 128 P1 ∧ Sz 128 P2 ∧ Sz 128 P3 ∧ Sz 128 P4) ∧ qv P1 = lo2 (qv a.1) (qv b.1) (qv b.2) ∧ qv P2 = hi2 (qv a.1) (qv b.1) (qv b.2) ∧ qv P3 = lo2 (qv a.2) (qv b.1) (qv b.2) ∧ qv P4 = hi2 (qv a.2) (qv b.1) (qv b.2) := by
  simp only [Prod.mk.injEq] at h1 h2
  obtain ⟨rfl, rfl⟩ := h1
  obtain ⟨rfl, rfl⟩ := h2
  have g1 := (mul_sz za.1 zb.1 zk).2.up zk
  have g2 := (mul_sz za.1 zb.2 zk).2.up zk
  have g3 := (mul_sz za.2 zb.1 zk).2.up zk
  have g4 := (mul_sz za.2 zb.2 zk).2.up zk
  refine ⟨⟨?_, ?_, ?_, ?_⟩, qv_can _, qv_can _, qv_can _, qv_can _⟩
  · rcases mn_or (qv a.1 * qv b.1) (qv a.1 * qv b.2) with e | e <;> rw [lo2, e] <;> assumption
  · rcases mx_or (qv a.1 * qv b.1) (qv a.1 * qv b.2) with e | e <;> rw [hi2, e] <;> assumption
  · rcases mn_or (qv a.2 * qv b.1) (qv a.2 * qv b.2) with e | e <;> rw [lo2, e] <;> assumption
  · rcases mx_or (qv a.2 * qv b.1) (qv a.2 * qv b.2) with e | e <;> rw [hi2, e] <;> assumption
set_option maxRecDepth 100000 in
set_option maxHeartbeats 4000000 in
theorem subIN_of (p : Iv × Nat) {v v' : Value} {a b : Iv} {w : World} (ha : IvA w v a) (hb : IvA w v' b) (hC : Hid (∀ w' u u', Add w w' → IvA w' u a → IvA w' u' (negI b) → Calls Tryz.prog 8 #[u, u'] w' (ResI w' p))) : Calls Tryz.prog 11 #[v, v'] w (ResI w p) := by
  have ha0 := ha
  have hb0 := hb
  obtain ⟨an, n, cn, ad, d, cd, an', n', cn', ad', d', cd', rfl, u1, u2, u3, u4⟩ := ha
  obtain ⟨an2, n2, cn2, ad2, d2, cd2, an3, n3, cn3, ad3, d3, cd3, rfl, q1, q2, q3, q4⟩ := hb
  have al : FracA w (.agg #[.bool a.1.1, .slice an n cn, .slice ad d cd]) a.1 := ⟨_, _, _, _, _, _, rfl, u1, u2⟩
  have ah : FracA w (.agg #[.bool a.2.1, .slice an' n' cn', .slice ad' d' cd']) a.2 := ⟨_, _, _, _, _, _, rfl, u3, u4⟩
  have bl : FracA w (.agg #[.bool b.1.1, .slice an2 n2 cn2, .slice ad2 d2 cd2]) b.1 := ⟨_, _, _, _, _, _, rfl, q1, q2⟩
  have bh : FracA w (.agg #[.bool b.2.1, .slice an3 n3 cn3, .slice ad3 d3 cd3]) b.2 := ⟨_, _, _, _, _, _, rfl, q3, q4⟩
  obtain ⟨T, hA, hB, hR⟩ := startII w a an n cn ad d cd an' n' cn' ad' d' cd' b an2 n2 cn2 ad2 d2 cd2 an3 n3 cn3 ad3 d3 cd3
  have hn : IvA w (.agg #[.bool (!b.2.1), .slice an3 n3 cn3, .slice ad3 d3 cd3, .bool (!b.1.1), .slice an2 n2 cn2, .slice ad2 d2 cd2]) (negI b) := ⟨_, _, _, _, _, _, _, _, _, _, _, _, rfl, q3, q4, q1, q2⟩
  clear u1 u2 u3 u4 q1 q2 q3 q4 al ah bl bh
  replace ha0 := ha0.mono T
  replace hb0 := hb0.mono T
  replace hn := hn.mono T
  obtain ⟨W0, hW0⟩ : ∃ W0, W0 = (((w.alloc (.cells #[.bool a.1.1, .slice an n cn, .slice ad d cd, .bool a.2.1, .slice an' n' cn', .slice ad' d' cd'] 27)).alloc (.cells #[.bool b.1.1, .slice an2 n2 cn2, .slice ad2 d2 cd2, .bool b.2.1, .slice an3 n3 cn3, .slice ad3 d3 cd3] 27)).alloc (.cells #[.bool false, .slice none 0 0, .slice none 0 0, .bool false, .slice none 0 0, .slice none 0 0] 27)) := ⟨_, rfl⟩
  go_enter Tryz.func11, Tryz.ntmps11
  go_wp2_with fail
  rw [← hW0] at T hA hB hR ha0 hb0 hn ⊢
  clear hW0
  have K0 : Hid (∀ w', Add W0 w' → w'.cell? ⟨w.heap.size, 0, none⟩ = some (.bool a.1.1) ∧ w'.cell? ⟨w.heap.size, 1, none⟩ = some (.slice an n cn) ∧ w'.cell? ⟨w.heap.size, 2, none⟩ = some (.slice ad d cd) ∧ w'.cell? ⟨w.heap.size, 3, none⟩ = some (.bool a.2.1) ∧ w'.cell? ⟨w.heap.size, 4, none⟩ = some (.slice an' n' cn') ∧ w'.cell? ⟨w.heap.size, 5, none⟩ = some (.slice ad' d' cd') ∧ w'.cell? ⟨w.heap.size + 1, 0, none⟩ = some (.bool b.1.1) ∧ w'.cell? ⟨w.heap.size + 1, 1, none⟩ = some (.slice an2 n2 cn2) ∧ w'.cell? ⟨w.heap.size + 1, 2, none⟩ = some (.slice ad2 d2 cd2) ∧ w'.cell? ⟨w.heap.size + 1, 3, none⟩ = some (.bool b.2.1) ∧ w'.cell? ⟨w.heap.size + 1, 4, none⟩ = some (.slice an3 n3 cn3) ∧ w'.cell? ⟨w.heap.size + 1, 5, none⟩ = some (.slice ad3 d3 cd3)) := Lib.hid fun w' k => ⟨(hA.mono k).c0, (hA.mono k).c1, (hA.mono k).c2, (hA.mono k).c3, (hA.mono k).c4, (hA.mono k).c5, (hB.mono k).c0, (hB.mono k).c1, (hB.mono k).c2, (hB.mono k).c3, (hB.mono k).c4, (hB.mono k).c5⟩
  have C1 : Hid (∀ w', Add W0 w' → Calls Tryz.prog 36 #[.agg #[.bool b.1.1, .slice an2 n2 cn2, .slice ad2 d2 cd2, .bool b.2.1, .slice an3 n3 cn3, .slice ad3 d3 cd3]] w' (RetV w' (.agg #[.bool (!b.2.1), .slice an3 n3 cn3, .slice ad3 d3 cd3, .bool (!b.1.1), .slice an2 n2 cn2, .slice ad2 d2 cd2]))) := Lib.hid fun w' k => (oppositeN w' b.1.1 an2 n2 cn2 ad2 d2 cd2 b.2.1 an3 n3 cn3 ad3 d3 cd3).mono fun _ _ g => g
  have C2 : Hid (∀ w', Add W0 w' → Calls Tryz.prog 8 #[.agg #[.bool a.1.1, .slice an n cn, .slice ad d cd, .bool a.2.1, .slice an' n' cn', .slice ad' d' cd'], .agg #[.bool (!b.2.1), .slice an3 n3 cn3, .slice ad3 d3 cd3, .bool (!b.1.1), .slice an2 n2 cn2, .slice ad2 d2 cd2]] w' (ResI w' p)) := Lib.hid fun w' k => hC.out w' _ _ (Add.trans T k) (ha0.mono k) (hn.mono k)
  have ca0 := hA.c0
  have ca1 := hA.c1
  have ca2 := hA.c2
  have ca3 := hA.c3
  have ca4 := hA.c4
  have ca5 := hA.c5
  have cb0 := hB.c0
  have cb1 := hB.c1
  have cb2 := hB.c2
  have cb3 := hB.c3
  have cb4 := hB.c4
  have cb5 := hB.c5
  clear hC hn ha0 hb0
  go_region_held3 (fun w' => w'.cell? ⟨w.heap.size, 0, none⟩ = some (.bool a.1.1) ∧ w'.cell? ⟨w.heap.size, 1, none⟩ = some (.slice an n cn) ∧ w'.cell? ⟨w.heap.size, 2, none⟩ = some (.slice ad d cd) ∧ w'.cell? ⟨w.heap.size, 3, none⟩ = some (.bool a.2.1) ∧ w'.cell? ⟨w.heap.size, 4, none⟩ = some (.slice an' n' cn') ∧ w'.cell? ⟨w.heap.size, 5, none⟩ = some (.slice ad' d' cd') ∧ w'.cell? ⟨w.heap.size + 1, 0, none⟩ = some (.bool b.1.1) ∧ w'.cell? ⟨w.heap.size + 1, 1, none⟩ = some (.slice an2 n2 cn2) ∧ w'.cell? ⟨w.heap.size + 1, 2, none⟩ = some (.slice ad2 d2 cd2) ∧ w'.cell? ⟨w.heap.size + 1, 3, none⟩ = some (.bool b.2.1) ∧ w'.cell? ⟨w.heap.size + 1, 4, none⟩ = some (.slice an3 n3 cn3) ∧ w'.cell? ⟨w.heap.size + 1, 5, none⟩ = some (.slice ad3 d3 cd3))
    (first | with_reducible exact K6.out | with_reducible exact K0.out _ a3 | with_reducible exact K0.out _ a2 | with_reducible exact K0.out _ (Below.drew (Below.refl _ _)) | go_keep)
    (first | (go_at_call 36; ((with_reducible refine (C1.out _ (Below.drew (Below.refl _ _))).mono ?_); rintro e w7 ⟨rfl, hq1⟩; have a2 := Add.trans (Below.drew (Below.refl _ _) : Add W0 (World.drew W0)) hq1))
           | (go_at_call 8; ((with_reducible refine (C2.out _ a2).mono ?_); rintro e w8 ⟨vr, rfl, nr, hq2⟩; have a3 := Add.trans a2 hq2; obtain ⟨a1, n1, k1, e1, d1, l1, a2', m2, k2, e2, d4, l2, rfl, x1, y1, x2, y2⟩ := nr; have hR9 := hR.mono a3; have hr0 := hR9.c0; have hr1 := hR9.c1; have hr2 := hR9.c2; have hr3 := hR9.c3; have hr4 := hR9.c4; have hr5 := hR9.c5; have hr6 := hR9.fr 0; have hr7 := hR9.fr 1; have hr8 := hR9.fr 2; have hr9 := hR9.fr 3; have hr10 := hR9.fr 4; have hr11 := hR9.fr 5; have k9 := K0.out _ a3; have K6 : Hid (((((((w8.setCell ⟨w.heap.size + 2, 0, none⟩ (.bool p.1.1.1)).setCell ⟨w.heap.size + 2, 1, none⟩ (.slice a1 n1 k1)).setCell ⟨w.heap.size + 2, 2, none⟩ (.slice e1 d1 l1)).setCell ⟨w.heap.size + 2, 3, none⟩ (.bool p.1.2.1)).setCell ⟨w.heap.size + 2, 4, none⟩ (.slice a2' m2 k2)).setCell ⟨w.heap.size + 2, 5, none⟩ (.slice e2 d4 l2)).cell? ⟨w.heap.size, 0, none⟩ = some (.bool a.1.1) ∧ ((((((w8.setCell ⟨w.heap.size + 2, 0, none⟩ (.bool p.1.1.1)).setCell ⟨w.heap.size + 2, 1, none⟩ (.slice a1 n1 k1)).setCell ⟨w.heap.size + 2, 2, none⟩ (.slice e1 d1 l1)).setCell ⟨w.heap.size + 2, 3, none⟩ (.bool p.1.2.1)).setCell ⟨w.heap.size + 2, 4, none⟩ (.slice a2' m2 k2)).setCell ⟨w.heap.size + 2, 5, none⟩ (.slice e2 d4 l2)).cell? ⟨w.heap.size, 1, none⟩ = some (.slice an n cn) ∧ ((((((w8.setCell ⟨w.heap.size + 2, 0, none⟩ (.bool p.1.1.1)).setCell ⟨w.heap.size + 2, 1, none⟩ (.slice a1 n1 k1)).setCell ⟨w.heap.size + 2, 2, none⟩ (.slice e1 d1 l1)).setCell ⟨w.heap.size + 2, 3, none⟩ (.bool p.1.2.1)).setCell ⟨w.heap.size + 2, 4, none⟩ (.slice a2' m2 k2)).setCell ⟨w.heap.size + 2, 5, none⟩ (.slice e2 d4 l2)).cell? ⟨w.heap.size, 2, none⟩ = some (.slice ad d cd) ∧ ((((((w8.setCell ⟨w.heap.size + 2, 0, none⟩ (.bool p.1.1.1)).setCell ⟨w.heap.size + 2, 1, none⟩ (.slice a1 n1 k1)).setCell ⟨w.heap.size + 2, 2, none⟩ (.slice e1 d1 l1)).setCell ⟨w.heap.size + 2, 3, none⟩ (.bool p.1.2.1)).setCell ⟨w.heap.size + 2, 4, none⟩ (.slice a2' m2 k2)).setCell ⟨w.heap.size + 2, 5, none⟩ (.slice e2 d4 l2)).cell? ⟨w.heap.size, 3, none⟩ = some (.bool a.2.1) ∧ ((((((w8.setCell ⟨w.heap.size + 2, 0, none⟩ (.bool p.1.1.1)).setCell ⟨w.heap.size + 2, 1, none⟩ (.slice a1 n1 k1)).setCell ⟨w.heap.size + 2, 2, none⟩ (.slice e1 d1 l1)).setCell ⟨w.heap.size + 2, 3, none⟩ (.bool p.1.2.1)).setCell ⟨w.heap.size + 2, 4, none⟩ (.slice a2' m2 k2)).setCell ⟨w.heap.size + 2, 5, none⟩ (.slice e2 d4 l2)).cell? ⟨w.heap.size, 4, none⟩ = some (.slice an' n' cn') ∧ ((((((w8.setCell ⟨w.heap.size + 2, 0, none⟩ (.bool p.1.1.1)).setCell ⟨w.heap.size + 2, 1, none⟩ (.slice a1 n1 k1)).setCell ⟨w.heap.size + 2, 2, none⟩ (.slice e1 d1 l1)).setCell ⟨w.heap.size + 2, 3, none⟩ (.bool p.1.2.1)).setCell ⟨w.heap.size + 2, 4, none⟩ (.slice a2' m2 k2)).setCell ⟨w.heap.size + 2, 5, none⟩ (.slice e2 d4 l2)).cell? ⟨w.heap.size, 5, none⟩ = some (.slice ad' d' cd') ∧ ((((((w8.setCell ⟨w.heap.size + 2, 0, none⟩ (.bool p.1.1.1)).setCell ⟨w.heap.size + 2, 1, none⟩ (.slice a1 n1 k1)).setCell ⟨w.heap.size + 2, 2, none⟩ (.slice e1 d1 l1)).setCell ⟨w.heap.size + 2, 3, none⟩ (.bool p.1.2.1)).setCell ⟨w.heap.size + 2, 4, none⟩ (.slice a2' m2 k2)).setCell ⟨w.heap.size + 2, 5, none⟩ (.slice e2 d4 l2)).cell? ⟨w.heap.size + 1, 0, none⟩ = some (.bool b.1.1) ∧ ((((((w8.setCell ⟨w.heap.size + 2, 0, none⟩ (.bool p.1.1.1)).setCell ⟨w.heap.size + 2, 1, none⟩ (.slice a1 n1 k1)).setCell ⟨w.heap.size + 2, 2, none⟩ (.slice e1 d1 l1)).setCell ⟨w.heap.size + 2, 3, none⟩ (.bool p.1.2.1)).setCell ⟨w.heap.size + 2, 4, none⟩ (.slice a2' m2 k2)).setCell ⟨w.heap.size + 2, 5, none⟩ (.slice e2 d4 l2)).cell? ⟨w.heap.size + 1, 1, none⟩ = some (.slice an2 n2 cn2) ∧ ((((((w8.setCell ⟨w.heap.size + 2, 0, none⟩ (.bool p.1.1.1)).setCell ⟨w.heap.size + 2, 1, none⟩ (.slice a1 n1 k1)).setCell ⟨w.heap.size + 2, 2, none⟩ (.slice e1 d1 l1)).setCell ⟨w.heap.size + 2, 3, none⟩ (.bool p.1.2.1)).setCell ⟨w.heap.size + 2, 4, none⟩ (.slice a2' m2 k2)).setCell ⟨w.heap.size + 2, 5, none⟩ (.slice e2 d4 l2)).cell? ⟨w.heap.size + 1, 2, none⟩ = some (.slice ad2 d2 cd2) ∧ ((((((w8.setCell ⟨w.heap.size + 2, 0, none⟩ (.bool p.1.1.1)).setCell ⟨w.heap.size + 2, 1, none⟩ (.slice a1 n1 k1)).setCell ⟨w.heap.size + 2, 2, none⟩ (.slice e1 d1 l1)).setCell ⟨w.heap.size + 2, 3, none⟩ (.bool p.1.2.1)).setCell ⟨w.heap.size + 2, 4, none⟩ (.slice a2' m2 k2)).setCell ⟨w.heap.size + 2, 5, none⟩ (.slice e2 d4 l2)).cell? ⟨w.heap.size + 1, 3, none⟩ = some (.bool b.2.1) ∧ ((((((w8.setCell ⟨w.heap.size + 2, 0, none⟩ (.bool p.1.1.1)).setCell ⟨w.heap.size + 2, 1, none⟩ (.slice a1 n1 k1)).setCell ⟨w.heap.size + 2, 2, none⟩ (.slice e1 d1 l1)).setCell ⟨w.heap.size + 2, 3, none⟩ (.bool p.1.2.1)).setCell ⟨w.heap.size + 2, 4, none⟩ (.slice a2' m2 k2)).setCell ⟨w.heap.size + 2, 5, none⟩ (.slice e2 d4 l2)).cell? ⟨w.heap.size + 1, 4, none⟩ = some (.slice an3 n3 cn3) ∧ ((((((w8.setCell ⟨w.heap.size + 2, 0, none⟩ (.bool p.1.1.1)).setCell ⟨w.heap.size + 2, 1, none⟩ (.slice a1 n1 k1)).setCell ⟨w.heap.size + 2, 2, none⟩ (.slice e1 d1 l1)).setCell ⟨w.heap.size + 2, 3, none⟩ (.bool p.1.2.1)).setCell ⟨w.heap.size + 2, 4, none⟩ (.slice a2' m2 k2)).setCell ⟨w.heap.size + 2, 5, none⟩ (.slice e2 d4 l2)).cell? ⟨w.heap.size + 1, 5, none⟩ = some (.slice ad3 d3 cd3)) := Lib.hid ⟨(put6_cell (w := w8) (.bool p.1.1.1) (.slice a1 n1 k1) (.slice e1 d1 l1) (.bool p.1.2.1) (.slice a2' m2 k2) (.slice e2 d4 l2) (show w.heap.size ≠ w.heap.size + 2 by omega)).trans k9.1, (put6_cell (w := w8) (.bool p.1.1.1) (.slice a1 n1 k1) (.slice e1 d1 l1) (.bool p.1.2.1) (.slice a2' m2 k2) (.slice e2 d4 l2) (show w.heap.size ≠ w.heap.size + 2 by omega)).trans k9.2.1, (put6_cell (w := w8) (.bool p.1.1.1) (.slice a1 n1 k1) (.slice e1 d1 l1) (.bool p.1.2.1) (.slice a2' m2 k2) (.slice e2 d4 l2) (show w.heap.size ≠ w.heap.size + 2 by omega)).trans k9.2.2.1, (put6_cell (w := w8) (.bool p.1.1.1) (.slice a1 n1 k1) (.slice e1 d1 l1) (.bool p.1.2.1) (.slice a2' m2 k2) (.slice e2 d4 l2) (show w.heap.size ≠ w.heap.size + 2 by omega)).trans k9.2.2.2.1, (put6_cell (w := w8) (.bool p.1.1.1) (.slice a1 n1 k1) (.slice e1 d1 l1) (.bool p.1.2.1) (.slice a2' m2 k2) (.slice e2 d4 l2) (show w.heap.size ≠ w.heap.size + 2 by omega)).trans k9.2.2.2.2.1, (put6_cell (w := w8) (.bool p.1.1.1) (.slice a1 n1 k1) (.slice e1 d1 l1) (.bool p.1.2.1) (.slice a2' m2 k2) (.slice e2 d4 l2) (show w.heap.size ≠ w.heap.size + 2 by omega)).trans k9.2.2.2.2.2.1, (put6_cell (w := w8) (.bool p.1.1.1) (.slice a1 n1 k1) (.slice e1 d1 l1) (.bool p.1.2.1) (.slice a2' m2 k2) (.slice e2 d4 l2) (show w.heap.size + 1 ≠ w.heap.size + 2 by omega)).trans k9.2.2.2.2.2.2.1, (put6_cell (w := w8) (.bool p.1.1.1) (.slice a1 n1 k1) (.slice e1 d1 l1) (.bool p.1.2.1) (.slice a2' m2 k2) (.slice e2 d4 l2) (show w.heap.size + 1 ≠ w.heap.size + 2 by omega)).trans k9.2.2.2.2.2.2.2.1, (put6_cell (w := w8) (.bool p.1.1.1) (.slice a1 n1 k1) (.slice e1 d1 l1) (.bool p.1.2.1) (.slice a2' m2 k2) (.slice e2 d4 l2) (show w.heap.size + 1 ≠ w.heap.size + 2 by omega)).trans k9.2.2.2.2.2.2.2.2.1, (put6_cell (w := w8) (.bool p.1.1.1) (.slice a1 n1 k1) (.slice e1 d1 l1) (.bool p.1.2.1) (.slice a2' m2 k2) (.slice e2 d4 l2) (show w.heap.size + 1 ≠ w.heap.size + 2 by omega)).trans k9.2.2.2.2.2.2.2.2.2.1, (put6_cell (w := w8) (.bool p.1.1.1) (.slice a1 n1 k1) (.slice e1 d1 l1) (.bool p.1.2.1) (.slice a2' m2 k2) (.slice e2 d4 l2) (show w.heap.size + 1 ≠ w.heap.size + 2 by omega)).trans k9.2.2.2.2.2.2.2.2.2.2.1, (put6_cell (w := w8) (.bool p.1.1.1) (.slice a1 n1 k1) (.slice e1 d1 l1) (.bool p.1.2.1) (.slice a2' m2 k2) (.slice e2 d4 l2) (show w.heap.size + 1 ≠ w.heap.size + 2 by omega)).trans k9.2.2.2.2.2.2.2.2.2.2.2⟩; clear k9)))
  have T9 := Add.trans T a3
  clear K0 K6 C1 C2 hR hA hB T a2 a3 hq1 hq2 ca0 ca1 ca2 ca3 ca4 ca5 cb0 cb1 cb2 cb3 cb4 cb5
  have hP := Box6.put hR9 p.1.1.1 a1 n1 k1 e1 d1 l1 p.1.2.1 a2' m2 k2 e2 d4 l2
  have hF := resI_put (w := w) (p := p) hR9 ⟨a1, n1, k1, e1, d1, l1, a2', m2, k2, e2, d4, l2, rfl, x1, y1, x2, y2⟩ T9 (show w.heap.size ≤ w.heap.size + 2 by omega)
  obtain ⟨W7, hW7⟩ : ∃ W7, W7 = put6 w8 (w.heap.size + 2) (.bool p.1.1.1) (.slice a1 n1 k1) (.slice e1 d1 l1) (.bool p.1.2.1) (.slice a2' m2 k2) (.slice e2 d4 l2) := ⟨_, rfl⟩
  rw [← hW7] at hP hF
  unfold put6 at hW7
  have HF := Lib.hid hF
  have HW := Lib.hid hW7
  clear hF hW7 hR9 T9 x1 y1 x2 y2
  go_wp2_with fail
  rw [← HW.out]
  exact bodyPost_ret (v := .tuple #[.agg #[.bool p.1.1.1, .slice a1 n1 k1, .slice e1 d1 l1, .bool p.1.2.1, .slice a2' m2 k2, .slice e2 d4 l2], .int .i64 (p.2 : Nat)]) (by simp [results, Tryz.results11, go_sem, hP.c0, hP.c1, hP.c2, hP.c3, hP.c4, hP.c5]) rfl HF.out
theorem subIN_works (s1 : Bool) (N1 D1 : Nat) (s2 : Bool) (N2 D2 : Nat) {v v' : Value} {a b : Iv} {w : World} (ha : IvA w v a) (hb : IvA w v' b) (hT : Tab w) (h : Hid (okI a = true ∧ okI b = true)) (g1 : Hid (subF a.1 b.2 = ((s1, N1, D1), 0))) (g2 : Hid (subF a.2 b.1 = ((s2, N2, D2), 0))) : Calls Tryz.prog 11 #[v, v'] w (ResI w (((s1, N1, D1), (s2, N2, D2)), 0)) :=
  subIN_of _ ha hb (Lib.hid fun _ _ _ k hu hu' => addIN_works s1 N1 D1 s2 N2 D2 hu hu' (hT.mono k) (Lib.hid ⟨h.out.1, (okI_neg b).trans h.out.2⟩) g1 g2)
theorem subIN_refuses {v v' : Value} {a b : Iv} {w : World} (ha : IvA w v a) (hb : IvA w v' b) (h : Hid (okI a = false ∨ okI b = false)) : Calls Tryz.prog 11 #[v, v'] w (ResI w (zI, 1)) :=
  subIN_of _ ha hb (Lib.hid fun _ _ _ _ hu hu' => addIN_refuses hu hu' (Lib.hid (h.out.imp id fun e => (okI_neg b).trans e)))
set_option maxRecDepth 100000 in
set_option maxHeartbeats 2000000 in
theorem mulIN_refuses {v v' : Value} {a b : Iv} {w : World} (ha : IvA w v a) (hb : IvA w v' b) (h : Hid (okI a = false ∨ okI b = false)) : Calls Tryz.prog 13 #[v, v'] w (ResI w (zI, 1)) := by
  have ha0 := ha
  have hb0 := hb
  obtain ⟨an, n, cn, ad, d, cd, an', n', cn', ad', d', cd', rfl, u1, u2, u3, u4⟩ := ha
  obtain ⟨an2, n2, cn2, ad2, d2, cd2, an3, n3, cn3, ad3, d3, cd3, rfl, q1, q2, q3, q4⟩ := hb
  have al : FracA w (.agg #[.bool a.1.1, .slice an n cn, .slice ad d cd]) a.1 := ⟨_, _, _, _, _, _, rfl, u1, u2⟩
  have ah : FracA w (.agg #[.bool a.2.1, .slice an' n' cn', .slice ad' d' cd']) a.2 := ⟨_, _, _, _, _, _, rfl, u3, u4⟩
  have bl : FracA w (.agg #[.bool b.1.1, .slice an2 n2 cn2, .slice ad2 d2 cd2]) b.1 := ⟨_, _, _, _, _, _, rfl, q1, q2⟩
  have bh : FracA w (.agg #[.bool b.2.1, .slice an3 n3 cn3, .slice ad3 d3 cd3]) b.2 := ⟨_, _, _, _, _, _, rfl, q3, q4⟩
  obtain ⟨T, hA, hB, hR⟩ := startII w a an n cn ad d cd an' n' cn' ad' d' cd' b an2 n2 cn2 ad2 d2 cd2 an3 n3 cn3 ad3 d3 cd3
  clear u1 u2 u3 u4 q1 q2 q3 q4
  replace ha0 := ha0.mono T
  replace hb0 := hb0.mono T
  replace al := al.mono T
  replace ah := ah.mono T
  replace bl := bl.mono T
  replace bh := bh.mono T
  clear al ah bl bh
  have ca0 := hA.c0
  have ca1 := hA.c1
  have ca2 := hA.c2
  have ca3 := hA.c3
  have ca4 := hA.c4
  have ca5 := hA.c5
  go_enter Tryz.func13, Tryz.ntmps13
  by_cases c : okI a = false
  · have FA := Lib.hid c
    clear c h
    go_wp2_with fail
    refine (validIN false ha0 FA).mono ?_
    rintro e w1 ⟨rfl, h1⟩
    replace hR := hR.mono h1
    replace T := Add.trans T h1
    clear h1 ha0 hb0 FA hA hB ca0 ca1 ca2 ca3 ca4 ca5
    have hP := Box6.put hR false none 0 0 none 0 0 false none 0 0 none 0 0
    have hF := resI_put (w := w) (p := (zI, 1)) hR (ivT_zero _) T (show w.heap.size ≤ w.heap.size + 2 by omega)
    obtain ⟨W7, hW7⟩ : ∃ W7, W7 = put6 (w1) (w.heap.size + 2) (.bool false) (.slice none 0 0) (.slice none 0 0) (.bool false) (.slice none 0 0) (.slice none 0 0) := ⟨_, rfl⟩
    rw [← hW7] at hP hF
    unfold put6 at hW7
    have HF := Lib.hid hF
    have HW := Lib.hid hW7
    have hbz := iv_zero
    have hr0 := hR.c0
    have hr1 := hR.c1
    have hr2 := hR.c2
    have hr3 := hR.c3
    have hr4 := hR.c4
    have hr5 := hR.c5
    have hr6 := hR.fr 0
    have hr7 := hR.fr 1
    have hr8 := hR.fr 2
    have hr9 := hR.fr 3
    have hr10 := hR.fr 4
    have hr11 := hR.fr 5
    clear hF hW7 hR T 
    go_wp2_with fail
    rw [← HW.out]
    exact bodyPost_ret (v := .tuple #[.agg #[.bool false, .slice none 0 0, .slice none 0 0, .bool false, .slice none 0 0, .slice none 0 0], .int .i64 1]) (by simp [results, Tryz.results13, go_sem, hP.c0, hP.c1, hP.c2, hP.c3, hP.c4, hP.c5]) rfl HF.out
  · have c2 : okI b = false := h.out.resolve_left c
    have c1 : okI a = true := by simpa using c
    have FA := Lib.hid c1
    have FB := Lib.hid c2
    clear c c1 c2 h
    go_wp2_with fail
    refine (validIN true ha0 FA).mono ?_
    rintro e w1 ⟨rfl, h1⟩
    replace hR := hR.mono h1
    replace hB := hB.mono h1
    replace hb0 := hb0.mono h1
    replace T := Add.trans T h1
    clear h1 ha0 FA hA ca0 ca1 ca2 ca3 ca4 ca5
    have cb0 := hB.c0
    have cb1 := hB.c1
    have cb2 := hB.c2
    have cb3 := hB.c3
    have cb4 := hB.c4
    have cb5 := hB.c5
    go_wp2_with fail
    refine (validIN false hb0 FB).mono ?_
    rintro e w2 ⟨rfl, h2⟩
    replace hR := hR.mono h2
    replace T := Add.trans T h2
    clear h2 hb0 FB hB cb0 cb1 cb2 cb3 cb4 cb5
    have hP := Box6.put hR false none 0 0 none 0 0 false none 0 0 none 0 0
    have hF := resI_put (w := w) (p := (zI, 1)) hR (ivT_zero _) T (show w.heap.size ≤ w.heap.size + 2 by omega)
    obtain ⟨W7, hW7⟩ : ∃ W7, W7 = put6 (w2) (w.heap.size + 2) (.bool false) (.slice none 0 0) (.slice none 0 0) (.bool false) (.slice none 0 0) (.slice none 0 0) := ⟨_, rfl⟩
    rw [← hW7] at hP hF
    unfold put6 at hW7
    have HF := Lib.hid hF
    have HW := Lib.hid hW7
    have hbz := iv_zero
    have hr0 := hR.c0
    have hr1 := hR.c1
    have hr2 := hR.c2
    have hr3 := hR.c3
    have hr4 := hR.c4
    have hr5 := hR.c5
    have hr6 := hR.fr 0
    have hr7 := hR.fr 1
    have hr8 := hR.fr 2
    have hr9 := hR.fr 3
    have hr10 := hR.fr 4
    have hr11 := hR.fr 5
    clear hF hW7 hR T 
    go_wp2_with fail
    rw [← HW.out]
    exact bodyPost_ret (v := .tuple #[.agg #[.bool false, .slice none 0 0, .slice none 0 0, .bool false, .slice none 0 0, .slice none 0 0], .int .i64 1]) (by simp [results, Tryz.results13, go_sem, hP.c0, hP.c1, hP.c2, hP.c3, hP.c4, hP.c5]) rfl HF.out
set_option maxRecDepth 100000 in
set_option maxHeartbeats 8000000 in
theorem mulIN_works (i j : Nat) (p : Iv) {v v' : Value} {a b : Iv} {w : World} (ha : IvA w v a) (hb : IvA w v' b) (hT : Tab w) (h : Hid (okI a = true ∧ okI b = true)) (hs : Hid (SzI i a ∧ SzI j b ∧ i + j ≤ 128)) (hp : Hid ((can (lo4 a b), can (hi4 a b)) = p)) : Calls Tryz.prog 13 #[v, v'] w (ResI w (p, 0)) := by
  have ha0 := ha
  have hb0 := hb
  obtain ⟨an, n, cn, ad, d, cd, an', n', cn', ad', d', cd', rfl, u1, u2, u3, u4⟩ := ha
  obtain ⟨an2, n2, cn2, ad2, d2, cd2, an3, n3, cn3, ad3, d3, cd3, rfl, q1, q2, q3, q4⟩ := hb
  have al : FracA w (.agg #[.bool a.1.1, .slice an n cn, .slice ad d cd]) a.1 := ⟨_, _, _, _, _, _, rfl, u1, u2⟩
  have ah : FracA w (.agg #[.bool a.2.1, .slice an' n' cn', .slice ad' d' cd']) a.2 := ⟨_, _, _, _, _, _, rfl, u3, u4⟩
  have bl : FracA w (.agg #[.bool b.1.1, .slice an2 n2 cn2, .slice ad2 d2 cd2]) b.1 := ⟨_, _, _, _, _, _, rfl, q1, q2⟩
  have bh : FracA w (.agg #[.bool b.2.1, .slice an3 n3 cn3, .slice ad3 d3 cd3]) b.2 := ⟨_, _, _, _, _, _, rfl, q3, q4⟩
  obtain ⟨T, hA, hB, hR⟩ := startII w a an n cn ad d cd an' n' cn' ad' d' cd' b an2 n2 cn2 ad2 d2 cd2 an3 n3 cn3 ad3 d3 cd3
  clear u1 u2 u3 u4 q1 q2 q3 q4
  replace ha0 := ha0.mono T
  replace hb0 := hb0.mono T
  replace al := al.mono T
  replace ah := ah.mono T
  replace bl := bl.mono T
  replace bh := bh.mono T
  replace hT := hT.mono T
  have FA := Lib.hid h.out.1
  have FB := Lib.hid h.out.2
  obtain ⟨za, zb, zk⟩ := hs.out
  have o1 := okI_iff.1 h.out.1
  have FS1 : Hid (okF a.1 = true ∧ okI b = true) := Lib.hid ⟨o1.1, h.out.2⟩
  have FS2 : Hid (okF a.2 = true ∧ okI b = true) := Lib.hid ⟨o1.2.1, h.out.2⟩
  have m11 := Lib.hid (mul_sz za.1 zb.1 zk).1
  have m12 := Lib.hid (mul_sz za.1 zb.2 zk).1
  have m21 := Lib.hid (mul_sz za.2 zb.1 zk).1
  have m22 := Lib.hid (mul_sz za.2 zb.2 zk).1
  obtain ⟨⟨⟨s1, N1, D1⟩, ⟨s2, N2, D2⟩⟩, hp1⟩ : ∃ q, (can (lo2 (qv a.1) (qv b.1) (qv b.2)), can (hi2 (qv a.1) (qv b.1) (qv b.2))) = q := ⟨_, rfl⟩
  obtain ⟨⟨⟨s3, N3, D3⟩, ⟨s4, N4, D4⟩⟩, hp2⟩ : ∃ q, (can (lo2 (qv a.2) (qv b.1) (qv b.2)), can (hi2 (qv a.2) (qv b.1) (qv b.2))) = q := ⟨_, rfl⟩
  have PS := mul_ends za zb zk hp1 hp2
  have HP1 := Lib.hid hp1
  have HP2 := Lib.hid hp2
  have HPS := Lib.hid PS
  clear PS hp1 hp2 za zb zk o1 h hs
  have ca0 := hA.c0
  have ca1 := hA.c1
  have ca2 := hA.c2
  have ca3 := hA.c3
  have ca4 := hA.c4
  have ca5 := hA.c5
  go_enter Tryz.func13, Tryz.ntmps13
  go_wp2_with fail
  refine (validIN true ha0 FA).mono ?_
  rintro e w1 ⟨rfl, h1⟩
  replace hT := hT.mono h1
  replace hA := hA.mono h1
  replace hB := hB.mono h1
  replace hR := hR.mono h1
  replace al := al.mono h1
  replace ah := ah.mono h1
  replace hb0 := hb0.mono h1
  replace T := Add.trans T h1
  clear h1 ha0 FA bl bh ca0 ca1 ca2 ca3 ca4 ca5
  have cb0 := hB.c0
  have cb1 := hB.c1
  have cb2 := hB.c2
  have cb3 := hB.c3
  have cb4 := hB.c4
  have cb5 := hB.c5
  go_wp2_with fail
  refine (validIN true hb0 FB).mono ?_
  rintro e w2 ⟨rfl, h2⟩
  replace hT := hT.mono h2
  replace hA := hA.mono h2
  replace hB := hB.mono h2
  replace hR := hR.mono h2
  replace al := al.mono h2
  replace ah := ah.mono h2
  replace hb0 := hb0.mono h2
  replace T := Add.trans T h2
  clear h2 FB cb0 cb1 cb2 cb3 cb4 cb5
  have ca0 := hA.c0
  have ca1 := hA.c1
  have ca2 := hA.c2
  have cb0 := hB.c0
  have cb1 := hB.c1
  have cb2 := hB.c2
  have cb3 := hB.c3
  have cb4 := hB.c4
  have cb5 := hB.c5
  go_wp2_with fail
  refine ((scaledC s1 N1 D1 s2 N2 D2 al hb0 hT FS1 m11 m12 HP1).mono fun _ _ g => g.ok).mono ?_
  rintro e w3 ⟨a1, n1, k1, e1, d1, l1, a2, m2, k2, e2, d4, l2, rfl, x1, y1, x2, y2, h3⟩
  replace hT := hT.mono h3
  replace hA := hA.mono h3
  replace hB := hB.mono h3
  replace hR := hR.mono h3
  replace ah := ah.mono h3
  replace hb0 := hb0.mono h3
  replace T := Add.trans T h3
  clear h3 al FS1 m11 m12 ca0 ca1 ca2 cb0 cb1 cb2 cb3 cb4 cb5
  have hlt := hR.lt
  obtain ⟨tt, hL⟩ := laid6 w3 s1 a1 n1 k1 e1 d1 l1 s2 a2 m2 k2 e2 d4 l2
  replace hT := hT.mono tt
  replace hA := hA.mono tt
  replace hB := hB.mono tt
  replace hR := hR.mono tt
  replace ah := ah.mono tt
  replace hb0 := hb0.mono tt
  replace x1 := x1.mono tt
  replace y1 := y1.mono tt
  replace x2 := x2.mono tt
  replace y2 := y2.mono tt
  replace T := Add.trans T tt
  clear tt
  have ca3 := hA.c3
  have ca4 := hA.c4
  have ca5 := hA.c5
  have cb0 := hB.c0
  have cb1 := hB.c1
  have cb2 := hB.c2
  have cb3 := hB.c3
  have cb4 := hB.c4
  have cb5 := hB.c5
  go_wp2_with fail
  refine ((scaledC s3 N3 D3 s4 N4 D4 ah hb0 hT FS2 m21 m22 HP2).mono fun _ _ g => g.ok).mono ?_
  rintro e w4 ⟨a3, n5, k3, e3, d6, l3, a4, n4, k4, e4', d5, l4, rfl, x3, y3, x4, y4, h4⟩
  replace hR := hR.mono h4
  replace hL := hL.mono h4
  replace x1 := x1.mono h4
  replace y1 := y1.mono h4
  replace x2 := x2.mono h4
  replace y2 := y2.mono h4
  replace T := Add.trans T h4
  clear h4 ah FS2 m21 m22 hT hA hB hb0 ca3 ca4 ca5 cb0 cb1 cb2 cb3 cb4 cb5
  have hlt2 := hL.lt
  obtain ⟨tt, hU⟩ := laid6 w4 s3 a3 n5 k3 e3 d6 l3 s4 a4 n4 k4 e4' d5 l4
  replace hR := hR.mono tt
  replace hL := hL.mono tt
  replace x1 := x1.mono tt
  replace y1 := y1.mono tt
  replace x2 := x2.mono tt
  replace y2 := y2.mono tt
  replace x3 := x3.mono tt
  replace y3 := y3.mono tt
  replace x4 := x4.mono tt
  replace y4 := y4.mono tt
  replace T := Add.trans T tt
  clear tt
  go_wp2_with fail
  obtain ⟨W4, hW4⟩ : ∃ W4, W4 = w4.alloc (.cells #[.bool s3, .slice a3 n5 k3, .slice e3 d6 l3, .bool s4, .slice a4 n4 k4, .slice e4' d5 l4] 27) := ⟨_, rfl⟩
  rw [← hW4] at T hR hL hU x1 y1 x2 y2 x3 y3 x4 y4 ⊢
  clear hW4
  obtain ⟨⟨z1, z2, z3, z4⟩, q1, q2, q3, q4⟩ := HPS.out
  have e4 : lo4 a b = mn (qv (s1, N1, D1)) (qv (s3, N3, D3)) := by unfold lo4; rw [q1, q3]
  have e5 : hi4 a b = mx (qv (s2, N2, D2)) (qv (s4, N4, D4)) := by unfold hi4; rw [q2, q4]
  have r1 : can (qv (s1, N1, D1)) = (s1, N1, D1) := by rw [q1]; exact congrArg Prod.fst HP1.out
  have r2 : can (qv (s2, N2, D2)) = (s2, N2, D2) := by rw [q2]; exact congrArg Prod.snd HP1.out
  have r3 : can (qv (s3, N3, D3)) = (s3, N3, D3) := by rw [q3]; exact congrArg Prod.fst HP2.out
  have r4 : can (qv (s4, N4, D4)) = (s4, N4, D4) := by rw [q4]; exact congrArg Prod.snd HP2.out
  have f1 : FracA W4 (.agg #[.bool s1, .slice a1 n1 k1, .slice e1 d1 l1]) (s1, N1, D1) := FracT.arg ⟨a1, n1, k1, e1, d1, l1, rfl, x1, y1⟩ (lt_up z1.2.1 (by decide)) (lt_up z1.2.2 (by decide))
  have f2 : FracA W4 (.agg #[.bool s2, .slice a2 m2 k2, .slice e2 d4 l2]) (s2, N2, D2) := FracT.arg ⟨a2, m2, k2, e2, d4, l2, rfl, x2, y2⟩ (lt_up z2.2.1 (by decide)) (lt_up z2.2.2 (by decide))
  have f3 : FracA W4 (.agg #[.bool s3, .slice a3 n5 k3, .slice e3 d6 l3]) (s3, N3, D3) := FracT.arg ⟨a3, n5, k3, e3, d6, l3, rfl, x3, y3⟩ (lt_up z3.2.1 (by decide)) (lt_up z3.2.2 (by decide))
  have f4 : FracA W4 (.agg #[.bool s4, .slice a4 n4 k4, .slice e4' d5 l4]) (s4, N4, D4) := FracT.arg ⟨a4, n4, k4, e4', d5, l4, rfl, x4, y4⟩ (lt_up z4.2.1 (by decide)) (lt_up z4.2.2 (by decide))
  have hlo : ∃ au nu ku eu du lu, Hid (∀ w', Add W4 w' → Calls Tryz.prog 39 #[.agg #[.bool s1, .slice a1 n1 k1, .slice e1 d1 l1], .agg #[.bool s3, .slice a3 n5 k3, .slice e3 d6 l3]] w' (RetV w' (.agg #[.bool p.1.1, .slice au nu ku, .slice eu du lu]))) ∧ Num W4 (.slice au nu ku) p.1.2.1 ∧ Num W4 (.slice eu du lu) p.1.2.2 := by
    obtain ⟨u, hu, hc⟩ := lesser_pick f1 f3 (Lib.hid ⟨z1.ok (by decide), z3.ok (by decide)⟩)
    have ep : p.1 = can (lo4 a b) := (congrArg Prod.fst hp.out).symm
    rcases hc with ⟨rfl, hc⟩ | ⟨rfl, hc⟩
    · have e : p.1 = (s1, N1, D1) := by rw [ep, e4, mn, if_pos hc, r1]
      rw [e]; exact ⟨_, _, _, _, _, _, Lib.hid hu, x1, y1⟩
    · have e : p.1 = (s3, N3, D3) := by rw [ep, e4, mn, if_neg hc, r3]
      rw [e]; exact ⟨_, _, _, _, _, _, Lib.hid hu, x3, y3⟩
  have hhi : ∃ au nu ku eu du lu, Hid (∀ w', Add W4 w' → Calls Tryz.prog 40 #[.agg #[.bool s2, .slice a2 m2 k2, .slice e2 d4 l2], .agg #[.bool s4, .slice a4 n4 k4, .slice e4' d5 l4]] w' (RetV w' (.agg #[.bool p.2.1, .slice au nu ku, .slice eu du lu]))) ∧ Num W4 (.slice au nu ku) p.2.2.1 ∧ Num W4 (.slice eu du lu) p.2.2.2 := by
    obtain ⟨u, hu, hc⟩ := greater_pick f2 f4 (Lib.hid ⟨z2.ok (by decide), z4.ok (by decide)⟩)
    have ep : p.2 = can (hi4 a b) := (congrArg Prod.snd hp.out).symm
    rcases hc with ⟨rfl, hc⟩ | ⟨rfl, hc⟩
    · have e : p.2 = (s4, N4, D4) := by rw [ep, e5, mx, if_pos hc, r4]
      rw [e]; exact ⟨_, _, _, _, _, _, Lib.hid hu, x4, y4⟩
    · have e : p.2 = (s2, N2, D2) := by rw [ep, e5, mx, if_neg hc, r2]
      rw [e]; exact ⟨_, _, _, _, _, _, Lib.hid hu, x2, y2⟩
  clear e4 e5 r1 r2 r3 r4 f1 f2 f3 f4 z1 z2 z3 z4 q1 q2 q3 q4 HP1 HP2 HPS hp x1 y1 x2 y2 x3 y3 x4 y4
  obtain ⟨ua, un, uk, ue, ud, ul, C1, x1, y1⟩ := hlo
  obtain ⟨va, vn, vk, ve, vd, vl, C2, x2, y2⟩ := hhi
  have K0 : Hid (∀ w', Add W4 w' → w'.cell? ⟨w3.heap.size, 0, none⟩ = some (.bool s1) ∧ w'.cell? ⟨w3.heap.size, 1, none⟩ = some (.slice a1 n1 k1) ∧ w'.cell? ⟨w3.heap.size, 2, none⟩ = some (.slice e1 d1 l1) ∧ w'.cell? ⟨w3.heap.size, 3, none⟩ = some (.bool s2) ∧ w'.cell? ⟨w3.heap.size, 4, none⟩ = some (.slice a2 m2 k2) ∧ w'.cell? ⟨w3.heap.size, 5, none⟩ = some (.slice e2 d4 l2) ∧ w'.cell? ⟨w4.heap.size, 0, none⟩ = some (.bool s3) ∧ w'.cell? ⟨w4.heap.size, 1, none⟩ = some (.slice a3 n5 k3) ∧ w'.cell? ⟨w4.heap.size, 2, none⟩ = some (.slice e3 d6 l3) ∧ w'.cell? ⟨w4.heap.size, 3, none⟩ = some (.bool s4) ∧ w'.cell? ⟨w4.heap.size, 4, none⟩ = some (.slice a4 n4 k4) ∧ w'.cell? ⟨w4.heap.size, 5, none⟩ = some (.slice e4' d5 l4)) := Lib.hid fun w' k => ⟨(hL.mono k).c0, (hL.mono k).c1, (hL.mono k).c2, (hL.mono k).c3, (hL.mono k).c4, (hL.mono k).c5, (hU.mono k).c0, (hU.mono k).c1, (hU.mono k).c2, (hU.mono k).c3, (hU.mono k).c4, (hU.mono k).c5⟩
  have hbu := iv_build p.1.1 ua un uk ue ud ul p.2.1 va vn vk ve vd vl
  have ca0 := hL.c0
  have ca1 := hL.c1
  have ca2 := hL.c2
  have ca3 := hL.c3
  have ca4 := hL.c4
  have ca5 := hL.c5
  have cb0 := hU.c0
  have cb1 := hU.c1
  have cb2 := hU.c2
  have cb3 := hU.c3
  have cb4 := hU.c4
  have cb5 := hU.c5
  go_region_held3 (fun w' => w'.cell? ⟨w3.heap.size, 0, none⟩ = some (.bool s1) ∧ w'.cell? ⟨w3.heap.size, 1, none⟩ = some (.slice a1 n1 k1) ∧ w'.cell? ⟨w3.heap.size, 2, none⟩ = some (.slice e1 d1 l1) ∧ w'.cell? ⟨w3.heap.size, 3, none⟩ = some (.bool s2) ∧ w'.cell? ⟨w3.heap.size, 4, none⟩ = some (.slice a2 m2 k2) ∧ w'.cell? ⟨w3.heap.size, 5, none⟩ = some (.slice e2 d4 l2) ∧ w'.cell? ⟨w4.heap.size, 0, none⟩ = some (.bool s3) ∧ w'.cell? ⟨w4.heap.size, 1, none⟩ = some (.slice a3 n5 k3) ∧ w'.cell? ⟨w4.heap.size, 2, none⟩ = some (.slice e3 d6 l3) ∧ w'.cell? ⟨w4.heap.size, 3, none⟩ = some (.bool s4) ∧ w'.cell? ⟨w4.heap.size, 4, none⟩ = some (.slice a4 n4 k4) ∧ w'.cell? ⟨w4.heap.size, 5, none⟩ = some (.slice e4' d5 l4))
    (first | with_reducible exact K6.out | with_reducible exact K0.out _ t5 | with_reducible exact K0.out _ t4 | with_reducible exact K0.out _ (Below.drew (Below.refl _ _)) | go_keep)
    (first | (go_at_call 39; ((with_reducible refine (C1.out _ (Below.drew (Below.refl _ _))).mono ?_); rintro e w7 ⟨rfl, hq1⟩; have t4 := Add.trans (Below.drew (Below.refl _ _) : Add W4 (World.drew W4)) hq1))
           | (go_at_call 40; ((with_reducible refine (C2.out _ t4).mono ?_); rintro e w8 ⟨rfl, hq2⟩; have t5 := Add.trans t4 hq2; have hR9 := hR.mono t5; have hr0 := hR9.c0; have hr1 := hR9.c1; have hr2 := hR9.c2; have hr3 := hR9.c3; have hr4 := hR9.c4; have hr5 := hR9.c5; have hr6 := hR9.fr 0; have hr7 := hR9.fr 1; have hr8 := hR9.fr 2; have hr9 := hR9.fr 3; have hr10 := hR9.fr 4; have hr11 := hR9.fr 5; have k9 := K0.out _ t5; have K6 : Hid (((((((w8.setCell ⟨w.heap.size + 2, 0, none⟩ (.bool p.1.1)).setCell ⟨w.heap.size + 2, 1, none⟩ (.slice ua un uk)).setCell ⟨w.heap.size + 2, 2, none⟩ (.slice ue ud ul)).setCell ⟨w.heap.size + 2, 3, none⟩ (.bool p.2.1)).setCell ⟨w.heap.size + 2, 4, none⟩ (.slice va vn vk)).setCell ⟨w.heap.size + 2, 5, none⟩ (.slice ve vd vl)).cell? ⟨w3.heap.size, 0, none⟩ = some (.bool s1) ∧ ((((((w8.setCell ⟨w.heap.size + 2, 0, none⟩ (.bool p.1.1)).setCell ⟨w.heap.size + 2, 1, none⟩ (.slice ua un uk)).setCell ⟨w.heap.size + 2, 2, none⟩ (.slice ue ud ul)).setCell ⟨w.heap.size + 2, 3, none⟩ (.bool p.2.1)).setCell ⟨w.heap.size + 2, 4, none⟩ (.slice va vn vk)).setCell ⟨w.heap.size + 2, 5, none⟩ (.slice ve vd vl)).cell? ⟨w3.heap.size, 1, none⟩ = some (.slice a1 n1 k1) ∧ ((((((w8.setCell ⟨w.heap.size + 2, 0, none⟩ (.bool p.1.1)).setCell ⟨w.heap.size + 2, 1, none⟩ (.slice ua un uk)).setCell ⟨w.heap.size + 2, 2, none⟩ (.slice ue ud ul)).setCell ⟨w.heap.size + 2, 3, none⟩ (.bool p.2.1)).setCell ⟨w.heap.size + 2, 4, none⟩ (.slice va vn vk)).setCell ⟨w.heap.size + 2, 5, none⟩ (.slice ve vd vl)).cell? ⟨w3.heap.size, 2, none⟩ = some (.slice e1 d1 l1) ∧ ((((((w8.setCell ⟨w.heap.size + 2, 0, none⟩ (.bool p.1.1)).setCell ⟨w.heap.size + 2, 1, none⟩ (.slice ua un uk)).setCell ⟨w.heap.size + 2, 2, none⟩ (.slice ue ud ul)).setCell ⟨w.heap.size + 2, 3, none⟩ (.bool p.2.1)).setCell ⟨w.heap.size + 2, 4, none⟩ (.slice va vn vk)).setCell ⟨w.heap.size + 2, 5, none⟩ (.slice ve vd vl)).cell? ⟨w3.heap.size, 3, none⟩ = some (.bool s2) ∧ ((((((w8.setCell ⟨w.heap.size + 2, 0, none⟩ (.bool p.1.1)).setCell ⟨w.heap.size + 2, 1, none⟩ (.slice ua un uk)).setCell ⟨w.heap.size + 2, 2, none⟩ (.slice ue ud ul)).setCell ⟨w.heap.size + 2, 3, none⟩ (.bool p.2.1)).setCell ⟨w.heap.size + 2, 4, none⟩ (.slice va vn vk)).setCell ⟨w.heap.size + 2, 5, none⟩ (.slice ve vd vl)).cell? ⟨w3.heap.size, 4, none⟩ = some (.slice a2 m2 k2) ∧ ((((((w8.setCell ⟨w.heap.size + 2, 0, none⟩ (.bool p.1.1)).setCell ⟨w.heap.size + 2, 1, none⟩ (.slice ua un uk)).setCell ⟨w.heap.size + 2, 2, none⟩ (.slice ue ud ul)).setCell ⟨w.heap.size + 2, 3, none⟩ (.bool p.2.1)).setCell ⟨w.heap.size + 2, 4, none⟩ (.slice va vn vk)).setCell ⟨w.heap.size + 2, 5, none⟩ (.slice ve vd vl)).cell? ⟨w3.heap.size, 5, none⟩ = some (.slice e2 d4 l2) ∧ ((((((w8.setCell ⟨w.heap.size + 2, 0, none⟩ (.bool p.1.1)).setCell ⟨w.heap.size + 2, 1, none⟩ (.slice ua un uk)).setCell ⟨w.heap.size + 2, 2, none⟩ (.slice ue ud ul)).setCell ⟨w.heap.size + 2, 3, none⟩ (.bool p.2.1)).setCell ⟨w.heap.size + 2, 4, none⟩ (.slice va vn vk)).setCell ⟨w.heap.size + 2, 5, none⟩ (.slice ve vd vl)).cell? ⟨w4.heap.size, 0, none⟩ = some (.bool s3) ∧ ((((((w8.setCell ⟨w.heap.size + 2, 0, none⟩ (.bool p.1.1)).setCell ⟨w.heap.size + 2, 1, none⟩ (.slice ua un uk)).setCell ⟨w.heap.size + 2, 2, none⟩ (.slice ue ud ul)).setCell ⟨w.heap.size + 2, 3, none⟩ (.bool p.2.1)).setCell ⟨w.heap.size + 2, 4, none⟩ (.slice va vn vk)).setCell ⟨w.heap.size + 2, 5, none⟩ (.slice ve vd vl)).cell? ⟨w4.heap.size, 1, none⟩ = some (.slice a3 n5 k3) ∧ ((((((w8.setCell ⟨w.heap.size + 2, 0, none⟩ (.bool p.1.1)).setCell ⟨w.heap.size + 2, 1, none⟩ (.slice ua un uk)).setCell ⟨w.heap.size + 2, 2, none⟩ (.slice ue ud ul)).setCell ⟨w.heap.size + 2, 3, none⟩ (.bool p.2.1)).setCell ⟨w.heap.size + 2, 4, none⟩ (.slice va vn vk)).setCell ⟨w.heap.size + 2, 5, none⟩ (.slice ve vd vl)).cell? ⟨w4.heap.size, 2, none⟩ = some (.slice e3 d6 l3) ∧ ((((((w8.setCell ⟨w.heap.size + 2, 0, none⟩ (.bool p.1.1)).setCell ⟨w.heap.size + 2, 1, none⟩ (.slice ua un uk)).setCell ⟨w.heap.size + 2, 2, none⟩ (.slice ue ud ul)).setCell ⟨w.heap.size + 2, 3, none⟩ (.bool p.2.1)).setCell ⟨w.heap.size + 2, 4, none⟩ (.slice va vn vk)).setCell ⟨w.heap.size + 2, 5, none⟩ (.slice ve vd vl)).cell? ⟨w4.heap.size, 3, none⟩ = some (.bool s4) ∧ ((((((w8.setCell ⟨w.heap.size + 2, 0, none⟩ (.bool p.1.1)).setCell ⟨w.heap.size + 2, 1, none⟩ (.slice ua un uk)).setCell ⟨w.heap.size + 2, 2, none⟩ (.slice ue ud ul)).setCell ⟨w.heap.size + 2, 3, none⟩ (.bool p.2.1)).setCell ⟨w.heap.size + 2, 4, none⟩ (.slice va vn vk)).setCell ⟨w.heap.size + 2, 5, none⟩ (.slice ve vd vl)).cell? ⟨w4.heap.size, 4, none⟩ = some (.slice a4 n4 k4) ∧ ((((((w8.setCell ⟨w.heap.size + 2, 0, none⟩ (.bool p.1.1)).setCell ⟨w.heap.size + 2, 1, none⟩ (.slice ua un uk)).setCell ⟨w.heap.size + 2, 2, none⟩ (.slice ue ud ul)).setCell ⟨w.heap.size + 2, 3, none⟩ (.bool p.2.1)).setCell ⟨w.heap.size + 2, 4, none⟩ (.slice va vn vk)).setCell ⟨w.heap.size + 2, 5, none⟩ (.slice ve vd vl)).cell? ⟨w4.heap.size, 5, none⟩ = some (.slice e4' d5 l4)) := Lib.hid ⟨(put6_cell (w := w8) (.bool p.1.1) (.slice ua un uk) (.slice ue ud ul) (.bool p.2.1) (.slice va vn vk) (.slice ve vd vl) (show w3.heap.size ≠ w.heap.size + 2 by omega)).trans k9.1, (put6_cell (w := w8) (.bool p.1.1) (.slice ua un uk) (.slice ue ud ul) (.bool p.2.1) (.slice va vn vk) (.slice ve vd vl) (show w3.heap.size ≠ w.heap.size + 2 by omega)).trans k9.2.1, (put6_cell (w := w8) (.bool p.1.1) (.slice ua un uk) (.slice ue ud ul) (.bool p.2.1) (.slice va vn vk) (.slice ve vd vl) (show w3.heap.size ≠ w.heap.size + 2 by omega)).trans k9.2.2.1, (put6_cell (w := w8) (.bool p.1.1) (.slice ua un uk) (.slice ue ud ul) (.bool p.2.1) (.slice va vn vk) (.slice ve vd vl) (show w3.heap.size ≠ w.heap.size + 2 by omega)).trans k9.2.2.2.1, (put6_cell (w := w8) (.bool p.1.1) (.slice ua un uk) (.slice ue ud ul) (.bool p.2.1) (.slice va vn vk) (.slice ve vd vl) (show w3.heap.size ≠ w.heap.size + 2 by omega)).trans k9.2.2.2.2.1, (put6_cell (w := w8) (.bool p.1.1) (.slice ua un uk) (.slice ue ud ul) (.bool p.2.1) (.slice va vn vk) (.slice ve vd vl) (show w3.heap.size ≠ w.heap.size + 2 by omega)).trans k9.2.2.2.2.2.1, (put6_cell (w := w8) (.bool p.1.1) (.slice ua un uk) (.slice ue ud ul) (.bool p.2.1) (.slice va vn vk) (.slice ve vd vl) (show w4.heap.size ≠ w.heap.size + 2 by omega)).trans k9.2.2.2.2.2.2.1, (put6_cell (w := w8) (.bool p.1.1) (.slice ua un uk) (.slice ue ud ul) (.bool p.2.1) (.slice va vn vk) (.slice ve vd vl) (show w4.heap.size ≠ w.heap.size + 2 by omega)).trans k9.2.2.2.2.2.2.2.1, (put6_cell (w := w8) (.bool p.1.1) (.slice ua un uk) (.slice ue ud ul) (.bool p.2.1) (.slice va vn vk) (.slice ve vd vl) (show w4.heap.size ≠ w.heap.size + 2 by omega)).trans k9.2.2.2.2.2.2.2.2.1, (put6_cell (w := w8) (.bool p.1.1) (.slice ua un uk) (.slice ue ud ul) (.bool p.2.1) (.slice va vn vk) (.slice ve vd vl) (show w4.heap.size ≠ w.heap.size + 2 by omega)).trans k9.2.2.2.2.2.2.2.2.2.1, (put6_cell (w := w8) (.bool p.1.1) (.slice ua un uk) (.slice ue ud ul) (.bool p.2.1) (.slice va vn vk) (.slice ve vd vl) (show w4.heap.size ≠ w.heap.size + 2 by omega)).trans k9.2.2.2.2.2.2.2.2.2.2.1, (put6_cell (w := w8) (.bool p.1.1) (.slice ua un uk) (.slice ue ud ul) (.bool p.2.1) (.slice va vn vk) (.slice ve vd vl) (show w4.heap.size ≠ w.heap.size + 2 by omega)).trans k9.2.2.2.2.2.2.2.2.2.2.2⟩; clear k9)))
  have T9 := Add.trans T t5
  have hP := Box6.put hR9 p.1.1 ua un uk ue ud ul p.2.1 va vn vk ve vd vl
  have hF := resI_put (w := w) (p := (p, 0)) hR9 ⟨_, _, _, _, _, _, _, _, _, _, _, _, rfl, x1.mono t5, y1.mono t5, x2.mono t5, y2.mono t5⟩ T9 (show w.heap.size ≤ w.heap.size + 2 by omega)
  obtain ⟨W7, hW7⟩ : ∃ W7, W7 = put6 w8 (w.heap.size + 2) (.bool p.1.1) (.slice ua un uk) (.slice ue ud ul) (.bool p.2.1) (.slice va vn vk) (.slice ve vd vl) := ⟨_, rfl⟩
  rw [← hW7] at hP hF
  unfold put6 at hW7
  have HF := Lib.hid hF
  have HW := Lib.hid hW7
  clear K0 K6 C1 C2 hR hL hU T t4 t5 hq1 hq2 ca0 ca1 ca2 ca3 ca4 ca5 cb0 cb1 cb2 cb3 cb4 cb5 hF hW7 hR9 T9 x1 y1 x2 y2
  go_wp2_with fail
  rw [← HW.out]
  exact bodyPost_ret (v := .tuple #[.agg #[.bool p.1.1, .slice ua un uk, .slice ue ud ul, .bool p.2.1, .slice va vn vk, .slice ve vd vl], .int .i64 0]) (by simp [results, Tryz.results13, go_sem, hP.c0, hP.c1, hP.c2, hP.c3, hP.c4, hP.c5]) rfl HF.out
end Go.Proofs.YtifpfoeecnkhoaaGreatDoor

namespace Go.Proofs.YtifpfoeecnkhoaaGreatDoor
open Go.RowKit NatM Go.Proofs.YtifpfoeecnkhoaaGreatDoor.Api

theorem startAB (w : World) (a : Iv) (an : Option Addr) (n cn : Nat) (ad : Option Addr) (d cd : Nat) (an' : Option Addr) (n' cn' : Nat) (ad' : Option Addr) (d' cd' : Nat) (b : Iv) (an2 : Option Addr) (n2 cn2 : Nat) (ad2 : Option Addr) (d2 cd2 : Nat) (an3 : Option Addr) (n3 cn3 : Nat) (ad3 : Option Addr) (d3 cd3 : Nat) : Add w ((w.alloc (.cells #[.bool a.1.1, .slice an n cn, .slice ad d cd, .bool a.2.1, .slice an' n' cn', .slice ad' d' cd'] 27)).alloc (.cells #[.bool b.1.1, .slice an2 n2 cn2, .slice ad2 d2 cd2, .bool b.2.1, .slice an3 n3 cn3, .slice ad3 d3 cd3] 27)) ∧ Box6 ((w.alloc (.cells #[.bool a.1.1, .slice an n cn, .slice ad d cd, .bool a.2.1, .slice an' n' cn', .slice ad' d' cd'] 27)).alloc (.cells #[.bool b.1.1, .slice an2 n2 cn2, .slice ad2 d2 cd2, .bool b.2.1, .slice an3 n3 cn3, .slice ad3 d3 cd3] 27)) w.heap.size a.1.1 an n cn ad d cd a.2.1 an' n' cn' ad' d' cd' ∧ Box6 ((w.alloc (.cells #[.bool a.1.1, .slice an n cn, .slice ad d cd, .bool a.2.1, .slice an' n' cn', .slice ad' d' cd'] 27)).alloc (.cells #[.bool b.1.1, .slice an2 n2 cn2, .slice ad2 d2 cd2, .bool b.2.1, .slice an3 n3 cn3, .slice ad3 d3 cd3] 27)) (w.heap.size + 1) b.1.1 an2 n2 cn2 ad2 d2 cd2 b.2.1 an3 n3 cn3 ad3 d3 cd3 :=
  ⟨Add.trans (add_new _ _) (add_new _ _), (box6_new ..).mono (add_new _ _), Box6.cells (by simp)⟩
theorem startA1 (w : World) (a : Iv) (an : Option Addr) (n cn : Nat) (ad : Option Addr) (d cd : Nat) (an' : Option Addr) (n' cn' : Nat) (ad' : Option Addr) (d' cd' : Nat) : Add w (w.alloc (.cells #[.bool a.1.1, .slice an n cn, .slice ad d cd, .bool a.2.1, .slice an' n' cn', .slice ad' d' cd'] 27)) ∧ Box6 (w.alloc (.cells #[.bool a.1.1, .slice an n cn, .slice ad d cd, .bool a.2.1, .slice an' n' cn', .slice ad' d' cd'] 27)) w.heap.size a.1.1 an n cn ad d cd a.2.1 an' n' cn' ad' d' cd' := ⟨add_new _ _, box6_new ..⟩
theorem subsI_iff {a b : Iv} : subsI a b = true ↔ okI a = true ∧ okI b = true ∧ (qv b.1 ≤ qv a.1 ∧ qv a.1 ≤ qv b.2) ∧ qv b.1 ≤ qv a.2 ∧ qv a.2 ≤ qv b.2 := by
  unfold subsI
  simp only [Bool.and_eq_true, decide_eq_true_eq]
  constructor
  · rintro ⟨⟨h1, h2⟩, h3, h4⟩
    have := (okI_iff.1 h1).2.2
    exact ⟨h1, h2, ⟨h3, Rat.le_trans this h4⟩, Rat.le_trans h3 this, h4⟩
  · rintro ⟨h1, h2, ⟨h3, -⟩, -, h4⟩
    exact ⟨⟨h1, h2⟩, h3, h4⟩
theorem subsI_no {a b : Iv} {t : Bool} (ht : subsI a b = t) (h : ¬ (okI a = true ∧ okI b = true ∧ (qv b.1 ≤ qv a.1 ∧ qv a.1 ≤ qv b.2) ∧ qv b.1 ≤ qv a.2 ∧ qv a.2 ≤ qv b.2)) : t = false := by
  cases t
  · rfl
  · exact absurd (subsI_iff.1 ht) h
set_option maxRecDepth 100000 in
set_option maxHeartbeats 4000000 in
theorem insideN (t : Bool) {v v' : Value} {a b : Iv} {w : World} (ha : IvA w v a) (hb : IvA w v' b) (ht : Hid (subsI a b = t)) : Calls Tryz.prog 28 #[v, v'] w (BoolIs w t) := by
  have ha0 := ha
  have hb0 := hb
  obtain ⟨an, n, cn, ad, d, cd, an', n', cn', ad', d', cd', rfl, u1, u2, u3, u4⟩ := ha
  obtain ⟨an2, n2, cn2, ad2, d2, cd2, an3, n3, cn3, ad3, d3, cd3, rfl, q1, q2, q3, q4⟩ := hb
  have al : FracA w (.agg #[.bool a.1.1, .slice an n cn, .slice ad d cd]) a.1 := ⟨_, _, _, _, _, _, rfl, u1, u2⟩
  have ah : FracA w (.agg #[.bool a.2.1, .slice an' n' cn', .slice ad' d' cd']) a.2 := ⟨_, _, _, _, _, _, rfl, u3, u4⟩
  have bl : FracA w (.agg #[.bool b.1.1, .slice an2 n2 cn2, .slice ad2 d2 cd2]) b.1 := ⟨_, _, _, _, _, _, rfl, q1, q2⟩
  have bh : FracA w (.agg #[.bool b.2.1, .slice an3 n3 cn3, .slice ad3 d3 cd3]) b.2 := ⟨_, _, _, _, _, _, rfl, q3, q4⟩
  obtain ⟨T, hA, hB⟩ := startAB w a an n cn ad d cd an' n' cn' ad' d' cd' b an2 n2 cn2 ad2 d2 cd2 an3 n3 cn3 ad3 d3 cd3
  clear u1 u2 u3 u4 q1 q2 q3 q4
  have hb9 := hb0.mono T
  have ha9 := ha0.mono T
  clear bl bh
  have ca0 := hA.c0
  have ca1 := hA.c1
  have ca2 := hA.c2
  have ca3 := hA.c3
  have ca4 := hA.c4
  have ca5 := hA.c5
  go_enter Tryz.func28, Tryz.ntmps28
  by_cases c1 : okI a = true
  · have FA := Lib.hid c1
    go_wp2_with fail
    refine (validIN true ha9 FA).mono ?_
    rintro e w1 ⟨rfl, h1⟩
    replace hA := hA.mono h1
    replace hB := hB.mono h1
    replace hb9 := hb9.mono h1
    replace T := Add.trans T h1
    clear h1 ha9 ca0 ca1 ca2 ca3 ca4 ca5
    have cb0 := hB.c0
    have cb1 := hB.c1
    have cb2 := hB.c2
    have cb3 := hB.c3
    have cb4 := hB.c4
    have cb5 := hB.c5
    by_cases c2 : okI b = true
    · have FB := Lib.hid c2
      clear c1 c2
      go_wp2_with fail
      refine (validIN true hb9 FB).mono ?_
      rintro e w2 ⟨rfl, h2⟩
      replace hA := hA.mono h2
      replace hB := hB.mono h2
      replace T := Add.trans T h2
      clear h2 hb9 cb0 cb1 cb2 cb3 cb4 cb5
      have ca0 := hA.c0
      have ca1 := hA.c1
      have ca2 := hA.c2
      have ca3 := hA.c3
      have ca4 := hA.c4
      have ca5 := hA.c5
      go_wp2_with fail
      refine (endsN _ a.1.1 an n cn ad d cd a.2.1 an' n' cn' ad' d' cd').mono ?_
      rintro e w3 ⟨rfl, h3⟩
      replace hB := hB.mono h3
      replace T := Add.trans T h3
      clear h3 hA ca0 ca1 ca2 ca3 ca4 ca5
      go_wp2_with fail
      go_loopw [17] (fun i wr => ∃ k : Nat, k ≤ 2 ∧ i = .int .i64 (k : Nat) ∧ Hid (1 ≤ k → qv b.1 ≤ qv a.1 ∧ qv a.1 ≤ qv b.2) ∧ Hid (2 ≤ k → qv b.1 ≤ qv a.2 ∧ qv a.2 ≤ qv b.2) ∧ Box6 wr (w.heap.size + 1) b.1.1 an2 n2 cn2 ad2 d2 cd2 b.2.1 an3 n3 cn3 ad3 d3 cd3 ∧ Add w wr) (fun i _ => 2 - (intOf i).toNat)
      case atStart => exact ⟨0, by omega, rfl, Lib.hid fun h => absurd h (by omega), Lib.hid fun h => absurd h (by omega), hB, T⟩
      case round =>
        clear hB T
        obtain ⟨k, hk, rfl, h1, h2, hB, T⟩ := hrel
        have e : k = 0 ∨ k = 1 ∨ k = 2 := by omega
        rcases e with rfl | rfl | rfl
        · clear h1 h2
          have ix := ends_at0 a.1.1 an n cn ad d cd a.2.1 an' n' cn' ad' d' cd'
          have qe := al.mono T
          have qb := hb0.mono T
          have O3 : Hid (okF b.1 = true ∧ okF b.2 = true ∧ okF a.1 = true) := Lib.hid ⟨(okI_iff.1 FB.out).1, (okI_iff.1 FB.out).2.1, (okI_iff.1 FA.out).1⟩
          obtain ⟨tt, hV⟩ := laid_var wr a.1.1 an n cn ad d cd
          replace hB := hB.mono tt
          replace qe := qe.mono tt
          replace qb := qb.mono tt
          replace T := Add.trans T tt
          clear tt
          have cv0 := hV.c0
          have cv1 := hV.c1
          have cv2 := hV.c2
          have cb0 := hB.c0
          have cb1 := hB.c1
          have cb2 := hB.c2
          have cb3 := hB.c3
          have cb4 := hB.c4
          have cb5 := hB.c5
          clear hV
          by_cases c : qv b.1 ≤ qv a.1 ∧ qv a.1 ≤ qv b.2
          · have hq := c
            have HT := Lib.hid (decide_eq_true c)
            have HQ := Lib.hid hq
            clear c hq ht
            go_wp2_with fail
            refine (holdsN true qb qe O3 HT).mono ?_
            rintro e w5 ⟨rfl, h5⟩
            replace hB := hB.mono h5
            replace T := Add.trans T h5
            clear h5 qb qe O3 HT ix cv0 cv1 cv2 cb0 cb1 cb2 cb3 cb4 cb5
            go_wp2_with fail
            go_roundw
            case rel => exact ⟨1, by omega, rfl, Lib.hid fun _ => HQ.out, Lib.hid fun h => absurd h (by omega), hB, T⟩
            case measure => simp [intOf]
          · have e : t = false := subsI_no ht.out (fun g => c g.2.2.1)
            subst e
            have HT : Hid (decide (qv b.1 ≤ qv a.1 ∧ qv a.1 ≤ qv b.2) = false) := Lib.hid (decide_eq_false c)
            clear c ht
            go_wp2_with fail
            refine (holdsN false qb qe O3 HT).mono ?_
            rintro e w5 ⟨rfl, h5⟩
            replace T := Add.trans T h5
            clear h5 hB qb qe O3 HT ix cv0 cv1 cv2 cb0 cb1 cb2 cb3 cb4 cb5
            go_wp2_with fail
            go_ret
            exact ⟨rfl, T⟩
        · clear h2
          have ix := ends_at1 a.1.1 an n cn ad d cd a.2.1 an' n' cn' ad' d' cd'
          have qe := ah.mono T
          have qb := hb0.mono T
          have O3 : Hid (okF b.1 = true ∧ okF b.2 = true ∧ okF a.2 = true) := Lib.hid ⟨(okI_iff.1 FB.out).1, (okI_iff.1 FB.out).2.1, (okI_iff.1 FA.out).2.1⟩
          obtain ⟨tt, hV⟩ := laid_var wr a.2.1 an' n' cn' ad' d' cd'
          replace hB := hB.mono tt
          replace qe := qe.mono tt
          replace qb := qb.mono tt
          replace T := Add.trans T tt
          clear tt
          have cv0 := hV.c0
          have cv1 := hV.c1
          have cv2 := hV.c2
          have cb0 := hB.c0
          have cb1 := hB.c1
          have cb2 := hB.c2
          have cb3 := hB.c3
          have cb4 := hB.c4
          have cb5 := hB.c5
          clear hV
          by_cases c : qv b.1 ≤ qv a.2 ∧ qv a.2 ≤ qv b.2
          · have hq := c
            have HT := Lib.hid (decide_eq_true c)
            have HQ := Lib.hid hq
            clear c hq ht
            go_wp2_with fail
            refine (holdsN true qb qe O3 HT).mono ?_
            rintro e w5 ⟨rfl, h5⟩
            replace hB := hB.mono h5
            replace T := Add.trans T h5
            clear h5 qb qe O3 HT ix cv0 cv1 cv2 cb0 cb1 cb2 cb3 cb4 cb5
            go_wp2_with fail
            go_roundw
            case rel => exact ⟨2, by omega, rfl, Lib.hid fun _ => h1.out (by omega), Lib.hid fun _ => HQ.out, hB, T⟩
            case measure => simp [intOf]
          · have e : t = false := subsI_no ht.out (fun g => c g.2.2.2)
            subst e
            have HT : Hid (decide (qv b.1 ≤ qv a.2 ∧ qv a.2 ≤ qv b.2) = false) := Lib.hid (decide_eq_false c)
            clear c ht
            go_wp2_with fail
            refine (holdsN false qb qe O3 HT).mono ?_
            rintro e w5 ⟨rfl, h5⟩
            replace T := Add.trans T h5
            clear h5 hB qb qe O3 HT ix cv0 cv1 cv2 cb0 cb1 cb2 cb3 cb4 cb5
            go_wp2_with fail
            go_ret
            exact ⟨rfl, T⟩
        · have e : t = true := by
            rw [← ht.out]
            exact subsI_iff.2 ⟨FA.out, FB.out, h1.out (by omega), h2.out (by omega)⟩
          subst e
          clear h1 h2 ht hB
          go_wp2_with fail
          go_ret
          exact ⟨rfl, T⟩
    · have FB : Hid (okI b = false) := Lib.hid (by simpa using c2)
      have e : t = false := subsI_no ht.out (fun g => c2 g.2.1)
      subst e
      clear c1 c2 ht
      go_wp2_with fail
      refine (validIN false hb9 FB).mono ?_
      rintro e w2 ⟨rfl, h2⟩
      replace T := Add.trans T h2
      clear h2 hb9 hA hB FA FB al ah ha0 hb0 cb0 cb1 cb2 cb3 cb4 cb5
      go_wp2_with fail
      go_ret
      exact ⟨rfl, T⟩
  · have FA : Hid (okI a = false) := Lib.hid (by simpa using c1)
    have e : t = false := subsI_no ht.out (fun g => c1 g.1)
    subst e
    clear c1 ht
    go_wp2_with fail
    refine (validIN false ha9 FA).mono ?_
    rintro e w1 ⟨rfl, h1⟩
    replace T := Add.trans T h1
    clear h1 hb9 ha9 hA hB FA al ah ha0 hb0 ca0 ca1 ca2 ca3 ca4 ca5
    go_wp2_with fail
    go_ret
    exact ⟨rfl, T⟩
set_option maxRecDepth 100000 in
set_option maxHeartbeats 2000000 in
theorem sameIN (t : Bool) {v v' : Value} {a b : Iv} {w : World} (ha : IvT w v a) (hb : IvT w v' b) (ht : Hid (decide (a = b) = t)) : Calls Tryz.prog 10 #[v, v'] w (BoolIs w t) := by
  obtain ⟨an, n, cn, ad, d, cd, an', n', cn', ad', d', cd', rfl, u1, u2, u3, u4⟩ := ha
  obtain ⟨an2, n2, cn2, ad2, d2, cd2, an3, n3, cn3, ad3, d3, cd3, rfl, q1, q2, q3, q4⟩ := hb
  have al : FracT w (.agg #[.bool a.1.1, .slice an n cn, .slice ad d cd]) a.1 := ⟨_, _, _, _, _, _, rfl, u1, u2⟩
  have ah : FracT w (.agg #[.bool a.2.1, .slice an' n' cn', .slice ad' d' cd']) a.2 := ⟨_, _, _, _, _, _, rfl, u3, u4⟩
  have bl : FracT w (.agg #[.bool b.1.1, .slice an2 n2 cn2, .slice ad2 d2 cd2]) b.1 := ⟨_, _, _, _, _, _, rfl, q1, q2⟩
  have bh : FracT w (.agg #[.bool b.2.1, .slice an3 n3 cn3, .slice ad3 d3 cd3]) b.2 := ⟨_, _, _, _, _, _, rfl, q3, q4⟩
  obtain ⟨T, hA, hB⟩ := startAB w a an n cn ad d cd an' n' cn' ad' d' cd' b an2 n2 cn2 ad2 d2 cd2 an3 n3 cn3 ad3 d3 cd3
  clear u1 u2 u3 u4 q1 q2 q3 q4
  replace al := al.mono T
  replace ah := ah.mono T
  replace bl := bl.mono T
  replace bh := bh.mono T
  have ca0 := hA.c0
  have ca1 := hA.c1
  have ca2 := hA.c2
  have cb0 := hB.c0
  have cb1 := hB.c1
  have cb2 := hB.c2
  obtain ⟨t1, ht1⟩ : ∃ t, decide (a.1 = b.1) = t := ⟨_, rfl⟩
  have F1 := Lib.hid ht1
  cases t1 with
  | false =>
    have e : t = false := by
      rw [← ht.out, decide_eq_false_iff_not]
      exact fun g => (decide_eq_false_iff_not.1 ht1) (congrArg Prod.fst g)
    subst e
    clear ht1 ht
    go_enter Tryz.func10, Tryz.ntmps10
    go_wp2_with fail
    refine (sameF false al bl F1).mono ?_
    rintro e w1 ⟨rfl, h1⟩
    replace T := Add.trans T h1
    clear h1 al bl ah bh hA hB F1 ca0 ca1 ca2 cb0 cb1 cb2
    go_wp2_with fail
    go_ret
    exact ⟨rfl, T⟩
  | true =>
    have e1 : a.1 = b.1 := of_decide_eq_true ht1
    have F2 : Hid (decide (a.2 = b.2) = t) := Lib.hid (by
      rw [← ht.out, decide_eq_decide]
      exact ⟨fun g => Prod.ext e1 g, fun g => congrArg Prod.snd g⟩)
    clear ht1 ht e1
    go_enter Tryz.func10, Tryz.ntmps10
    go_wp2_with fail
    refine (sameF true al bl F1).mono ?_
    rintro e w1 ⟨rfl, h1⟩
    replace hA := hA.mono h1
    replace hB := hB.mono h1
    replace ah := ah.mono h1
    replace bh := bh.mono h1
    replace T := Add.trans T h1
    clear h1 al bl F1 ca0 ca1 ca2 cb0 cb1 cb2
    have ca3 := hA.c3
    have ca4 := hA.c4
    have ca5 := hA.c5
    have cb3 := hB.c3
    have cb4 := hB.c4
    have cb5 := hB.c5
    go_wp2_with fail
    refine (sameF t ah bh F2).mono ?_
    rintro e w2 ⟨rfl, h2⟩
    replace T := Add.trans T h2
    clear h2 ah bh hA hB F2 ca3 ca4 ca5 cb3 cb4 cb5
    go_wp2_with fail
    go_ret
    exact ⟨rfl, T⟩
set_option maxRecDepth 100000 in
set_option maxHeartbeats 2000000 in
theorem refValidIN (t : Bool) {v : Value} {a : Iv} {w : World} (ha : IvA w v a) (ht : Hid (okI a = t)) : Calls Tryz.prog 25 #[v] w (BoolIs w t) := by
  obtain ⟨an, n, cn, ad, d, cd, an', n', cn', ad', d', cd', rfl, u1, u2, u3, u4⟩ := ha
  have al : FracA w (.agg #[.bool a.1.1, .slice an n cn, .slice ad d cd]) a.1 := ⟨_, _, _, _, _, _, rfl, u1, u2⟩
  have ah : FracA w (.agg #[.bool a.2.1, .slice an' n' cn', .slice ad' d' cd']) a.2 := ⟨_, _, _, _, _, _, rfl, u3, u4⟩
  obtain ⟨T, hA⟩ := startA1 w a an n cn ad d cd an' n' cn' ad' d' cd'
  clear u1 u2 u3 u4
  replace al := al.mono T
  replace ah := ah.mono T
  have ca0 := hA.c0
  have ca1 := hA.c1
  have ca2 := hA.c2
  go_enter Tryz.func25, Tryz.ntmps25
  by_cases c1 : okF a.1 = true
  · have F1 := Lib.hid c1
    go_wp2_with fail
    refine (refValidN true al F1).mono ?_
    rintro e w1 ⟨rfl, h1⟩
    replace hA := hA.mono h1
    replace al := al.mono h1
    replace ah := ah.mono h1
    replace T := Add.trans T h1
    clear h1 F1 ca0 ca1 ca2
    have ca3 := hA.c3
    have ca4 := hA.c4
    have ca5 := hA.c5
    by_cases c2 : okF a.2 = true
    · have F2 := Lib.hid c2
      have FO : Hid (okF a.1 = true ∧ okF a.2 = true) := Lib.hid ⟨c1, c2⟩
      obtain ⟨i, hi⟩ : ∃ i, cmpQ (qv a.1) (qv a.2) = i := ⟨_, rfl⟩
      have di : decide (i ≤ 0) = t := by
        rw [← ht.out]; unfold okI; rw [c1, c2, ← hi, Bool.true_and, Bool.true_and, decide_eq_decide]; exact cmpQ_le
      have HI := Lib.hid hi
      clear c1 c2 ht hi
      go_wp2_with fail
      refine (refValidN true ah F2).mono ?_
      rintro e w2 ⟨rfl, h2⟩
      replace hA := hA.mono h2
      replace al := al.mono h2
      replace ah := ah.mono h2
      replace T := Add.trans T h2
      clear h2 F2 ca3 ca4 ca5
      have ca0 := hA.c0
      have ca1 := hA.c1
      have ca2 := hA.c2
      have ca3 := hA.c3
      have ca4 := hA.c4
      have ca5 := hA.c5
      go_wp2_with fail
      refine (orderN i al ah FO HI).mono ?_
      rintro e w3 ⟨rfl, h3⟩
      replace T := Add.trans T h3
      clear h3 hA al ah FO HI ca0 ca1 ca2 ca3 ca4 ca5
      go_wp2_with fail
      go_ret
      exact ⟨rfl, T⟩
    · have F2 : Hid (okF a.2 = false) := Lib.hid (by simpa using c2)
      have e : t = false := by rw [← ht.out]; unfold okI; rw [F2.out]; simp
      subst e
      clear c1 c2 ht
      go_wp2_with fail
      refine (refValidN false ah F2).mono ?_
      rintro e w2 ⟨rfl, h2⟩
      replace T := Add.trans T h2
      clear h2 hA al ah F2 ca3 ca4 ca5
      go_wp2_with fail
      go_ret
      exact ⟨rfl, T⟩
  · have F1 : Hid (okF a.1 = false) := Lib.hid (by simpa using c1)
    have e : t = false := by rw [← ht.out]; unfold okI; rw [F1.out]; simp
    subst e
    clear c1 ht
    go_wp2_with fail
    refine (refValidN false al F1).mono ?_
    rintro e w1 ⟨rfl, h1⟩
    replace T := Add.trans T h1
    clear h1 hA al ah F1 ca0 ca1 ca2
    go_wp2_with fail
    go_ret
    exact ⟨rfl, T⟩
set_option maxRecDepth 100000 in
set_option maxHeartbeats 2000000 in
theorem refWidIN_refuses {v : Value} {a : Iv} {w : World} (ha : IvA w v a) (h : Hid (okI a = false)) : Calls Tryz.prog 20 #[v] w (ResF w ((false, 0, 0), 1)) := by
  have ha0 := ha
  obtain ⟨an, n, cn, ad, d, cd, an', n', cn', ad', d', cd', rfl, u1, u2, u3, u4⟩ := ha
  have al : FracA w (.agg #[.bool a.1.1, .slice an n cn, .slice ad d cd]) a.1 := ⟨_, _, _, _, _, _, rfl, u1, u2⟩
  have ah : FracA w (.agg #[.bool a.2.1, .slice an' n' cn', .slice ad' d' cd']) a.2 := ⟨_, _, _, _, _, _, rfl, u3, u4⟩
  obtain ⟨T, hA, hB⟩ := startW w a an n cn ad d cd an' n' cn' ad' d' cd'
  clear u1 u2 u3 u4
  replace ha0 := ha0.mono T
  replace al := al.mono T
  replace ah := ah.mono T
  clear al ah
  have ca0 := hA.c0
  have ca1 := hA.c1
  have ca2 := hA.c2
  have ca3 := hA.c3
  have ca4 := hA.c4
  have ca5 := hA.c5
  go_enter Tryz.func20, Tryz.ntmps20
  go_wp2_with fail
  refine (refValidIN false ha0 h).mono ?_
  rintro e w1 ⟨rfl, h1⟩
  replace hB := hB.mono h1
  replace T := Add.trans T h1
  clear h1 ha0 h hA ca0 ca1 ca2 ca3 ca4 ca5
  have hc0 := hB.c0
  have hc1 := hB.c1
  have hc2 := hB.c2
  have hc3 := hB.fr 0
  have hc4 := hB.fr 1
  have hc5 := hB.fr 2
  have hF := resF_put (w := w) (p := ((false, 0, 0), 1)) hB (fracT_zero _) T (by omega)
  clear hB T 
  unfold put3 at hF
  have HF := Lib.hid hF
  clear hF
  go_wp2_with fail
  exact bodyPost_ret (v := .tuple #[.agg #[.bool false, .slice none 0 0, .slice none 0 0], .int .i64 1]) (by simp [results, Tryz.results20, go_sem, hc0, hc1, hc2]) rfl HF.out
set_option maxRecDepth 100000 in
set_option maxHeartbeats 2000000 in
theorem refWidIN_works (p : Tri × Nat) {v : Value} {a : Iv} {w : World} (ha : IvA w v a) (h : Hid (okI a = true)) (g1 : Hid (subF a.2 a.1 = p)) : Calls Tryz.prog 20 #[v] w (ResF w p) := by
  have ha0 := ha
  obtain ⟨an, n, cn, ad, d, cd, an', n', cn', ad', d', cd', rfl, u1, u2, u3, u4⟩ := ha
  have al : FracA w (.agg #[.bool a.1.1, .slice an n cn, .slice ad d cd]) a.1 := ⟨_, _, _, _, _, _, rfl, u1, u2⟩
  have ah : FracA w (.agg #[.bool a.2.1, .slice an' n' cn', .slice ad' d' cd']) a.2 := ⟨_, _, _, _, _, _, rfl, u3, u4⟩
  obtain ⟨T, hA, hB⟩ := startW w a an n cn ad d cd an' n' cn' ad' d' cd'
  clear u1 u2 u3 u4
  replace ha0 := ha0.mono T
  replace al := al.mono T
  replace ah := ah.mono T
  have ca0 := hA.c0
  have ca1 := hA.c1
  have ca2 := hA.c2
  have ca3 := hA.c3
  have ca4 := hA.c4
  have ca5 := hA.c5
  go_enter Tryz.func20, Tryz.ntmps20
  go_wp2_with fail
  refine (refValidIN true ha0 h).mono ?_
  rintro e w1 ⟨rfl, h1⟩
  replace hA := hA.mono h1
  replace hB := hB.mono h1
  replace al := al.mono h1
  replace ah := ah.mono h1
  replace T := Add.trans T h1
  clear h1 ha0 h ca0 ca1 ca2 ca3 ca4 ca5
  have ca0 := hA.c0
  have ca1 := hA.c1
  have ca2 := hA.c2
  have ca3 := hA.c3
  have ca4 := hA.c4
  have ca5 := hA.c5
  go_wp2_with fail
  refine (refSubN2 p ah al g1).mono ?_
  rintro e w2 ⟨vr, rfl, nr, h2⟩
  replace hB := hB.mono h2
  replace T := Add.trans T h2
  clear h2 al ah g1 hA ca0 ca1 ca2 ca3 ca4 ca5
  obtain ⟨an2, n2, cn2, ad2, d2, cd2, rfl, m1, m2⟩ := nr
  have s0 := hB.c0
  have s1 := hB.c1
  have s2 := hB.c2
  have s3 := hB.fr 0
  have s4 := hB.fr 1
  have s5 := hB.fr 2
  have hF := resF_put (w := w) (p := p) hB ⟨an2, n2, cn2, ad2, d2, cd2, rfl, m1, m2⟩ T (by omega)
  clear hB T m1 m2
  unfold put3 at hF
  have HF := Lib.hid hF
  clear hF
  go_wp2_with fail
  exact bodyPost_ret (v := .tuple #[.agg #[.bool p.1.1, .slice an2 n2 cn2, .slice ad2 d2 cd2], .int .i64 (p.2 : Nat)]) (by simp [results, Tryz.results20, go_sem, s0, s1, s2]) rfl HF.out
set_option maxRecDepth 100000 in
set_option maxHeartbeats 2000000 in
theorem refIntN (z : Int) (s : Bool) (N D : Nat) (w : World) (r1 : Hid ((-9223372036854775808 ≤ z ∧ z ≤ 9223372036854775807) ∧ (-9223372036854775808 : Int) ≤ 1 ∧ (1 : Int) ≤ 9223372036854775807)) (hm : Hid (makeF z 1 = ((s, N, D), 0))) : Calls Tryz.prog 32 #[.int .i64 z] w (RetF w (s, N, D)) := by
  have hB := box_new w false none 0 0 none 0 0
  have T : Add w (w.alloc (.cells #[.bool false, .slice none 0 0, .slice none 0 0] 25)) := add_new _ _
  go_enter Tryz.func32, Tryz.ntmps32
  go_wp2_with fail
  refine ((refMakeF _ r1 hm).mono fun _ _ g => g.ok).mono ?_
  rintro e w1 ⟨a1, n1, c1, e1, d1, k1, rfl, x1, y1, h1⟩
  replace hB := hB.mono h1
  replace T := Add.trans T h1
  clear h1 r1 hm
  obtain ⟨tt, hV⟩ := laid_var w1 s a1 n1 c1 e1 d1 k1
  replace hB := hB.mono tt
  replace x1 := x1.mono tt
  replace y1 := y1.mono tt
  replace T := Add.trans T tt
  clear tt
  have ha0 := hV.c0
  have ha1 := hV.c1
  have ha2 := hV.c2
  have hc0 := hB.c0
  have hc1 := hB.c1
  have hc2 := hB.c2
  have hc3 := hB.fr 0
  have hc4 := hB.fr 1
  have hc5 := hB.fr 2
  have hF := retF_put (w := w) (x := (s, N, D)) hB ⟨a1, n1, c1, e1, d1, k1, rfl, x1, y1⟩ T (Nat.le_refl _)
  clear hB T x1 y1 hV
  unfold put3 at hF
  have HF := Lib.hid hF
  clear hF
  go_wp2_with fail
  exact bodyPost_ret (v := .agg #[.bool s, .slice a1 n1 c1, .slice e1 d1 k1]) (by simp [results, Tryz.results32, go_sem, hc0, hc1, hc2]) rfl HF.out
end Go.Proofs.YtifpfoeecnkhoaaGreatDoor

namespace Go.Proofs.YtifpfoeecnkhoaaGreatDoor
open Go.RowKit NatM Go.Proofs.YtifpfoeecnkhoaaGreatDoor.Api

theorem numT {w : World} {k : Nat} {b : Bool} {N D : Nat} {an n cn ad d cd} (h1 : Num w (.slice an n cn) N) (h2 : Num w (.slice ad d cd) D) (s : Sz k (b, N, D)) (hk : k ≤ 128) : FracA w (.agg #[.bool b, .slice an n cn, .slice ad d cd]) (b, N, D) :=
  ⟨an, n, cn, ad, d, cd, rfl, num_nv h1 (lt_up s.2.1 (by omega)), num_nv h2 (lt_up s.2.2 (by omega))⟩
theorem szSmall (b : Bool) (N D : Nat) (h1 : N < 4294967296) (h2 : D < 4294967296) (h0 : D ≠ 0) : Sz 1 (b, N, D) := ⟨h0, by rw [show pw 1 = 4294967296 from by decide]; exact h1, by rw [show pw 1 = 4294967296 from by decide]; exact h2⟩
theorem intF {b : Bool} {z : Int} {N : Nat} (h : can (frac (!(decide (z < 0) == decide ((1 : Int) < 0))) z.natAbs 1) = (b, N, 1)) (hz : z.natAbs < 4294967296) : makeF z 1 = ((b, N, 1), 0) := by
  have g := fit_of (q := frac (!(decide (z < 0) == decide ((1 : Int) < 0))) z.natAbs 1) (S := z.natAbs) (E := 1) (k := 1) rfl (by decide) (by rw [show pw 1 = 4294967296 from by decide]; exact hz) (by decide) (by decide)
  unfold makeF
  rw [if_neg (by decide)]
  show fitQ (frac _ z.natAbs 1) = _
  rw [g.1, h]
theorem int_m1 (w : World) : Calls Tryz.prog 32 #[.int .i64 (-1)] w (RetF w (true, 1, 1)) := refIntN (-1) true 1 1 w (Lib.hid (by decide)) (Lib.hid (intF (by decide +kernel) (by decide)))
theorem int_p2 (w : World) : Calls Tryz.prog 32 #[.int .i64 2] w (RetF w (false, 2, 1)) := refIntN 2 false 2 1 w (Lib.hid (by decide)) (Lib.hid (intF (by decide +kernel) (by decide)))
theorem int_m3 (w : World) : Calls Tryz.prog 32 #[.int .i64 (-3)] w (RetF w (true, 3, 1)) := refIntN (-3) true 3 1 w (Lib.hid (by decide)) (Lib.hid (intF (by decide +kernel) (by decide)))
theorem int_p1 (w : World) : Calls Tryz.prog 32 #[.int .i64 1] w (RetF w (false, 1, 1)) := refIntN 1 false 1 1 w (Lib.hid (by decide)) (Lib.hid (intF (by decide +kernel) (by decide)))
theorem int_m6 (w : World) : Calls Tryz.prog 32 #[.int .i64 (-6)] w (RetF w (true, 6, 1)) := refIntN (-6) true 6 1 w (Lib.hid (by decide)) (Lib.hid (intF (by decide +kernel) (by decide)))
theorem int_p3 (w : World) : Calls Tryz.prog 32 #[.int .i64 3] w (RetF w (false, 3, 1)) := refIntN 3 false 3 1 w (Lib.hid (by decide)) (Lib.hid (intF (by decide +kernel) (by decide)))
theorem aw_okA : okI ((true, 1, 1), (false, 2, 1)) = true := okI_iff.2 ⟨(szSmall _ _ _ (by decide) (by decide) (by decide)).ok (by decide), (szSmall _ _ _ (by decide) (by decide) (by decide)).ok (by decide), by decide +kernel⟩
theorem aw_okB : okI ((true, 3, 1), (false, 1, 1)) = true := okI_iff.2 ⟨(szSmall _ _ _ (by decide) (by decide) (by decide)).ok (by decide), (szSmall _ _ _ (by decide) (by decide) (by decide)).ok (by decide), by decide +kernel⟩
theorem aw_szA : SzI 1 ((true, 1, 1), (false, 2, 1)) := ⟨szSmall _ _ _ (by decide) (by decide) (by decide), szSmall _ _ _ (by decide) (by decide) (by decide)⟩
theorem aw_szB : SzI 1 ((true, 3, 1), (false, 1, 1)) := ⟨szSmall _ _ _ (by decide) (by decide) (by decide), szSmall _ _ _ (by decide) (by decide) (by decide)⟩
theorem aw_mul : (can (lo4 ((true, 1, 1), (false, 2, 1)) ((true, 3, 1), (false, 1, 1))), can (hi4 ((true, 1, 1), (false, 2, 1)) ((true, 3, 1), (false, 1, 1)))) = ((true, 6, 1), (false, 3, 1)) := by decide +kernel
theorem aw_sub1 : subF (true, 1, 1) (false, 2, 1) = ((true, 3, 1), 0) := by rw [(sub_sz aw_szA.1 aw_szA.2 (by decide)).1]; exact congrArg (·, 0) (show can _ = _ by decide +kernel)
theorem aw_sub2 : subF (false, 2, 1) (true, 1, 1) = ((false, 3, 1), 0) := by rw [(sub_sz aw_szA.2 aw_szA.1 (by decide)).1]; exact congrArg (·, 0) (show can _ = _ by decide +kernel)
theorem ivA_zero (w : World) : IvA w (.agg #[.bool false, .slice none 0 0, .slice none 0 0, .bool false, .slice none 0 0, .slice none 0 0]) zI :=
  (ivT_zero w).arg (Nat.pos_of_ne_zero (by decide +kernel)) (Nat.pos_of_ne_zero (by decide +kernel)) (Nat.pos_of_ne_zero (by decide +kernel)) (Nat.pos_of_ne_zero (by decide +kernel))
theorem selfI (x : Iv) : Hid (decide (x = x) = true) := Lib.hid (by simp)
theorem zI_bad : okI zI = false := by
  have : okF (false, 0, 0) = false := by
    cases h : okF (false, 0, 0)
    · rfl
    · exact absurd rfl (okF_iff.1 h).1
  unfold okI zI; rw [this]; rfl
set_option maxRecDepth 100000 in
set_option maxHeartbeats 8000000 in
theorem awake3_any (w : World) (hT : Tab w) : Calls Tryz.prog 7 #[] w (BoolIs w true) := by
  have T : Add w w := Below.refl _ _
  have hbu := @iv_build
  go_enter Tryz.func7, Tryz.ntmps7
  go_wp2_with fail
  refine (int_m1 _).mono ?_
  rintro e w1 ⟨v1, rfl, ⟨a1, n1, k1, e1, d1, l1, rfl, x1, y1⟩, h1⟩
  replace hT := hT.mono h1
  replace T := Add.trans T h1
  clear h1 
  go_wp2_with fail
  refine (int_p2 _).mono ?_
  rintro e w2 ⟨v2, rfl, ⟨a2, n2, k2, e2, d2, l2, rfl, x2, y2⟩, h2⟩
  replace hT := hT.mono h2
  replace x1 := x1.mono h2
  replace y1 := y1.mono h2
  replace T := Add.trans T h2
  clear h2 
  obtain ⟨tt, hA⟩ := laid6 w2 true a1 n1 k1 e1 d1 l1 false a2 n2 k2 e2 d2 l2
  replace hT := hT.mono tt
  replace x1 := x1.mono tt
  replace y1 := y1.mono tt
  replace x2 := x2.mono tt
  replace y2 := y2.mono tt
  replace T := Add.trans T tt
  clear tt
  go_wp2_with fail
  refine (int_m3 _).mono ?_
  rintro e w3 ⟨v3, rfl, ⟨a3, n3, k3, e3, d3, l3, rfl, x3, y3⟩, h3⟩
  replace hT := hT.mono h3
  replace hA := hA.mono h3
  replace x1 := x1.mono h3
  replace y1 := y1.mono h3
  replace x2 := x2.mono h3
  replace y2 := y2.mono h3
  replace T := Add.trans T h3
  clear h3 
  go_wp2_with fail
  refine (int_p1 _).mono ?_
  rintro e w4 ⟨v4, rfl, ⟨a4, n4, k4, e4, d4, l4, rfl, x4, y4⟩, h4⟩
  replace hT := hT.mono h4
  replace hA := hA.mono h4
  replace x1 := x1.mono h4
  replace y1 := y1.mono h4
  replace x2 := x2.mono h4
  replace y2 := y2.mono h4
  replace x3 := x3.mono h4
  replace y3 := y3.mono h4
  replace T := Add.trans T h4
  clear h4 
  obtain ⟨tt, hB⟩ := laid6 w4 true a3 n3 k3 e3 d3 l3 false a4 n4 k4 e4 d4 l4
  replace hT := hT.mono tt
  replace hA := hA.mono tt
  replace x1 := x1.mono tt
  replace y1 := y1.mono tt
  replace x2 := x2.mono tt
  replace y2 := y2.mono tt
  replace x3 := x3.mono tt
  replace y3 := y3.mono tt
  replace x4 := x4.mono tt
  replace y4 := y4.mono tt
  replace T := Add.trans T tt
  clear tt
  have qa : IvA _ (.agg #[.bool true, .slice a1 n1 k1, .slice e1 d1 l1, .bool false, .slice a2 n2 k2, .slice e2 d2 l2]) ((true, 1, 1), (false, 2, 1)) := ⟨_, _, _, _, _, _, _, _, _, _, _, _, rfl, num_nv x1 (lt_up aw_szA.1.2.1 (by decide)), num_nv y1 (lt_up aw_szA.1.2.2 (by decide)), num_nv x2 (lt_up aw_szA.2.2.1 (by decide)), num_nv y2 (lt_up aw_szA.2.2.2 (by decide))⟩
  have qb : IvA _ (.agg #[.bool true, .slice a3 n3 k3, .slice e3 d3 l3, .bool false, .slice a4 n4 k4, .slice e4 d4 l4]) ((true, 3, 1), (false, 1, 1)) := ⟨_, _, _, _, _, _, _, _, _, _, _, _, rfl, num_nv x3 (lt_up aw_szB.1.2.1 (by decide)), num_nv y3 (lt_up aw_szB.1.2.2 (by decide)), num_nv x4 (lt_up aw_szB.2.2.1 (by decide)), num_nv y4 (lt_up aw_szB.2.2.2 (by decide))⟩
  clear x1 y1 x2 y2 x3 y3 x4 y4
  have OM := Lib.hid (And.intro aw_okA aw_okB)
  have OS := Lib.hid (And.intro aw_okA aw_okA)
  have SM : Hid (SzI 1 ((true, 1, 1), (false, 2, 1)) ∧ SzI 1 ((true, 3, 1), (false, 1, 1)) ∧ 1 + 1 ≤ 128) := Lib.hid ⟨aw_szA, aw_szB, by decide⟩
  have PM := Lib.hid aw_mul
  have S1 := Lib.hid aw_sub1
  have S2 := Lib.hid aw_sub2
  have ca0 := hA.c0
  have ca1 := hA.c1
  have ca2 := hA.c2
  have ca3 := hA.c3
  have ca4 := hA.c4
  have ca5 := hA.c5
  have cb0 := hB.c0
  have cb1 := hB.c1
  have cb2 := hB.c2
  have cb3 := hB.c3
  have cb4 := hB.c4
  have cb5 := hB.c5
  go_wp2_with fail
  refine ((mulIN_works 1 1 _ qa qb hT OM SM PM).mono fun _ _ g => g.ok).mono ?_
  rintro e w5 ⟨a5, n5, k5, e5, d5, l5, a6, n6, k6, e6, d6, l6, rfl, x5, y5, x6, y6, h5⟩
  replace hT := hT.mono h5
  replace hA := hA.mono h5
  replace qa := qa.mono h5
  replace T := Add.trans T h5
  clear h5 OM SM PM qb hB ca0 ca1 ca2 ca3 ca4 ca5 cb0 cb1 cb2 cb3 cb4 cb5
  obtain ⟨tt, hP⟩ := laid6 w5 true a5 n5 k5 e5 d5 l5 false a6 n6 k6 e6 d6 l6
  replace hT := hT.mono tt
  replace hA := hA.mono tt
  replace qa := qa.mono tt
  replace x5 := x5.mono tt
  replace y5 := y5.mono tt
  replace x6 := x6.mono tt
  replace y6 := y6.mono tt
  replace T := Add.trans T tt
  clear tt
  have ca0 := hA.c0
  have ca1 := hA.c1
  have ca2 := hA.c2
  have ca3 := hA.c3
  have ca4 := hA.c4
  have ca5 := hA.c5
  go_wp2_with fail
  refine ((subIN_works _ _ _ _ _ _ qa qa hT OS S1 S2).mono fun _ _ g => g.ok).mono ?_
  rintro e w6 ⟨a7, n7, k7, e7, d7, l7, a8, n8, k8, e8, d8, l8, rfl, x7, y7, x8, y8, h6⟩
  replace hP := hP.mono h6
  replace x5 := x5.mono h6
  replace y5 := y5.mono h6
  replace x6 := x6.mono h6
  replace y6 := y6.mono h6
  replace T := Add.trans T h6
  clear h6 OS S1 S2 qa hA hT ca0 ca1 ca2 ca3 ca4 ca5
  obtain ⟨tt, hD⟩ := laid6 w6 true a7 n7 k7 e7 d7 l7 false a8 n8 k8 e8 d8 l8
  replace hP := hP.mono tt
  replace x5 := x5.mono tt
  replace y5 := y5.mono tt
  replace x6 := x6.mono tt
  replace y6 := y6.mono tt
  replace x7 := x7.mono tt
  replace y7 := y7.mono tt
  replace x8 := x8.mono tt
  replace y8 := y8.mono tt
  replace T := Add.trans T tt
  clear tt
  have hz := iv_zero
  go_wp2_with fail
  obtain ⟨W5, hW5⟩ : ∃ W5, W5 = w6.alloc (.cells #[.bool true, .slice a7 n7 k7, .slice e7 d7 l7, .bool false, .slice a8 n8 k8, .slice e8 d8 l8] 27) := ⟨_, rfl⟩
  rw [← hW5] at T hP hD x5 y5 x6 y6 x7 y7 x8 y8 ⊢
  clear hW5
  have ip : IvT W5 (.agg #[.bool true, .slice a5 n5 k5, .slice e5 d5 l5, .bool false, .slice a6 n6 k6, .slice e6 d6 l6]) ((true, 6, 1), (false, 3, 1)) := ⟨_, _, _, _, _, _, _, _, _, _, _, _, rfl, x5, y5, x6, y6⟩
  have id' : IvT W5 (.agg #[.bool true, .slice a7 n7 k7, .slice e7 d7 l7, .bool false, .slice a8 n8 k8, .slice e8 d8 l8]) ((true, 3, 1), (false, 3, 1)) := ⟨_, _, _, _, _, _, _, _, _, _, _, _, rfl, x7, y7, x8, y8⟩
  have IP := Lib.hid ip
  have ID := Lib.hid id'
  have K0 : Hid (∀ w', Add W5 w' → w'.cell? ⟨w5.heap.size, 0, none⟩ = some (.bool true) ∧ w'.cell? ⟨w5.heap.size, 1, none⟩ = some (.slice a5 n5 k5) ∧ w'.cell? ⟨w5.heap.size, 2, none⟩ = some (.slice e5 d5 l5) ∧ w'.cell? ⟨w5.heap.size, 3, none⟩ = some (.bool false) ∧ w'.cell? ⟨w5.heap.size, 4, none⟩ = some (.slice a6 n6 k6) ∧ w'.cell? ⟨w5.heap.size, 5, none⟩ = some (.slice e6 d6 l6) ∧ w'.cell? ⟨w6.heap.size, 0, none⟩ = some (.bool true) ∧ w'.cell? ⟨w6.heap.size, 1, none⟩ = some (.slice a7 n7 k7) ∧ w'.cell? ⟨w6.heap.size, 2, none⟩ = some (.slice e7 d7 l7) ∧ w'.cell? ⟨w6.heap.size, 3, none⟩ = some (.bool false) ∧ w'.cell? ⟨w6.heap.size, 4, none⟩ = some (.slice a8 n8 k8) ∧ w'.cell? ⟨w6.heap.size, 5, none⟩ = some (.slice e8 d8 l8)) := Lib.hid fun w' k => ⟨(hP.mono k).c0, (hP.mono k).c1, (hP.mono k).c2, (hP.mono k).c3, (hP.mono k).c4, (hP.mono k).c5, (hD.mono k).c0, (hD.mono k).c1, (hD.mono k).c2, (hD.mono k).c3, (hD.mono k).c4, (hD.mono k).c5⟩
  have FZ := Lib.hid zI_bad
  have cp0 := hP.c0
  have cp1 := hP.c1
  have cp2 := hP.c2
  have cp3 := hP.c3
  have cp4 := hP.c4
  have cp5 := hP.c5
  have cd0 := hD.c0
  have cd1 := hD.c1
  have cd2 := hD.c2
  have cd3 := hD.c3
  have cd4 := hD.c4
  have cd5 := hD.c5
  clear x5 y5 x6 y6 x7 y7 x8 y8 ip id' hP hD
  go_region_held3 (fun w' => w'.cell? ⟨w5.heap.size, 0, none⟩ = some (.bool true) ∧ w'.cell? ⟨w5.heap.size, 1, none⟩ = some (.slice a5 n5 k5) ∧ w'.cell? ⟨w5.heap.size, 2, none⟩ = some (.slice e5 d5 l5) ∧ w'.cell? ⟨w5.heap.size, 3, none⟩ = some (.bool false) ∧ w'.cell? ⟨w5.heap.size, 4, none⟩ = some (.slice a6 n6 k6) ∧ w'.cell? ⟨w5.heap.size, 5, none⟩ = some (.slice e6 d6 l6) ∧ w'.cell? ⟨w6.heap.size, 0, none⟩ = some (.bool true) ∧ w'.cell? ⟨w6.heap.size, 1, none⟩ = some (.slice a7 n7 k7) ∧ w'.cell? ⟨w6.heap.size, 2, none⟩ = some (.slice e7 d7 l7) ∧ w'.cell? ⟨w6.heap.size, 3, none⟩ = some (.bool false) ∧ w'.cell? ⟨w6.heap.size, 4, none⟩ = some (.slice a8 n8 k8) ∧ w'.cell? ⟨w6.heap.size, 5, none⟩ = some (.slice e8 d8 l8))
    (first | with_reducible exact K0.out _ t15 | with_reducible exact K0.out _ t14 | with_reducible exact K0.out _ t13 | with_reducible exact K0.out _ t12 | with_reducible exact K0.out _ t11 | with_reducible exact K0.out _ t10 | with_reducible exact K0.out _ t9 | with_reducible exact K0.out _ (Below.drew (Below.refl _ _)) | go_keep)
    (first | (go_at_call 32; ((with_reducible refine (int_m6 _).mono ?_); rintro e w9 ⟨v9, rfl, ⟨a9, n9, k9, e9, d9, l9, rfl, x9, y9⟩, hq9⟩; have t9 := Add.trans (Below.drew (Below.refl _ _) : Add W5 (World.drew W5)) hq9))
           | (go_at_call 32; ((with_reducible refine (int_p3 w9).mono ?_); rintro e w10 ⟨v10, rfl, ⟨a10, n10, k10, e10, d10, l10, rfl, x10, y10⟩, hq10⟩; have t10 := Add.trans t9 hq10; have x9 := x9.mono hq10; have y9 := y9.mono hq10))
           | (have iv11 : IvT w10 (.agg #[.bool true, .slice a9 n9 k9, .slice e9 d9 l9, .bool false, .slice a10 n10 k10, .slice e10 d10 l10]) ((true, 6, 1), (false, 3, 1)) := ⟨_, _, _, _, _, _, _, _, _, _, _, _, rfl, x9, y9, x10, y10⟩; go_at_call 10; ((with_reducible refine (sameIN true (IP.out.mono t10) iv11 (selfI _)).mono ?_); rintro e w11 ⟨rfl, hq11⟩; have t11 := Add.trans t10 hq11))
           | (go_at_call 32; ((with_reducible refine (int_m3 w11).mono ?_); rintro e w12 ⟨v12, rfl, ⟨a12, n12, k12, e12, d12, l12, rfl, x12, y12⟩, hq12⟩; have t12 := Add.trans t11 hq12))
           | (go_at_call 32; ((with_reducible refine (int_p3 w12).mono ?_); rintro e w13 ⟨v13, rfl, ⟨a13, n13, k13, e13, d13, l13, rfl, x13, y13⟩, hq13⟩; have t13 := Add.trans t12 hq13; have x12 := x12.mono hq13; have y12 := y12.mono hq13))
           | (have iv14 : IvT w13 (.agg #[.bool true, .slice a12 n12 k12, .slice e12 d12 l12, .bool false, .slice a13 n13 k13, .slice e13 d13 l13]) ((true, 3, 1), (false, 3, 1)) := ⟨_, _, _, _, _, _, _, _, _, _, _, _, rfl, x12, y12, x13, y13⟩; go_at_call 10; ((with_reducible refine (sameIN true (ID.out.mono t13) iv14 (selfI _)).mono ?_); rintro e w14 ⟨rfl, hq14⟩; have t14 := Add.trans t13 hq14))
           | (go_at_call 24; ((with_reducible refine (validIN false (ivA_zero w14) FZ).mono ?_); rintro e w15 ⟨rfl, hq15⟩; have t15 := Add.trans t14 hq15)))
  have T9 := Add.trans T t15
  have HF : Hid (BoolIs w true (.returned (.bool true)) w15) := Lib.hid ⟨rfl, T9⟩
  clear T9 T K0 IP ID FZ hz hbu
  go_wp2_with fail
  go_ret
  exact HF.out
end Go.Proofs.YtifpfoeecnkhoaaGreatDoor

namespace Go.Proofs.YtifpfoeecnkhoaaGreatDoor
open Go.RowKit NatM Go.Proofs.YtifpfoeecnkhoaaGreatDoor.Api

/-- No interval, and an error. -/
def NoI (w : World) (c : Int) (e : Ending) (w' : World) : Prop := ∃ a1 n1 k1 e1 d1 l1 a2 m2 k2 e2 d4 l2, e = .returned (.tuple #[.agg #[.bool false, .slice a1 n1 k1, .slice e1 d1 l1, .bool false, .slice a2 m2 k2, .slice e2 d4 l2], .int .i64 c]) ∧ Num w' (.slice a1 n1 k1) 0 ∧ Num w' (.slice e1 d1 l1) 0 ∧ Num w' (.slice a2 m2 k2) 0 ∧ Num w' (.slice e2 d4 l2) 0 ∧ Add w w'
theorem ResI.no {w : World} {c : Nat} {e : Ending} {w' : World} (h : ResI w (zI, c) e w') : NoI w (c : Nat) e w' := by
  obtain ⟨v, rfl, ⟨a1, a2, a3, a4, a5, a6, a7, a8, a9, b1, b2, b3, rfl, g1, g2, g3, g4⟩, T⟩ := h
  exact ⟨a1, a2, a3, a4, a5, a6, a7, a8, a9, b1, b2, b3, rfl, g1, g2, g3, g4, T⟩
theorem cmpQ_neg {p q : Rat} : cmpQ p q < 0 ↔ p < q := by unfold cmpQ; grind
theorem cmpQ_zero {p q : Rat} : cmpQ p q = 0 ↔ p = q := by unfold cmpQ; grind
set_option maxRecDepth 100000 in
set_option maxHeartbeats 2000000 in
theorem lessN (t : Bool) {v v' : Value} {x y : Tri} {w : World} (hx : FracA w v x) (hy : FracA w v' y) (h : Hid (okF x = true ∧ okF y = true)) (ht : Hid (decide (qv x < qv y) = t)) : Calls Tryz.prog 46 #[v, v'] w (BoolIs w t) := by
  have hx0 := hx
  have hy0 := hy
  obtain ⟨an, n, cn, ad, d, cd, rfl, uN, uD⟩ := hx
  obtain ⟨an', n', cn', ad', d', cd', rfl, uN', uD'⟩ := hy
  obtain ⟨T, hX, hY⟩ := start2 w x.1 an n cn ad d cd y.1 an' n' cn' ad' d' cd'
  replace hx0 := hx0.mono T
  replace hy0 := hy0.mono T
  obtain ⟨i, hi⟩ : ∃ i, cmpQ (qv x) (qv y) = i := ⟨_, rfl⟩
  have di : decide (i < 0) = t := by rw [← hi, ← ht.out, decide_eq_decide]; exact cmpQ_neg
  have HI := Lib.hid hi
  clear uN uD uN' uD' hi ht
  have hc0 := hX.c0
  have hc1 := hX.c1
  have hc2 := hX.c2
  have hd0 := hY.c0
  have hd1 := hY.c1
  have hd2 := hY.c2
  go_enter Tryz.func46, Tryz.ntmps46
  go_wp2_with fail
  refine (orderN i hx0 hy0 h HI).mono ?_
  rintro e w1 ⟨rfl, h1⟩
  replace T := Add.trans T h1
  clear h1 hX hY hx0 hy0 h HI hc0 hc1 hc2 hd0 hd1 hd2
  go_wp2_with fail
  go_ret
  exact ⟨rfl, T⟩
set_option maxRecDepth 100000 in
set_option maxHeartbeats 2000000 in
theorem pairN_ok {v v' : Value} {x y : Tri} {w : World} (hx : FracT w v x) (hy : FracT w v' y) : Calls Tryz.prog 35 #[v, .int .i64 0, v', .int .i64 0] w (ResI w ((x, y), 0)) := by
  obtain ⟨an, n, cn, ad, d, cd, rfl, uN, uD⟩ := hx
  obtain ⟨an', n', cn', ad', d', cd', rfl, uN', uD'⟩ := hy
  have hN := And.intro uN (And.intro uD (And.intro uN' uD'))
  obtain ⟨T, hX, hY, hR⟩ := startB w x.1 an n cn ad d cd y.1 an' n' cn' ad' d' cd'
  replace uN := uN.mono T
  replace uD := uD.mono T
  replace uN' := uN'.mono T
  replace uD' := uD'.mono T
  have TF : Add w (((w.alloc (.cells #[.bool x.1, .slice an n cn, .slice ad d cd] 25)).alloc (.cells #[.bool y.1, .slice an' n' cn', .slice ad' d' cd'] 25)).alloc (.cells #[.bool x.1, .slice an n cn, .slice ad d cd, .bool y.1, .slice an' n' cn', .slice ad' d' cd'] 27)) := Add.trans (Add.trans (add_new _ _) (add_new _ _)) (add_new _ _)
  have hP : Box6 (((w.alloc (.cells #[.bool x.1, .slice an n cn, .slice ad d cd] 25)).alloc (.cells #[.bool y.1, .slice an' n' cn', .slice ad' d' cd'] 25)).alloc (.cells #[.bool x.1, .slice an n cn, .slice ad d cd, .bool y.1, .slice an' n' cn', .slice ad' d' cd'] 27)) (w.heap.size + 2) x.1 an n cn ad d cd y.1 an' n' cn' ad' d' cd' := Box6.cells (by simp)
  have hF : ResI w ((x, y), 0) (.returned (.tuple #[.agg #[.bool x.1, .slice an n cn, .slice ad d cd, .bool y.1, .slice an' n' cn', .slice ad' d' cd'], .int .i64 0])) (((w.alloc (.cells #[.bool x.1, .slice an n cn, .slice ad d cd] 25)).alloc (.cells #[.bool y.1, .slice an' n' cn', .slice ad' d' cd'] 25)).alloc (.cells #[.bool x.1, .slice an n cn, .slice ad d cd, .bool y.1, .slice an' n' cn', .slice ad' d' cd'] 27)) := ⟨_, rfl, ⟨_, _, _, _, _, _, _, _, _, _, _, _, rfl, hN.1.mono TF, hN.2.1.mono TF, hN.2.2.1.mono TF, hN.2.2.2.mono TF⟩, TF⟩
  obtain ⟨W7, hW7⟩ : ∃ W7, W7 = (((w.alloc (.cells #[.bool x.1, .slice an n cn, .slice ad d cd] 25)).alloc (.cells #[.bool y.1, .slice an' n' cn', .slice ad' d' cd'] 25)).alloc (.cells #[.bool x.1, .slice an n cn, .slice ad d cd, .bool y.1, .slice an' n' cn', .slice ad' d' cd'] 27)) := ⟨_, rfl⟩
  rw [← hW7] at hP hF
  have HF := Lib.hid hF
  have HW := Lib.hid hW7
  have hbu := iv_build x.1 an n cn ad d cd y.1 an' n' cn' ad' d' cd'
  have hc0 := hX.c0
  have hc1 := hX.c1
  have hc2 := hX.c2
  have hd0 := hY.c0
  have hd1 := hY.c1
  have hd2 := hY.c2
  have hr0 := hR.c0
  have hr1 := hR.c1
  have hr2 := hR.c2
  have hr3 := hR.c3
  have hr4 := hR.c4
  have hr5 := hR.c5
  have hr6 := hR.fr 0
  have hr7 := hR.fr 1
  have hr8 := hR.fr 2
  have hr9 := hR.fr 3
  have hr10 := hR.fr 4
  have hr11 := hR.fr 5
  clear hF hW7 hR T TF hX hY uN uD uN' uD' hN
  go_enter Tryz.func35, Tryz.ntmps35
  go_wp2_with fail
  rw [← HW.out]
  exact bodyPost_ret (v := .tuple #[.agg #[.bool x.1, .slice an n cn, .slice ad d cd, .bool y.1, .slice an' n' cn', .slice ad' d' cd'], .int .i64 0]) (by simp [results, Tryz.results35, go_sem, hP.c0, hP.c1, hP.c2, hP.c3, hP.c4, hP.c5]) rfl HF.out
set_option maxRecDepth 100000 in
set_option maxHeartbeats 2000000 in
theorem pairN_err (c : Nat) {v v' : Value} {x y : Tri} {w : World} {f : Int} (hx : FracT w v x) (hy : FracT w v' y) (hc : Hid (((c : Int) != 0) = true)) : Calls Tryz.prog 35 #[v, .int .i64 (c : Nat), v', .int .i64 f] w (ResI w (zI, c)) := by
  obtain ⟨an, n, cn, ad, d, cd, rfl, uN, uD⟩ := hx
  obtain ⟨an', n', cn', ad', d', cd', rfl, uN', uD'⟩ := hy
  obtain ⟨T, hX, hY, hR⟩ := startB w x.1 an n cn ad d cd y.1 an' n' cn' ad' d' cd'
  replace uN := uN.mono T
  replace uD := uD.mono T
  replace uN' := uN'.mono T
  replace uD' := uD'.mono T
  have hF : ResI w (zI, c) (.returned (.tuple #[.agg #[.bool false, .slice none 0 0, .slice none 0 0, .bool false, .slice none 0 0, .slice none 0 0], .int .i64 (c : Nat)])) (((w.alloc (.cells #[.bool x.1, .slice an n cn, .slice ad d cd] 25)).alloc (.cells #[.bool y.1, .slice an' n' cn', .slice ad' d' cd'] 25)).alloc (.cells #[.bool false, .slice none 0 0, .slice none 0 0, .bool false, .slice none 0 0, .slice none 0 0] 27)) := ⟨_, rfl, ivT_zero _, T⟩
  obtain ⟨W7, hW7⟩ : ∃ W7, W7 = (((w.alloc (.cells #[.bool x.1, .slice an n cn, .slice ad d cd] 25)).alloc (.cells #[.bool y.1, .slice an' n' cn', .slice ad' d' cd'] 25)).alloc (.cells #[.bool false, .slice none 0 0, .slice none 0 0, .bool false, .slice none 0 0, .slice none 0 0] 27)) := ⟨_, rfl⟩
  have hP := hR
  rw [← hW7] at hP hF
  have HF := Lib.hid hF
  have HW := Lib.hid hW7
  have hbz := iv_zero
  have hcc := hc.out
  have hc0 := hX.c0
  have hc1 := hX.c1
  have hc2 := hX.c2
  have hd0 := hY.c0
  have hd1 := hY.c1
  have hd2 := hY.c2
  have hr0 := hR.c0
  have hr1 := hR.c1
  have hr2 := hR.c2
  have hr3 := hR.c3
  have hr4 := hR.c4
  have hr5 := hR.c5
  have hr6 := hR.fr 0
  have hr7 := hR.fr 1
  have hr8 := hR.fr 2
  have hr9 := hR.fr 3
  have hr10 := hR.fr 4
  have hr11 := hR.fr 5
  clear hF hW7 hR T hX hY uN uD uN' uD' hc
  go_enter Tryz.func35, Tryz.ntmps35
  go_wp2_with fail
  rw [← HW.out]
  exact bodyPost_ret (v := .tuple #[.agg #[.bool false, .slice none 0 0, .slice none 0 0, .bool false, .slice none 0 0, .slice none 0 0], .int .i64 (c : Nat)]) (by simp [results, Tryz.results35, go_sem, hP.c0, hP.c1, hP.c2, hP.c3, hP.c4, hP.c5]) rfl HF.out
end Go.Proofs.YtifpfoeecnkhoaaGreatDoor

namespace Go.Proofs.YtifpfoeecnkhoaaGreatDoor
open Go.RowKit NatM Go.Proofs.YtifpfoeecnkhoaaGreatDoor.Api

abbrev IvL := FrL × FrL
def ivOf (x : IvL) : Iv := (triOf x.1, triOf x.2)
/-- An interval as it came in. -/
def IvI (w : World) (v : Value) (x : IvL) : Prop := ∃ an n cn ad d cd an' n' cn' ad' d' cd', v = .agg #[.bool x.1.1, .slice an n cn, .slice ad d cd, .bool x.2.1, .slice an' n' cn', .slice ad' d' cd'] ∧ Reads w (.slice an n cn) x.1.2.1 ∧ Reads w (.slice ad d cd) x.1.2.2 ∧ Reads w (.slice an' n' cn') x.2.2.1 ∧ Reads w (.slice ad' d' cd') x.2.2.2
theorem IvI.mono {w w' : World} {v : Value} {x : IvL} (h : IvI w v x) (hb : Add w w') : IvI w' v x := by
  obtain ⟨a1, a2, a3, a4, a5, a6, a7, a8, a9, b1, b2, b3, h0, h1, h2, h3, h4⟩ := h; exact ⟨a1, a2, a3, a4, a5, a6, a7, a8, a9, b1, b2, b3, h0, h1.mono hb, h2.mono hb, h3.mono hb, h4.mono hb⟩
def longE (x : IvL) : Bool := decide (12 < x.1.2.1.length) || decide (12 < x.1.2.2.length) || decide (12 < x.2.2.1.length) || decide (12 < x.2.2.2.length)
def tooLong4 (p : Value × Value × Value × Value) : Bool := decide (12 < lenV p.1) || decide (12 < lenV p.2.1) || decide (12 < lenV p.2.2.1) || decide (12 < lenV p.2.2.2)
set_option maxRecDepth 100000 in
set_option maxHeartbeats 2000000 in
theorem longI_is (b : Bool) (ao : Option Addr) (g off n : Nat) (c : Nat) (L : List (Value × Value × Value × Value)) (w : World) (hl : L.length = n) (hn : n ≤ 1000) (ha : 0 < n → ao = some ⟨g, off, none⟩)
    (hc : ∀ i, i < n → w.cell? ⟨g, off + i * 6 + 1, none⟩ = some (L.getD i (.slice none 0 0, .slice none 0 0, .slice none 0 0, .slice none 0 0)).1 ∧ w.cell? ⟨g, off + i * 6 + 2, none⟩ = some (L.getD i (.slice none 0 0, .slice none 0 0, .slice none 0 0, .slice none 0 0)).2.1 ∧ w.cell? ⟨g, off + i * 6 + 4, none⟩ = some (L.getD i (.slice none 0 0, .slice none 0 0, .slice none 0 0, .slice none 0 0)).2.2.1 ∧ w.cell? ⟨g, off + i * 6 + 5, none⟩ = some (L.getD i (.slice none 0 0, .slice none 0 0, .slice none 0 0, .slice none 0 0)).2.2.2)
    (hs : ∀ i, i < n → IsSlice (L.getD i (.slice none 0 0, .slice none 0 0, .slice none 0 0, .slice none 0 0)).1 ∧ IsSlice (L.getD i (.slice none 0 0, .slice none 0 0, .slice none 0 0, .slice none 0 0)).2.1 ∧ IsSlice (L.getD i (.slice none 0 0, .slice none 0 0, .slice none 0 0, .slice none 0 0)).2.2.1 ∧ IsSlice (L.getD i (.slice none 0 0, .slice none 0 0, .slice none 0 0, .slice none 0 0)).2.2.2) (hb : L.any tooLong4 = b) :
    Calls Tryz.prog 6 #[.slice ao n c] w (Long2P w b) := by
  have HL := Lib.hid hl
  have HC := Lib.hid hc
  have HS := Lib.hid hs
  have HB := Lib.hid hb
  have HAO := Lib.hid ha
  clear hl hc hs hb ha
  go_enter Tryz.func6, Tryz.ntmps6
  go_wp2_with fail
  go_loop [3] (fun i => ∃ k : Nat, k ≤ n ∧ i = .int .i64 (k : Nat) ∧ Hid ((L.take k).any tooLong4 = false)) (fun i => n - (intOf i).toNat)
  case atStart => exact ⟨0, Nat.zero_le _, rfl, Lib.hid (by simp)⟩
  case round =>
    obtain ⟨k, hk, rfl, hpre⟩ := hrel
    by_cases hlt : k < n
    · have dlt : decide (k < n) = true := decide_eq_true hlt
      have hao := HAO.out (by omega)
      obtain ⟨q1, q2, q3, q4⟩ := HC.out k hlt
      obtain ⟨⟨a1, m1, c1, hv1, hm1⟩, ⟨a2, m2, c2, hv2, hm2⟩, ⟨a3, m3, c3, hv3, hm3⟩, ⟨a4, m4, c4, hv4, hm4⟩⟩ := HS.out k hlt
      rw [hv1] at q1
      rw [hv2] at q2
      rw [hv3] at q3
      rw [hv4] at q4
      have hget : L[k]? = some (.slice a1 m1 c1, .slice a2 m2 c2, .slice a3 m3 c3, .slice a4 m4 c4) := by
        have h1 : k < L.length := by rw [HL.out]; exact hlt
        rw [← hv1, ← hv2, ← hv3, ← hv4]; simp [List.getD, h1]
      have HG := Lib.hid hget
      clear hv1 hv2 hv3 hv4 hget
      subst hao
      have hT : tooLong4 (.slice a1 m1 c1, .slice a2 m2 c2, .slice a3 m3 c3, .slice a4 m4 c4) = (decide (12 < m1) || decide (12 < m2) || decide (12 < m3) || decide (12 < m4)) := rfl
      have HTL := Lib.hid hT
      clear hT
      have hF : tooLong4 (.slice a1 m1 c1, .slice a2 m2 c2, .slice a3 m3 c3, .slice a4 m4 c4) = true → Long2P w b (.returned (.bool true)) w := by
        intro ht
        refine ⟨?_, rfl⟩
        rw [← HB.out]
        have : L.any tooLong4 = true := List.any_eq_true.2 ⟨_, List.mem_of_getElem? HG.out, ht⟩
        rw [this]
      have HF := Lib.hid hF
      clear hF
      by_cases h1 : 12 < m1
      · have d1 : decide ((12 : Int) < (m1 : Int)) = true := by simp; omega
        have hr := HF.out (by rw [HTL.out, decide_eq_true h1]; simp)
        have HR := Lib.hid hr
        clear hr HF h1
        go_wp2_with fail
        go_ret
        exact HR.out
      · have d1 : decide ((12 : Int) < (m1 : Int)) = false := by simp; omega
        by_cases h2 : 12 < m2
        · have d2 : decide ((12 : Int) < (m2 : Int)) = true := by simp; omega
          have hr := HF.out (by rw [HTL.out, decide_eq_true h2]; simp)
          have HR := Lib.hid hr
          clear hr HF h1 h2
          go_wp2_with fail
          go_ret
          exact HR.out
        · have d2 : decide ((12 : Int) < (m2 : Int)) = false := by simp; omega
          by_cases h3 : 12 < m3
          · have d3 : decide ((12 : Int) < (m3 : Int)) = true := by simp; omega
            have hr := HF.out (by rw [HTL.out, decide_eq_true h3]; simp)
            have HR := Lib.hid hr
            clear hr HF h1 h2 h3
            go_wp2_with fail
            go_ret
            exact HR.out
          · have d3 : decide ((12 : Int) < (m3 : Int)) = false := by simp; omega
            by_cases h4 : 12 < m4
            · have d4 : decide ((12 : Int) < (m4 : Int)) = true := by simp; omega
              have hr := HF.out (by rw [HTL.out, decide_eq_true h4]; simp)
              have HR := Lib.hid hr
              clear hr HF h1 h2 h3 h4
              go_wp2_with fail
              go_ret
              exact HR.out
            · have d4 : decide ((12 : Int) < (m4 : Int)) = false := by simp; omega
              have E := Lib.hid (show tooLong4 (.slice a1 m1 c1, .slice a2 m2 c2, .slice a3 m3 c3, .slice a4 m4 c4) = false by rw [HTL.out, decide_eq_false h1, decide_eq_false h2, decide_eq_false h3, decide_eq_false h4]; rfl)
              clear h1 h2 h3 h4 HF HTL
              go_wp2_with fail
              go_round
              case rel =>
                refine ⟨k + 1, by omega, by go_num, Lib.hid ?_⟩
                rw [List.take_add_one, List.any_append, hpre.out, HG.out]
                simp [E.out]
              case measure => simp [intOf]; omega
    · have dlt : decide (k < n) = false := decide_eq_false hlt
      obtain rfl : k = n := by omega
      have hF : Long2P w b (.returned (.bool false)) w := by
        refine ⟨?_, rfl⟩
        have h1 := hpre.out
        rw [List.take_of_length_le (by rw [HL.out]; exact Nat.le_refl _), HB.out] at h1
        rw [h1]
      go_wp2_with fail
      go_ret
      exact hF
theorem longI1 (t : Bool) {b b' : Bool} {an n cn ad d cd an' n' cn' ad' d' cd'} {xs0 xs1 xs2 xs3 : List Nat} {w : World} (g : Nat) (r0 : Reads w (.slice an n cn) xs0) (r1 : Reads w (.slice ad d cd) xs1) (r2 : Reads w (.slice an' n' cn') xs2) (r3 : Reads w (.slice ad' d' cd') xs3) (hg : w.heap.size = g) (h : Hid ((decide (12 < xs0.length) || decide (12 < xs1.length) || decide (12 < xs2.length) || decide (12 < xs3.length)) = t)) :
    Calls Tryz.prog 6 #[.slice (some ⟨g, 0, none⟩) 1 1] (w.alloc (.cells #[.bool b, .slice an n cn, .slice ad d cd, .bool b', .slice an' n' cn', .slice ad' d' cd'] 27)) (Long2P (w.alloc (.cells #[.bool b, .slice an n cn, .slice ad d cd, .bool b', .slice an' n' cn', .slice ad' d' cd'] 27)) t) := by
  subst hg
  refine longI_is t _ w.heap.size 0 1 1 [(.slice an n cn, .slice ad d cd, .slice an' n' cn', .slice ad' d' cd')] _ rfl (by decide) (fun _ => rfl) ?_ ?_ ?_
  · intro i hi
    have e : i = 0 := by omega
    rw [World.cell?_alloc_new, World.cell?_alloc_new, World.cell?_alloc_new, World.cell?_alloc_new]
    rcases e with rfl <;> exact ⟨rfl, rfl, rfl, rfl⟩
  · intro i hi
    have e : i = 0 := by omega
    rcases e with rfl
    · exact ⟨r0.isSlice, r1.isSlice, r2.isSlice, r3.isSlice⟩
  · rw [← h.out]
    simp only [List.any_cons, List.any_nil, Bool.or_false, tooLong4, r0.lenV, r1.lenV, r2.lenV, r3.lenV]
theorem longI2 (t : Bool) {b b' b2 b3 : Bool} {an n cn ad d cd an' n' cn' ad' d' cd' an2 n2 cn2 ad2 d2 cd2 an3 n3 cn3 ad3 d3 cd3} {xs0 xs1 xs2 xs3 xs4 xs5 xs6 xs7 : List Nat} {w : World} (g : Nat) (r0 : Reads w (.slice an n cn) xs0) (r1 : Reads w (.slice ad d cd) xs1) (r2 : Reads w (.slice an' n' cn') xs2) (r3 : Reads w (.slice ad' d' cd') xs3) (r4 : Reads w (.slice an2 n2 cn2) xs4) (r5 : Reads w (.slice ad2 d2 cd2) xs5) (r6 : Reads w (.slice an3 n3 cn3) xs6) (r7 : Reads w (.slice ad3 d3 cd3) xs7) (hg : w.heap.size = g) (h : Hid (((decide (12 < xs0.length) || decide (12 < xs1.length) || decide (12 < xs2.length) || decide (12 < xs3.length)) || (decide (12 < xs4.length) || decide (12 < xs5.length) || decide (12 < xs6.length) || decide (12 < xs7.length))) = t)) :
    Calls Tryz.prog 6 #[.slice (some ⟨g, 0, none⟩) 2 2] (w.alloc (.cells #[.bool b, .slice an n cn, .slice ad d cd, .bool b', .slice an' n' cn', .slice ad' d' cd', .bool b2, .slice an2 n2 cn2, .slice ad2 d2 cd2, .bool b3, .slice an3 n3 cn3, .slice ad3 d3 cd3] 27)) (Long2P (w.alloc (.cells #[.bool b, .slice an n cn, .slice ad d cd, .bool b', .slice an' n' cn', .slice ad' d' cd', .bool b2, .slice an2 n2 cn2, .slice ad2 d2 cd2, .bool b3, .slice an3 n3 cn3, .slice ad3 d3 cd3] 27)) t) := by
  subst hg
  refine longI_is t _ w.heap.size 0 2 2 [(.slice an n cn, .slice ad d cd, .slice an' n' cn', .slice ad' d' cd'), (.slice an2 n2 cn2, .slice ad2 d2 cd2, .slice an3 n3 cn3, .slice ad3 d3 cd3)] _ rfl (by decide) (fun _ => rfl) ?_ ?_ ?_
  · intro i hi
    have e : i = 0 ∨ i = 1 := by omega
    rw [World.cell?_alloc_new, World.cell?_alloc_new, World.cell?_alloc_new, World.cell?_alloc_new]
    rcases e with rfl | rfl <;> exact ⟨rfl, rfl, rfl, rfl⟩
  · intro i hi
    have e : i = 0 ∨ i = 1 := by omega
    rcases e with rfl | rfl
    · exact ⟨r0.isSlice, r1.isSlice, r2.isSlice, r3.isSlice⟩
    · exact ⟨r4.isSlice, r5.isSlice, r6.isSlice, r7.isSlice⟩
  · rw [← h.out]
    simp only [List.any_cons, List.any_nil, Bool.or_false, tooLong4, r0.lenV, r1.lenV, r2.lenV, r3.lenV, r4.lenV, r5.lenV, r6.lenV, r7.lenV]
theorem IvI.arg {w : World} {v : Value} {x : IvL} (h : IvI w v x) (hl : longE x = false) : IvA w v (ivOf x) := by
  obtain ⟨a1, a2, a3, a4, a5, a6, a7, a8, a9, b1, b2, b3, rfl, h1, h2, h3, h4⟩ := h
  simp only [longE, Bool.or_eq_false_iff, decide_eq_false_iff_not] at hl
  exact ⟨a1, a2, a3, a4, a5, a6, a7, a8, a9, b1, b2, b3, rfl, ⟨_, h1, rfl, by omega⟩, ⟨_, h2, rfl, by omega⟩, ⟨_, h3, rfl, by omega⟩, ⟨_, h4, rfl, by omega⟩⟩
/-- The parts are below 2^384. -/
def LimI (a : Iv) : Prop := a.1.2.1 < pw 12 ∧ a.1.2.2 < pw 12 ∧ a.2.2.1 < pw 12 ∧ a.2.2.2 < pw 12
theorem IvI.lim {w : World} {v : Value} {x : IvL} (h : IvI w v x) (hl : longE x = false) : LimI (ivOf x) := by
  obtain ⟨a1, a2, a3, a4, a5, a6, a7, a8, a9, b1, b2, b3, rfl, h1, h2, h3, h4⟩ := h
  simp only [longE, Bool.or_eq_false_iff, decide_eq_false_iff_not] at hl
  have k : ∀ {zs : List Nat}, Limbs zs → ¬ 12 < zs.length → val zs < pw 12 := fun hz hn => Nat.lt_of_lt_of_le (val_lt hz) (pw_le (by omega))
  exact ⟨k h1.limbs (by omega), k h2.limbs (by omega), k h3.limbs (by omega), k h4.limbs (by omega)⟩
theorem LimI.sz {a : Iv} (h : LimI a) (o : okI a = true) : SzI 12 a :=
  ⟨⟨(okF_iff.1 (okI_iff.1 o).1).1, h.1, h.2.1⟩, ⟨(okF_iff.1 (okI_iff.1 o).2.1).1, h.2.2.1, h.2.2.2⟩⟩
end Go.Proofs.YtifpfoeecnkhoaaGreatDoor
