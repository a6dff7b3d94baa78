/- Package maxflow: measure: what lies in memory while it searches. | Package maxflow: measure. -/
import Derived.Test.YtaoibakbnimnkaaP9
import Derived.Test.YtaoibakbnimnkaaJA
import Derived.Deep.LoopGhost
import Derived.Deep.CutRange

namespace Go.Proofs.Ytaoibakbnimnkaa
open Go.RowKit NetM

theorem ResB.grow {w0 w w' : World} {A : List Arc} {N s t gr gs gf gd H g : Nat} {sv uv : Value} {R : Nat → Int} {D : List Int} (h : ResB w0 w A N s t gr gs gf gd H sv uv R D) (hg : w.grownBy w' (some g)) {cur : Array Value}
    (hq : w.heap[g]? = some (.cells cur 3 (0, 0))) (h1 : H ≤ g) (h2 : gd < H) (_h3 : w0.heap.size ≤ H) : ResB w0 w' A N s t gr gs gf gd H sv uv R D := by
  obtain ⟨k1, k2, k3, k4, k5, k6, k7⟩ := h
  obtain ⟨cf, hcf⟩ := k3.blk
  exact ⟨k1.kept hg (fun e => ty_ne hq k1 (by decide) (Option.some.inj e)), k2.kept hg (k2.far hq (by decide)), k3.kept hg (far_ban (ty_ne hq hcf (by decide)) (.inr h1)), Blk.kept k4 hg (fun e => by have := Option.some.inj e; omega), k5,
    Below.grown k6 hg k6.size (fun k e => by have := Option.some.inj e; omega), k7⟩
theorem Unt.grow {w0 w w' : World} {N gu gf gd H g : Nat} {uv : Value} {U : List (List Nat)} (hu : Unt w0 w N gu gf gd H uv U) (hg : w.grownBy w' (some g)) {cur : Array Value} (hq : w.heap[g]? = some (.cells cur 3 (0, 0))) (h1 : H ≤ g) : Unt w0 w' N gu gf gd H uv U := by
  obtain ⟨c', e', g1, g2, g3, g4⟩ := hu
  obtain ⟨cf, hcf⟩ := g3.blk
  exact ⟨c', e', g1, g2, g3.kept hg (far_ban (ty_ne hq hcf (by decide)) (.inr h1)), g4⟩
theorem RowR.nil (w : World) (Z : Nat → Prop) : RowR w Z (.slice none 0 0) [] := ⟨none, 0, rfl, Nat.le_refl _, by unfold maxLen; omega, fun h => by simp at h⟩
/-- The state of the search: the queue tv, and a row rv that is read. -/
def QS (w0 w : World) (A : List Arc) (N s t gr gs gf gd gu H : Nat) (sv uv : Value) (R : Nat → Int) (U : List (List Nat)) (D : List Int) (Q : List Nat) (tv rv : Value) (xs : List Nat) : Prop :=
  ResB w0 w A N s t gr gs gf gd H sv uv R D ∧ Unt w0 w N gu gf gd H uv U ∧ (∃ gq off, Que w H gq off 3 tv (Q.map natv)) ∧ RowR w (ban gd H) rv xs ∧ H ≤ w.heap.size
theorem QS.add {w0 w w' : World} {A : List Arc} {N s t gr gs gf gd gu H : Nat} {sv uv tv rv : Value} {R : Nat → Int} {U : List (List Nat)} {D : List Int} {Q xs : List Nat} (h : QS w0 w A N s t gr gs gf gd gu H sv uv R U D Q tv rv xs) (hb : Add w w') :
    QS w0 w' A N s t gr gs gf gd gu H sv uv R U D Q tv rv xs := by
  obtain ⟨h1, h2, ⟨gq, off, h3⟩, h4, h5⟩ := h
  exact ⟨h1.add hb, h2.add hb, ⟨gq, off, h3.add hb⟩, h4.kept (gf := 0) (grownA_of hb) (far_none _ _ _), Nat.le_trans h5 hb.size⟩
theorem QS.dist {w0 w : World} {A : List Arc} {N s t gr gs gf gd gu H : Nat} {sv uv tv rv : Value} {R : Nat → Int} {U : List (List Nat)} {D : List Int} {Q xs : List Nat} (h : QS w0 w A N s t gr gs gf gd gu H sv uv R U D Q tv rv xs) (h2 : gd < H) (j : Nat) (x : Int) :
    QS w0 (w.setCell ⟨gd, j, none⟩ (.int .i64 x)) A N s t gr gs gf gd gu H sv uv R U (D.set j x) Q tv rv xs := by
  obtain ⟨k1, k2, ⟨gq, off, k3⟩, k4, k5⟩ := h
  have hq := k3.lt
  exact ⟨k1.dist j x, Unt.dist k1 k2 j x, ⟨gq, off, k3.other (by omega) _ _⟩, k4.kept (gf := gd + 1) (grown_set w gd j _) (far_ban (by omega) (.inl rfl)), by simpa using k5⟩
theorem QS.push {w0 w : World} {A : List Arc} {N s t gr gs gf gd gu H : Nat} {sv uv tv rv : Value} {R : Nat → Int} {U : List (List Nat)} {D : List Int} {Q xs : List Nat} (h : QS w0 w A N s t gr gs gf gd gu H sv uv R U D Q tv rv xs) (h2 : gd < H) (h3 : w0.heap.size ≤ H) (z : Nat) (ad : Addr) (cc : Nat) (hz : w.cell? ad = some (natv z)) (hl : Q.length ≤ 100000) :
    ∃ tv' w', (Builtin.append_ #[25, 25] 25 #[tv, .slice (some ad) 1 cc]).run Try.prog w = .ok tv' w' ∧ QS w0 w' A N s t gr gs gf gd gu H sv uv R U D (Q ++ [z]) tv' rv xs := by
  obtain ⟨i0, hi, hz0, hz1, hz2⟩ := info_parts infoInt
  obtain ⟨k1, k2, ⟨gq, off, k3⟩, k4, k5⟩ := h
  have hq := k3.lt
  obtain ⟨cap, cur, e, j1, j2, j3⟩ := id k3
  obtain ⟨tv', w', g', off', r1, r2, r3, r4⟩ := run_que (P := Try.prog) 25 25 i0 (.int .i64 0) 8 Try.underlying25 hi hz0 hz1 hz2 rfl k3 ad cc hz rfl (by rw [List.length_map]; unfold maxLen; omega) (by rw [List.length_map]; omega)
  refine ⟨tv', w', r1, k1.grow r3 j2 hq.1 h2 h3, k2.grow r3 j2 hq.1, ⟨g', off', by rw [List.map_append]; exact r2⟩, k4.kept (gf := gq + 1) r3 (far_ban (by omega) (.inr hq.1)), Nat.le_trans k5 r3.size⟩
/-- The next node is taken from the queue. -/
theorem QS.next {w0 w : World} {A : List Arc} {N s t gr gs gf gd gu H : Nat} {sv uv rv : Value} {R : Nat → Int} {U : List (List Nat)} {D : List Int} {Q xs ys : List Nat} {gq off n cap x : Nat} {so : Option Addr} {rv' : Value}
    (h : QS w0 w A N s t gr gs gf gd gu H sv uv R U D (x :: Q) (.slice (some ⟨gq, off, none⟩) n cap) rv xs) (hso : (if cap = 1 then some (⟨gq, off, none⟩ : Addr) else some ⟨gq, off + 1, none⟩) = so) (hr : RowR w (ban gd H) rv' ys) :
    QS w0 w A N s t gr gs gf gd gu H sv uv R U D Q (.slice so (n - 1) (cap - 1)) rv' ys := by
  obtain ⟨k1, k2, ⟨gq', off', k3⟩, k4, k5⟩ := h
  have e : gq' = gq ∧ off' = off := by
    obtain ⟨cap', cur, e, -⟩ := k3
    simp only [Value.slice.injEq, Option.some.injEq, Addr.mk.injEq, and_true] at e
    omega
  obtain ⟨rfl, rfl⟩ := e
  obtain ⟨off2, q⟩ := Que.pop k3 hso.symm
  exact ⟨k1, k2, ⟨gq', off2, q⟩, hr, k5⟩
theorem HdB.congr {w : World} {g N : Nat} {Z : Nat → Prop} {R R' : Nat → List Nat} (h : HdB w g Z N R) (hR : ∀ x, x < N → R x = R' x) : HdB w g Z N R' := by
  obtain ⟨cur, h1, h2, h3⟩ := h
  exact ⟨cur, h1, h2, fun x hx => by rw [← hR x hx]; exact h3 x hx⟩
/-- All steps of each node. -/
def allU (A : List Arc) (N : Nat) : List (List Nat) := (List.range N).map (fromR A)
theorem allU_len (A : List Arc) (N : Nat) : (allU A N).length = N := by simp [allU]
theorem ul_all {A : List Arc} {N x : Nat} (h : x < N) : ul (allU A N) x = fromR A x := by simp [ul, allU, List.getD, h]
/-- What measure returns. -/
def MeasP (w0 : World) (A : List Arc) (N s t gr gs gf gd H : Nat) (sv : Value) (F : List Int) (e : Ending) (w' : World) : Prop :=
  ∃ b D gu uv, e = .returned (.bool b) ∧ ResB w0 w' A N s t gr gs gf gd H sv uv (roomS A F) D ∧ Unt w0 w' N gu gf gd H uv (allU A N) ∧ Lev A F N s D ∧ b = decide (dl D t ≠ -1) ∧ H ≤ w'.heap.size
/-- The list of what may be tried is laid anew. -/
theorem ResB.fresh {w0 w w' : World} {A : List Arc} {N s t gr gs gf gd H g c : Nat} {sv uv : Value} {R : Nat → Int} {D : List Int} (h : ResB w0 w A N s t gr gs gf gd H sv uv R D) (hH : H ≤ w.heap.size) (h3 : w0.heap.size ≤ H) (hc : HdB w' g (ban gd H) N (fromR A)) (hb : Add w w') (hg : w.heap.size ≤ g) (hN : N ≤ c) (hm : c ≤ maxLen) :
    ResB w0 (w'.setCell ⟨gr, 4, none⟩ (.slice (some ⟨g, 0, none⟩) N c)) A N s t gr gs gf gd H sv (.slice (some ⟨g, 0, none⟩) N c) R D ∧ Unt w0 (w'.setCell ⟨gr, 4, none⟩ (.slice (some ⟨g, 0, none⟩) N c)) N g gf gd H (.slice (some ⟨g, 0, none⟩) N c) (allU A N) := by
  have hlf := h.2.2.1.lt
  obtain ⟨k1, k2, k3, k4, k5, k6, k7, k8, k9⟩ := h.add hb
  have hgs := grown_set w' gr 4 (.slice (some ⟨g, 0, none⟩) N c)
  obtain ⟨cf, hcf⟩ := k3.blk
  obtain ⟨cg, hcg⟩ := hc.blk
  refine ⟨⟨k1.set4 _, k2.kept hgs (k2.far k1 (by decide)), k3.kept hgs (far_ty k1 (by decide) (ty_ne k1 hcf (by decide))), Blk.kept k4 hgs (fun e => ty_ne k1 k4 (by decide) (Option.some.inj e).symm), k5, add_setLow k6 k7 _ _, k7, k8, k9⟩, ?_⟩
  exact ⟨c, rfl, hN, hm, (hc.kept hgs (far_ty k1 (by decide) (ty_ne k1 hcg (by decide)))).congr (fun x hx => (ul_all hx).symm), allU_len A N, by omega, by omega⟩
theorem rep_step {k : Nat} {D : List Int} (hk : k < D.length) : (List.replicate k (-1) ++ D.drop k).set k (-1) = List.replicate (k + 1) (-1) ++ D.drop (k + 1) := by
  rw [List.set_append_right _ _ (by simp)]
  simp only [List.length_replicate, Nat.sub_self]
  rw [List.drop_eq_getElem_cons hk, List.set_cons_zero, List.replicate_succ', List.append_assoc]; rfl
end Go.Proofs.Ytaoibakbnimnkaa

namespace Go.Proofs.Ytaoibakbnimnkaa
open Go.RowKit NetM

set_option maxRecDepth 100000 in
set_option maxHeartbeats 4000000 in
theorem measure_any {w0 w : World} {A : List Arc} {N s t gr gs gf gd H : Nat} {sv uv : Value} {F D : List Int} (hv : VNet N s t A) (hR : ResB w0 w A N s t gr gs gf gd H sv uv (roomS A F) D) (hH1 : gd < H) (hH2 : w0.heap.size ≤ H) (hH3 : H ≤ w.heap.size) :
    Calls Try.prog 44 #[.pointer (some ⟨gr, 0, none⟩)] w (MeasP w0 A N s t gr gs gf gd H sv F) := by
  have HV := Lib.hid hv
  obtain ⟨-, hs, ht, hst, hN, hN2, hm2⟩ := hv
  have CC := Lib.hid (clone_any hR.2.2.1 (by omega) hN2)
  have HR := Lib.hid hR
  have c3 := hR.1.c3
  have z1 := hR.1.lt
  have fr := hR.1.free 4
  clear hR
  go_enter Try.func44, Try.ntmps44
  go_wp2_with fail
  refine CC.out.mono ?_
  rintro e w1 ⟨gu, cu, rfl, hcl, hadd1, hgu, hcu1, hcu2⟩
  obtain ⟨hR2, hU2⟩ := HR.out.fresh hH3 hH2 hcl hadd1 hgu hcu1 hcu2
  have z2 := hadd1.size
  have c3' := (HR.out.add hadd1).1.c4
  have fr' := (HR.out.add hadd1).1.free 4
  have HR2 := Lib.hid hR2
  have HU2 := Lib.hid hU2
  have HH3 : Hid (H ≤ (w1.setCell ⟨gr, 4, none⟩ (.slice (some ⟨gu, 0, none⟩) N cu)).heap.size) := Lib.hid (by simp; omega)
  unfold maxLen at hcu2
  clear hR2 hU2 hcl hadd1 c3 fr
  go_upto_region 2 with fail
  obtain ⟨W1, hW1⟩ : ∃ W1, W1 = w1.setCell ⟨gr, 4, none⟩ (.slice (some ⟨gu, 0, none⟩) N cu) := ⟨_, rfl⟩
  rw [← hW1] at HR2 HU2 HH3 ⊢
  clear c3' fr' hW1
  obtain ⟨uv2, huv2⟩ : ∃ u, u = Value.slice (some ⟨gu, 0, none⟩) N cu := ⟨_, rfl⟩
  rw [← huv2] at HR2 HU2
  clear huv2 CC HR
  have c5 := HR2.out.1.c5
  have hDl := HR2.out.2.2.2.2.1
  have HDL := Lib.hid hDl
  clear hDl
  have HI0 : Hid (ResB w0 W1 A N s t gr gs gf gd H sv uv2 (roomS A F) (List.replicate 0 (-1) ++ D.drop 0)) := Lib.hid (by simpa using HR2.out)
  have z3 := HR2.out.1.lt
  clear HR2
  go_upto_region 3 with fail
  clear c5
  go_loopw [22] (fun i wr => ∃ k : Nat, k ≤ N ∧ i = .int .i64 k ∧ Hid (ResB w0 wr A N s t gr gs gf gd H sv uv2 (roomS A F) (List.replicate k (-1) ++ D.drop k)) ∧ Hid (Unt w0 wr N gu gf gd H uv2 (allU A N)) ∧ Hid (H ≤ wr.heap.size)) (fun i _ => N - (intOf i).toNat)
  case atStart => exact ⟨0, Nat.zero_le _, rfl, HI0, HU2, HH3⟩
  case round =>
    clear HI0 HU2 HH3
    obtain ⟨k, hk, rfl, hR, hU, hH⟩ := hrel
    have c5 := hR.out.1.c5
    have l1 := hR.out.1.lt
    have hB := hR.out.2.2.2.1
    by_cases hlt : k < N
    · have hkl : k < (List.replicate k (-1) ++ D.drop k).length := by simp [HDL.out]; omega
      have q0 := IBlk.get hB k hkl
      have fr := Blk.free hB k
      have l2 := Blk.lt hB
      have HR' : Hid (ResB w0 (wr.setCell ⟨gd, k, none⟩ (.int .i64 (-1))) A N s t gr gs gf gd H sv uv2 (roomS A F) (List.replicate (k + 1) (-1) ++ D.drop (k + 1))) := Lib.hid (by rw [← rep_step (by rw [HDL.out]; exact hlt)]; exact hR.out.dist k (-1))
      have HU' : Hid (Unt w0 (wr.setCell ⟨gd, k, none⟩ (.int .i64 (-1))) N gu gf gd H uv2 (allU A N)) := Lib.hid (Unt.dist hR.out hU.out k (-1))
      have HH' : Hid (H ≤ (wr.setCell ⟨gd, k, none⟩ (.int .i64 (-1))).heap.size) := Lib.hid (by simpa using hH.out)
      clear hB hkl
      go_wp2_with fail
      go_roundw
      case rel => exact ⟨k + 1, by omega, by go_num, HR', HU', HH'⟩
      case measure => simp [intOf]; omega
    · obtain rfl : N = k := by omega
      have hD0 : List.replicate N (-1) ++ D.drop N = List.replicate N (-1) := by rw [List.drop_eq_nil_of_le (by rw [HDL.out]; exact Nat.le_refl _), List.append_nil]
      rw [hD0] at hR hB
      have c0 := hR.out.1.c0
      have q0 := IBlk.get hB s (by simpa using hs)
      have fr := Blk.free hB s
      have l2 := Blk.lt hB
      have HQB := Lib.hid (LBfs.start (A := A) (F := F) hs)
      have HQC : Hid (∃ x0 pre, LCl A F N ((List.replicate N (-1)).set s 0) [s] x0 pre ∧ (x0 < N → ∀ j, j ∈ fromR A x0 → j ∈ pre)) := Lib.hid ⟨N, [], LCl.start hs, fun h => absurd h (Nat.lt_irrefl _)⟩
      have HRD : Hid (ResB w0 (wr.setCell ⟨gd, s, none⟩ (.int .i64 0)).drew A N s t gr gs gf gd H sv uv2 (roomS A F) ((List.replicate N (-1)).set s 0)) := Lib.hid ((hR.out.dist s 0).add (b_drew (Below.refl _ _)))
      have HUD : Hid (Unt w0 (wr.setCell ⟨gd, s, none⟩ (.int .i64 0)).drew N gu gf gd H uv2 (allU A N)) := Lib.hid ((Unt.dist hR.out hU.out s 0).add (b_drew (Below.refl _ _)))
      have HHD : Hid (H ≤ (wr.setCell ⟨gd, s, none⟩ (.int .i64 0)).drew.heap.size) := Lib.hid (by simpa using hH.out)
      clear hD0 hR hU hH hB hlt
      go_wp2_with fail
      go_region
      go_upto_region 8 with fail
      obtain ⟨W2, hW2⟩ : ∃ W2, W2 = (wr.setCell ⟨gd, s, none⟩ (.int .i64 0)).drew := ⟨_, rfl⟩
      rw [← hW2] at HRD HUD HHD ⊢
      clear hW2 c0 c5 q0 fr l1 l2
      have c0 := HRD.out.1.c0
      have HQ0 : Hid (QS w0 (W2.alloc (.cells #[.int .i64 (s : Nat)] 3)) A N s t gr gs gf gd gu H sv uv2 (roomS A F) (allU A N) ((List.replicate N (-1)).set s 0) [s] (.slice (some ⟨W2.heap.size, 0, none⟩) 1 1) (.slice none 0 0) []) := Lib.hid (by
        have hA := add_new W2 (.cells #[.int .i64 (s : Nat)] 3)
        exact ⟨HRD.out.add hA, HUD.out.add hA, ⟨_, _, Que.start W2 3 (natv s) (base := H) HHD.out⟩, RowR.nil _ _, Nat.le_trans HHD.out hA.size⟩)
      go_wp2_with fail
      clear c0 HRD HUD HHD
      obtain ⟨W3, hW3⟩ : ∃ W3, W3 = W2.alloc (.cells #[.int .i64 (s : Nat)] 3) := ⟨_, rfl⟩
      obtain ⟨tv0, htv0⟩ : ∃ tv0, tv0 = Value.slice (some ⟨W2.heap.size, 0, none⟩) 1 1 := ⟨_, rfl⟩
      rw [← hW3] at HQ0 ⊢
      rw [← htv0] at HQ0 ⊢
      clear hW3 htv0
      go_loopg [4] N (fun k tv wr => ∃ D Q p, Hid (QS w0 wr A N s t gr gs gf gd gu H sv uv2 (roomS A F) (allU A N) D Q tv (.slice none 0 0) []) ∧ Hid (LBfs A F N s D Q p) ∧ Hid (∃ x0 pre, LCl A F N D Q x0 pre ∧ (x0 < N → ∀ j, j ∈ fromR A x0 → j ∈ pre)) ∧ p + k = N)
      case atStart => exact ⟨_, _, 0, HQ0, HQB, HQC, by omega⟩
      case round =>
        obtain ⟨D1, Q, p, hQS, hbfs, hcl, hpk⟩ := hrel
        clear HQ0 HQB HQC
        cases Q with
        | nil =>
          obtain ⟨h1, h2, ⟨gq, off, hq⟩, -, h5⟩ := hQS.out
          obtain ⟨cap, cur, rfl, -⟩ := hq
          have hDl := h1.2.2.2.2.1
          have q0 := IBlk.get h1.2.2.2.1 t (by omega)
          have c1 := h1.1.c1
          have c5 := h1.1.c5
          obtain ⟨dt, hdt⟩ : ∃ d, dl D1 t = d := ⟨_, rfl⟩
          have q1 : wr.cell? ⟨gd, t, none⟩ = some (.int .i64 dt) := by rw [← hdt]; exact q0
          have l1 := h1.1.lt
          have l2 := Blk.lt h1.2.2.2.1
          obtain ⟨x0, pre, hc1, hc2⟩ := hcl.out
          have hlev := lev_of hbfs.out hc1 hc2 HV.out.1 hN2
          have HF : Hid (∀ w', Add wr w' → MeasP w0 A N s t gr gs gf gd H sv F (.returned (.bool (decide (dt ≠ -1)))) w') := Lib.hid fun w' hb => ⟨_, D1, gu, uv2, rfl, h1.add hb, h2.add hb, hlev, by rw [hdt], Nat.le_trans h5 hb.size⟩
          have HD := Lib.hid hdt
          clear h1 h2 h5 hDl q0 hdt hc1 hc2 hlev hQS hbfs hcl
          by_cases hd : dt = -1
          · have d1 : (dt == -1) = true := by simpa using hd
            have d2 : (dt != -1) = false := by simpa using hd
            have HF2 : Hid (∀ n, MeasP w0 A N s t gr gs gf gd H sv F (.returned (.bool false)) (wr.drewN n)) := Lib.hid fun n => by
              have := HF.out _ (add_drewN wr n)
              rwa [decide_eq_false (by simpa using hd)] at this
            clear HF hd
            go_wp2_with fail
            go_quiet (fail)
            go_wp2_with fail
            go_ret
            exact HF2.out _
          · have d1 : (dt == -1) = false := by simpa using hd
            have d2 : (dt != -1) = true := by simpa using hd
            have HF2 : Hid (∀ n, MeasP w0 A N s t gr gs gf gd H sv F (.returned (.bool true)) (wr.drewN n)) := Lib.hid fun n => by
              have := HF.out _ (add_drewN wr n)
              rwa [decide_eq_true (by simpa using hd)] at this
            clear HF hd
            go_wp2_with fail
            go_quiet (fail)
            go_wp2_with fail
            go_ret
            exact HF2.out _
        | cons x Q =>
          obtain ⟨h1, h2, ⟨gq, off, hq⟩, -, h5⟩ := id hQS.out
          have hhead := hq.head
          obtain ⟨cap, cur, rfl, -, -, hcap, hcapm, -⟩ := id hq
          rw [List.map_cons, List.length_cons, List.length_map] at hcap
          have e1 : ((x :: Q).map natv).length = Q.length + 1 := by simp
          rw [e1] at hQS ⊢
          obtain ⟨so, hso⟩ : ∃ so, (if cap = 1 then some (⟨gq, off, none⟩ : Addr) else some ⟨gq, off + 1, none⟩) = so := ⟨_, rfl⟩
          have hh : wr.cell? ⟨gq, off, none⟩ = some (.int .i64 (x : Nat)) := hhead
          unfold maxLen at hcapm
          obtain ⟨b1, hxN, hxd, hpN⟩ := hbfs.out.pop
          obtain ⟨ra, rc, r1, r2, r3, r4⟩ := h1.2.2.1.get hxN
          have HN2 := Lib.hid (hQS.out.next hso r2)
          have HB2 := Lib.hid b1
          have HC2 : Hid (LCl A F N D1 Q x ((fromR A x).take 0)) := Lib.hid (by
            obtain ⟨x0, pre, k1, k2⟩ := hcl.out
            exact k1.pop k2)
          have HXD := Lib.hid hxd
          have c3 := h1.1.c3
          have l1 := h1.1.lt
          have l2 := h1.2.2.1.lt
          obtain ⟨L, hL⟩ : ∃ L, (fromR A x).length = L := ⟨_, rfl⟩
          rw [hL] at r1 r3 HN2
          rw [show Q.length + 1 - 1 = Q.length by omega] at HN2
          have HL := Lib.hid hL
          clear e1 hhead hq h1 h2 h5 b1 hxd r2 hL hbfs hcl hQS
          unfold maxLen at r4
          go_wp2_with fail
          clear hh hso c3 r1
          obtain ⟨wm, rfl⟩ : ∃ wm : World, wm = wr := ⟨_, rfl⟩
          obtain ⟨tv1, htv1⟩ : ∃ tv1, tv1 = Value.slice so Q.length (cap - 1) := ⟨_, rfl⟩
          rw [← htv1] at HN2 ⊢
          clear htv1
          go_loopw [4, 62] (fun tv i wr => ∃ (D1 : List Int) (Q : List Nat) (k : Nat), k ≤ L ∧ i = .int .i64 k ∧ Hid (QS w0 wr A N s t gr gs gf gd gu H sv uv2 (roomS A F) (allU A N) D1 Q tv (.slice ra L rc) (fromR A x)) ∧ Hid (LBfs A F N s D1 Q (p + 1)) ∧ Hid (LCl A F N D1 Q x ((fromR A x).take k)) ∧ Hid (dl D1 x ≠ -1)) (fun _ i _ => L - (intOf i).toNat)
          case atStart => exact ⟨D1, Q, 0, Nat.zero_le _, rfl, HN2, HB2, HC2, HXD⟩
          case round =>
            clear HN2 HB2 HC2 HXD
            obtain ⟨D1, Q, k, hk, rfl, hQS, hbfs, hcl, hxd⟩ := hrel
            obtain ⟨h1, h2, ⟨gq, off, hq⟩, hrow, h5⟩ := id hQS.out
            obtain ⟨cap, cur, rfl, -⟩ := id hq
            have eq : (Q.map natv).length = Q.length := by simp
            rw [eq] at hQS hq ⊢
            clear eq
            by_cases hlt : k < L
            · obtain ⟨-, b, boff, rfl, q0⟩ := hrow.cell hlt
              obtain ⟨j, hj⟩ : ∃ j, (fromR A x).getD k 0 = j := ⟨_, rfl⟩
              rw [hj] at q0
              have hmem : j ∈ fromR A x := by rw [← hj]; simp [List.getD, HL.out, hlt]
              have htk : (fromR A x).take (k + 1) = (fromR A x).take k ++ [j] := by rw [List.take_add_one, ← hj]; simp [List.getD, HL.out, hlt]
              obtain ⟨hj2, hjt⟩ := mem_fromR.1 hmem
              obtain ⟨x', y, -, hy, -, hyN⟩ := step_nodes HV.out.1 hj2
              obtain ⟨sc, hsv, hsc1, hsc2, s0, s1, sfr, sgl⟩ := h1.2.1.get hj2
              rw [hy] at s0
              have c2 := h1.1.c2
              rw [hsv] at c2
              have c5 := h1.1.c5
              have hDl := h1.2.2.2.2.1
              have e0 := h1.2.2.2.1
              have dx := IBlk.get e0 x (by omega)
              have dy := IBlk.get e0 y (by omega)
              have fr := Blk.free e0 y
              have hxb := hbfs.out.2.2.1 x hxN
              have hcn := cntD_le D1
              have hcl2 : (cntD D1) ≤ 700 := by omega
              have hQ : Q.length ≤ 100000 := by have := hbfs.out.2.2.2.2.1; omega
              obtain ⟨lx, hlx⟩ : ∃ l, dl D1 x = l := ⟨_, rfl⟩
              obtain ⟨ly, hly⟩ : ∃ l, dl D1 y = l := ⟨_, rfl⟩
              obtain ⟨rm, hrm⟩ : ∃ r, roomS A F j = r := ⟨_, rfl⟩
              have dx' : wr.cell? ⟨gd, x, none⟩ = some (.int .i64 lx) := by rw [← hlx]; exact dx
              have dy' : wr.cell? ⟨gd, y, none⟩ = some (.int .i64 ly) := by rw [← hly]; exact dy
              rw [hlx] at hxb
              rw [hrm] at s1
              have hxl : -1 ≤ lx ∧ lx ≤ 700 := by omega
              obtain ⟨hx0, hx7⟩ := hxl
              have W1' : IntKind.i64.wrap (lx + 1) = lx + 1 := IntWalk.i64_in _ (by omega)
              have HLX := Lib.hid hlx
              have HLY := Lib.hid hly
              have HRM := Lib.hid hrm
              have HY := Lib.hid hy
              have HJT := Lib.hid hjt
              have HTK := Lib.hid htk
              have HSV := Lib.hid hsv
              have HJ2 := Lib.hid hj2
              obtain ⟨m2, hm2'⟩ : ∃ m2, 2 * A.length = m2 := ⟨_, rfl⟩
              rw [hm2'] at hj2 hsc1 c2
              have hm5 : m2 ≤ 5000 := by omega
              unfold maxLen at hsc2
              have l3 := Blk.lt e0
              have l4 := h1.1.lt
              have l5 : b < wr.heap.size := World.block_lt_of_cell? _ _ q0
              have HQL := Lib.hid hQ
              clear h1 h2 hq hrow h5 hj hmem htk hjt hy hsv hDl e0 dx dy hxb hcn hcl2 hlx hly hrm hm2' hQ
              by_cases hc : 0 < rm ∧ ly = -1
              · obtain ⟨hc1, hc2⟩ := hc
                have d1 : decide (0 < rm) = true := decide_eq_true hc1
                have d2 : (ly == -1) = true := by simpa using hc2
                have HB3 := Lib.hid (hbfs.out.grow hxN hxd.out hyN (by rw [HLY.out]; exact hc2) HJ2.out HJT.out HY.out (by rw [HRM.out]; exact hc1))
                have hDL1 := hbfs.out.1
                have hyD : y < D1.length := by omega
                have HC3 : Hid (LCl A F N (D1.set y (lx + 1)) (Q ++ [y]) x ((fromR A x).take (k + 1))) := Lib.hid (by
                  rw [HTK.out]
                  have hxge : dl D1 x ≠ -1 := hxd.out
                  refine (hcl.out.grow hyD (by rw [← HLX.out]; have := (hbfs.out.2.2.1 x hxN).1; omega)).step (fun z hz _ => ?_)
                  have : z = y := by rw [HY.out] at hz; omega
                  subst this
                  rw [dl_set hyD, if_pos rfl, ← HLX.out]; have := (hbfs.out.2.2.1 x hxN).1; omega)
                have HXD3 : Hid (dl (D1.set y (lx + 1)) x ≠ -1) := Lib.hid (by
                  rw [dl_set hyD]
                  split
                  · rw [← HLX.out]; have := (hbfs.out.2.2.1 x hxN).1; have := hxd.out; omega
                  · exact hxd.out)
                have HB3' : Hid (LBfs A F N s (D1.set y (lx + 1)) (Q ++ [y]) (p + 1)) := Lib.hid (by have := HB3.out; rwa [HLX.out] at this)
                clear HB3 hDL1 hyD hc2
                go_wp2_with fail
                go_quiet (fail)
                clear d1 d2
                go_wp2_with fail
                go_region
                go_upto_region 18 with fail
                have HQ4 : Hid (QS w0 (((wr.alloc (.cells #[.int .i64 (y : Nat), .int .i64 rm] 82)).drewN (nq + 1)).setCell ⟨gd, y, none⟩ (.int .i64 (lx + 1))) A N s t gr gs gf gd gu H sv uv2 (roomS A F) (allU A N) (D1.set y (lx + 1)) Q (.slice (some ⟨gq, off, none⟩) Q.length cap) (.slice (some ⟨b, boff, none⟩) L rc) (fromR A x)) :=
                  Lib.hid ((hQS.out.add (Add.trans (add_new _ _) (add_drewN _ _))).dist hH1 y (lx + 1))
                have a0 : (((wr.alloc (.cells #[.int .i64 (y : Nat), .int .i64 rm] 82)).drewN (nq + 1)).setCell ⟨gd, y, none⟩ (.int .i64 (lx + 1))).cell? ⟨wr.heap.size, 0, none⟩ = some (.int .i64 (y : Nat)) := by
                  have e1 : (((wr.alloc (.cells #[.int .i64 (y : Nat), .int .i64 rm] 82)).drewN (nq + 1)).setCell ⟨gd, y, none⟩ (.int .i64 (lx + 1))).heap[wr.heap.size]? = some (.cells #[.int .i64 (y : Nat), .int .i64 rm] 82 (0, 0)) :=
                    (heap_setCell_other _ ⟨gd, y, none⟩ wr.heap.size _ (by dsimp only; omega)).trans (heap_alloc_new wr _)
                  exact (cell_of_row _ wr.heap.size 0 _ _ _ e1).trans rfl
                obtain ⟨W4, hW4⟩ : ∃ W4, W4 = ((wr.alloc (.cells #[.int .i64 (y : Nat), .int .i64 rm] 82)).drewN (nq + 1)).setCell ⟨gd, y, none⟩ (.int .i64 (lx + 1)) := ⟨_, rfl⟩
                rw [← hW4] at HQ4 a0 ⊢
                have hN1 := add_new W4 (.cells #[.int .i64 (y : Nat)] 3)
                obtain ⟨tv2, W5, hrun, hQ5⟩ := (HQ4.out.add hN1).push hH1 hH2 y ⟨W4.heap.size, 0, none⟩ 1 ((cell_of_row _ W4.heap.size 0 _ _ _ (heap_alloc_new W4 _)).trans rfl) HQL.out
                have HRUN := Lib.hid hrun
                have HQ5 := Lib.hid hQ5
                clear hrun hQ5 hN1 hW4 HQ4 c2 c5 s0 s1 sfr dx' dy' fr W1' q0 hQS hbfs hcl
                go_wp2_with (at_builtin; refine Lib.wpList_append_run _ rfl _ _ _ _ rfl _ _ rfl rfl _ _ HRUN.out ?_)
                go_roundw
                case rel => exact ⟨D1.set y (lx + 1), Q ++ [y], k + 1, by omega, by go_num, HQ5, HB3', HC3, HXD3⟩
                case measure => simp [intOf]; omega
              · have hclose : Hid (LCl A F N D1 Q x ((fromR A x).take (k + 1))) := Lib.hid (by
                  rw [HTK.out]
                  refine hcl.out.step (fun z hz hr => ?_)
                  have : z = y := by rw [HY.out] at hz; omega
                  subst this
                  rw [HRM.out] at hr
                  rw [HLY.out]
                  exact fun h => hc ⟨hr, h⟩)
                have HQ4 : Hid (∀ n, QS w0 ((wr.alloc (.cells #[.int .i64 (y : Nat), .int .i64 rm] 82)).drewN n) A N s t gr gs gf gd gu H sv uv2 (roomS A F) (allU A N) D1 Q (.slice (some ⟨gq, off, none⟩) Q.length cap) (.slice (some ⟨b, boff, none⟩) L rc) (fromR A x)) :=
                  Lib.hid fun n => hQS.out.add (Add.trans (add_new _ _) (add_drewN _ _))
                by_cases hc1 : 0 < rm
                · have d1 : decide (0 < rm) = true := decide_eq_true hc1
                  have d2 : (ly == -1) = false := by simpa using fun h => hc ⟨hc1, h⟩
                  clear hc hcl
                  go_wp2_with fail
                  go_quiet (fail)
                  clear d1 d2
                  go_wp2_with fail
                  go_roundw
                  case rel => exact ⟨D1, Q, k + 1, by omega, by go_num, Lib.hid (HQ4.out _), hbfs, hclose, hxd⟩
                  case measure => simp [intOf]; omega
                · have d1 : decide (0 < rm) = false := decide_eq_false hc1
                  clear hc hcl hc1
                  go_wp2_with fail
                  go_quiet (fail)
                  clear d1
                  go_wp2_with fail
                  go_roundw
                  case rel => exact ⟨D1, Q, k + 1, by omega, by go_num, Lib.hid (HQ4.out _), hbfs, hclose, hxd⟩
                  case measure => simp [intOf]; omega
            · obtain rfl : L = k := by omega
              have HQE : Hid (QS w0 wr A N s t gr gs gf gd gu H sv uv2 (roomS A F) (allU A N) D1 Q (.slice (some ⟨gq, off, none⟩) Q.length cap) (.slice none 0 0) []) := Lib.hid (by
                obtain ⟨k1, k2, k3, -, k5⟩ := hQS.out
                exact ⟨k1, k2, k3, RowR.nil _ _, k5⟩)
              have HCE : Hid (∃ x0 pre, LCl A F N D1 Q x0 pre ∧ (x0 < N → ∀ j, j ∈ fromR A x0 → j ∈ pre)) := Lib.hid ⟨x, _, hcl.out, fun _ j hj => by rw [List.take_of_length_le (by rw [HL.out]; exact Nat.le_refl _)]; exact hj⟩
              clear h1 h2 hq hrow h5 hQS hcl
              go_wp2_with fail
              go_roundg (gk - 1)
              case measure => omega
              case rel => exact ⟨D1, Q, p + 1, HQE, hbfs, HCE, by omega⟩
end Go.Proofs.Ytaoibakbnimnkaa
