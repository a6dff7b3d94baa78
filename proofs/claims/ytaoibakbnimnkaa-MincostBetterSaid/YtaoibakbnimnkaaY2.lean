/- Package mincost: push. -/
import Derived.Test.YtaoibakbnimnkaaY1
namespace Go.Proofs.Ytaoibakbnimnkaa
open Go.RowKit NetM

theorem room_along {A : List Arc} {F : List Int} {i : Nat} (p : Int) (hl : i / 2 < F.length) (j : Nat) :
    (if j = twin i then roomS A F (twin i) + p else if j = i then roomS A F i - p else roomS A F j) = roomS A (along F i p) j := by
  by_cases cj : j = twin i
  · subst cj; rw [if_pos rfl, room_twin p hl]
  · rw [if_neg cj]
    by_cases ci : j = i
    · subst ci; rw [if_pos rfl, room_self p hl]
    · rw [if_neg ci, room_other p hl ci cj]
/-- The rooms behind a push; A' has the same nodes. -/
def roomR (R : Nat → Int) (i : Nat) (p : Int) (j : Nat) : Int := if j = twin i then R (twin i) + p else if j = i then R i - p else R j

set_option maxRecDepth 100000 in
set_option maxHeartbeats 4000000 in
theorem cpush_any {w0 w : World} {A0 A : List Arc} {N gr ga gs gf gp gx gt : Nat} {va sv : Value} {R : Nat → Int} {P X : List Int} {T : List Bool} (h : CB w0 w A0 A N gr ga gs gf gp gx gt va sv R P X T)
    (hc : Cir A N) {j : Nat} (hj : j < 2 * A.length) {p : Int} (hp : -20000000000000 ≤ p ∧ p ≤ 20000000000000) (hR : -20000000000000 ≤ R j ∧ R j ≤ 20000000000000) (hR' : -20000000000000 ≤ R (twin j) ∧ R (twin j) ≤ 20000000000000)
    (hX : ∀ x, x < N → -200000000000000 ≤ X.getD x 0 ∧ X.getD x 0 ≤ 200000000000000) :
    Calls Try.prog 53 #[.pointer (some ⟨gr, 0, none⟩), .int .i64 j, .int .i64 p] w fun e w' => e = .returned (.tuple #[]) ∧ CB w0 w' A0 A N gr ga gs gf gp gx gt va sv (roomR R j p) P (pushX A X j p) T ∧ KeepR gp gx w w' := by
  have H := Lib.hid h
  have hjt : twin j < 2 * A.length := twin_lt hj
  obtain ⟨c, rfl, hc1, hc2, s0, s1, -, f1, l1⟩ := h.2.2.1.get hj
  have h1 := h.room j (R j - p)
  obtain ⟨-, -, -, -, t0, t1, -, f2, -⟩ := h1.2.2.1.get hjt
  rw [if_neg (twin_ne j)] at t1
  have h2 := h1.room (twin j) (R (twin j) + p)
  obtain ⟨-, -, -, -, u0, -, -, -, -⟩ := h2.2.2.1.get hj
  have c1 := h.1.c1
  have c1' := h1.1.c1
  have c1'' := h2.1.c1
  have c4 := h2.1.c4
  have hXl := h2.2.2.2.2.2.2.2.2.1
  obtain ⟨e1, e2⟩ := tn_is hc.ok hj
  obtain ⟨e3, e4⟩ := hn_is hc.ok hj
  rw [e3] at u0
  have x1 : ((w.setCell ⟨gs, j * 3 + 1, none⟩ (.int .i64 (R j - p))).setCell ⟨gs, twin j * 3 + 1, none⟩ (.int .i64 (R (twin j) + p))).cell? ⟨gx, hn A j, none⟩ = some (.int .i64 (X.getD (hn A j) 0)) := IBlk.get h2.2.2.2.2.2.1 _ (by omega)
  have y1 := Blk.free h2.2.2.2.2.2.1 (hn A j)
  have h3 := h2.sur (hn A j) (X.getD (hn A j) 0 + p)
  have c1t := h3.1.c1
  have c4t := h3.1.c4
  obtain ⟨-, -, -, -, v0, -, -, -, -⟩ := h3.2.2.1.get hjt
  rw [head_twin, e1] at v0
  have hX3 : (X.set (hn A j) (X.getD (hn A j) 0 + p)).length = N := h3.2.2.2.2.2.2.2.2.1
  have x2 : (((w.setCell ⟨gs, j * 3 + 1, none⟩ (.int .i64 (R j - p))).setCell ⟨gs, twin j * 3 + 1, none⟩ (.int .i64 (R (twin j) + p))).setCell ⟨gx, hn A j, none⟩ (.int .i64 (X.getD (hn A j) 0 + p))).cell? ⟨gx, tn A j, none⟩ = some (.int .i64 ((X.set (hn A j) (X.getD (hn A j) 0 + p)).getD (tn A j) 0)) := IBlk.get h3.2.2.2.2.2.1 _ (by omega)
  have y2 := Blk.free h3.2.2.2.2.2.1 (tn A j)
  have h4 := h3.sur (tn A j) ((X.set (hn A j) (X.getD (hn A j) 0 + p)).getD (tn A j) 0 - p)
  have HF := Lib.hid h4
  have X1 := xor_two j (by have := hc.len; omega)
  have hb1 := hX _ e4
  have hb2 : -220000000000000 ≤ (X.set (hn A j) (X.getD (hn A j) 0 + p)).getD (tn A j) 0 ∧ (X.set (hn A j) (X.getD (hn A j) 0 + p)).getD (tn A j) 0 ≤ 220000000000000 := by
    rw [getD_set _ (by omega)]
    have := hX _ e2
    split <;> omega
  have l2 := h.1.lt
  have l3 := Blk.lt h.2.2.2.2.2.1
  have HP : Hid (pushX A X j p = (X.set (hn A j) (X.getD (hn A j) 0 + p)).set (tn A j) ((X.set (hn A j) (X.getD (hn A j) 0 + p)).getD (tn A j) 0 - p)) := Lib.hid rfl
  have HFIN : Hid (∀ (W : World), W = (((w.setCell ⟨gs, j * 3 + 1, none⟩ (.int .i64 (R j - p))).setCell ⟨gs, twin j * 3 + 1, none⟩ (.int .i64 (R (twin j) + p))).setCell ⟨gx, hn A j, none⟩ (.int .i64 (X.getD (hn A j) 0 + p))).setCell ⟨gx, tn A j, none⟩ (.int .i64 ((X.set (hn A j) (X.getD (hn A j) 0 + p)).getD (tn A j) 0 - p)) →
      ∀ W', Add W W' → CB w0 W' A0 A N gr ga gs gf gp gx gt va (.slice (some ⟨gs, 0, none⟩) (2 * A.length) c) (roomR R j p) P (pushX A X j p) T ∧ KeepR gp gx w W') := Lib.hid (fun W hW W' hA => by
    subst hW
    refine ⟨?_, (h.keepRoom _ _).trans ((h1.keepRoom _ _).trans ((h2.keepSur _ _).trans ((h3.keepSur _ _).trans (.add hA))))⟩
    refine (HF.out.congr (R' := roomR R j p) fun k _ => ?_).add hA
    unfold roomR
    by_cases c1 : k = twin j
    · subst c1; rw [if_pos rfl]
    · rw [if_neg c1])
  obtain ⟨z, hz⟩ : ∃ z, z = (X.set (hn A j) (X.getD (hn A j) 0 + p)).getD (tn A j) 0 := ⟨_, rfl⟩
  obtain ⟨xh, hxh⟩ : ∃ z, z = X.getD (hn A j) 0 := ⟨_, rfl⟩
  obtain ⟨x, hx⟩ : ∃ x, x = tn A j := ⟨_, rfl⟩
  obtain ⟨y, hy⟩ : ∃ y, y = hn A j := ⟨_, rfl⟩
  obtain ⟨tw, htw⟩ : ∃ tw, tw = twin j := ⟨_, rfl⟩
  obtain ⟨m, hm⟩ : ∃ m, m = 2 * A.length := ⟨_, rfl⟩
  obtain ⟨rj, hrj⟩ : ∃ r, r = R j := ⟨_, rfl⟩
  obtain ⟨rt, hrt⟩ : ∃ r, r = R (twin j) := ⟨_, rfl⟩
  clear h1 h2 h3 h4 HF HP H h hX hXl hX3 e1 e3
  rw [← hz] at hb2 x2 HFIN
  rw [← hxh] at x2 x1 hb1 HFIN v0 c1t c4t y2
  rw [← hrj] at hR s1 t0 t1 f2 c1' c1'' c4 u0 x1 y1 c1t c4t v0 x2 y2 HFIN
  rw [← hrt] at hR' t1 c1'' c4 u0 x1 y1 c1t c4t v0 x2 y2 HFIN
  rw [← htw] at hjt t0 t1 f2 X1 c1'' c4 u0 x1 y1 c1t c4t v0 x2 y2 HFIN
  rw [← hx] at e2 v0 x2 y2 HFIN
  rw [← hy] at e4 u0 x1 y1 c1t c4t v0 x2 y2 HFIN
  rw [← hm] at hj hjt hc1 c1 c1' c1'' c1t
  clear hz hxh hx hy htw hm hrj hrt hc
  unfold maxLen at hc2
  go_enter Try.func53, Try.ntmps53
  go_upto_region 2 with fail
  go_region
  go_wp2_with fail
  go_region
  go_wp2_with fail
  go_end0
  exact ⟨rfl, HFIN.out _ rfl _ (b_drew (b_drew (Below.refl _ _)))⟩
end Go.Proofs.Ytaoibakbnimnkaa
