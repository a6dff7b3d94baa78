/- Package linear: clearColumn. -/
import Derived.Test.YtbeoeackahmpbaaGreatDoorVE
namespace Go.Proofs.YtbeoeackahmpbaaGreatDoor
open Go.RowKit NatM Go.Proofs.YtbeoeackahmpbaaGreatDoor.Api

/-- Column j cleared by row k; p: the pivot before. -/
def clearT (T : Nat → Nat → Tri) (k j : Nat) (p : Tri) : Nat → Nat → Tri := fun i l => if i = k then T k l else if l < j then T i l else subT (T i) (fun l' => T k (j + l')) p j l
/-- What clearColumn leaves. -/
def ClP (w : World) (base ge G n cap m : Nat) (gs : Nat → Nat) (k j : Nat) (p s : Tri) (sv : V3) (T : Nat → Nat → Tri) (e : Ending) (w' : World) : Prop :=
  e = .returned (.tuple #[]) ∧ ∃ pv', ES w' base ge G n cap m gs (k + 1) (T k j) s pv' sv (clearT T k j p) ∧ Chg (inES ge G n gs) w w'
theorem ES.in_lt {w : World} {base ge G n cap m : Nat} {gs : Nat → Nat} {k : Nat} {p s : Tri} {pv sv : V3} {T : Nat → Nat → Tri} (h : ES w base ge G n cap m gs k p s pv sv T) : ∀ b, inES ge G n gs b → b < w.heap.size := by
  intro b hb
  rcases hb with rfl | rfl | ⟨i, hi, rfl⟩
  · exact h.box.lt
  · exact h.head.lt
  · exact (h.rows i hi).lt
theorem ES.row {w w' : World} {base ge G n cap m : Nat} {gs : Nat → Nat} {k : Nat} {p s : Tri} {pv sv : V3} {T : Nat → Nat → Tri} (h : ES w base ge G n cap m gs k p s pv sv T) {i : Nat} (hi : i < n) {t : Nat → Tri} (hr : FBlk w' (gs i) m t) (hc : Chg (fun b => b = gs i) w w') :
    ES w' base ge G n cap m gs k p s pv sv (fun a => if a = i then t else T a) :=
  ⟨h.box.chg hc (h.ne2 hi).1, h.fp.chg hc, h.fs.chg hc, h.head.chg hc (h.ne2 hi).2, fun a ha => by
    by_cases e : a = i
    · subst e; rw [if_pos rfl]; exact hr
    · rw [if_neg e]; exact (h.rows a ha).chg hc fun q => e (h.inj a i ha hi q), h.inj, h.low⟩
set_option maxRecDepth 100000 in
set_option maxHeartbeats 4000000 in
theorem clearColumnN {w : World} {base ge G n cap m : Nat} {gs : Nat → Nat} {k j : Nat} {p s : Tri} {pv sv : V3} {T : Nat → Nat → Tri} (h : ES w base ge G n cap m gs k p s pv sv T) (hj : j < m) (hk : k < n) (hn : n ≤ 1000) (hm : m ≤ 1000)
    (hS : ∀ i l, i < n → l < m → Sm (T i l)) (hp : Sm p) (hT : Tab w) :
    Calls Tryz.prog 83 #[.pointer (some ⟨ge, 0, none⟩), .int .i64 (j : Nat)] w (ClP w base ge G n cap m gs k j p s sv T) := by
  have HE := Lib.hid h
  have SS := Lib.hid hS
  have SP := Lib.hid hp
  have e0 := h.box.c0
  have e1 := h.box.c1
  have e2 := h.box.c2
  have e3 := h.box.c3
  have e4 := h.box.c4
  have hck : w.cell? ⟨G, k, none⟩ = some (.slice (some ⟨gs k, 0, none⟩) m m) := h.head.cell hk
  obtain ⟨gk, hgk⟩ : ∃ g, g = gs k := ⟨_, rfl⟩
  rw [← hgk] at hck
  have HGK := Lib.hid hgk
  obtain ⟨a, na, ca, e, d, f⟩ := pv
  obtain ⟨pb, hpb⟩ : ∃ b, b = p.1 := ⟨_, rfl⟩
  dsimp only at e3 e4
  rw [← hpb] at e2
  have HPB := Lib.hid hpb
  have hgl := h.box.lt
  have hGl := h.head.lt
  clear h hS hp hgk hpb
  go_enter Tryz.func83, Tryz.ntmps83
  go_wp2_with fail
  go_region
  all_goals
    clear e0 e1 e2 e3 e4 hck
    obtain ⟨len, hlen⟩ : ∃ len, len = m - j := ⟨_, rfl⟩
    rw [← hlen]
    obtain ⟨gx, hgx⟩ : ∃ gx, gx = w.heap.size := ⟨_, rfl⟩
    obtain ⟨T1, hB⟩ := laid_var w pb a na ca e d f
    rw [← hgx] at hB ⊢
    replace T1 := b_drewL T1
    obtain ⟨W1, hW1⟩ : ∃ W1, W1 = World.drew (w.alloc (.cells #[.bool pb, .slice a na ca, .slice e d f] 37)) := ⟨_, rfl⟩
    have hB1 : Box W1 gx pb a na ca e d f := by rw [hW1]; exact hB
    rw [← hW1] at T1 ⊢
    have hE1 := HE.out.add T1
    have hjl : j + len = m := by omega
    have hgxn : ∀ b, inES ge G n gs b → b ≠ gx := fun b hb q => by have := HE.out.in_lt b hb; omega
    have HGX := Lib.hid hgxn
    have HJL := Lib.hid hjl
    have c1 : Chg (inES ge G n gs) w W1 := Chg.of_add _ T1
    have e0 := hE1.box.c0
    have hlen2 : len ≤ 1000 := by omega
    have hlen1 : 0 < len := by omega
    have hE2 := hE1.congr (T' := fun i l => if i < 0 then clearT T k j p i l else T i l) fun i l _ _ => by rw [if_neg (by omega)]
    clear hB hW1 T1 hlen hgx hjl hE1 hgxn
    go_wp2_with fail
    clear e0
    go_loopw [29] (fun i wr => ∃ q : Nat, q ≤ n ∧ i = .int .i64 (q : Nat) ∧ ES wr base ge G n cap m gs k p s ⟨a, na, ca, e, d, f⟩ sv (fun i l => if i < q then clearT T k j p i l else T i l) ∧ Box wr gx pb a na ca e d f ∧ Chg (inES ge G n gs) w wr) (fun i _ => n - (intOf i).toNat)
    case atStart => exact ⟨0, Nat.zero_le _, rfl, hE2, hB1, c1⟩
    case round =>
      clear hE2 hB1 c1
      obtain ⟨q, hq, rfl, hE, hB, hC⟩ := hrel
      have hTk : ∀ l, (if k < q then clearT T k j p k l else T k l) = T k l := fun l => by
        unfold clearT
        split
        · rw [if_pos rfl]
        · rfl
      by_cases h0 : q = n
      · have hE3 := hE.congr (T' := clearT T k j p) fun i l hi _ => by rw [if_pos (by omega)]
        obtain ⟨sx, ax, qx, cx, ex, dx, fx, x0, x1, x2, hx⟩ := (hE3.rows k hk).get hj
        have e7 : clearT T k j p k j = T k j := by unfold clearT; rw [if_pos rfl]
        rw [e7] at hx
        rw [← HGK.out] at x0 x1 x2
        have e1 := hE3.box.c1
        have e2 := hE3.box.c2
        have e3 : wr.cell? ⟨ge, 3, none⟩ = some (.slice a na ca) := hE3.box.c3
        have e4 : wr.cell? ⟨ge, 4, none⟩ = some (.slice e d f) := hE3.box.c4
        have f2 := hE3.box.fr 2
        have f3 := hE3.box.fr 3
        have f4 := hE3.box.fr 4
        have hbl := hE3.box.lt
        obtain ⟨rfl, -, -⟩ := hx.parts
        obtain ⟨xb, hxb⟩ : ∃ b, b = (T k j).1 := ⟨_, rfl⟩
        rw [← hxb] at x0
        have cE := hE3.box.chgE (S := inES ge G n gs) ⟨_, _, _, rfl⟩ (.inl rfl) 2 xb ⟨ax, qx, cx, ex, dx, fx⟩
        have b5 := hE3.box.pivot xb ⟨ax, qx, cx, ex, dx, fx⟩
        have g1 := b5.c1
        have g2 := b5.fr 1
        have c6 := b5.setc (S := inES ge G n gs) ⟨_, _, _, rfl⟩ (.inl rfl) 1 (.int .i64 ((k + 1 : Nat) : Int)) _ b5.c1
        have HF : Hid (ClP w base ge G n cap m gs k j p s sv T (.returned (.tuple #[])) ((putE wr ge 2 (.bool xb) (.slice ax qx cx) (.slice ex dx fx)).setCell ⟨ge, 1, none⟩ (.int .i64 ((k + 1 : Nat) : Int)))) := Lib.hid (by
          have d1 := hE3.box.chgE (S := fun b => b = ge) ⟨_, _, _, rfl⟩ rfl 2 xb ⟨ax, qx, cx, ex, dx, fx⟩
          have d2 := b5.setc (S := fun b => b = ge) ⟨_, _, _, rfl⟩ rfl 1 (.int .i64 ((k + 1 : Nat) : Int)) _ b5.c1
          have d3 := d1.trans d2
          refine ⟨rfl, ⟨ax, qx, cx, ex, dx, fx⟩, ⟨?_, ?_, hE3.fs.chg d3, hE3.head.chg d3 (fun q => hE3.ne1 q.symm), fun i hi => (hE3.rows i hi).chg d3 (fun q => (hE3.ne2 hi).1 q.symm), hE3.inj, hE3.low⟩, (hC.trans cE).trans c6⟩
          · rw [← hxb]; exact b5.rank (k + 1)
          · have hx2 : FracT wr (.agg #[.bool xb, .slice ax qx cx, .slice ex dx fx]) (T k j) := by rw [hxb]; exact hx
            rw [← hxb]; exact hx2.chg d3)
        unfold putE at HF g1 g2
        dsimp only at HF g1 g2
        clear hE hE3 hB hC hx hxb cE b5 c6 e7 hTk hbl
        subst h0
        go_wp2_with fail
        go_end0
        exact HF.out
      · have hlt : q < n := by omega
        have hcq : wr.cell? ⟨G, q, none⟩ = some (.slice (some ⟨gs q, 0, none⟩) m m) := hE.head.cell hlt
        have e1 := hE.box.c1
        obtain ⟨gq, hgq⟩ : ∃ g, g = gs q := ⟨_, rfl⟩
        rw [← hgq] at hcq
        by_cases hqk : q = k
        · have HN := Lib.hid (And.intro (hE.congr (T' := fun i l => if i < q + 1 then clearT T k j p i l else T i l) fun i l hi _ => by
            by_cases e2 : i < q
            · rw [if_pos e2, if_pos (by omega)]
            · by_cases e3 : i = k
              · rw [if_neg e2, if_pos (by omega)]; unfold clearT; rw [if_pos e3, e3]
              · rw [if_neg e2, if_neg (by omega)]) (And.intro hB hC))
          have hne : ((q : Int) != (k : Int)) = false := by simp [hqk]
          clear hE hB hC hTk h0 hgq hqk
          go_wp2_with fail
          go_roundw
          case rel => exact ⟨q + 1, by omega, by go_num, HN.out.1, HN.out.2.1, HN.out.2.2⟩
          case measure => simp [intOf]; omega
        · have hne : ((q : Int) != (k : Int)) = true := by simp; omega
          have hrq := hE.rows q hlt
          have hrk := hE.rows k hk
          have hrq2 := hrq.congr (t' := T q) fun l _ => by rw [if_neg (by omega)]
          have hrk2 := hrk.congr (t' := T k) fun l _ => hTk l
          rw [← hgq] at hrq2
          rw [← HGK.out] at hrk2
          have hkq : gk ≠ gq := fun e => hqk (hE.inj q k hlt hk (by rw [← hgq, ← e, HGK.out]))
          obtain ⟨cur, -, -, hat⟩ := id hrk2
          have hat2 := hat.drop j len (by rw [HJL.out]; exact Nat.le_refl _)
          rw [Nat.zero_add] at hat2
          have hfp : FracT wr (.agg #[.bool pb, .slice a na ca, .slice e d f]) p := by rw [HPB.out]; exact hE.fp
          have hTw := hT.chg hC
          have eqS : (Value.slice (some ⟨gq, j * 3, none⟩) len (m - j)) = .slice (some ⟨gq, j * 3, none⟩) (m - j) (m - j) := by rw [show m - j = len by have := HJL.out; omega]
          have HC : Hid (∀ wd, Add wr wd → Calls Tryz.prog 104 #[.slice (some ⟨gq, j * 3, none⟩) (m - j) (m - j), .slice (some ⟨gk, j * 3, none⟩) len len, .agg #[.bool pb, .slice a na ca, .slice e d f]] wd (SubP wd gq m j (T q) (fun i => T k (j + i)) p)) := Lib.hid fun wd hd => by
            have := subtractN (cr := m - j) (ct := len) (hrq2.add hd) HJL.out hlen1 hlen2 (hat2.add hd) hkq (hfp.mono hd) (fun i hi => SS.out q i hlt hi) (fun i hi => SS.out k (j + i) hk (by have := HJL.out; omega)) SP.out (hTw.mono hd)
            rwa [eqS] at this
          have HN : Hid (∀ wd w', Add wr wd → FBlk w' gq m (fun i => if i < j then T q i else subT (T q) (fun i => T k (j + i)) p j i) → Chg (fun b => b = gq) wd w' → ES w' base ge G n cap m gs k p s ⟨a, na, ca, e, d, f⟩ sv (fun i l => if i < q + 1 then clearT T k j p i l else T i l) ∧ Box w' gx pb a na ca e d f ∧ Chg (inES ge G n gs) w w') := Lib.hid fun wd w' g0 g1 g2 => by
            replace g2 := (Chg.of_add (fun b => b = gq) g0).trans g2
            rw [hgq] at g1 g2
            refine ⟨(hE.row hlt g1 g2).congr fun i l hi hl => ?_, hB.chg g2 (fun e => HGX.out (gs q) (.inr (.inr ⟨q, hlt, rfl⟩)) e.symm), hC.trans (g2.mono fun b hb => .inr (.inr ⟨q, hlt, hb⟩))⟩
            by_cases e1 : i = q
            · rw [if_pos e1, if_pos (show i < q + 1 by omega), e1]
              unfold clearT
              rw [if_neg hqk]
            · rw [if_neg e1]
              by_cases e2 : i < q
              · rw [if_pos e2, if_pos (show i < q + 1 by omega)]
              · rw [if_neg e2, if_neg (show ¬ i < q + 1 by omega)]
          have HS : Hid (∀ w', Add wr w' → w'.cell? ⟨gx, 0, none⟩ = some (.bool pb) ∧ w'.cell? ⟨gx, 1, none⟩ = some (.slice a na ca) ∧ w'.cell? ⟨gx, 2, none⟩ = some (.slice e d f)) := Lib.hid fun w' g => ⟨(hB.mono g).c0, (hB.mono g).c1, (hB.mono g).c2⟩
          obtain ⟨p0, p1, p2⟩ := HS.out wr (Below.refl _ _)
          have b1 : (0 : Int) ≤ (j : Int) := by omega
          have b2 : (j : Int) ≤ (m : Int) := by omega
          have nmj : ¬ (m = j) := by omega
          clear hE hB hC hTk h0 hgq hqk hrq hrk hrq2 hrk2 hkq hat hat2 hfp hTw eqS
          go_wp2_with fail
          go_region_held3 (fun w' => w'.cell? ⟨gx, 0, none⟩ = some (.bool pb) ∧ w'.cell? ⟨gx, 1, none⟩ = some (.slice a na ca) ∧ w'.cell? ⟨gx, 2, none⟩ = some (.slice e d f))
            (first | exact HS.out _ (Below.drew (Below.refl _ _)) | exact HS.out _ (Below.refl _ _) | exact HS1)
            (first | (go_at_call 104; ((with_reducible refine (HC.out _ (Below.drew (Below.refl _ _))).mono ?_); rintro ee z1 ⟨rfl, g1, g2⟩; have hN := Lib.hid (HN.out _ _ (Below.drew (Below.refl _ _)) g1 g2); have HS1 := (And.intro hN.out.2.1.c0 (And.intro hN.out.2.1.c1 hN.out.2.1.c2)))))
          all_goals
            go_wp2_with fail
            go_roundw
            case rel => exact ⟨q + 1, by omega, by go_num, hN.out.1, hN.out.2.1, hN.out.2.2⟩
            case measure => simp [intOf]; omega
end Go.Proofs.YtbeoeackahmpbaaGreatDoor
