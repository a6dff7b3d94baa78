import Derived.Test.YtbeoeackahmpbaaGreatDoorJV5
import Derived.Deep.Cut
import Derived.Deep.RegionHeld3
import Derived.Lib.AppendZeros
namespace Go.Proofs.YtbeoeackahmpbaaGreatDoor
open Go.RowKit NatM Go.Proofs.YtbeoeackahmpbaaGreatDoor.Api LinM
def idX : Nat → Nat → Tri := fun i j => can (if i = j then 1 else 0)
theorem idZero : (makeF 0 1).1 = can (0 : Rat) := by
 have h : can ((0 : Nat) : Rat) = (false, 0, 1) := can_nat 0
 rw [show (0 : Rat) = ((0 : Nat) : Rat) from rfl, h]; decide
theorem idOne : (makeF 1 1).1 = can (1 : Rat) := make11
def idF (k j : Nat) : Nat → Nat → Tri := fun a b => if a = k then (if b < j then can 0 else (false, 0, 0)) else idX a b
def IdP (w : World) (n : Nat) (e : Ending) (w' : World) : Prop := ∃ G gs, e = .returned (.tuple #[.slice (some ⟨G, 0, none⟩) n n, .int .i64 0]) ∧ EM w' w.heap.size G n n gs (fun _ => n) idX ∧ Add w w'
set_option maxRecDepth 100000 in
set_option maxHeartbeats 2000000 in
theorem identityN {w : World} {n : Nat} (hT : Tab w) (h1 : 1 ≤ n) (hn : n ≤ 24) :
 Calls Tryz.prog 30 #[.int .i64 (n : Nat)] w (IdP w n) := by
 obtain ⟨i0, hi, hz0, hz1, hz2⟩ := info_parts infoFracL
 obtain ⟨i1, hi1, hy0, hy1, hy2⟩ := info_parts infoFracs
 have HO := Lib.hid (isOrderN true (w := w) (show n ≤ 9223372036854775807 by omega) (Lib.hid (decide_eq_true ⟨h1, hn⟩)))
 have HI0 : Hid (∀ w', Add w w' → Calls Tryz.prog 56 #[.int .i64 0] w' (RetF w' (can 0))) := Lib.hid fun w' ha => by
  have := integerN _ (hT.mono ha) (Lib.hid (by decide)) (Lib.hid (rfl : makeF 0 1 = _))
  rwa [idZero] at this
 have HI1 : Hid (∀ w', Add w w' → Calls Tryz.prog 56 #[.int .i64 1] w' (RetF w' (can 1))) := Lib.hid fun w' ha => by
  have := integerN _ (hT.mono ha) (Lib.hid (by decide)) (Lib.hid (rfl : makeF 1 1 = _))
  rwa [idOne] at this
 clear hT
 go_enter Tryz.func30, Tryz.ntmps30
 go_wp2_with fail
 refine HO.out.mono ?_
 rintro e w0 ⟨rfl, rfl⟩
 clear HO
 go_wp2_with (at_make; refine wpList_make_full _ rfl _ _ 22 rfl w.heap.size 23 i1 (.slice none 0 0) 1 Tryz.underlying22 hi1 hy0 hy1 _ _ _ _ n rfl rfl (by omega) (by omega) (by rw [hy2]; omega) (by unfold maxLen; omega) (Nat.le_refl _) ?_)
 intro w1 hown hgr
 obtain ⟨G, hG⟩ : ∃ G, G = w.heap.size := ⟨_, rfl⟩
 have hB := HB.made hown
 rw [← hG] at hB ⊢
 have A1 : Add w w1 := (Below.refl _ _).grown hgr (Nat.le_refl _) (by simp)
 have hE := EM.start (base := w.heap.size) (fun _ => 0) (fun _ => n) idX hB (by omega)
 have HG := Lib.hid hG
 clear hown hgr hB hG
 go_wp2_with fail
 go_loopw [14] (fun i wr => ∃ (k : Nat) (gs : Nat → Nat), k ≤ n ∧ i = .int .i64 (k : Nat) ∧ EM wr w.heap.size G n k gs (fun _ => n) idX ∧ Add w wr) (fun i _ => n - (intOf i).toNat)
 case atStart => exact ⟨0, _, Nat.zero_le _, rfl, hE, A1⟩
 case round =>
  clear hE A1
  obtain ⟨k, gs, hk, rfl, hE, T⟩ := hrel
  by_cases h0 : k = n
  · have HF := Lib.hid hE
    have TT := Lib.hid T
    clear hE T
    subst h0
    go_wp2_with fail
    go_ret2
    exact ⟨G, gs, rfl, HF.out, TT.out⟩
  · have hlt : k < n := by omega
    have HE := Lib.hid hE
    have TT := Lib.hid T
    have HGL : Hid (G < wr.heap.size ∧ w.heap.size ≤ wr.heap.size) := Lib.hid ⟨hE.head.lt, T.size⟩
    clear T h0 hE
    rename World => wm
    go_wp2_with (at_make; refine wpList_make_full _ rfl _ _ 23 rfl wm.heap.size 37 i0 (.agg #[.bool false, .slice none 0 0, .slice none 0 0]) 3 Tryz.underlying23 hi hz0 hz1 _ _ _ _ n rfl rfl (by omega) (by omega) (by rw [hz2]; omega) (by unfold maxLen; omega) (Nat.le_refl _) ?_)
    intro w1 hown hgr
    have A2 : Add wm w1 := (Below.refl _ _).grown hgr (Nat.le_refl _) (by simp)
    have hFB := FBlk.made hown
    obtain ⟨g, eg⟩ : ∃ g, g = wm.heap.size := ⟨_, rfl⟩
    have hh := (HE.out.head.add A2).cell hlt
    rw [if_neg (by omega)] at hh
    have hf := (HE.out.head.add A2).free k
    have hGl := (HE.out.head.add A2).lt
    have hE2 := HE.out.push hlt A2 hFB (Nat.le_refl _) HGL.out.2
    rw [← eg] at hE2
    have T2 : Add w (w1.setCell ⟨G, k, none⟩ (.slice (some ⟨g, 0, none⟩) n n)) := setL _ (Add.trans TT.out A2) (by rw [HG.out]; exact Nat.le_refl _)
    have HE2 := Lib.hid (And.intro (hE2.congr (X' := idF k 0) fun i j hi hj => by
     unfold idF
     by_cases e : i = k
     · rw [if_pos e, if_pos e, if_neg (by omega)]
     · rw [if_neg e, if_neg e]) T2)
    rw [← eg]
    clear hown hgr A2 hFB hE2 T2 eg
    go_wp2_with fail
    clear hh hf hGl
    go_loopw [27] (fun i wq => ∃ j : Nat, j ≤ n ∧ i = .int .i64 (j : Nat) ∧ EM wq w.heap.size G n (k + 1) (fun i => if i = k then g else gs i) (fun _ => n) (idF k j) ∧ Add w wq) (fun i _ => n - (intOf i).toNat)
    case atStart => exact ⟨0, Nat.zero_le _, rfl, HE2.out.1, HE2.out.2⟩
    case round =>
     clear HE2
     obtain ⟨j, hj, rfl, hE, TW⟩ := hrel
     have hc := hE.head.cell hlt
     rw [if_pos (by omega), if_pos rfl] at hc
     have HS : Hid (∀ w', Add wr w' → w'.cell? ⟨G, k, none⟩ = some (.slice (some ⟨g, 0, none⟩) n n)) := Lib.hid fun w' g => cell_addL hc g
     have hgn : G ≠ g := by
      have hr := hE.rows k (by omega)
      rw [if_pos rfl] at hr
      exact fun e => hb_ne hE.head hr e.symm
     have HK : Hid (∀ i w', i < n → Add wr w' → ∃ s an m cn ad d cd, w'.cell? ⟨g, i * 3, none⟩ = some (.bool s) ∧ w'.cell? ⟨g, i * 3 + 1, none⟩ = some (.slice an m cn) ∧ w'.cell? ⟨g, i * 3 + 2, none⟩ = some (.slice ad d cd) ∧ w'.frozen? ⟨g, i * 3, none⟩ = false ∧ w'.frozen? ⟨g, i * 3 + 1, none⟩ = false ∧ w'.frozen? ⟨g, i * 3 + 2, none⟩ = false ∧ g < w'.heap.size) := Lib.hid fun i w' hi ha => by
      have hr := (hE.add ha).rows k (by omega)
      rw [if_pos rfl] at hr
      obtain ⟨s, an, m, cn, ad, d, cd, k0, k1, k2, -⟩ := hr.get (i := i) hi
      exact ⟨s, an, m, cn, ad, d, cd, k0, k1, k2, hr.free _, hr.free _, hr.free _, hr.lt⟩
     have HP : Hid (∀ i w' s4 a4 n4 k4 e4 d4 l4 x, i < n → Add wr w' → FracT w' (.agg #[.bool s4, .slice a4 n4 k4, .slice e4 d4 l4]) x → EM (putF w' g i (.bool s4) (.slice a4 n4 k4) (.slice e4 d4 l4)) w.heap.size G n (k + 1) (fun i => if i = k then g else gs i) (fun _ => n) (fun a b => if a = k ∧ b = i then x else idF k j a b) ∧ Add w (putF w' g i (.bool s4) (.slice a4 n4 k4) (.slice e4 d4 l4))) := Lib.hid fun i w' s4 a4 n4 k4 e4 d4 l4 x hi ha hx => by
      have hE3 := hE.add ha
      have hp := hE3.put (i := k) (j := i) (by omega) hi hx
      rw [if_pos rfl] at hp
      refine ⟨hp, putF_below _ _ _ (Add.trans TW ha) ?_⟩
      have := hE3.low.2 k (by omega)
      rwa [if_pos rfl] at this
     have HTW := Lib.hid TW
     have p0 := HS.out wr (Below.refl _ _)
     by_cases h1 : j = n
     · have HS2 : Hid (∀ w' u0 u1 u2, Add wr w' → (putF w' g k u0 u1 u2).cell? ⟨G, k, none⟩ = some (.slice (some ⟨g, 0, none⟩) n n)) := Lib.hid fun w' u0 u1 u2 ha => by
        rw [cell_putF _ _ _ hgn]; exact HS.out w' ha
       have HC : Hid (∀ w', Add wr w' → Calls Tryz.prog 56 #[.int .i64 1] w' (RetF w' (can 1))) := Lib.hid fun w' ha => HI1.out w' (Add.trans HTW.out ha)
       subst h1
       clear hE TW hc hgn
       go_upto_region 13 with fail
       go_region_held3 (fun w' => w'.cell? ⟨G, k, none⟩ = some (.slice (some ⟨g, 0, none⟩) j j))
        (first | exact HS.out _ (Below.drew (Below.refl _ _)) | exact HS.out _ (Below.refl _ _) | exact HS.out _ aa2 | exact HS2.out _ _ _ _ aa2)
        (first | (go_at_call 56; ((with_reducible refine (HC.out _ (Below.drew (Below.refl _ _))).mono ?_); rintro e z1 ⟨v4, rfl, hv4, h3⟩; obtain ⟨a4, n4, k4, e4, d4, l4, rfl, x1, y1⟩ := id hv4; have aa2 := Add.trans (Below.drew (Below.refl _ _) : Add wr (World.drew wr)) h3; have hN := Lib.hid (HP.out k _ _ _ _ _ _ _ _ _ hlt aa2 hv4); obtain ⟨_, _, _, _, _, _, _, f0, f1, f2, f3, f4, f5, f6⟩ := HK.out k _ hlt aa2; clear hv4 x1 y1)))
       all_goals
        go_wp2_with fail
        go_roundw
        case rel =>
         refine ⟨k + 1, _, by omega, by go_num, hN.out.1.congr (fun a b ha hb => ?_), hN.out.2⟩
         unfold idF idX
         by_cases e : a = k
         · by_cases e2 : b = k
           · rw [if_pos ⟨e, e2⟩, if_pos (e.trans e2.symm)]
           · rw [if_neg fun q => e2 q.2, if_pos e, if_pos hb, if_neg (by omega)]
         · rw [if_neg fun q => e q.1, if_neg e]
        case measure => simp [intOf]; omega
     · have hlt2 : j < n := by omega
       have HS2 : Hid (∀ w' u0 u1 u2, Add wr w' → (putF w' g j u0 u1 u2).cell? ⟨G, k, none⟩ = some (.slice (some ⟨g, 0, none⟩) n n)) := Lib.hid fun w' u0 u1 u2 ha => by
        rw [cell_putF _ _ _ hgn]; exact HS.out w' ha
       have HC : Hid (∀ w', Add wr w' → Calls Tryz.prog 56 #[.int .i64 0] w' (RetF w' (can 0))) := Lib.hid fun w' ha => HI0.out w' (Add.trans HTW.out ha)
       clear hE TW hc hgn
       go_upto_region 11 with fail
       go_region_held3 (fun w' => w'.cell? ⟨G, k, none⟩ = some (.slice (some ⟨g, 0, none⟩) n n))
        (first | exact HS.out _ (Below.drew (Below.refl _ _)) | exact HS.out _ (Below.refl _ _) | exact HS.out _ aa2 | exact HS2.out _ _ _ _ aa2)
        (first | (go_at_call 56; ((with_reducible refine (HC.out _ (Below.drew (Below.refl _ _))).mono ?_); rintro e z1 ⟨v4, rfl, hv4, h3⟩; obtain ⟨a4, n4, k4, e4, d4, l4, rfl, x1, y1⟩ := id hv4; have aa2 := Add.trans (Below.drew (Below.refl _ _) : Add wr (World.drew wr)) h3; have hN := Lib.hid (HP.out j _ _ _ _ _ _ _ _ _ hlt2 aa2 hv4); obtain ⟨_, _, _, _, _, _, _, f0, f1, f2, f3, f4, f5, f6⟩ := HK.out j _ hlt2 aa2; clear hv4 x1 y1)))
       all_goals
        go_wp2_with fail
        go_roundw
        case rel =>
         refine ⟨j + 1, by omega, by go_num, hN.out.1.congr (fun a b ha hb => ?_), hN.out.2⟩
         unfold idF
         by_cases e : a = k
         · by_cases e2 : b = j
           · rw [if_pos ⟨e, e2⟩, if_pos e, if_pos (by omega)]
           · rw [if_neg fun q => e2 q.2, if_pos e, if_pos e]
             by_cases e4 : b < j
             · rw [if_pos e4, if_pos (by omega)]
             · rw [if_neg e4, if_neg (by omega)]
         · rw [if_neg fun q => e q.1, if_neg e, if_neg e]
        case measure => simp [intOf]; omega
end Go.Proofs.YtbeoeackahmpbaaGreatDoor
namespace Go.Proofs.YtbeoeackahmpbaaGreatDoor
open Go.RowKit NatM Go.Proofs.YtbeoeackahmpbaaGreatDoor.Api LinM
theorem RowAt.cells {w : World} {b off m : Nat} {t : Nat → Tri} (h : RowAt true w b off m t) :
 ∃ news : List Value, news.length = m * 3 ∧ (∀ j u, news[j]? = some u → w.cell? ((⟨b, off, none⟩ : Addr).add j) = some u) ∧ (∀ u ∈ news, u.oneCell' = true) ∧ (∀ u ∈ news, SoftV u) ∧ CellsT w news m t := by
 have key : ∀ j, j < m * 3 → ∃ u, w.cell? ⟨b, off + j, none⟩ = some u ∧ u.oneCell' = true ∧ SoftV u := by
  intro j hj
  obtain ⟨s, an, l, cn, ad, d, cd, h1, h2, h3, -⟩ := h (j / 3) (by omega)
  have hr : j % 3 = 0 ∨ j % 3 = 1 ∨ j % 3 = 2 := by omega
  rcases hr with hr | hr | hr
  · rw [show off + j / 3 * 3 = off + j by omega] at h1
    exact ⟨_, h1, rfl, fun k z _ e => by cases e⟩
  · rw [show off + j / 3 * 3 + 1 = off + j by omega] at h2
    exact ⟨_, h2, rfl, fun k z _ e => by cases e⟩
  · rw [show off + j / 3 * 3 + 2 = off + j by omega] at h3
    exact ⟨_, h3, rfl, fun k z _ e => by cases e⟩
 have get : ∀ j, ((List.range (m * 3)).map fun j => (w.cell? ⟨b, off + j, none⟩).getD (.bool false))[j]? = if j < m * 3 then some ((w.cell? ⟨b, off + j, none⟩).getD (.bool false)) else none := by
  intro j
  rw [List.getElem?_map]
  by_cases hj : j < m * 3
  · rw [if_pos hj, List.getElem?_range hj]; rfl
  · rw [if_neg hj, List.getElem?_eq_none (by simp; omega)]; rfl
 have all : ∀ u ∈ ((List.range (m * 3)).map fun j => (w.cell? ⟨b, off + j, none⟩).getD (.bool false)), u.oneCell' = true ∧ SoftV u := by
  intro u hu
  obtain ⟨j, hj, rfl⟩ := List.mem_map.1 hu
  obtain ⟨u, e, h1, h2⟩ := key j (List.mem_range.1 hj)
  rw [e]; exact ⟨h1, h2⟩
 refine ⟨_, by simp, fun j u hu => ?_, fun u hu => (all u hu).1, fun u hu => (all u hu).2, fun i hi => ?_⟩
 · rw [get] at hu
   by_cases hj : j < m * 3
   · rw [if_pos hj] at hu
     obtain ⟨u', e, -, -⟩ := key j hj
     rw [e] at hu
     rw [Addr.add_lit, e]; exact hu
   · rw [if_neg hj] at hu; cases hu
 · obtain ⟨s, an, l, cn, ad, d, cd, h1, h2, h3, h4⟩ := h i hi
   refine ⟨s, an, l, cn, ad, d, cd, ?_, ?_, ?_, h4⟩
   · rw [get, if_pos (by omega), h1]; rfl
   · rw [get, if_pos (by omega), ← Nat.add_assoc, h2]; rfl
   · rw [get, if_pos (by omega), ← Nat.add_assoc, h3]; rfl
theorem OwnF.concat {w : World} {base n m : Nat} {v u : Value} {t t2 : Nat → Tri} (h : OwnF w base v n t) (hu : RowP true w u m t2) (hm : 0 < m) (hn : n + m ≤ 100000) (hbase : base ≤ w.heap.size) :
 ∃ a' c' w', (Builtin.append_ #[23, 23] 23 #[v, u]).run Tryz.prog w = .ok (.slice a' (n + m) c') w' ∧ OwnF w' base (.slice a' (n + m) c') (n + m) (fun i => if i < n then t i else t2 (i - n)) ∧ Chg (fun k => v.ownBlock = some k) w w' ∧ ((Value.slice a' (n + m) c').ownBlock = v.ownBlock ∨ (Value.slice a' (n + m) c').ownBlock = some w.heap.size) := by
 obtain ⟨i0, hi, hz0, hz1, hz2⟩ := info_parts infoFracL
 obtain ⟨xs, h1, h2, h3⟩ := h
 obtain ⟨ao, c, rfl, -, -, hr⟩ := hu
 obtain ⟨b, off, rfl, hrow⟩ := hr hm
 obtain ⟨news, g1, g2, g3, g4, g5⟩ := hrow.cells
 obtain ⟨v', w', hr, k1, k2, k3, k4⟩ := run_append_soft (P := Tryz.prog) w base 23 23 37 i0 (.agg #[.bool false, .slice none 0 0, .slice none 0 0]) 3 56 Tryz.underlying23 hi hz0 hz1 hz2 rfl (by decide)
  (by intro u hu k z _ e; simp [Value.cells] at hu; rcases hu with rfl | rfl <;> cases e)
  v n xs h1 h3 ⟨b, off, none⟩ m c news g1 g2 g3 g4 (by unfold maxLen; omega) (by omega) hbase
 have hc := chg_grown k2 h3
 have hl : xs.length = n * 3 := h1.1
 have hO : OwnF w' base v' (n + m) (fun i => if i < n then t i else t2 (i - n)) := by
  refine ⟨_, k1, fun i hi => ?_, k4⟩
  by_cases e : i < n
  · obtain ⟨s', an', m', cn', ad', d', cd', q1, q2, q3, q4⟩ := h2 i e
    refine ⟨s', an', m', cn', ad', d', cd', ?_, ?_, ?_, ?_⟩
    · rw [List.getElem?_append_left (by omega)]; exact q1
    · rw [List.getElem?_append_left (by omega)]; exact q2
    · rw [List.getElem?_append_left (by omega)]; exact q3
    · dsimp only; rw [if_pos e]; exact q4.chg hc
  · obtain ⟨s', an', m', cn', ad', d', cd', q1, q2, q3, q4⟩ := g5 (i - n) (by omega)
    refine ⟨s', an', m', cn', ad', d', cd', ?_, ?_, ?_, ?_⟩
    · rw [List.getElem?_append_right (by omega), show i * 3 - xs.length = (i - n) * 3 by omega]; exact q1
    · rw [List.getElem?_append_right (by omega), show i * 3 + 1 - xs.length = (i - n) * 3 + 1 by omega]; exact q2
    · rw [List.getElem?_append_right (by omega), show i * 3 + 2 - xs.length = (i - n) * 3 + 2 by omega]; exact q3
    · dsimp only; rw [if_neg e]; exact q4.chg hc
 obtain ⟨a', c', rfl, -, -⟩ := hO.slice
 exact ⟨a', c', w', hr, hO, hc, k3⟩
def RetOF (w : World) (n : Nat) (t : Nat → Tri) (e : Ending) (w' : World) : Prop := ∃ a c, e = .returned (.slice a n c) ∧ OwnF w' w.heap.size (.slice a n c) n t ∧ Add w w'
set_option maxRecDepth 100000 in
theorem growNil {w : World} {n : Nat} (t : Nat → Tri) (hn : n ≤ 100000) :
 Calls Tryz.prog 77 #[.slice none 0 0, .int .i64 (n : Nat)] w (RetOF w 0 t) := by
 obtain ⟨i0, hi, hz0, hz1, hz2⟩ := info_parts infoFracL
 by_cases h0 : n = 0
 · subst h0
   go_enter Tryz.func77, Tryz.ntmps77
   go_wp2_with fail
   go_ret
   exact ⟨none, 0, rfl, OwnF.nil _ _ _, Below.refl _ _⟩
 · have hrun := Lib.run_append_nil_zeros (P := Tryz.prog) w 23 3 23 37 i0 (.agg #[.bool false, .slice none 0 0, .slice none 0 0]) .i64 .i64 Tryz.underlying23 Tryz.underlying3 hi hz0 n (by omega) (by omega) (by omega) (by rw [hz2]; omega)
   have hge := grownCap_ge w n 0 37
   have hcm : grownCap w n 0 37 ≤ maxLen := grownCap_le_maxLen w n 0 37 (by unfold maxLen; omega)
   obtain ⟨cap, hcap⟩ : ∃ c, c = grownCap w n 0 37 := ⟨_, rfl⟩
   rw [← hcap] at hrun hge hcm
   have hz : ∀ k, (Builtin.zeroCells (Value.agg #[.bool false, .slice none 0 0, .slice none 0 0]).cells k).size = k * 3 := fun k => size_zeroCells _ _
   have hzs : ∀ k, ∀ u ∈ Builtin.zeroCells (Value.agg #[.bool false, .slice none 0 0, .slice none 0 0]).cells k, SoftV u := fun k => soft_zero (by decide) (by intro u hu k z _ e; simp [Value.cells] at hu; rcases hu with rfl | rfl <;> cases e) k
   have hF : OwnF (w.drew.alloc (.cells (Builtin.zeroCells (Value.agg #[.bool false, .slice none 0 0, .slice none 0 0]).cells n ++ Builtin.zeroCells (Value.agg #[.bool false, .slice none 0 0, .slice none 0 0]).cells (cap - n)) 37)) w.heap.size (.slice (some ⟨w.heap.size, 0, none⟩) 0 cap) 0 t := by
    refine ⟨[], ⟨rfl, .inr ⟨w.heap.size, cap, _, rfl, Nat.le_refl _, heap_alloc_new w.drew _, Nat.zero_le _, hcm, ?_, ?_⟩⟩, fun i hi => by omega, fun g hg => ?_⟩
    · rw [Array.size_append, hz, hz]; omega
    · simp
    · obtain rfl : w.heap.size = g := Option.some.inj hg
      refine soft_cells (heap_alloc_new w.drew _) fun u hu => ?_
      rcases Array.mem_append.1 hu with h | h
      · exact hzs _ u h
      · exact hzs _ u h
   have hA : Add w (w.drew.alloc (.cells (Builtin.zeroCells (Value.agg #[.bool false, .slice none 0 0, .slice none 0 0]).cells n ++ Builtin.zeroCells (Value.agg #[.bool false, .slice none 0 0, .slice none 0 0]).cells (cap - n)) 37)) := Add.trans (b_drewL (Below.refl _ _)) (add_new _ _)
   have HF := Lib.hid (And.intro hF hA)
   have hpos : 0 < n := by omega
   have hle : (0 : Int) ≤ (cap : Int) := by omega
   have h63 : (cap : Int) ≤ 9223372036854775807 := by unfold maxLen at hcm; omega
   obtain ⟨g, hg⟩ : ∃ g, g = w.heap.size := ⟨_, rfl⟩
   obtain ⟨W, hW⟩ : ∃ W, W = w.drew.alloc (.cells (Builtin.zeroCells (Value.agg #[.bool false, .slice none 0 0, .slice none 0 0]).cells n ++ Builtin.zeroCells (Value.agg #[.bool false, .slice none 0 0, .slice none 0 0]).cells (cap - n)) 37) := ⟨_, rfl⟩
   rw [← hW, ← hg] at hrun
   rw [← hW] at HF
   have HRUN := Lib.hid hrun
   have HGG := Lib.hid hg
   clear hF hA hz hzs hrun hcap hW hg h0
   go_enter Tryz.func77, Tryz.ntmps77
   go_wp2_with (at_builtin; refine Lib.wpList_append_run _ rfl _ _ _ _ rfl _ _ rfl rfl _ _ HRUN.out ?_)
   go_ret
   refine ⟨_, _, rfl, ?_, HF.out.2⟩
   rw [HGG.out]; exact HF.out.1
def lenC (m : Nat → Nat) : Nat → Nat
 | 0 => 0
 | k + 1 => lenC m k + m k
def catT (m : Nat → Nat) (X : Nat → Nat → Tri) : Nat → Nat → Tri
 | 0 => fun _ => (false, 0, 0)
 | k + 1 => fun i => if i < lenC m k then catT m X k i else X k (i - lenC m k)
theorem lenC_mono (m : Nat → Nat) {k n : Nat} (h : k ≤ n) : lenC m k ≤ lenC m n := by
 induction n with
 | zero => have : k = 0 := by omega
           rw [this]; exact Nat.le_refl _
 | succ n ih =>
  by_cases e : k = n + 1
  · rw [e]; exact Nat.le_refl _
  · have := ih (by omega)
    show lenC m k ≤ lenC m n + m n
    omega
set_option maxRecDepth 100000 in
set_option maxHeartbeats 1000000 in
theorem concatN {w : World} {v : Value} {n : Nat} {m : Nat → Nat} {X : Nat → Nat → Tri} (h : MatP true w v n m X) (hn : n ≤ 1000) (hm : ∀ i, i < n → 0 < m i) (hl : lenC m n ≤ 100000) :
 Calls Tryz.prog 49 #[v] w (RetOF w (lenC m n) (catT m X n)) := by
 obtain ⟨ao, c, rfl, -⟩ := h.isSlice
 have HX := Lib.hid h
 have HM := Lib.hid hm
 obtain ⟨L, hL⟩ : ∃ L, L = lenC m n := ⟨_, rfl⟩
 have HL := Lib.hid hL
 have hL2 : L ≤ 100000 := by omega
 have HG := Lib.hid (growNil (w := w) (n := L) (fun _ => (false, 0, 0)) hL2)
 rw [← hL]
 clear h hm hl hL
 go_enter Tryz.func49, Tryz.ntmps49
 go_wp2_with fail
 go_loopw [3, 11] (fun s i wr => ∃ k : Nat, k ≤ n ∧ s = .int .i64 (lenC m k : Nat) ∧ i = .int .i64 (k : Nat) ∧ wr = w) (fun _ i _ => n - (intOf i).toNat)
 case atStart => exact ⟨0, Nat.zero_le _, rfl, rfl, rfl⟩
 case round =>
  obtain ⟨k, hk, rfl, rfl, rfl⟩ := hrel
  by_cases h0 : k = n
  · have e : lenC m k = L := by rw [h0, HL.out]
    rw [e]
    subst h0
    clear e
    go_wp2_with fail
    refine HG.out.mono ?_
    rintro e w1 ⟨a1, c1, rfl, hO, h1⟩
    clear HG
    go_wp2_with fail
    go_loopw [6, 27] (fun u i wq => ∃ j : Nat, j ≤ k ∧ (∃ a c, u = .slice a (lenC m j) c ∧ OwnF wq wr.heap.size u (lenC m j) (catT m X j)) ∧ i = .int .i64 (j : Nat) ∧ Add wr wq) (fun _ i _ => k - (intOf i).toNat)
    case atStart => exact ⟨0, Nat.zero_le _, ⟨a1, c1, rfl, hO⟩, rfl, h1⟩
    case round =>
     clear hO h1
     obtain ⟨j, hj, ⟨a2, c2, rfl, hO⟩, rfl, T⟩ := hrel
     by_cases h2 : j = k
     · have HF := Lib.hid (And.intro hO T)
       clear hO T
       subst h2
       go_wp2_with fail
       go_ret
       exact ⟨a2, c2, by rw [HL.out]; rfl, by rw [HL.out]; exact HF.out.1, HF.out.2⟩
     · have hlt : j < k := by omega
       obtain ⟨b, off, a, l, rfl, hm63, hcell0, hrow⟩ := HX.out.row hlt
       rename World => wq
       have hcell := cell_addL hcell0 T
       have hle : lenC m (j + 1) ≤ L := by rw [HL.out]; exact lenC_mono m (by omega)
       have hs : lenC m (j + 1) = lenC m j + m j := rfl
       obtain ⟨a', c', w', hrun, hO2, hc2, -⟩ := hO.concat (hrow.add T) (HM.out j hlt) (by omega) T.size
       have T2 : Add wr w' := hc2.below T T.size fun g hg => (hO.lt g hg).1
       have HRUN := Lib.hid hrun
       have HN : Hid (OwnF w' wr.heap.size (.slice a' (lenC m (j + 1)) c') (lenC m (j + 1)) (catT m X (j + 1)) ∧ Add wr w') := Lib.hid ⟨hO2, T2⟩
       clear hO T hcell0 hrow hrun hO2 hc2 T2 h2
       go_wp2_with (at_builtin; refine Lib.wpList_append_run _ rfl _ _ _ _ rfl _ _ rfl rfl _ _ HRUN.out ?_)
       go_roundw
       case rel => exact ⟨j + 1, by omega, ⟨a', c', rfl, HN.out.1⟩, by go_num, HN.out.2⟩
       case measure => simp [intOf]; omega
  · have hlt : k < n := by omega
    obtain ⟨b, off, a, l, rfl, hm63, hcell0, hrow⟩ := HX.out.row hlt
    have hle : lenC m (k + 1) ≤ L := by rw [HL.out]; exact lenC_mono m (by omega)
    have hs : lenC m (k + 1) = lenC m k + m k := rfl
    have d : decide ((lenC m k : Int) + (m k : Int) < 0) = false := by simp; omega
    clear hrow h0
    go_wp2_with fail
    go_roundw
    case rel => exact ⟨k + 1, by omega, by rw [hs]; go_num, by go_num, trivial⟩
    case measure => simp [intOf]; omega
end Go.Proofs.YtbeoeackahmpbaaGreatDoor
namespace Go.Proofs.YtbeoeackahmpbaaGreatDoor
open Go.RowKit NatM Go.Proofs.YtbeoeackahmpbaaGreatDoor.Api LinM
theorem OwnF.base {w : World} {base base' n : Nat} {v : Value} {t : Nat → Tri} (h : OwnF w base v n t) (hb : base' ≤ base) : OwnF w base' v n t := by
 obtain ⟨xs, h1, h2, h3⟩ := h
 refine ⟨xs, ⟨h1.1, ?_⟩, h2, h3⟩
 rcases h1.2 with h0 | ⟨g, cap, cur, rfl, hbg, rest⟩
 · exact .inl h0
 · exact .inr ⟨g, cap, cur, rfl, by omega, rest⟩
theorem AM.set {w w2 : World} {base G n i : Nat} {hv : Nat → Value} {len : Nat → Nat} {X : Nat → Nat → Tri} {a : Option Addr} {l c : Nat} {t : Nat → Tri} (h : AM w base G n hv len X) (hi : i < n) (ha : Add w w2) (hb : base ≤ w.heap.size)
 (ho : OwnF w2 w.heap.size (.slice a l c) l t) :
 AM (w2.setCell ⟨G, i, none⟩ (.slice a l c)) base G n (fun j => if j = i then .slice a l c else hv j) (fun j => if j = i then l else len j) (fun j => if j = i then t else X j) := by
 have h1 := h.add ha
 have hs := h1.head.chgS (S := fun b => b = G) rfl hi (.slice a l c)
 have new : ∀ j, j < n → (Value.slice a l c).ownBlock = (hv j).ownBlock → (hv j).ownBlock = none := fun j hj e => by
  cases q : (hv j).ownBlock with
  | none => rfl
  | some g =>
   rw [q] at e
   have k1 := (ho.lt g e).1
   have k2 := ((h.rows j hj).lt g q).2
   omega
 refine ⟨h1.head.put hi a l c, fun j hj => ?_, fun j k hj hk hjk e => ?_, h.low⟩
 · by_cases e : j = i
   · subst e
     rw [if_pos rfl, if_pos rfl, if_pos rfl]
     exact (ho.base hb).chg hs fun g hg q => ho.ne h1.head (by rw [hg, q])
   · rw [if_neg e, if_neg e, if_neg e]
     have k2 := h1.rows j hj
     exact k2.chg hs fun g hg q => k2.ne h1.head (by rw [hg, q])
 · by_cases e1 : j = i
   · rw [if_pos e1] at e ⊢
     rw [if_neg (fun q => hjk (e1.trans q.symm))] at e
     rw [e]; exact new k hk e
   · rw [if_neg e1] at e ⊢
     by_cases e2 : k = i
     · rw [if_pos e2] at e; exact new j hj e.symm
     · rw [if_neg e2] at e; exact h.sep j k hj hk hjk e
theorem AM.hb {w : World} {base G n : Nat} {hv : Nat → Value} {len : Nat → Nat} {X : Nat → Nat → Tri} (h : AM w base G n hv len X) : G < w.heap.size := h.head.lt
def besideQ (n : Nat) (A B : Mat) : Mat := fun i j => if j < n then A i j else B i (j - n)
theorem two_rows {w : World} {g n r : Nat} {u v : Value} {t t2 : Nat → Tri} (h : w.heap[g]? = some (.cells #[u, v] 23 (0, 0))) (hu : RowP true w u n t) (hv : RowP true w v r t2) :
 MatP true w (.slice (some ⟨g, 0, none⟩) 2 2) 2 (fun i => if i = 0 then n else r) (fun i => if i = 0 then t else t2) := by
 refine ⟨_, 2, rfl, Nat.le_refl _, by unfold maxLen; omega, fun _ => ⟨g, 0, rfl, fun i hi => ?_⟩⟩
 rcases (show i = 0 ∨ i = 1 by omega) with rfl | rfl
 · exact ⟨u, by rw [cell_of_row w g _ _ _ (0, 0) h]; rfl, hu⟩
 · exact ⟨v, by rw [cell_of_row w g _ _ _ (0, 0) h]; rfl, hv⟩
theorem wb_div {N M : Nat} {x y : Rat} (hx : WB N x) (hy : WB M y) (h0 : y ≠ 0) (hN : N < pw 128) (hM : M < pw 128) : Fit (x / y) := by
 have h1 := frac_self x
 have h2 := frac_self y
 rw [hx.den] at h1
 rw [hy.den] at h2
 have hM0 : y.num.natAbs ≠ 0 := fun e => h0 (by rw [← h2, e]; exact frac_zero _ _)
 have e : x / y = qv (decide (x.num < 0) != decide (y.num < 0), x.num.natAbs * 1, 1 * y.num.natAbs) := by
  have : x / y = frac (decide (x.num < 0)) x.num.natAbs 1 / frac (decide (y.num < 0)) y.num.natAbs 1 := by rw [h1, h2]
  rw [this]; exact frac_quo hM0 (by decide)
 rw [e]
 have k1 := hx.num
 have k2 := hy.num
 exact fit_red (okF_iff.2 ⟨by dsimp only; omega, by dsimp only; omega, by dsimp only; omega⟩)
theorem AM.base {w : World} {base base' G n : Nat} {hv : Nat → Value} {len : Nat → Nat} {X : Nat → Nat → Tri} (h : AM w base G n hv len X) (hb : base' ≤ base) : AM w base' G n hv len X :=
 ⟨h.head, fun i hi => (h.rows i hi).base hb, h.sep, Nat.le_trans hb h.low⟩
theorem RowP.drop {R : Bool} {w : World} {b off m c : Nat} {t : Nat → Tri} (h : RowP R w (.slice (some ⟨b, off, none⟩) m c) m t) (k len : Nat) (hk : k + len = m) (hl : 0 < len) : RowP R w (.slice (some ⟨b, off + k * 3, none⟩) len (c - k)) len (fun i => t (k + i)) := by
 obtain ⟨ao, c', e, h1, h2, h3⟩ := h
 simp only [Value.slice.injEq, true_and] at e
 obtain ⟨rfl, rfl⟩ := e
 obtain ⟨b', off', e, h4⟩ := h3 (by omega)
 simp only [Option.some.injEq, Addr.mk.injEq, and_true] at e
 obtain ⟨rfl, rfl⟩ := e
 exact ⟨_, _, rfl, by omega, by omega, fun _ => ⟨b, off + k * 3, rfl, h4.drop k len (by omega)⟩⟩
theorem RowP.caps {R : Bool} {w : World} {a : Option Addr} {m c : Nat} {t : Nat → Tri} (h : RowP R w (.slice a m c) m t) : m ≤ c ∧ (c : Int) ≤ 9223372036854775807 := by
 obtain ⟨ao, c', e, h1, h2, -⟩ := h
 simp only [Value.slice.injEq, true_and] at e
 obtain ⟨rfl, rfl⟩ := e
 unfold maxLen at h2
 exact ⟨h1, by omega⟩
def SolP (w : World) (n r x : Nat) (A B : Mat) (e : Ending) (w' : World) : Prop :=
 ∃ (k : Nat) (p s : Rat) (X : Mat) (c : Nat → Nat) (W : Mat), Elim (besideQ n A B) n (n + r) ((2 ^ x : Nat) : Rat) n k p s X c W ∧
  ((k < n ∧ e = .returned (.tuple #[.slice none 0 0, .int .i64 9]) ∧ Add w w') ∨
   (k = n ∧ ∃ G hv, e = .returned (.tuple #[.slice (some ⟨G, 0, none⟩) n n, .int .i64 0]) ∧ AM w' w.heap.size G n hv (fun _ => r) (fun i l => can (X i (n + l) / p)) ∧ Add w w'))
set_option maxRecDepth 100000 in
set_option maxHeartbeats 4000000 in
theorem solutionN {w : World} {va vb : Value} {n r x : Nat} {A B : Mat} (ha : MatP true w va n (fun _ => n) (fun i j => can (A i j))) (hb : MatP true w vb n (fun _ => r) (fun i j => can (B i j))) (hn0 : 1 ≤ n) (hn : n ≤ 24) (hr0 : 1 ≤ r) (hr : r ≤ 24)
 (hA : ∀ i j, i < n → j < n + r → Fit (besideQ n A B i j)) (hw : wtM (fun i j => can (besideQ n A B i j)) (fun _ => n + r) n ≤ x) (hx : x ≤ 1930) (hT : Tab w) :
 Calls Tryz.prog 47 #[va, vb] w (SolP w n r x A B) := by
 obtain ⟨i1, hi1, hy0, hy1, hy2⟩ := info_parts infoFracs
 obtain ⟨ao, ca, rfl, -⟩ := ha.isSlice
 obtain ⟨bo, cb, rfl, -⟩ := hb.isSlice
 have HX := Lib.hid ha
 have HY := Lib.hid hb
 have HFIT := Lib.hid (And.intro hA hw)
 clear ha hb hA hw
 go_enter Tryz.func47, Tryz.ntmps47
 go_wp2_with (at_make; refine wpList_make_full _ rfl _ _ 22 rfl w.heap.size 23 i1 (.slice none 0 0) 1 Tryz.underlying22 hi1 hy0 hy1 _ _ _ _ n rfl rfl (by omega) (by omega) (by rw [hy2]; omega) (by unfold maxLen; omega) (Nat.le_refl _) ?_)
 intro w1 hown hgr
 obtain ⟨G, hG⟩ : ∃ G, G = w.heap.size := ⟨_, rfl⟩
 have hB := HB.made hown
 rw [← hG] at hB ⊢
 have A1 : Add w w1 := (Below.refl _ _).grown hgr (Nat.le_refl _) (by simp)
 have hE := (AM.start (base := w.heap.size) (fun i j => can (besideQ n A B i j)) hB (by omega)).congr (len' := fun i => if i < 0 then n + r else 0) (X' := fun i j => can (besideQ n A B i j)) (fun i _ => by rw [if_neg (by omega)]) (fun _ _ _ _ => rfl)
 clear hown hgr hB hG
 go_wp2_with fail
 go_loopw [21] (fun i wr => ∃ (k : Nat) (hv : Nat → Value), k ≤ n ∧ i = .int .i64 (k : Nat) ∧ AM wr w.heap.size G n hv (fun i => if i < k then n + r else 0) (fun i j => can (besideQ n A B i j)) ∧ Add w wr) (fun i _ => n - (intOf i).toNat)
 case atStart => exact ⟨0, _, Nat.zero_le _, rfl, hE, A1⟩
 case round =>
  clear hE A1
  obtain ⟨k, hv, hk, rfl, hE, T⟩ := hrel
  by_cases h0 : k = n
  · have hE2 := hE.congr (len' := fun _ => n + r) (X' := fun i j => can (besideQ n A B i j)) (fun i hi => by rw [if_pos (by omega)]) (fun _ _ _ _ => rfl)
    have CE := Lib.hid (eliminateN (hE2.mat (by unfold maxLen; omega)) hn0 hn (by omega) (show n ≤ n + r by omega) HFIT.out.1 HFIT.out.2 hx (hT.mono T))
    have TT := Lib.hid T
    have HTab := Lib.hid hT
    clear hE T hE2 hT
    subst h0
    go_wp2_with fail
    refine CE.out.mono ?_
    rintro e w2 ⟨Ge, cap, rk, p, s, ⟨pa, pn, pc, pe, pd, pf⟩, ⟨sa, sn, sc, se, sd, sf⟩, TM, X, c, W, rfl, hfp, hfs, hM, hTX, hEl, -, h2⟩
    have hnk := hEl.kn
    obtain ⟨pb, hpb⟩ : ∃ b, b = (can p).1 := ⟨_, rfl⟩
    obtain ⟨sb, hsb⟩ : ∃ b, b = (can s).1 := ⟨_, rfl⟩
    rw [← hpb] at hfp
    rw [← hpb, ← hsb]
    have T2 := Add.trans TT.out h2
    obtain ⟨W1, hW1⟩ : ∃ W1, W1 = w2.alloc (.cells #[.slice (some ⟨Ge, 0, none⟩) k cap, .int .i64 (rk : Nat), .bool pb, .slice pa pn pc, .slice pe pd pf, .bool sb, .slice sa sn sc, .slice se sd sf] 76) := ⟨_, rfl⟩
    have T3 := add_new w2 (.cells #[.slice (some ⟨Ge, 0, none⟩) k cap, .int .i64 (rk : Nat), .bool pb, .slice pa pn pc, .slice pe pd pf, .bool sb, .slice sa sn sc, .slice se sd sf] 76)
    have hBx : EBox (w2.alloc (.cells #[.slice (some ⟨Ge, 0, none⟩) k cap, .int .i64 (rk : Nat), .bool pb, .slice pa pn pc, .slice pe pd pf, .bool sb, .slice sa sn sc, .slice se sd sf] 76)) w2.heap.size (.slice (some ⟨Ge, 0, none⟩) k cap) rk pb ⟨pa, pn, pc, pe, pd, pf⟩ sb ⟨sa, sn, sc, se, sd, sf⟩ := heap_alloc_new w2 _
    obtain ⟨ge, hge⟩ : ∃ g, g = w2.heap.size := ⟨_, rfl⟩
    rw [← hW1] at T3
    rw [← hW1, ← hge] at hBx
    have HW1 := Lib.hid hW1
    have HGE := Lib.hid hge
    replace T2 := Add.trans T2 T3
    replace hM := hM.add T3
    replace hfp := hfp.mono T3
    have HE := Lib.hid hEl
    have e1 := hBx.c1
    clear CE hfs hW1 hge T3 hpb hsb hEl h2
    go_upto_region 9 with fail
    rw [← HW1.out, ← HGE.out]
    by_cases hrk : rk < k
    · have HF : Hid (SolP w k r x A B (.returned (.tuple #[.slice none 0 0, .int .i64 9])) W1) := Lib.hid ⟨rk, p, s, X, c, W, HE.out, .inl ⟨hrk, rfl, T2⟩⟩
      clear hM hfp hBx T2 HE hTX hnk HX HY
      go_wp2_with fail
      go_ret2
      exact HF.out
    · have hrk2 : rk = k := by omega
      subst hrk2
      obtain ⟨n, hn'⟩ : ∃ n, n = rk := ⟨_, rfl⟩
      subst hn'
      obtain ⟨mm, hmm⟩ : ∃ q, q = n + r := ⟨_, rfl⟩
      rw [← hmm] at hM
      have hp0 : p ≠ 0 := HE.out.bar.1
      have hwb := elim_wb HE.out hn (show n ≤ n + r by omega)
      have hFp : Fit p := fitX hx hwb.1
      have HQ : Hid (∀ i l, i < n → l < r → quoF (TM i (n + l)) (can p) = (can (X i (n + l) / p), 0) ∧ Sm (TM i (n + l))) := Lib.hid fun i l hi hl => by
       have h1 := hwb.2 i (n + l) hi (by omega)
       have e := hTX i (n + l) hi (by omega) (by omega)
       rw [e]
       exact ⟨quo_can (fitX hx h1) hFp hp0 (wb_div h1 hwb.1 hp0 (pw_two128 (Nat.le_refl _) (by omega)) (pw_two128 (Nat.le_refl _) (by omega))), (fitX hx h1).sm⟩
      have HFP := Lib.hid hFp
      have HMX := Lib.hid hM
      have HBX := Lib.hid (And.intro hBx hfp)
      have HMM := Lib.hid hmm
      have HT2 := Lib.hid T2
      have HT1 := Lib.hid (HTab.out.mono T2)
      have hm1 : mm ≤ 48 := by omega
      have hm2 : n < mm := by omega
      have hnot : ¬ (n < n) := by omega
      clear hM hfp T2 hTX hnk hrk HX HY hp0 hwb hFp hmm TT HTab hBx
      go_wp2_with (at_make; refine wpList_make_full _ rfl _ _ 22 rfl W1.heap.size 23 i1 (.slice none 0 0) 1 Tryz.underlying22 hi1 hy0 hy1 _ _ _ _ n rfl rfl (by omega) (by omega) (by rw [hy2]; omega) (by unfold maxLen; omega) (Nat.le_refl _) ?_)
      clear e1 hnot
      intro w3 hown hgr
      obtain ⟨Go, hGo⟩ : ∃ G, G = W1.heap.size := ⟨_, rfl⟩
      have hB := HB.made hown
      rw [← hGo] at hB ⊢
      have A3 : Add W1 w3 := (Below.refl _ _).grown hgr (Nat.le_refl _) (by simp)
      have hE3 := (AM.start (base := W1.heap.size) (fun i l => can (X i (n + l) / p)) hB (by omega)).congr (len' := fun i => if i < 0 then r else 0) (X' := fun i l => can (X i (n + l) / p)) (fun i _ => by rw [if_neg (by omega)]) (fun _ _ _ _ => rfl)
      have e0 := (HBX.out.1.add A3).c0
      clear hown hgr hB hGo
      go_wp2_with fail
      clear e0
      go_loopw [50] (fun i wr => ∃ (k : Nat) (hv : Nat → Value), k ≤ n ∧ i = .int .i64 (k : Nat) ∧ AM wr W1.heap.size Go n hv (fun i => if i < k then r else 0) (fun i l => can (X i (n + l) / p)) ∧ Add W1 wr) (fun i _ => n - (intOf i).toNat)
      case atStart => exact ⟨0, _, Nat.zero_le _, rfl, hE3, A3⟩
      case round =>
       clear hE3 A3
       obtain ⟨i, hv, hk, rfl, hE, T⟩ := hrel
       by_cases h1 : i = n
       · have HF : Hid (SolP w n r x A B (.returned (.tuple #[.slice (some ⟨Go, 0, none⟩) n n, .int .i64 0])) wr) := Lib.hid ⟨n, p, s, X, c, W, HE.out, .inr ⟨rfl, Go, hv, rfl, (hE.base HT2.out.size).congr (fun i hi => by rw [if_pos (by omega)]) (fun _ _ _ _ => rfl), Add.trans HT2.out T⟩⟩
         clear hE T
         subst h1
         go_wp2_with fail
         go_ret2
         exact HF.out
       · have hlt : i < n := by omega
         obtain ⟨b, off, ar, cr, e, hm63, hcell0, hrow0⟩ := HMX.out.row hlt
         simp only [Option.some.injEq, Addr.mk.injEq, and_true] at e
         obtain ⟨rfl, rfl⟩ := e
         obtain ⟨b, off, -, -, -, -, -, -, -, rfl, -⟩ := hrow0.get (i := 0) (by omega)
         have hcap := hrow0.caps
         rw [Nat.zero_add] at hcell0
         have hcell := cell_addL hcell0 T
         obtain ⟨len, hlen⟩ : ∃ q, q = mm - n := ⟨_, rfl⟩
         have hd := hrow0.drop n len (by omega) (by omega)
         have hlr : len = r := by have := HMM.out; omega
         have HR := Lib.hid hd
         have HLR := Lib.hid hlr
         have HEI := Lib.hid (And.intro hE T)
         have b1 : (0 : Int) ≤ (n : Int) := by omega
         have b2 : (n : Int) ≤ (mm : Int) := by omega
         have nmj : ¬ (mm = n) := by omega
         have hl1 : len ≤ 1000 := by omega
         rename World => wm
         clear hE T hrow0 hcell0 hm63 hd hlr h1
         go_wp2_with fail
         rw [← hlen]
         clear hcell b1 b2 nmj hlen
         go_loopw [59] (fun u wq => ∃ (l : Nat) (hv : Nat → Value), l ≤ len ∧ u = .int .i64 (l : Nat) ∧ AM wq W1.heap.size Go n hv (fun a => if a < i then r else if a = i then l else 0) (fun i l => can (X i (n + l) / p)) ∧ Add W1 wq) (fun u _ => len - (intOf u).toNat)
         case atStart => exact ⟨0, hv, Nat.zero_le _, rfl, HEI.out.1.congr (fun a _ => by
          by_cases e : a < i
          · rw [if_pos e, if_pos e]
          · rw [if_neg e, if_neg e]; split <;> rfl) (fun _ _ _ _ => rfl), HEI.out.2⟩
         case round =>
          clear HEI
          obtain ⟨l, hv, hl, rfl, hE, T⟩ := hrel
          by_cases h2 : l = len
          · have HN := Lib.hid (And.intro (hE.congr (len' := fun a => if a < i + 1 then r else 0) (X' := fun i l => can (X i (n + l) / p)) (fun a _ => by
             by_cases e : a < i
             · rw [if_pos e, if_pos (by omega)]
             · rw [if_neg e]
               by_cases e2 : a = i
               · rw [if_pos e2, if_pos (by omega), h2, HLR.out]
               · rw [if_neg e2, if_neg (by omega)]) (fun _ _ _ _ => rfl)) T)
            clear hE T
            subst h2
            go_wp2_with fail
            go_roundw
            case rel => exact ⟨i + 1, hv, by omega, by go_num, HN.out.1, HN.out.2⟩
            case measure => simp [intOf]; omega
          · have hlt2 : l < len := by omega
            obtain ⟨b2, off2, sx, an, q, cn, ad, d, cd, e, -, c0, c1, c2, hx0⟩ := (HR.out.add T).get hlt2
            simp only [Option.some.injEq, Addr.mk.injEq, and_true] at e
            obtain ⟨rfl, rfl⟩ := e
            obtain ⟨T3, hO⟩ := laid_var wr sx an q cn ad d cd
            have hx3 : FracT (wr.alloc (.cells #[.bool sx, .slice an q cn, .slice ad d cd] 37)) (.agg #[.bool sx, .slice an q cn, .slice ad d cd]) (TM i (n + l)) := FracT.mono hx0 T3
            have TW := Add.trans T T3
            have hEW := hE.add T3
            obtain ⟨gx, hgx⟩ : ∃ gx, gx = wr.heap.size := ⟨_, rfl⟩
            obtain ⟨W3, hW3⟩ : ∃ W3, W3 = wr.alloc (.cells #[.bool sx, .slice an q cn, .slice ad d cd] 37) := ⟨_, rfl⟩
            have HW3 : Hid ((wr.alloc (.cells #[.bool sx, .slice an q cn, .slice ad d cd] 37)) = W3) := Lib.hid hW3.symm
            have HGX := Lib.hid hgx
            rw [← hW3] at hx3 TW hEW hO
            rw [← hgx] at hO
            obtain ⟨ra, rc, hvj, hcj⟩ := hEW.cell hlt
            rw [if_neg (Nat.lt_irrefl i), if_pos rfl] at hvj hcj
            have HD0 : Hid (Add W3 (World.drew W3)) := Lib.hid (b_drewL (Below.refl _ _))
            have hfp1 : FracT W1 (.agg #[.bool pb, .slice pa pn pc, .slice pe pd pf]) (can p) := HBX.out.2
            have hlr : l < r := by have := HLR.out; omega
            have HQUO : Hid (Calls Tryz.prog 57 #[.agg #[.bool sx, .slice an q cn, .slice ad d cd], .agg #[.bool pb, .slice pa pn pc, .slice pe pd pf]] (World.drew W3) (RetF (World.drew W3) (can (X i (n + l) / p)))) := Lib.hid
             (quotientN _ (Sm.arg (hx3.mono HD0.out) (HQ.out i l hlt hlr).2) (Sm.arg (hfp1.mono (Add.trans TW HD0.out)) HFP.out.sm) (HT1.out.mono (Add.trans TW HD0.out)) (Lib.hid (HQ.out i l hlt hlr).1))
            have HS : Hid (∀ w', Add W3 w' → w'.cell? ⟨gx, 0, none⟩ = some (.bool sx) ∧ w'.cell? ⟨gx, 1, none⟩ = some (.slice an q cn) ∧ w'.cell? ⟨gx, 2, none⟩ = some (.slice ad d cd) ∧ w'.cell? ⟨ge, 2, none⟩ = some (.bool pb) ∧ w'.cell? ⟨ge, 3, none⟩ = some (.slice pa pn pc) ∧ w'.cell? ⟨ge, 4, none⟩ = some (.slice pe pd pf)) := Lib.hid fun w' g => ⟨(hO.mono g).c0, (hO.mono g).c1, (hO.mono g).c2, (HBX.out.1.add (Add.trans TW g)).c2, (HBX.out.1.add (Add.trans TW g)).c3, (HBX.out.1.add (Add.trans TW g)).c4⟩
            have HC18 : Hid (∀ w', Add W3 w' → w'.cell? ⟨Go, i, none⟩ = some (.slice ra l rc)) := Lib.hid fun w' g => cell_addL hcj g
            have hrw := hEW.rows i hlt
            rw [if_neg (Nat.lt_irrefl i), if_pos rfl] at hrw
            have hgx1 : ¬ (hv i).ownBlock = some gx := fun e => by
             have := ((hE.rows i hlt).lt gx e).2
             omega
            have hge0 := HBX.out.1.lt
            have hge1 : ¬ (hv i).ownBlock = some ge := fun e => by
             have := (hrw.lt ge e).1
             omega
            have hgx2 : gx ≠ Go := fun e => by have := hE.head.lt; omega
            have hge2 : ge ≠ Go := fun e => by have := hE.low; omega
            have hl2 : l ≤ 1000 := by omega
            have HPUSH : Hid (∀ (y8 : Bool) (a8 : Option Addr) (n8 c8 : Nat) (e8 : Option Addr) (d8 f8 : Nat) (w8 : World), FracT w8 (.agg #[.bool y8, .slice a8 n8 c8, .slice e8 d8 f8]) (can (X i (n + l) / p)) → Add (World.drew W3) w8 →
             ∃ (a9 : Option Addr) (c9 : Nat) (w9 : World), (Builtin.append_ #[23, 23] 23 #[.slice ra l rc, .slice (some ⟨w8.heap.size, 0, none⟩) 1 1]).run Tryz.prog (w8.alloc (.cells #[.bool y8, .slice a8 n8 c8, .slice e8 d8 f8] 37)) = .ok (.slice a9 (l + 1) c9) w9 ∧
              w9.cell? ⟨Go, i, none⟩ = some (.slice ra l rc) ∧ w9.frozen? ⟨Go, i, none⟩ = false ∧ Go < w9.heap.size ∧ (w9.cell? ⟨gx, 0, none⟩ = some (.bool sx) ∧ w9.cell? ⟨gx, 1, none⟩ = some (.slice an q cn) ∧ w9.cell? ⟨gx, 2, none⟩ = some (.slice ad d cd) ∧ w9.cell? ⟨ge, 2, none⟩ = some (.bool pb) ∧ w9.cell? ⟨ge, 3, none⟩ = some (.slice pa pn pc) ∧ w9.cell? ⟨ge, 4, none⟩ = some (.slice pe pd pf)) ∧ ((w9.setCell ⟨Go, i, none⟩ (.slice a9 (l + 1) c9)).cell? ⟨gx, 0, none⟩ = some (.bool sx) ∧ (w9.setCell ⟨Go, i, none⟩ (.slice a9 (l + 1) c9)).cell? ⟨gx, 1, none⟩ = some (.slice an q cn) ∧ (w9.setCell ⟨Go, i, none⟩ (.slice a9 (l + 1) c9)).cell? ⟨gx, 2, none⟩ = some (.slice ad d cd) ∧ (w9.setCell ⟨Go, i, none⟩ (.slice a9 (l + 1) c9)).cell? ⟨ge, 2, none⟩ = some (.bool pb) ∧ (w9.setCell ⟨Go, i, none⟩ (.slice a9 (l + 1) c9)).cell? ⟨ge, 3, none⟩ = some (.slice pa pn pc) ∧ (w9.setCell ⟨Go, i, none⟩ (.slice a9 (l + 1) c9)).cell? ⟨ge, 4, none⟩ = some (.slice pe pd pf)) ∧
              AM (w9.setCell ⟨Go, i, none⟩ (.slice a9 (l + 1) c9)) W1.heap.size Go n (fun c => if c = i then .slice a9 (l + 1) c9 else hv c) (fun a => if a < i then r else if a = i then l + 1 else 0) (fun i l => can (X i (n + l) / p)) ∧ Add W1 (w9.setCell ⟨Go, i, none⟩ (.slice a9 (l + 1) c9))) := Lib.hid fun y8 a8 n8 c8 e8 d8 f8 w8 hv8 h8 => by
             have hA8 := Add.trans HD0.out h8
             have hA9 := Add.trans hA8 (add_new w8 (.cells #[.bool y8, .slice a8 n8 c8, .slice e8 d8 f8] 37))
             have hbk : (w8.alloc (.cells #[.bool y8, .slice a8 n8 c8, .slice e8 d8 f8] 37)).heap[w8.heap.size]? = some (.cells #[.bool y8, .slice a8 n8 c8, .slice e8 d8 f8] 37 (0, 0)) := heap_alloc_new w8 _
             obtain ⟨a', c', w6, hrun, hO6, hc6, hat⟩ := (hrw.add hA9).append hbk (hv8.mono (add_new _ _)) (by omega) (Nat.le_trans TW.size hA9.size) 1
             have hE7 := hEW.push hlt hA9 hO6 hc6 hat
             have T7 := hEW.below hlt TW hA9 hc6 (.slice a' (l + 1) c')
             have hh6 := (hEW.head.add hA9).chg hc6 (hrw.ne hEW.head)
             have hO7 := (hO.mono hA9).chg hc6 hgx1
             have hB7 := (HBX.out.1.add (Add.trans TW hA9)).chg hc6 hge1
             rw [hvj] at hrun
             have s9 : w6.cell? ⟨gx, 0, none⟩ = some (.bool sx) ∧ w6.cell? ⟨gx, 1, none⟩ = some (.slice an q cn) ∧ w6.cell? ⟨gx, 2, none⟩ = some (.slice ad d cd) ∧ w6.cell? ⟨ge, 2, none⟩ = some (.bool pb) ∧ w6.cell? ⟨ge, 3, none⟩ = some (.slice pa pn pc) ∧ w6.cell? ⟨ge, 4, none⟩ = some (.slice pe pd pf) := ⟨hO7.c0, hO7.c1, hO7.c2, hB7.c2, hB7.c3, hB7.c4⟩
             refine ⟨a', c', w6, hrun, by rw [hh6.cell hlt, hvj], hh6.free i, hh6.lt, s9, ?_, hE7.congr (fun a ha => ?_) (fun a m ha hm => ?_), T7⟩
             · rw [cell_set_other rfl (fun e => hgx2 (congrArg Addr.block e)), cell_set_other rfl (fun e => hgx2 (congrArg Addr.block e)), cell_set_other rfl (fun e => hgx2 (congrArg Addr.block e)), cell_set_other rfl (fun e => hge2 (congrArg Addr.block e)), cell_set_other rfl (fun e => hge2 (congrArg Addr.block e)), cell_set_other rfl (fun e => hge2 (congrArg Addr.block e))]
               exact s9
             · by_cases e : a = i
               · rw [if_pos e, if_neg (by omega), if_pos e]
               · rw [if_neg e]
                 by_cases e2 : a < i
                 · rw [if_pos e2, if_pos e2]
                 · rw [if_neg e2, if_neg e2, if_neg e, if_neg e]
             · by_cases e : a = i
               · rw [if_pos e] at hm ⊢
                 by_cases e2 : m = l
                 · rw [if_pos e2, e2, e]
                 · rw [if_neg e2, e]
               · rw [if_neg e]
            have HSD := Lib.hid (HS.out _ (b_drewL (Below.refl _ W3)))
            have HCD := Lib.hid (HC18.out _ (b_drewL (Below.refl _ W3)))
            obtain ⟨p0, p1, p2, p3, p4, p5⟩ := HS.out W3 (Below.refl _ _)
            have hGl := (hEW.head).lt
            clear hx0 hx3 T3 hO TW hEW hW3 hE h2 hgx hvj hrw T hfp1 hlr hgx1 hge0 hge1 hgx2 hge2 hcj
            go_upto_region 18 with fail
            rw [HW3.out, ← HGX.out]
            clear HW3 c0 c1 c2
            refine wp_region_T (fun w' => w'.cell? ⟨gx, 0, none⟩ = some (.bool sx) ∧ w'.cell? ⟨gx, 1, none⟩ = some (.slice an q cn) ∧ w'.cell? ⟨gx, 2, none⟩ = some (.slice ad d cd) ∧ w'.cell? ⟨ge, 2, none⟩ = some (.bool pb) ∧ w'.cell? ⟨ge, 3, none⟩ = some (.slice pa pn pc) ∧ w'.cell? ⟨ge, 4, none⟩ = some (.slice pe pd pf)) (fun w' => w'.cell? ⟨Go, i, none⟩ = some (.slice ra l rc)) 13 (by kernel_rfl) ?_
            show wpAnyT _ _ _ _ _ _ _ 14 #[false, false, false, false, false, false, false, false, false, false, false, false, false, false] _ _
            refine wpAnyT_take (i := 0) (v := ?_) (by simp only [List.getElem?_toArray, List.getElem?_cons_zero]; rfl) (by kernel_rfl) (by kernel_rfl) (by kernel_rfl) (by kernel_rfl) (by intro _ _ _ h; exact h) (Or.inl ⟨by rfl, ?_⟩) HSD.out HCD.out ?_
            rotate_left
            · intro w' hSw
              try dsimp only at hSw
              go_simp
              try with_reducible rfl
            try simp only [Act.put, List.setIfInBounds_toArray, List.set_cons_zero, List.set_cons_succ]
            refine wpAnyT_take (i := 1) (v := ?_) (by simp only [List.getElem?_toArray, List.getElem?_cons_zero, List.getElem?_cons_succ]; rfl) (by kernel_rfl) (by kernel_rfl) (by kernel_rfl) (by kernel_rfl) (by intro _ _ _ h; exact h) (Or.inl ⟨by rfl, ?_⟩) HSD.out HCD.out ?_
            rotate_left
            · intro w' hSw
              try dsimp only at hSw
              go_simp
              try with_reducible rfl
            try simp only [Act.put, List.setIfInBounds_toArray, List.set_cons_zero, List.set_cons_succ]
            refine wpAnyT_take (i := 2) (v := ?_) (by simp only [List.getElem?_toArray, List.getElem?_cons_zero, List.getElem?_cons_succ]; rfl) (by kernel_rfl) (by kernel_rfl) (by kernel_rfl) (by kernel_rfl) (by intro _ _ _ h; exact h) (Or.inl ⟨by rfl, ?_⟩) HSD.out HCD.out ?_
            rotate_left
            · intro w' hSw
              try dsimp only at hSw
              go_simp
              try with_reducible rfl
            try simp only [Act.put, List.setIfInBounds_toArray, List.set_cons_zero, List.set_cons_succ]
            refine wpAnyT_take (i := 3) (v := ?_) (by simp only [List.getElem?_toArray, List.getElem?_cons_zero, List.getElem?_cons_succ]; rfl) (by kernel_rfl) (by kernel_rfl) (by kernel_rfl) (by kernel_rfl) (by intro _ _ _ h; exact h) (Or.inl ⟨by rfl, ?_⟩) HSD.out HCD.out ?_
            rotate_left
            · intro w' hSw
              try dsimp only at hSw
              go_simp
              try with_reducible rfl
            try simp only [Act.put, List.setIfInBounds_toArray, List.set_cons_zero, List.set_cons_succ]
            refine wpAnyT_take (i := 4) (v := ?_) (by simp only [List.getElem?_toArray, List.getElem?_cons_zero, List.getElem?_cons_succ]; rfl) (by kernel_rfl) (by kernel_rfl) (by kernel_rfl) (by kernel_rfl) (by intro _ _ _ h; exact h) (Or.inl ⟨by rfl, ?_⟩) HSD.out HCD.out ?_
            rotate_left
            · intro w' hSw
              try dsimp only at hSw
              go_simp
              try with_reducible rfl
            try simp only [Act.put, List.setIfInBounds_toArray, List.set_cons_zero, List.set_cons_succ]
            refine wpAnyT_take (i := 5) (v := ?_) (by simp only [List.getElem?_toArray, List.getElem?_cons_zero, List.getElem?_cons_succ]; rfl) (by kernel_rfl) (by kernel_rfl) (by kernel_rfl) (by kernel_rfl) (by intro _ _ _ h; exact h) (Or.inl ⟨by rfl, ?_⟩) HSD.out HCD.out ?_
            rotate_left
            · intro w' hSw
              try dsimp only at hSw
              go_simp
              try with_reducible rfl
            try simp only [Act.put, List.setIfInBounds_toArray, List.set_cons_zero, List.set_cons_succ]
            refine wpAnyT_take (i := 6) (v := ?_) (by simp only [List.getElem?_toArray, List.getElem?_cons_zero, List.getElem?_cons_succ]; rfl) (by kernel_rfl) (by kernel_rfl) (by kernel_rfl) (by kernel_rfl) (by intro _ _ _ h; exact h) (Or.inl ⟨by rfl, ?_⟩) HSD.out HCD.out ?_
            rotate_left
            · intro w' hSw
              try dsimp only at hSw
              go_simp
              try with_reducible rfl
            try simp only [Act.put, List.setIfInBounds_toArray, List.set_cons_zero, List.set_cons_succ]
            refine wpAnyT_take (i := 7) (v := ?_) (by simp only [List.getElem?_toArray, List.getElem?_cons_zero, List.getElem?_cons_succ]; rfl) (by kernel_rfl) (by kernel_rfl) (by kernel_rfl) (by kernel_rfl) (by intro _ _ _ h; exact h) (Or.inl ⟨by rfl, ?_⟩) HSD.out HCD.out ?_
            rotate_left
            · intro w' hSw
              try dsimp only at hSw
              go_simp
              try with_reducible rfl
            try simp only [Act.put, List.setIfInBounds_toArray, List.set_cons_zero, List.set_cons_succ]
            refine wpAnyT_take (i := 8) (v := ?_) (by simp only [List.getElem?_toArray, List.getElem?_cons_zero, List.getElem?_cons_succ]; rfl) (by kernel_rfl) (by kernel_rfl) (by kernel_rfl) (by kernel_rfl) (by intro _ _ _ h; exact h) (Or.inl ⟨by rfl, ?_⟩) HSD.out HCD.out ?_
            rotate_left
            · intro w' hSw
              try dsimp only at hSw
              go_simp
              try with_reducible rfl
            try simp only [Act.put, List.setIfInBounds_toArray, List.set_cons_zero, List.set_cons_succ]
            refine wpAnyT_one (i := 9) (by kernel_rfl) (wpOp_do (by simp only [List.getElem?_toArray, List.getElem?_cons_zero, List.getElem?_cons_succ]; rfl) fun K hK => ?_)
            go_simp
            refine HQUO.out.mono ?_
            rintro e w8 ⟨v8, rfl, hv8, h8⟩
            obtain ⟨a8, n8, c8, e8, d8, f8, rfl, -, -⟩ := id hv8
            obtain ⟨y8, hy8⟩ : ∃ y, y = (can (X i (n + l) / p)).1 := ⟨_, rfl⟩
            rw [← hy8] at hv8 ⊢
            have HP := Lib.hid (HPUSH.out _ _ _ _ _ _ _ _ hv8 h8)
            obtain ⟨a9, c9, w9, hrun, hg0, hg1, hg2, hS9, hS10, hN⟩ := HP.out
            have HN := Lib.hid hN
            have HS9 := Lib.hid hS9
            have HS10 := Lib.hid hS10
            have HRUN := Lib.hid hrun
            have HA8 := Lib.hid h8
            clear hv8 h8 hrun hS9 hS10 hN hy8
            refine hK _ _ ⟨⟨HS.out _ (Add.trans HD0.out HA8.out), fun _ => HC18.out _ (Add.trans HD0.out HA8.out)⟩, ?_⟩
            clear hK K
            try simp only [List.setIfInBounds_toArray, List.set_cons_zero, List.set_cons_succ]
            refine wpAnyT_one (i := 10) (by kernel_rfl) (wpOp_do (by simp only [List.getElem?_toArray, List.getElem?_cons_zero, List.getElem?_cons_succ]; rfl) fun K hK => ?_)
            go_simp
            refine hK _ _ ⟨⟨HS.out _ (Add.trans HD0.out (Add.trans HA8.out (add_new _ _))), fun _ => HC18.out _ (Add.trans HD0.out (Add.trans HA8.out (add_new _ _)))⟩, ?_⟩
            clear hK K
            try simp only [List.setIfInBounds_toArray, List.set_cons_zero, List.set_cons_succ]
            refine wpAnyT_one (i := 11) (by kernel_rfl) (wpOp_do (by simp only [List.getElem?_toArray, List.getElem?_cons_zero, List.getElem?_cons_succ]; rfl) fun K hK => ?_)
            refine step_append_run rfl _ _ 23 rfl rfl rfl HRUN.out ?_
            refine hK _ _ ⟨⟨HS9.out, fun _ => hg0⟩, ?_⟩
            clear hK K
            try simp only [Act.put, List.setIfInBounds_toArray, List.set_cons_zero, List.set_cons_succ]
            refine wpAnyT_one (i := 12) (by kernel_rfl) (wpOp_do (by simp only [List.getElem?_toArray, List.getElem?_cons_zero, List.getElem?_cons_succ]; rfl) fun K hK => ?_)
            go_simp
            refine hK _ _ ⟨⟨HS9.out, fun _ => hg0⟩, ?_⟩
            clear hK K
            try simp only [List.setIfInBounds_toArray, List.set_cons_zero, List.set_cons_succ]
            refine wpAnyT_one (i := 13) (by kernel_rfl) (wpOp_do (by simp only [List.getElem?_toArray, List.getElem?_cons_zero, List.getElem?_cons_succ]; rfl) fun K hK => ?_)
            go_simp
            refine hK _ _ ⟨⟨HS10.out, fun h => absurd (show true = false from h) (by decide)⟩, ?_⟩
            clear hK K
            try simp only [List.setIfInBounds_toArray, List.set_cons_zero, List.set_cons_succ]
            refine wpAnyT_done (by kernel_rfl) ?_ _
            go_wp2_with fail
            go_roundw
            case rel => exact ⟨l + 1, _, by omega, by go_num, HN.out.1, HN.out.2⟩
            case measure => simp [intOf]; omega
  · have hlt : k < n := by omega
    obtain ⟨b, off, a1, l1, rfl, hm1, hcell1, hrow1⟩ := HX.out.row hlt
    obtain ⟨b2, off2, a2, l2, rfl, hm2, hcell2, hrow2⟩ := HY.out.row hlt
    rename World => wr
    obtain ⟨Wb, hWb⟩ : ∃ Wb, Wb = (World.drew wr).alloc (.cells #[.slice a1 n l1, .slice a2 r l2] 23) := ⟨_, rfl⟩
    have HD : Hid (∀ o, Add wr ((World.drew wr).alloc o)) := Lib.hid fun o => Add.trans (b_drewL (Below.refl _ _)) (add_new _ o)
    have hAb : Add wr Wb := by rw [hWb]; exact HD.out _
    have hbk : Wb.heap[wr.heap.size]? = some (.cells #[.slice a1 n l1, .slice a2 r l2] 23 (0, 0)) := by rw [hWb]; exact heap_alloc_new (World.drew wr) _
    have hM2 := two_rows hbk ((hrow1.add T).add hAb) ((hrow2.add T).add hAb)
    have eL : lenC (fun i => if i = 0 then n else r) 2 = n + r := by simp [lenC]
    have hCON := concatN hM2 (by omega) (fun i hi => by show 0 < (if i = 0 then n else r); split <;> omega) (by rw [eL]; omega)
    rw [eL, hWb] at hCON
    have HCON := Lib.hid hCON
    have HC6 : Hid (∀ w', Add wr w' → w'.cell? ⟨b, off + k, none⟩ = some (.slice a1 n l1) ∧ w'.cell? ⟨b2, off2 + k, none⟩ = some (.slice a2 r l2)) := Lib.hid fun w' g => ⟨cell_addL (cell_addL hcell1 T) g, cell_addL (cell_addL hcell2 T) g⟩
    have HCD := Lib.hid (HC6.out _ (b_drewL (Below.refl _ wr)))
    have HPUSH : Hid (∀ (a8 : Option Addr) (c8 : Nat) (w8 : World), OwnF w8 ((World.drew wr).alloc (.cells #[.slice a1 n l1, .slice a2 r l2] 23)).heap.size (.slice a8 (n + r) c8) (n + r) (catT (fun i => if i = 0 then n else r) (fun i => if i = 0 then (fun j => can (A k j)) else fun j => can (B k j)) 2) → Add ((World.drew wr).alloc (.cells #[.slice a1 n l1, .slice a2 r l2] 23)) w8 →
     AM (w8.setCell ⟨G, k, none⟩ (.slice a8 (n + r) c8)) w.heap.size G n (fun j => if j = k then .slice a8 (n + r) c8 else hv j) (fun i => if i < k + 1 then n + r else 0) (fun i j => can (besideQ n A B i j)) ∧ Add w (w8.setCell ⟨G, k, none⟩ (.slice a8 (n + r) c8)) ∧
     (∃ u, w8.cell? ⟨G, k, none⟩ = some u) ∧ w8.frozen? ⟨G, k, none⟩ = false ∧ G < w8.heap.size) := Lib.hid fun a8 c8 w8 hO h8 => by
     have hA8 := Add.trans (HD.out _) h8
     have hh := hE.head.add hA8
     refine ⟨(hE.set hlt hA8 T.size (hO.base (HD.out _).size)).congr (fun i hi => ?_) (fun i j hi hj => ?_), (Add.trans T hA8).setCell hE.low _, ⟨_, hh.cell hlt⟩, hh.free k, hh.lt⟩
     · by_cases e : i = k
       · rw [if_pos e, if_pos (by omega)]
       · rw [if_neg e]
         by_cases e2 : i < k
         · rw [if_pos e2, if_pos (by omega)]
         · rw [if_neg e2, if_neg (by omega)]
     · by_cases e : i = k
       · rw [if_pos e] at hj ⊢
         rw [e]
         unfold besideQ
         by_cases e2 : j < n
         · simp [catT, lenC, e2]
         · simp [catT, lenC, e2]
       · rw [if_neg e]
    obtain ⟨p0, p1⟩ := HC6.out wr (Below.refl _ _)
    have hGl := hE.head.lt
    clear hE T hrow1 hrow2 hWb hAb hbk hM2 hCON hcell1 hcell2 eL h0
    go_upto_region 6 with fail
    refine wp_region_T (fun w' => True) (fun w' => w'.cell? ⟨b, off + k, none⟩ = some (.slice a1 n l1) ∧ w'.cell? ⟨b2, off2 + k, none⟩ = some (.slice a2 r l2)) 13 (by kernel_rfl) ?_
    show wpAnyT _ _ _ _ _ _ _ 14 #[false, false, false, false, false, false, false, false, false, false, false, false, false, false] _ _
    refine wpAnyT_take (i := 0) (v := ?_) (by simp only [List.getElem?_toArray, List.getElem?_cons_zero]; rfl) (by kernel_rfl) (by kernel_rfl) (by kernel_rfl) (by kernel_rfl) (by intro _ _ _ h; exact h) (Or.inl ⟨by rfl, ?_⟩) trivial HCD.out ?_
    rotate_left
    · intro w' hSw
      try dsimp only at hSw
      go_simp
      try with_reducible rfl
    try simp only [Act.put, List.setIfInBounds_toArray, List.set_cons_zero, List.set_cons_succ]
    refine wpAnyT_take (i := 1) (v := ?_) (by simp only [List.getElem?_toArray, List.getElem?_cons_zero, List.getElem?_cons_succ]; rfl) (by kernel_rfl) (by kernel_rfl) (by kernel_rfl) (by kernel_rfl) (by intro _ _ _ h; exact h) (Or.inl ⟨by rfl, ?_⟩) trivial HCD.out ?_
    rotate_left
    · intro w' hSw
      try dsimp only at hSw
      go_simp
      try with_reducible rfl
    try simp only [Act.put, List.setIfInBounds_toArray, List.set_cons_zero, List.set_cons_succ]
    refine wpAnyT_take (i := 2) (v := ?_) (by simp only [List.getElem?_toArray, List.getElem?_cons_zero, List.getElem?_cons_succ]; rfl) (by kernel_rfl) (by kernel_rfl) (by kernel_rfl) (by kernel_rfl) (by intro _ _ _ h; exact h) (Or.inl ⟨by rfl, ?_⟩) trivial HCD.out ?_
    rotate_left
    · intro w' hSw
      try dsimp only at hSw
      go_simp
      try with_reducible rfl
    try simp only [Act.put, List.setIfInBounds_toArray, List.set_cons_zero, List.set_cons_succ]
    refine wpAnyT_take (i := 3) (v := ?_) (by simp only [List.getElem?_toArray, List.getElem?_cons_zero, List.getElem?_cons_succ]; rfl) (by kernel_rfl) (by kernel_rfl) (by kernel_rfl) (by kernel_rfl) (by intro _ _ _ h; exact h) (Or.inl ⟨by rfl, ?_⟩) trivial HCD.out ?_
    rotate_left
    · intro w' hSw
      try dsimp only at hSw
      go_simp
      try with_reducible rfl
    try simp only [Act.put, List.setIfInBounds_toArray, List.set_cons_zero, List.set_cons_succ]
    refine wpAnyT_take (i := 4) (v := ?_) (by simp only [List.getElem?_toArray, List.getElem?_cons_zero, List.getElem?_cons_succ]; rfl) (by kernel_rfl) (by kernel_rfl) (by kernel_rfl) (by kernel_rfl) (by intro _ _ _ h; exact h) (Or.inl ⟨by rfl, ?_⟩) trivial HCD.out ?_
    rotate_left
    · intro w' hSw
      try dsimp only at hSw
      go_simp
      try with_reducible rfl
    try simp only [Act.put, List.setIfInBounds_toArray, List.set_cons_zero, List.set_cons_succ]
    refine wpAnyT_take (i := 5) (v := ?_) (by simp only [List.getElem?_toArray, List.getElem?_cons_zero, List.getElem?_cons_succ]; rfl) (by kernel_rfl) (by kernel_rfl) (by kernel_rfl) (by kernel_rfl) (by intro _ _ _ h; exact h) (Or.inl ⟨by rfl, ?_⟩) trivial HCD.out ?_
    rotate_left
    · intro w' hSw
      try dsimp only at hSw
      go_simp
      try with_reducible rfl
    try simp only [Act.put, List.setIfInBounds_toArray, List.set_cons_zero, List.set_cons_succ]
    refine wpAnyT_take (i := 6) (v := ?_) (by simp only [List.getElem?_toArray, List.getElem?_cons_zero, List.getElem?_cons_succ]; rfl) (by kernel_rfl) (by kernel_rfl) (by kernel_rfl) (by kernel_rfl) (by intro _ _ _ h; exact h) (Or.inl ⟨by rfl, ?_⟩) trivial HCD.out ?_
    rotate_left
    · intro w' hSw
      try dsimp only at hSw
      go_simp
      try with_reducible rfl
    try simp only [Act.put, List.setIfInBounds_toArray, List.set_cons_zero, List.set_cons_succ]
    refine wpAnyT_take (i := 7) (v := ?_) (by simp only [List.getElem?_toArray, List.getElem?_cons_zero, List.getElem?_cons_succ]; rfl) (by kernel_rfl) (by kernel_rfl) (by kernel_rfl) (by kernel_rfl) (by intro _ _ _ h; exact h) (Or.inl ⟨by rfl, ?_⟩) trivial HCD.out ?_
    rotate_left
    · intro w' hSw
      try dsimp only at hSw
      go_simp
      try with_reducible rfl
    try simp only [Act.put, List.setIfInBounds_toArray, List.set_cons_zero, List.set_cons_succ]
    refine wpAnyT_take (i := 8) (v := ?_) (by simp only [List.getElem?_toArray, List.getElem?_cons_zero, List.getElem?_cons_succ]; rfl) (by kernel_rfl) (by kernel_rfl) (by kernel_rfl) (by kernel_rfl) (by intro _ _ _ h; exact h) (Or.inl ⟨by rfl, ?_⟩) trivial HCD.out ?_
    rotate_left
    · intro w' hSw
      try dsimp only at hSw
      go_simp
      try with_reducible rfl
    try simp only [Act.put, List.setIfInBounds_toArray, List.set_cons_zero, List.set_cons_succ]
    refine wpAnyT_take (i := 9) (v := ?_) (by simp only [List.getElem?_toArray, List.getElem?_cons_zero, List.getElem?_cons_succ]; rfl) (by kernel_rfl) (by kernel_rfl) (by kernel_rfl) (by kernel_rfl) (by intro _ _ _ h; exact h) (Or.inl ⟨by rfl, ?_⟩) trivial HCD.out ?_
    rotate_left
    · intro w' hSw
      try dsimp only at hSw
      go_simp
      try with_reducible rfl
    try simp only [Act.put, List.setIfInBounds_toArray, List.set_cons_zero, List.set_cons_succ]
    refine wpAnyT_one (i := 10) (by kernel_rfl) (wpOp_do (by simp only [List.getElem?_toArray, List.getElem?_cons_zero, List.getElem?_cons_succ]; rfl) fun K hK => ?_)
    go_simp
    refine hK _ _ ⟨⟨trivial, fun _ => HC6.out _ (HD.out _)⟩, ?_⟩
    clear hK K
    try simp only [List.setIfInBounds_toArray, List.set_cons_zero, List.set_cons_succ]
    refine wpAnyT_one (i := 11) (by kernel_rfl) (wpOp_do (by simp only [List.getElem?_toArray, List.getElem?_cons_zero, List.getElem?_cons_succ]; rfl) fun K hK => ?_)
    go_simp
    refine HCON.out.mono ?_
    rintro e w8 ⟨a8, c8, rfl, hO, h8⟩
    have HP := Lib.hid (HPUSH.out _ _ _ hO h8)
    obtain ⟨u9, g0⟩ := HP.out.2.2.1
    have g1 := HP.out.2.2.2.1
    have g2 := HP.out.2.2.2.2
    have HA8 := Lib.hid h8
    clear hO h8
    refine hK _ _ ⟨⟨trivial, fun _ => HC6.out _ (Add.trans (HD.out _) HA8.out)⟩, ?_⟩
    clear hK K
    try simp only [List.setIfInBounds_toArray, List.set_cons_zero, List.set_cons_succ]
    refine wpAnyT_one (i := 12) (by kernel_rfl) (wpOp_do (by simp only [List.getElem?_toArray, List.getElem?_cons_zero, List.getElem?_cons_succ]; rfl) fun K hK => ?_)
    go_simp
    refine hK _ _ ⟨⟨trivial, fun _ => HC6.out _ (Add.trans (HD.out _) HA8.out)⟩, ?_⟩
    clear hK K
    try simp only [List.setIfInBounds_toArray, List.set_cons_zero, List.set_cons_succ]
    refine wpAnyT_one (i := 13) (by kernel_rfl) (wpOp_do (by simp only [List.getElem?_toArray, List.getElem?_cons_zero, List.getElem?_cons_succ]; rfl) fun K hK => ?_)
    go_simp
    refine hK _ _ ⟨⟨trivial, fun h => absurd (show true = false from h) (by decide)⟩, ?_⟩
    clear hK K
    try simp only [List.setIfInBounds_toArray, List.set_cons_zero, List.set_cons_succ]
    refine wpAnyT_done (by kernel_rfl) ?_ _
    go_wp2_with fail
    go_roundw
    case rel => exact ⟨k + 1, _, by omega, by go_num, HP.out.1, HP.out.2.1⟩
    case measure => simp [intOf]; omega
end Go.Proofs.YtbeoeackahmpbaaGreatDoor
