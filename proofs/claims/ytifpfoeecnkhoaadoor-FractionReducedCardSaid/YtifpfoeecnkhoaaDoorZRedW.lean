/- The law FractionReduced: its walk, for all arguments.
(With the texts that are joined here: The reference's Mul returns a row of the call's own. | A fraction that a law puts together of two rows of its own, with zeros behind: a region that draws its order, with two appends.) -/
import Derived.Test.YtifpfoeecnkhoaaDoorR5
import Derived.Test.YtifpfoeecnkhoaaDoorZF
import Derived.Deep.AppendLies
import Derived.Deep.RegionHeld3
import Derived.Deep.RegionLaw
import Derived.RegionTactic
import Derived.BigRegion
import Derived.Deep.DeepCutAuto

namespace Go.Proofs.YtifpfoeecnkhoaaDoor
open Go.RowKit NatM Go.Proofs.YtifpfoeecnkhoaaDoor.Api

/-- A number is returned in a row of the call's own, without an error. -/
def OkO (w : World) (N : Nat) (e : Ending) (w' : World) : Prop := ∃ v, e = .returned (.tuple #[v, .int .i64 ((0 : Nat) : Int)]) ∧ NumO w' w.heap.size v N ∧ Add w w'
set_option maxRecDepth 100000 in
set_option maxHeartbeats 2000000 in
theorem refMulO_any (va vb : Value) (xs ys : List Nat) (w : World) (ha : Reads w va xs) (hb : Reads w vb ys) (hs : xs.length ≤ 100000) (hs' : ys.length ≤ 100000) (hA : ¬ pw 512 ≤ val xs) (hB : ¬ pw 512 ≤ val ys) (hbig : ¬ pw 512 ≤ val xs * val ys) :
    Calls Tryd.prog 7 #[va, vb] w (OkO w (val xs * val ys)) := by
  have LA := Lib.hid (refLarge_is false va xs w ha (by omega) (Lib.hid (decide_eq_false hA)))
  have LB := fun w1 (h : Add w w1) => Lib.hid (refLarge_is false vb ys w1 (hb.mono h) (by omega) (Lib.hid (decide_eq_false hB)))
  obtain ⟨N, hN⟩ : ∃ N, N = val xs * val ys := ⟨_, rfl⟩
  rw [← hN] at hbig ⊢
  have HB := Lib.hid hB
  have HA := Lib.hid hA
  have HG := Lib.hid hbig
  clear hA hB hbig
  go_enter Tryd.func7, Tryd.ntmps7
  go_wp2_with fail
  refine LA.out.mono ?_; rintro e w1 ⟨rfl, h1⟩
  go_wp2_with fail
  refine (LB _ h1).out.mono ?_; rintro e w2 ⟨rfl, h2⟩
  have h12 := Add.trans h1 h2
  clear h1 h2
  go_wp2_with fail
  refine (refTrim_any _ _ _ (ha.mono h12) (by omega)).mono ?_; rintro e w3 ⟨v3, rfl, n3, h3⟩
  obtain ⟨ps, r3, -, e3, l3⟩ := n3.reads (k := 512) (by have := HA.out; omega)
  go_wp2_with fail
  refine (refTrim_any _ _ _ ((hb.mono h12).mono h3) (by omega)).mono ?_; rintro e w4 ⟨v4, rfl, n4, h4⟩
  obtain ⟨qs, r4, -, e4, l4⟩ := n4.reads (k := 512) (by have := HB.out; omega)
  have r3' := r3.mono h4
  have HC := Lib.hid (refTimes_any v3 v4 ps qs w4 r3' r4 (by omega) (by omega))
  have E3 := Lib.hid e3
  have E4 := Lib.hid e4
  clear r3 r4 r3' n3 n4 e3 e4
  go_wp2_with fail
  refine HC.out.mono ?_; rintro e w5 ⟨v5, rfl, n5, h5⟩
  rw [E3.out, E4.out, ← hN] at n5
  have h14 := Add.trans h12 (Add.trans h3 h4)
  have h345 := Add.trans h14 h5
  obtain ⟨cs, r5, -, e5, l5⟩ := n5.reads (k := 512) (by have := HG.out; omega)
  have LC := Lib.hid (refLarge_is false v5 cs w5 r5 (by omega) (Lib.hid (by rw [e5]; exact decide_eq_false HG.out)))
  have N5 := Lib.hid (n5.base h14.size)
  clear HC h12 h3 h4 h5 h14 r5 e5 n5 hN
  go_wp2_with fail
  refine LC.out.mono ?_; rintro e w6 ⟨rfl, h6⟩
  go_wp2_with fail
  go_ret2
  exact ⟨_, rfl, N5.out.below h6, Add.trans h345 h6⟩
end Go.Proofs.YtifpfoeecnkhoaaDoor

namespace Go.Proofs.YtifpfoeecnkhoaaDoor
open Go.RowKit NatM Go.Proofs.YtifpfoeecnkhoaaDoor.Api

theorem cell_add {w w' : World} {g i : Nat} {u : Value} (h : w.cell? ⟨g, i, none⟩ = some u) (hb : Add w w') : w'.cell? ⟨g, i, none⟩ = some u := by
  have hlt := World.block_lt_of_cell? w _ h
  rw [hb.cell hlt]; exact h
theorem cell_far {w w' : World} {g i : Nat} {u : Value} {row : Option Nat} (h : w.cell? ⟨g, i, none⟩ = some u) (hb : w.grownBy w' row) (hne : some g ≠ row) : w'.cell? ⟨g, i, none⟩ = some u := by
  have hlt := World.block_lt_of_cell? w _ h
  have e := hb.block g hlt hne
  simp only [World.cell?] at h ⊢
  rw [e]; exact h
theorem add_al {w w' : World} {o : Obj} (h : Add w w') : Add w (w'.alloc o) := h.alloc h.size o
/-- Two rows of the call's own, in blocks of their own. -/
structure TwoO (w0 w : World) (v1 : Value) (xs : List Nat) (v2 : Value) (ys : List Nat) : Prop where
  o1 : OwnL w w0.heap.size v1 xs
  o2 : OwnL w w0.heap.size v2 ys
  ne : v1.ownBlock = none ∨ v1.ownBlock ≠ v2.ownBlock
  add : Add w0 w
theorem own_lt {w : World} {base : Nat} {v : Value} {zs : List Nat} (h : OwnL w base v zs) : ∀ k, v.ownBlock = some k → base ≤ k ∧ k < w.heap.size := by
  intro k hk
  rcases h.form with ⟨rfl, rfl⟩ | ⟨g, cap, cur, rfl, h1, h2, -⟩
  · cases hk
  · have e : g = k := by simpa [Value.ownBlock] using hk
    subst e
    exact ⟨h1, (Array.getElem?_eq_some_iff.1 h2).1⟩
theorem own_far {w w' : World} {base : Nat} {v : Value} {zs : List Nat} {row : Option Nat} (h : OwnL w base v zs) (hg : w.grownBy w' row) (hne : row = none ∨ row ≠ v.ownBlock) : OwnL w' base v zs := by
  refine World.ownsRow.kept h hg ?_
  cases e : v.ownBlock with
  | none => exact .inl rfl
  | some k =>
    rcases hne with h1 | h1
    · rw [h1]; exact .inr (by simp)
    · rw [e] at h1; exact .inr fun e2 => h1 e2.symm
theorem TwoO.mono {w0 w w' : World} {v1 v2 : Value} {xs ys : List Nat} (h : TwoO w0 w v1 xs v2 ys) (hb : Add w w') : TwoO w0 w' v1 xs v2 ys := ⟨h.o1.below hb, h.o2.below hb, h.ne, Add.trans h.add hb⟩
theorem TwoO.push1 {w0 w z w3 : World} {v1 v1' v2 : Value} {xs ys us : List Nat} {m : Nat} (h : TwoO w0 w v1 xs v2 ys) (hz : Add w z) (hg : z.grownBy w3 v1.ownBlock) (ho : w3.ownsRow w0.heap.size 26 1 v1' (xs.length + m) (xs.map lim ++ us.map lim)) (hm : us.length = m)
    (hat : v1.ownBlock = v1'.ownBlock ∨ v1'.ownBlock = some z.heap.size) : TwoO w0 w3 v1' (xs ++ us) v2 ys := by
  have h2 := h.mono hz
  refine ⟨OwnL.grown ho rfl hm, own_far h2.o2 hg h.ne, ?_, Below.grown h2.add hg h2.add.size (fun k hk => (own_lt h2.o1 k hk).1)⟩
  rcases hat with e | e
  · rw [← e]; exact h.ne
  · refine .inr fun e2 => ?_
    rw [e] at e2
    have := (own_lt h.o2 _ e2.symm).2
    have := hz.size
    omega
theorem TwoO.push2 {w0 w z w3 : World} {v1 v2 v2' : Value} {xs ys us : List Nat} {m : Nat} (h : TwoO w0 w v1 xs v2 ys) (hz : Add w z) (hg : z.grownBy w3 v2.ownBlock) (ho : w3.ownsRow w0.heap.size 26 1 v2' (ys.length + m) (ys.map lim ++ us.map lim)) (hm : us.length = m)
    (hat : v2.ownBlock = v2'.ownBlock ∨ v2'.ownBlock = some z.heap.size) : TwoO w0 w3 v1 xs v2' (ys ++ us) := by
  have h2 := h.mono hz
  refine ⟨own_far h2.o1 hg ?_, OwnL.grown ho rfl hm, ?_, Below.grown h2.add hg h2.add.size (fun k hk => (own_lt h2.o2 k hk).1)⟩
  · rcases h.ne with e | e
    · cases hb : v2.ownBlock with
      | none => exact .inl rfl
      | some q => exact .inr (by rw [e]; simp)
    · exact .inr (fun e2 => e e2.symm)
  · rcases hat with e | e
    · rw [← e]; exact h.ne
    · cases e1 : v1.ownBlock with
      | none => exact .inl rfl
      | some k =>
        refine .inr fun e2 => ?_
        rw [e] at e2
        have h3 := (own_lt h.o1 k e1).2
        have := hz.size
        injection e2 with e2
        omega
theorem cell_at {Y : World} {cs : Array Value} {t : TypeId} {g i : Nat} {u : Value} (h : Y.heap.size = g) (hi : cs[i]? = some u) : (Y.alloc (.cells cs t)).cell? ⟨g, i, none⟩ = some u := by
  subst h
  rw [cell_of_row _ Y.heap.size i _ t (0, 0) (heap_alloc_new Y _)]; exact hi
theorem cell_old {Y : World} {o : Obj} {g i : Nat} {u : Value} (h : Y.cell? ⟨g, i, none⟩ = some u) : (Y.alloc o).cell? ⟨g, i, none⟩ = some u := cell_add h (add_new _ _)
theorem cell_drew {Y : World} {g i : Nat} {u : Value} (h : Y.cell? ⟨g, i, none⟩ = some u) : Y.drew.cell? ⟨g, i, none⟩ = some u := h
theorem box_at {Y : World} {g : Nat} {b an n cn ad d cd} (h : Y.heap.size = g) : Box (Y.alloc (.cells #[.bool b, .slice an n cn, .slice ad d cd] 25)) g b an n cn ad d cd := Box.cells h
theorem box_old {Y : World} {o : Obj} {g : Nat} {b an n cn ad d cd} (h : Box Y g b an n cn ad d cd) : Box (Y.alloc o) g b an n cn ad d cd := h.mono (add_new _ _)
theorem box_skip {Y : World} {o : Obj} {g : Nat} {b an n cn ad d cd} (_hne : Y.heap.size ≠ g) (h : Box Y g b an n cn ad d cd) : Box (Y.alloc o) g b an n cn ad d cd := box_old h
theorem box_drew {Y : World} {g : Nat} {b an n cn ad d cd} (h : Box Y g b an n cn ad d cd) : Box Y.drew g b an n cn ad d cd := h
theorem box_far {w w' : World} {g : Nat} {row : Option Nat} {b an n cn ad d cd} (h : Box w g b an n cn ad d cd) (hg : w.grownBy w' row) (hne : some g ≠ row) : Box w' g b an n cn ad d cd := (hg.block g h.lt hne).trans h
theorem news1 {w : World} {ad : Addr} {x : Value} (h : ∃ b, ad = ⟨b, 0, none⟩ ∧ w.cell? ⟨b, 0, none⟩ = some x) : ∀ j u, [x][j]? = some u → w.cell? (ad.add j) = some u := by
  obtain ⟨b, rfl, h⟩ := h
  intro j u hj
  match j, hj with
  | 0, hj => simp at hj; subst hj; rw [Addr.add_lit]; exact h
  | j + 1, hj => simp at hj
theorem news2 {w : World} {ad : Addr} {x y : Value} (h : ∃ b, ad = ⟨b, 0, none⟩ ∧ w.cell? ⟨b, 0, none⟩ = some x ∧ w.cell? ⟨b, 1, none⟩ = some y) : ∀ j u, [x, y][j]? = some u → w.cell? (ad.add j) = some u := by
  obtain ⟨b, rfl, h, h'⟩ := h
  intro j u hj
  match j, hj with
  | 0, hj => simp at hj; subst hj; rw [Addr.add_lit]; exact h
  | 1, hj => simp at hj; subst hj; rw [Addr.add_lit]; exact h'
  | j + 2, hj => simp at hj
/-- What a fraction of two such rows is: it lies in the variable g. -/
def PX (w0 : World) (s : Bool) (N D : Nat) (p : Value) (wx : World) : Prop :=
  ∃ g a n k a' n' k', p = .pointer (some ⟨g, 0, none⟩) ∧ Box wx g s a n k a' n' k' ∧ Nv wx (.slice a n k) N ∧ Nv wx (.slice a' n' k') D ∧ Add w0 wx
theorem Nv.put {w : World} {v : Value} {N g : Nat} {b an n cn ad d cd} (h : Nv w v N) (hB : Box w g b an n cn ad d cd) (u0 u1 u2 : Value) : Nv (put3 w g u0 u1 u2) v N := by
  obtain ⟨zs, h1, h2⟩ := h; exact ⟨zs, h1.put hB u0 u1 u2, h2⟩
theorem own_nv {w : World} {base : Nat} {v : Value} {zs : List Nat} {N : Nat} (h : OwnL w base v zs) (hz : Limbs zs ∧ val zs = N ∧ zs.length ≤ 100000) : Nv w v N := ⟨zs, h.reads hz.1, hz.2.1, hz.2.2⟩
theorem pxA {w0 w4 : World} {s : Bool} {N D g : Nat} {a n k a' n' k'} {xs ys : List Nat} (hB : Box w4 g false none 0 0 none 0 0) (hT : TwoO w0 w4 (.slice a n k) xs (.slice a' n' k') ys) (h1 : Hid (Limbs xs ∧ val xs = N ∧ xs.length ≤ 100000)) (h2 : Hid (Limbs ys ∧ val ys = D ∧ ys.length ≤ 100000)) (hg : w0.heap.size ≤ g) :
    PX w0 s N D (.pointer (some ⟨g, 0, none⟩)) (put3 w4 g (.bool s) (.slice a n k) (.slice a' n' k')) :=
  ⟨g, a, n, k, a', n', k', rfl, hB.put .., Nv.put (own_nv hT.o1 h1.out) hB _ _ _, Nv.put (own_nv hT.o2 h2.out) hB _ _ _, put3_below _ _ _ hT.add hg⟩
theorem pxB {w0 w4 : World} {s : Bool} {N D : Nat} {a n k a' n' k'} {xs ys : List Nat} (hT : TwoO w0 w4 (.slice a n k) xs (.slice a' n' k') ys) (h1 : Hid (Limbs xs ∧ val xs = N ∧ xs.length ≤ 100000)) (h2 : Hid (Limbs ys ∧ val ys = D ∧ ys.length ≤ 100000)) :
    PX w0 s N D (.pointer (some ⟨w4.heap.size, 0, none⟩)) (w4.alloc (.cells #[.bool s, .slice a n k, .slice a' n' k'] 25)) :=
  ⟨w4.heap.size, a, n, k, a', n', k', rfl, box_new .., (own_nv hT.o1 h1.out).mono (add_new _ _), (own_nv hT.o2 h2.out).mono (add_new _ _), Add.trans hT.add (add_new _ _)⟩
theorem limbs_zeros {xs : List Nat} (h : Limbs xs) (k : Nat) : Limbs (xs ++ List.replicate k 0) := by
  intro x hx
  rcases List.mem_append.1 hx with h1 | h1
  · exact h x h1
  · rw [(List.mem_replicate.1 h1).2]; decide
end Go.Proofs.YtifpfoeecnkhoaaDoor

namespace Go.Proofs.YtifpfoeecnkhoaaDoor.RedL
open Go.Proofs.YtifpfoeecnkhoaaDoor Go.RowKit NatM Go.Proofs.YtifpfoeecnkhoaaDoor.Api
theorem fracT_mk {w : World} {b : Bool} {N D : Nat} {an n cn ad d cd} (h1 : Num w (.slice an n cn) N) (h2 : Num w (.slice ad d cd) D) : FracT w (.agg #[.bool b, .slice an n cn, .slice ad d cd]) (b, N, D) := ⟨an, n, cn, ad, d, cd, rfl, h1, h2⟩
/-- A result of which the parts have names. -/
def ResE (w : World) (s : Bool) (N D c : Nat) (e : Ending) (w' : World) : Prop := ∃ a n k a' n' k', e = .returned (.tuple #[.agg #[.bool s, .slice a n k, .slice a' n' k'], .int .i64 (c : Nat)]) ∧ Num w' (.slice a n k) N ∧ Num w' (.slice a' n' k') D ∧ Add w w'
theorem resE {w : World} {p : Tri × Nat} {s : Bool} {N D c : Nat} {e : Ending} {w' : World} (g : ResF w p e w') (h : Hid (p = ((s, N, D), c))) : ResE w s N D c e w' := by
  obtain ⟨v, he, ⟨a, n, k, a', n', k', rfl, h1, h2⟩, h3⟩ := g
  have e1 := h.out
  subst e1
  exact ⟨a, n, k, a', n', k', he, h1, h2, h3⟩
def CmpE (w : World) (t : Int) (c : Nat) (e : Ending) (w' : World) : Prop := e = .returned (.tuple #[.int .i64 t, .int .i64 (c : Nat)]) ∧ Add w w'
theorem cmpE {w : World} {p : Int × Nat} {t : Int} {c : Nat} {e : Ending} {w' : World} (g : CmpR w p e w') (h : Hid (p = (t, c))) : CmpE w t c e w' := by
  have e1 := h.out
  subst e1
  exact ⟨g.1, g.2⟩
theorem scaled {b : Bool} {N D c : Nat} (h : c ≠ 0) : qv (b, N * c, D * c) = qv (b, N, D) := frac_scale h
theorem scaled_lt {N c : Nat} (h : N < pw 24) (hc : c < 4294967296) : N * c < pw 25 := by
  have e : pw 25 = pw 24 * 4294967296 := rfl
  rw [e]
  exact Nat.lt_of_lt_of_le (Nat.mul_lt_mul_of_lt_of_le h (Nat.le_of_lt hc) (by decide)) (Nat.le_refl _)
theorem scaled_ok {b : Bool} {N D c : Nat} (h : c ≠ 0) (hc : c < 4294967296) (h1 : N < pw 24) (h2 : D < pw 24) (ho : okF (b, N, D) = true) : okF (b, N * c, D * c) = true :=
  okF_iff.2 ⟨Nat.mul_ne_zero (okF_iff.1 ho).1 h, lt_up (scaled_lt h1 hc) (by decide), lt_up (scaled_lt h2 hc) (by decide)⟩
theorem reads_one (w : World) (g : Nat) (hg : w.heap.size = g) (x : Nat) (hx : x < 4294967296) : Reads (w.alloc (.cells #[.int .u32 (x : Nat)] 26)) (.slice (some ⟨g, 0, none⟩) 1 1) [x] := by
  subst hg
  have hrow : Row (w.alloc (.cells #[.int .u32 (x : Nat)] 26)) w.heap.size [x] := heap_alloc_new w _
  have := hrow.reads (m := 1) (c := 1) (by simp) (by decide) (by decide) (by intro y hy; simp at hy; omega)
  simpa using this
theorem wordU32 {z : Int} (h : (Lit.int .u32 z).wf = true) : ∃ n : Nat, n < 4294967296 ∧ z = (n : Int) := by
  have h1 : IntKind.u32.min = 0 := rfl
  have h2 : IntKind.u32.max = 4294967295 := rfl
  simp only [Lit.wf, Bool.and_eq_true, decide_eq_true_eq] at h
  exact ⟨z.toNat, by omega, by omega⟩
theorem val_one (x : Nat) : val [x] = x := by simp [val]
theorem zeros_hv {zs : List Nat} {N k : Nat} (hl : Limbs zs) (hc : Canon zs) (hv : val zs = N) (h : N < pw 25) (hk : k ≤ 2) : zs.length ≤ 25 ∧ Limbs (zs ++ List.replicate k 0) ∧ val (zs ++ List.replicate k 0) = N ∧ (zs ++ List.replicate k 0).length ≤ 100000 := by
  have h1 : zs.length ≤ 25 := by rw [← hc]; exact tlen_le_of_val 25 (by rw [hv]; exact h)
  refine ⟨h1, limbs_zeros hl k, ?_, by simp; omega⟩
  rw [val_append, val_replicate, hv]; simp

set_option maxRecDepth 100000 in
set_option maxHeartbeats 20000000 in
theorem red_long {v v' : Value} {b b' : Bool} {xs ys xs' ys' : List Nat} {c : Nat} (w : World) (hx : FracI w v b xs ys) (hy : FracI w v' b' xs' ys') (hT : Tab w) (hl : (longB xs ys || longB xs' ys') = true) : Calls Tryd.prog 3 #[v, v', .int .u32 (c : Nat)] w (LawP w) := by
  obtain ⟨an, n, cn, ad, d, cd, rfl, i0, j0⟩ := hx
  obtain ⟨an', n', cn', ad', d', cd', rfl, i1, j1⟩ := hy
  obtain ⟨T, hX, hY⟩ := start2 w b an n cn ad d cd b' an' n' cn' ad' d' cd'
  obtain ⟨W0, hW0⟩ : ∃ W0, W0 = ((w.alloc (.cells #[.bool b, .slice an n cn, .slice ad d cd] 25)).alloc (.cells #[.bool b', .slice an' n' cn', .slice ad' d' cd'] 25)) := ⟨_, rfl⟩
  rw [← hW0] at T hX hY
  have hX0 := hX
  have hY0 := hY
  have CL := Lib.hid (longF2 true (b := b) (b' := b') (w := W0) (w.heap.size + 1 + 1) (i0.mono T) (j0.mono T) (i1.mono T) (j1.mono T) (by rw [hW0]; simp) (Lib.hid hl))
  have TL : Add W0 (W0.alloc (.cells #[.bool b, .slice an n cn, .slice ad d cd, .bool b', .slice an' n' cn', .slice ad' d' cd'] 25)) := add_new _ _
  replace hX := hX.mono TL
  replace hY := hY.mono TL
  replace hT := (hT.mono T).mono TL
  replace i0 := (i0.mono T).mono TL
  replace j0 := (j0.mono T).mono TL
  replace i1 := (i1.mono T).mono TL
  replace j1 := (j1.mono T).mono TL
  replace T := Add.trans T TL
  have ha0 := hX0.c0
  have ha1 := hX0.c1
  have ha2 := hX0.c2
  have hb0 := hY0.c0
  have hb1 := hY0.c1
  have hb2 := hY0.c2
  rw [hW0] at ha0 ha1 ha2 hb0 hb1 hb2
  go_enter Tryd.func3, Tryd.ntmps3
  go_wp2_with fail
  rw [← hW0]
  refine CL.out.mono ?_
  rintro e w9 ⟨rfl, rfl⟩
  clear CL TL hW0 hl ha0 ha1 ha2 hb0 hb1 hb2 hX0 hY0 hX hY i0 j0 i1 j1
  go_wp2_with fail
  refine (awake2_any _ hT).mono ?_
  rintro e w9 ⟨rfl, h9⟩
  replace T := Add.trans T h9
  clear h9 hT
  go_wp2_with fail
  go_ret
  exact ⟨rfl, T⟩

set_option maxRecDepth 100000 in
set_option maxHeartbeats 20000000 in
theorem red_bad {v v' : Value} {b b' : Bool} {xs ys xs' ys' : List Nat} {c : Nat} (w : World) (hx : FracI w v b xs ys) (hy : FracI w v' b' xs' ys') (hT : Tab w) (hl : (longB xs ys || longB xs' ys') = false) (hv : ¬ (okF (b, val xs, val ys) = true ∧ okF (b', val xs', val ys') = true)) : Calls Tryd.prog 3 #[v, v', .int .u32 (c : Nat)] w (LawP w) := by
  have hl0 := hl
  obtain ⟨an, n, cn, ad, d, cd, rfl, i0, j0⟩ := hx
  obtain ⟨an', n', cn', ad', d', cd', rfl, i1, j1⟩ := hy
  obtain ⟨T, hX, hY⟩ := start2 w b an n cn ad d cd b' an' n' cn' ad' d' cd'
  obtain ⟨W0, hW0⟩ : ∃ W0, W0 = ((w.alloc (.cells #[.bool b, .slice an n cn, .slice ad d cd] 25)).alloc (.cells #[.bool b', .slice an' n' cn', .slice ad' d' cd'] 25)) := ⟨_, rfl⟩
  rw [← hW0] at T hX hY
  have hX0 := hX
  have hY0 := hY
  have CL := Lib.hid (longF2 false (b := b) (b' := b') (w := W0) (w.heap.size + 1 + 1) (i0.mono T) (j0.mono T) (i1.mono T) (j1.mono T) (by rw [hW0]; simp) (Lib.hid hl))
  have TL : Add W0 (W0.alloc (.cells #[.bool b, .slice an n cn, .slice ad d cd, .bool b', .slice an' n' cn', .slice ad' d' cd'] 25)) := add_new _ _
  replace hX := hX.mono TL
  replace hY := hY.mono TL
  replace hT := (hT.mono T).mono TL
  replace i0 := (i0.mono T).mono TL
  replace j0 := (j0.mono T).mono TL
  replace i1 := (i1.mono T).mono TL
  replace j1 := (j1.mono T).mono TL
  replace T := Add.trans T TL
  have ha0 := hX0.c0
  have ha1 := hX0.c1
  have ha2 := hX0.c2
  have hb0 := hY0.c0
  have hb1 := hY0.c1
  have hb2 := hY0.c2
  rw [hW0] at ha0 ha1 ha2 hb0 hb1 hb2
  simp only [Bool.or_eq_false_iff] at hl0
  have qx : FracA _ (.agg #[.bool b, .slice an n cn, .slice ad d cd]) (b, val xs, val ys) := FracI.arg ⟨an, n, cn, ad, d, cd, rfl, i0, j0⟩ hl0.1
  have qy : FracA _ (.agg #[.bool b', .slice an' n' cn', .slice ad' d' cd']) (b', val xs', val ys') := FracI.arg ⟨an', n', cn', ad', d', cd', rfl, i1, j1⟩ hl0.2
  obtain ⟨l1, l2⟩ := FracI.small i0.limbs j0.limbs hl0.1
  have hls : xs.length ≤ 24 ∧ ys.length ≤ 24 := by have := hl0.1; simp [longB] at this; omega
  obtain ⟨N, eN⟩ : ∃ N, val xs = N := ⟨_, rfl⟩
  obtain ⟨D, eD⟩ : ∃ D, val ys = D := ⟨_, rfl⟩
  obtain ⟨y, ey⟩ : ∃ y : Tri, (b', val xs', val ys') = y := ⟨_, rfl⟩
  rw [eN, eD] at qx
  rw [eN] at l1
  rw [eD] at l2
  rw [ey] at qy
  rw [ey, eN, eD] at hv
  have EN := Lib.hid eN
  have ED := Lib.hid eD
  have LS := Lib.hid hls
  have L1 := Lib.hid l1
  have L2 := Lib.hid l2
  clear ey hl0 i1 j1 eN eD hls l1 l2
  go_enter Tryd.func3, Tryd.ntmps3
  go_wp2_with fail
  rw [← hW0]
  refine CL.out.mono ?_
  rintro e w9 ⟨rfl, rfl⟩
  clear CL TL hW0 hl ha0 ha1 ha2 hb0 hb1 hb2 hX0 hY0 i0 j0 EN ED LS L1 L2
  have HV := Lib.hid hv
  clear hv
  by_cases c1 : okF (b, N, D) = true
  · have F1 := Lib.hid c1
    have c2 : okF y = false := by
      cases h : okF y
      · rfl
      · exact absurd ⟨c1, h⟩ HV.out
    have F2 := Lib.hid c2
    clear c1 c2 HV
    have ha0 := hX.c0
    have ha1 := hX.c1
    have ha2 := hX.c2
    go_wp2_with fail
    refine (refValidN true qx F1).mono ?_
    rintro e w1 ⟨rfl, h1⟩
    replace hT := hT.mono h1
    replace hY := hY.mono h1
    replace qy := qy.mono h1
    replace T := Add.trans T h1
    clear h1 ha0 ha1 ha2 hX qx F1
    have hb0 := hY.c0
    have hb1 := hY.c1
    have hb2 := hY.c2
    go_wp2_with fail
    refine (refValidN false qy F2).mono ?_
    rintro e w2 ⟨rfl, h2⟩
    replace hT := hT.mono h2
    replace T := Add.trans T h2
    clear h2 hb0 hb1 hb2 hY qy F2
    go_wp2_with fail
    refine (awake2_any _ hT).mono ?_
    rintro e w9 ⟨rfl, h9⟩
    replace T := Add.trans T h9
    clear h9 hT
    go_wp2_with fail
    go_ret
    exact ⟨rfl, T⟩
  · have F1 : Hid (okF (b, N, D) = false) := Lib.hid (by simpa using c1)
    clear c1 HV
    have ha0 := hX.c0
    have ha1 := hX.c1
    have ha2 := hX.c2
    go_wp2_with fail
    refine (refValidN false qx F1).mono ?_
    rintro e w1 ⟨rfl, h1⟩
    replace hT := hT.mono h1
    replace T := Add.trans T h1
    clear h1 ha0 ha1 ha2 hX qx F1 hY qy
    go_wp2_with fail
    refine (awake2_any _ hT).mono ?_
    rintro e w9 ⟨rfl, h9⟩
    replace T := Add.trans T h9
    clear h9 hT
    go_wp2_with fail
    go_ret
    exact ⟨rfl, T⟩

set_option maxRecDepth 100000 in
set_option maxHeartbeats 20000000 in
theorem red_zero {v v' : Value} {b b' : Bool} {xs ys xs' ys' : List Nat} {c : Nat} (w : World) (hx : FracI w v b xs ys) (hy : FracI w v' b' xs' ys') (hT : Tab w) (hl : (longB xs ys || longB xs' ys') = false) (hv : okF (b, val xs, val ys) = true ∧ okF (b', val xs', val ys') = true) (h0 : c = 0) : Calls Tryd.prog 3 #[v, v', .int .u32 (c : Nat)] w (LawP w) := by
  subst h0
  have hl0 := hl
  obtain ⟨an, n, cn, ad, d, cd, rfl, i0, j0⟩ := hx
  obtain ⟨an', n', cn', ad', d', cd', rfl, i1, j1⟩ := hy
  obtain ⟨T, hX, hY⟩ := start2 w b an n cn ad d cd b' an' n' cn' ad' d' cd'
  obtain ⟨W0, hW0⟩ : ∃ W0, W0 = ((w.alloc (.cells #[.bool b, .slice an n cn, .slice ad d cd] 25)).alloc (.cells #[.bool b', .slice an' n' cn', .slice ad' d' cd'] 25)) := ⟨_, rfl⟩
  rw [← hW0] at T hX hY
  have hX0 := hX
  have hY0 := hY
  have CL := Lib.hid (longF2 false (b := b) (b' := b') (w := W0) (w.heap.size + 1 + 1) (i0.mono T) (j0.mono T) (i1.mono T) (j1.mono T) (by rw [hW0]; simp) (Lib.hid hl))
  have TL : Add W0 (W0.alloc (.cells #[.bool b, .slice an n cn, .slice ad d cd, .bool b', .slice an' n' cn', .slice ad' d' cd'] 25)) := add_new _ _
  replace hX := hX.mono TL
  replace hY := hY.mono TL
  replace hT := (hT.mono T).mono TL
  replace i0 := (i0.mono T).mono TL
  replace j0 := (j0.mono T).mono TL
  replace i1 := (i1.mono T).mono TL
  replace j1 := (j1.mono T).mono TL
  replace T := Add.trans T TL
  have ha0 := hX0.c0
  have ha1 := hX0.c1
  have ha2 := hX0.c2
  have hb0 := hY0.c0
  have hb1 := hY0.c1
  have hb2 := hY0.c2
  rw [hW0] at ha0 ha1 ha2 hb0 hb1 hb2
  simp only [Bool.or_eq_false_iff] at hl0
  have qx : FracA _ (.agg #[.bool b, .slice an n cn, .slice ad d cd]) (b, val xs, val ys) := FracI.arg ⟨an, n, cn, ad, d, cd, rfl, i0, j0⟩ hl0.1
  have qy : FracA _ (.agg #[.bool b', .slice an' n' cn', .slice ad' d' cd']) (b', val xs', val ys') := FracI.arg ⟨an', n', cn', ad', d', cd', rfl, i1, j1⟩ hl0.2
  obtain ⟨l1, l2⟩ := FracI.small i0.limbs j0.limbs hl0.1
  have hls : xs.length ≤ 24 ∧ ys.length ≤ 24 := by have := hl0.1; simp [longB] at this; omega
  obtain ⟨N, eN⟩ : ∃ N, val xs = N := ⟨_, rfl⟩
  obtain ⟨D, eD⟩ : ∃ D, val ys = D := ⟨_, rfl⟩
  obtain ⟨y, ey⟩ : ∃ y : Tri, (b', val xs', val ys') = y := ⟨_, rfl⟩
  rw [eN, eD] at qx
  rw [eN] at l1
  rw [eD] at l2
  rw [ey] at qy
  rw [ey, eN, eD] at hv
  have EN := Lib.hid eN
  have ED := Lib.hid eD
  have LS := Lib.hid hls
  have L1 := Lib.hid l1
  have L2 := Lib.hid l2
  clear ey hl0 i1 j1 eN eD hls l1 l2
  go_enter Tryd.func3, Tryd.ntmps3
  go_wp2_with fail
  rw [← hW0]
  refine CL.out.mono ?_
  rintro e w9 ⟨rfl, rfl⟩
  clear CL TL hW0 hl ha0 ha1 ha2 hb0 hb1 hb2 hX0 hY0 i0 j0 EN ED LS L1 L2
  have F1 := Lib.hid hv.1
  have F2 := Lib.hid hv.2
  clear hv
  have ha0 := hX.c0
  have ha1 := hX.c1
  have ha2 := hX.c2
  go_wp2_with fail
  refine (refValidN true qx F1).mono ?_
  rintro e w1 ⟨rfl, h1⟩
  replace hT := hT.mono h1
  replace hX := hX.mono h1
  replace hY := hY.mono h1
  replace qx := qx.mono h1
  replace qy := qy.mono h1
  replace T := Add.trans T h1
  clear h1 ha0 ha1 ha2
  have hb0 := hY.c0
  have hb1 := hY.c1
  have hb2 := hY.c2
  go_wp2_with fail
  refine (refValidN true qy F2).mono ?_
  rintro e w2 ⟨rfl, h2⟩
  replace hT := hT.mono h2
  replace hX := hX.mono h2
  replace hY := hY.mono h2
  replace qx := qx.mono h2
  replace qy := qy.mono h2
  replace T := Add.trans T h2
  clear h2 hb0 hb1 hb2
  clear hX hY qx qy F1 F2
  go_wp2_with fail
  refine (awake2_any _ hT).mono ?_
  rintro e w9 ⟨rfl, h9⟩
  replace T := Add.trans T h9
  clear h9 hT
  go_wp2_with fail
  go_ret
  exact ⟨rfl, T⟩

set_option maxRecDepth 100000 in
set_option maxHeartbeats 20000000 in
theorem red_ok {v v' : Value} {b b' : Bool} {xs ys xs' ys' : List Nat} {c : Nat} (w : World) (hx : FracI w v b xs ys) (hy : FracI w v' b' xs' ys') (hT : Tab w) (hc : c < 4294967296) (hl : (longB xs ys || longB xs' ys') = false) (hv : okF (b, val xs, val ys) = true ∧ okF (b', val xs', val ys') = true) (h0 : c ≠ 0) : Calls Tryd.prog 3 #[v, v', .int .u32 (c : Nat)] w (LawP w) := by
  have hl0 := hl
  obtain ⟨an, n, cn, ad, d, cd, rfl, i0, j0⟩ := hx
  obtain ⟨an', n', cn', ad', d', cd', rfl, i1, j1⟩ := hy
  obtain ⟨T, hX, hY⟩ := start2 w b an n cn ad d cd b' an' n' cn' ad' d' cd'
  obtain ⟨W0, hW0⟩ : ∃ W0, W0 = ((w.alloc (.cells #[.bool b, .slice an n cn, .slice ad d cd] 25)).alloc (.cells #[.bool b', .slice an' n' cn', .slice ad' d' cd'] 25)) := ⟨_, rfl⟩
  rw [← hW0] at T hX hY
  have hX0 := hX
  have hY0 := hY
  have CL := Lib.hid (longF2 false (b := b) (b' := b') (w := W0) (w.heap.size + 1 + 1) (i0.mono T) (j0.mono T) (i1.mono T) (j1.mono T) (by rw [hW0]; simp) (Lib.hid hl))
  have TL : Add W0 (W0.alloc (.cells #[.bool b, .slice an n cn, .slice ad d cd, .bool b', .slice an' n' cn', .slice ad' d' cd'] 25)) := add_new _ _
  replace hX := hX.mono TL
  replace hY := hY.mono TL
  replace hT := (hT.mono T).mono TL
  replace i0 := (i0.mono T).mono TL
  replace j0 := (j0.mono T).mono TL
  replace i1 := (i1.mono T).mono TL
  replace j1 := (j1.mono T).mono TL
  replace T := Add.trans T TL
  have ha0 := hX0.c0
  have ha1 := hX0.c1
  have ha2 := hX0.c2
  have hb0 := hY0.c0
  have hb1 := hY0.c1
  have hb2 := hY0.c2
  rw [hW0] at ha0 ha1 ha2 hb0 hb1 hb2
  simp only [Bool.or_eq_false_iff] at hl0
  have qx : FracA _ (.agg #[.bool b, .slice an n cn, .slice ad d cd]) (b, val xs, val ys) := FracI.arg ⟨an, n, cn, ad, d, cd, rfl, i0, j0⟩ hl0.1
  have qy : FracA _ (.agg #[.bool b', .slice an' n' cn', .slice ad' d' cd']) (b', val xs', val ys') := FracI.arg ⟨an', n', cn', ad', d', cd', rfl, i1, j1⟩ hl0.2
  obtain ⟨l1, l2⟩ := FracI.small i0.limbs j0.limbs hl0.1
  have hls : xs.length ≤ 24 ∧ ys.length ≤ 24 := by have := hl0.1; simp [longB] at this; omega
  obtain ⟨N, eN⟩ : ∃ N, val xs = N := ⟨_, rfl⟩
  obtain ⟨D, eD⟩ : ∃ D, val ys = D := ⟨_, rfl⟩
  obtain ⟨y, ey⟩ : ∃ y : Tri, (b', val xs', val ys') = y := ⟨_, rfl⟩
  rw [eN, eD] at qx
  rw [eN] at l1
  rw [eD] at l2
  rw [ey] at qy
  rw [ey, eN, eD] at hv
  have EN := Lib.hid eN
  have ED := Lib.hid eD
  have LS := Lib.hid hls
  have L1 := Lib.hid l1
  have L2 := Lib.hid l2
  clear ey hl0 i1 j1 eN eD hls l1 l2
  go_enter Tryd.func3, Tryd.ntmps3
  go_wp2_with fail
  rw [← hW0]
  refine CL.out.mono ?_
  rintro e w9 ⟨rfl, rfl⟩
  clear CL TL hW0 hl ha0 ha1 ha2 hb0 hb1 hb2 hX0 hY0 
  have F1 := Lib.hid hv.1
  have F2 := Lib.hid hv.2
  clear hv
  have hcc : ((c : Int) == 0) = false := by simp; omega
  have FZ := Lib.hid (scaled_ok h0 hc L1.out L2.out F1.out)
  have QZ : Hid (qv (b, N * c, D * c) = qv (b, N, D)) := Lib.hid (scaled h0)
  have HC := Lib.hid hc
  have H0 := Lib.hid h0
  clear hc h0
  have ha0 := hX.c0
  have ha1 := hX.c1
  have ha2 := hX.c2
  go_wp2_with fail
  refine (refValidN true qx F1).mono ?_
  rintro e w1 ⟨rfl, h1⟩
  replace hT := hT.mono h1
  replace hX := hX.mono h1
  replace hY := hY.mono h1
  replace qx := qx.mono h1
  replace qy := qy.mono h1
  replace i0 := i0.mono h1
  replace j0 := j0.mono h1
  replace T := Add.trans T h1
  clear h1 ha0 ha1 ha2
  have hb0 := hY.c0
  have hb1 := hY.c1
  have hb2 := hY.c2
  go_wp2_with fail
  refine (refValidN true qy F2).mono ?_
  rintro e w2 ⟨rfl, h2⟩
  replace hT := hT.mono h2
  replace hX := hX.mono h2
  replace hY := hY.mono h2
  replace qx := qx.mono h2
  replace qy := qy.mono h2
  replace i0 := i0.mono h2
  replace j0 := j0.mono h2
  replace T := Add.trans T h2
  clear h2 hb0 hb1 hb2
  have ha0 := hX.c0
  have ha1 := hX.c1
  have ha2 := hX.c2
  go_wp2_with fail
  obtain ⟨w0, hw0⟩ : ∃ w0, w0 = w2.alloc (.cells #[.int .u32 (c : Nat)] 26) := ⟨_, rfl⟩
  have k0 : Add w2 w0 := by rw [hw0]; exact add_new _ _
  have r0 : Reads w0 (.slice (some ⟨w2.heap.size, 0, none⟩) 1 1) [c] := by rw [hw0]; exact reads_one _ _ rfl _ HC.out
  rw [← hw0]
  clear hw0 ha0 ha1 ha2 hcc
  replace hT := hT.mono k0
  replace hX := hX.mono k0
  replace hY := hY.mono k0
  replace qx := qx.mono k0
  replace qy := qy.mono k0
  replace i0 := i0.mono k0
  replace j0 := j0.mono k0
  replace T := Add.trans T k0
  clear k0
  have HL : Hid (Tab w0 ∧ Box w0 w.heap.size b an n cn ad d cd ∧ Box w0 (w.heap.size + 1) b' an' n' cn' ad' d' cd' ∧ FracA w0 (.agg #[.bool b, .slice an n cn, .slice ad d cd]) (b, N, D) ∧ FracA w0 (.agg #[.bool b', .slice an' n' cn', .slice ad' d' cd']) y) := Lib.hid ⟨hT, hX, hY, qx, qy⟩
  clear hT hY qx qy
  have HM := Lib.hid (refMulO_any _ _ xs [c] w0 i0 r0 (by have := LS.out; omega) (by simp) (Nat.not_le.2 (lt_up (i := 24) (j := 512) (by rw [EN.out]; exact L1.out) (by decide))) (Nat.not_le.2 (by rw [val_one]; exact Nat.lt_of_lt_of_le HC.out (by decide +kernel))) (Nat.not_le.2 (by rw [EN.out, val_one]; exact lt_up (i := 25) (j := 512) (scaled_lt L1.out HC.out) (by decide))))
  rw [EN.out, val_one] at HM
  clear i0 r0
  refine HM.out.mono ?_
  rintro e w3 ⟨v1, rfl, n1, h3⟩
  clear HM
  replace hX := hX.mono h3
  replace j0 := j0.mono h3
  have ha0 := hX.c0
  have ha1 := hX.c1
  have ha2 := hX.c2
  clear hX
  go_wp2_with fail
  obtain ⟨w4, hw4⟩ : ∃ w4, w4 = w3.alloc (.cells #[.int .u32 (c : Nat)] 26) := ⟨_, rfl⟩
  have k4 : Add w3 w4 := by rw [hw4]; exact add_new _ _
  have r4 : Reads w4 (.slice (some ⟨w3.heap.size, 0, none⟩) 1 1) [c] := by rw [hw4]; exact reads_one _ _ rfl _ HC.out
  rw [← hw4]
  clear hw4 ha0 ha1 ha2
  replace j0 := j0.mono k4
  have HM := Lib.hid (refMulO_any _ _ ys [c] w4 j0 r4 (by have := LS.out; omega) (by simp) (Nat.not_le.2 (lt_up (i := 24) (j := 512) (by rw [ED.out]; exact L2.out) (by decide))) (Nat.not_le.2 (by rw [val_one]; exact Nat.lt_of_lt_of_le HC.out (by decide +kernel))) (Nat.not_le.2 (by rw [ED.out, val_one]; exact lt_up (i := 25) (j := 512) (scaled_lt L2.out HC.out) (by decide))))
  rw [ED.out, val_one] at HM
  clear j0 r4
  refine HM.out.mono ?_
  rintro e w2 ⟨v2, rfl, n2, h5⟩
  clear HM
  obtain ⟨xs, o1, x1, y1, z1⟩ := n1
  obtain ⟨ys, o2, x2, y2, z2⟩ := n2
  obtain ⟨hlu, HV1⟩ := zeros_hv (k := 1) x1 y1 z1 (scaled_lt L1.out HC.out) (by decide)
  obtain ⟨hlv, HV2⟩ := zeros_hv (k := 2) x2 y2 z2 (scaled_lt L2.out HC.out) (by decide)
  replace HV1 := Lib.hid HV1
  replace HV2 := Lib.hid HV2
  have h35 : Add w3 w2 := Add.trans k4 h5
  have hT : TwoO w0 w2 v1 xs v2 ys := by
    refine ⟨o1.below h35, o2.base (Nat.le_trans h3.size k4.size), ?_, Add.trans h3 h35⟩
    cases e1 : v1.ownBlock with
    | none => exact .inl rfl
    | some q =>
      refine .inr fun e2 => ?_
      have a1 := (own_lt o1 q e1).2
      have a2 := (own_lt o2 q e2.symm).1
      have a3 := k4.size
      omega
  have HLN : Hid (xs.length ≤ 25 ∧ ys.length ≤ 25) := Lib.hid ⟨hlu, hlv⟩
  clear x1 y1 z1 x2 y2 z2 o1 o2 k4 h5 h35 h3 hlu hlv
  obtain ⟨nz, hnz⟩ : ∃ nz, nz = N * c := ⟨_, rfl⟩
  obtain ⟨dz, hdz⟩ : ∃ dz, dz = D * c := ⟨_, rfl⟩
  rw [← hnz] at HV1 FZ QZ
  rw [← hdz] at HV2 FZ QZ
  have NZ : Hid (nz = 0 ↔ N = 0) := Lib.hid (by rw [hnz]; exact ⟨fun h => (Nat.mul_eq_zero.1 h).resolve_right H0.out, fun h => by rw [h]; simp⟩)
  have SZ : Hid (nz < pw 25 ∧ dz < pw 25) := Lib.hid ⟨by rw [hnz]; exact scaled_lt L1.out HC.out, by rw [hdz]; exact scaled_lt L2.out HC.out⟩
  clear hnz hdz HC H0 EN ED LS L1 L2
  have HX : Hid (∀ z, Add w0 z → z.cell? ⟨w.heap.size, 0, none⟩ = some (.bool b)) := Lib.hid fun z h => (HL.out.2.1.mono h).c0
  have hlx : xs.length ≤ 512 := by have := HLN.out; omega
  have hly : ys.length ≤ 512 := by have := HLN.out; omega
  clear HLN
  go_upto_region 5 with fail
  have h02 := hT.add
  have hs2 := h02.size
  obtain ⟨i0, hi0, hz0, hz1, hz2⟩ := info_parts info26
  have HO1 : Hid (∀ z, Add w2 z → OwnL z w0.heap.size v1 xs) := Lib.hid fun z h => (hT.mono h).o1
  have HN1 : Hid (∀ g, w2.heap.size ≤ g → some g ≠ v1.ownBlock) := Lib.hid fun g hg e => by have := (own_lt hT.o1 g e.symm).2; omega
  have HN2 : Hid (∀ g, w2.heap.size ≤ g → some g ≠ v2.ownBlock) := Lib.hid fun g hg e => by have := (own_lt hT.o2 g e.symm).2; omega
  have HS : Hid (∀ z w3, Add w2 z → z.grownBy w3 v1.ownBlock → w2.heap.size ≤ w3.heap.size) := Lib.hid fun z w3 hz hg => Nat.le_trans hz.size hg.size
  have HP1 : Hid (∀ z w3 g c, Add w2 z → z.grownBy w3 v1.ownBlock → w3.ownsRow w0.heap.size 26 1 (.slice (some ⟨g, 0, none⟩) (xs.length + 1) c) (xs.length + 1) (xs.map lim ++ [.int .u32 0]) → (v1.ownBlock = some g ∨ g = z.heap.size) → TwoO w0 w3 (.slice (some ⟨g, 0, none⟩) (xs.length + 1) c) (xs ++ [0]) v2 ys) := Lib.hid fun z w3 g c hz hg ho hat => TwoO.push1 (us := [0]) hT hz hg ho rfl (hat.imp id fun e => by rw [e]; rfl)
  have HP2 : Hid (∀ z w4 u g c, TwoO w0 z u (xs ++ [0]) v2 ys → z.grownBy w4 v2.ownBlock → w4.ownsRow w0.heap.size 26 1 (.slice (some ⟨g, 0, none⟩) (ys.length + 2) c) (ys.length + 2) (ys.map lim ++ [.int .u32 0, .int .u32 0]) → (v2.ownBlock = some g ∨ g = z.heap.size) → TwoO w0 w4 u (xs ++ [0]) (.slice (some ⟨g, 0, none⟩) (ys.length + 2) c) (ys ++ [0, 0])) := Lib.hid fun z w4 u g c ht hg ho hat => TwoO.push2 (us := [0, 0]) ht (Below.refl _ _) hg ho rfl (hat.imp id fun e => by rw [e]; rfl)
  have hxd0 := HX.out (w2.drew) (by repeat (first | with_reducible exact h02 | with_reducible refine Below.drew ?_ | with_reducible refine add_al ?_))
  have hxd1 := fun o => HX.out ((w2.alloc o).drew) (by repeat (first | with_reducible exact h02 | with_reducible refine Below.drew ?_ | with_reducible refine add_al ?_))
  have hxd2 := fun o o' => HX.out (((w2.alloc o).alloc o').drew) (by repeat (first | with_reducible exact h02 | with_reducible refine Below.drew ?_ | with_reducible refine add_al ?_))
  have hxe1 := fun o => HX.out (w2.alloc o) (by repeat (first | with_reducible exact h02 | with_reducible refine Below.drew ?_ | with_reducible refine add_al ?_))
  have hxe2 := fun o o' => HX.out ((w2.alloc o).alloc o') (by repeat (first | with_reducible exact h02 | with_reducible refine Below.drew ?_ | with_reducible refine add_al ?_))
  have hxe3 := fun o o' o2 => HX.out (((w2.alloc o).alloc o').alloc o2) (by repeat (first | with_reducible exact h02 | with_reducible refine Below.drew ?_ | with_reducible refine add_al ?_))
  have hxd3 := fun o o' o2 => HX.out ((((w2.alloc o).alloc o').alloc o2).drew) (by repeat (first | with_reducible exact h02 | with_reducible refine Below.drew ?_ | with_reducible refine add_al ?_))
  have hx20 := HX.out _ h02
  have hx20 := HX.out _ h02
  have TT := Lib.hid T
  clear T
  go_cut [11] from 26 (fun p wx => PX w0 b nz dz p wx)
  case first =>
    go_region_held3 (fun w' => w'.cell? ⟨w.heap.size, 0, none⟩ = some (.bool b))
      (first | (refine HX.out _ ?_; (repeat (with_reducible refine Below.setCell ?_ (by dsimp only; first | omega | (simp; omega)) _)); (repeat (first | with_reducible refine Below.drew ?_ | with_reducible refine add_al ?_)); first | with_reducible exact hT4.add | with_reducible exact hT3.add | with_reducible exact h02) | go_keep)
      (first | (refine step_append_lies _ rfl _ _ 23 rfl w0.heap.size 26 i0 (.int .u32 0) 1 4 Tryd.underlying23 hi0 hz0 hz1 hz2 rfl (by decide) v1 xs.length (xs.map lim) rfl (HO1.out _ (by (repeat (first | with_reducible refine Below.drew ?_ | with_reducible refine add_al ?_)); first | with_reducible exact Below.refl _ _ | with_reducible assumption)) _ 1 1 [.int .u32 0] rfl rfl (news1 ⟨_, rfl, (by repeat (first | ((with_reducible refine cell_at (by (first | with_reducible rfl | omega | (simp; done) | (simp; omega))) ?_); rfl) | with_reducible refine cell_drew ?_ | with_reducible refine cell_old ?_ | with_reducible refine cell_far ?_ hgrA (HN1.out _ (by first | omega | (simp; omega)))))⟩) (by intro u hu; simp at hu; subst hu; rfl) (by decide) (by unfold maxLen; omega) (by omega) (by first | omega | (simp; omega)) _ rfl ?_; intro gA cA w3 hownA hgrA hatA hltA; have hT3 := HP1.out _ w3 gA cA (by (repeat (first | with_reducible refine Below.drew ?_ | with_reducible refine add_al ?_)); first | with_reducible exact Below.refl _ _ | with_reducible assumption) hgrA hownA hatA; have hs33 := hgrA.size; (try simp at hs33); have hs3 := hT3.add.size; have hs23 : w2.heap.size ≤ w3.heap.size := HS.out _ _ (by (repeat (first | with_reducible refine Below.drew ?_ | with_reducible refine add_al ?_)); first | with_reducible exact Below.refl _ _ | with_reducible assumption) hgrA)
             | (refine step_append_lies _ rfl _ _ 23 rfl w0.heap.size 26 i0 (.int .u32 0) 1 4 Tryd.underlying23 hi0 hz0 hz1 hz2 rfl (by decide) v2 ys.length (ys.map lim) rfl (hT3.mono (by (repeat (first | with_reducible refine Below.drew ?_ | with_reducible refine add_al ?_)); first | with_reducible exact Below.refl _ _ | with_reducible assumption)).o2 _ 2 2 [.int .u32 0, .int .u32 0] rfl rfl (news2 ⟨_, rfl, (by repeat (first | ((with_reducible refine cell_at (by (first | with_reducible rfl | omega | (simp; done) | (simp; omega))) ?_); rfl) | with_reducible refine cell_drew ?_ | with_reducible refine cell_old ?_ | with_reducible refine cell_far ?_ hgrA (HN1.out _ (by first | omega | (simp; omega))))), (by repeat (first | ((with_reducible refine cell_at (by (first | with_reducible rfl | omega | (simp; done) | (simp; omega))) ?_); rfl) | with_reducible refine cell_drew ?_ | with_reducible refine cell_old ?_ | with_reducible refine cell_far ?_ hgrA (HN1.out _ (by first | omega | (simp; omega)))))⟩) (by intro u hu; simp at hu; subst hu; rfl) (by decide) (by unfold maxLen; omega) (by omega) (by first | omega | (simp; omega)) _ rfl ?_; intro gB cB w4 hownB hgrB hatB hltB; have hT4 := HP2.out _ w4 _ gB cB (hT3.mono (by (repeat (first | with_reducible refine Below.drew ?_ | with_reducible refine add_al ?_)); first | with_reducible exact Below.refl _ _ | with_reducible assumption)) hgrB hownB (hatB.imp id (fun e => by first | exact e | (rw [e]; simp; done))); have hs4 := hT4.add.size; (try (have bx0 : Box w4 (w2.heap.size) false none 0 0 none 0 0 := (by (repeat (first | with_reducible refine box_drew ?_ | with_reducible refine box_skip (by first | omega | (simp; done) | (simp; omega)) ?_ | with_reducible refine box_far ?_ hgrB (HN2.out _ (by first | omega | (simp; omega))) | with_reducible refine box_far ?_ hgrA (HN1.out _ (by first | omega | (simp; omega))))); exact box_at (by (first | with_reducible rfl | omega | (simp; done) | (simp; omega)))); have b0c0 := bx0.c0; have b0f0 := bx0.fr 0; have b0c1 := bx0.c1; have b0f1 := bx0.fr 1; have b0c2 := bx0.c2; have b0f2 := bx0.fr 2)); (try (have bx1 : Box w4 (w2.heap.size + 1) false none 0 0 none 0 0 := (by (repeat (first | with_reducible refine box_drew ?_ | with_reducible refine box_skip (by first | omega | (simp; done) | (simp; omega)) ?_ | with_reducible refine box_far ?_ hgrB (HN2.out _ (by first | omega | (simp; omega))) | with_reducible refine box_far ?_ hgrA (HN1.out _ (by first | omega | (simp; omega))))); exact box_at (by (first | with_reducible rfl | omega | (simp; done) | (simp; omega)))); have b1c0 := bx1.c0; have b1f0 := bx1.fr 0; have b1c1 := bx1.c1; have b1f1 := bx1.fr 1; have b1c2 := bx1.c2; have b1f2 := bx1.fr 2)); (try (have bx2 : Box w4 (w2.heap.size + 1 + 1) false none 0 0 none 0 0 := (by (repeat (first | with_reducible refine box_drew ?_ | with_reducible refine box_skip (by first | omega | (simp; done) | (simp; omega)) ?_ | with_reducible refine box_far ?_ hgrB (HN2.out _ (by first | omega | (simp; omega))) | with_reducible refine box_far ?_ hgrA (HN1.out _ (by first | omega | (simp; omega))))); exact box_at (by (first | with_reducible rfl | omega | (simp; done) | (simp; omega)))); have b2c0 := bx2.c0; have b2f0 := bx2.fr 0; have b2c1 := bx2.c1; have b2f1 := bx2.fr 1; have b2c2 := bx2.c2; have b2f2 := bx2.fr 2)); (try (have bx3 : Box w4 (w3.heap.size) false none 0 0 none 0 0 := (by (repeat (first | with_reducible refine box_drew ?_ | with_reducible refine box_skip (by first | omega | (simp; done) | (simp; omega)) ?_ | with_reducible refine box_far ?_ hgrB (HN2.out _ (by first | omega | (simp; omega))) | with_reducible refine box_far ?_ hgrA (HN1.out _ (by first | omega | (simp; omega))))); exact box_at (by (first | with_reducible rfl | omega | (simp; done) | (simp; omega)))); have b3c0 := bx3.c0; have b3f0 := bx3.fr 0; have b3c1 := bx3.c1; have b3f1 := bx3.fr 1; have b3c2 := bx3.c2; have b3f2 := bx3.fr 2)); (try (have bx4 : Box w4 (w3.heap.size + 1) false none 0 0 none 0 0 := (by (repeat (first | with_reducible refine box_drew ?_ | with_reducible refine box_skip (by first | omega | (simp; done) | (simp; omega)) ?_ | with_reducible refine box_far ?_ hgrB (HN2.out _ (by first | omega | (simp; omega))) | with_reducible refine box_far ?_ hgrA (HN1.out _ (by first | omega | (simp; omega))))); exact box_at (by (first | with_reducible rfl | omega | (simp; done) | (simp; omega)))); have b4c0 := bx4.c0; have b4f0 := bx4.fr 0; have b4c1 := bx4.c1; have b4f1 := bx4.fr 1; have b4c2 := bx4.c2; have b4f2 := bx4.fr 2)))
             | fail)
    all_goals
      go_wp2_with fail
      go_meet
      first
        | exact pxA bx0 hT4 HV1 HV2 (by first | omega | (simp; omega))
        | exact pxA bx1 hT4 HV1 HV2 (by first | omega | (simp; omega))
        | exact pxA bx2 hT4 HV1 HV2 (by first | omega | (simp; omega))
        | exact pxA bx3 hT4 HV1 HV2 (by first | omega | (simp; omega))
        | exact pxA bx4 hT4 HV1 HV2 (by first | omega | (simp; omega))
        | exact pxB hT4 HV1 HV2
  case rest =>
    obtain ⟨gz, az, nn, kz, az', nn', kz', rfl, hZ, uz, vz, tz⟩ := hcut
    obtain ⟨hT, hX, hY, qx, qy⟩ := HL.out
    have T := TT.out
    replace hT := hT.mono tz
    replace hX := hX.mono tz
    replace hY := hY.mono tz
    replace qx := qx.mono tz
    replace qy := qy.mono tz
    replace T := Add.trans T tz
    have qz : FracA wc (.agg #[.bool b, .slice az nn kz, .slice az' nn' kz']) (b, nz, dz) := ⟨az, nn, kz, az', nn', kz', rfl, uz, vz⟩
    obtain ⟨s1, N1, D1, c1, e1⟩ : ∃ s1 N1 D1 c1, addF (b, N, D) y = ((s1, N1, D1), c1) := ⟨_, _, _, _, rfl⟩
    obtain ⟨s2, N2, D2, c2, e2⟩ : ∃ s1 N1 D1 c1, quoF y (b, N, D) = ((s1, N1, D1), c1) := ⟨_, _, _, _, rfl⟩
    obtain ⟨s3, N3, D3, c3, e3⟩ : ∃ s1 N1 D1 c1, redF (b, N, D) = ((s1, N1, D1), c1) := ⟨_, _, _, _, rfl⟩
    have R1 : Hid (addF (b, N, D) y = ((s1, N1, D1), c1)) := Lib.hid e1
    have R2 : Hid (quoF y (b, N, D) = ((s2, N2, D2), c2)) := Lib.hid e2
    have R3 : Hid (redF (b, N, D) = ((s3, N3, D3), c3)) := Lib.hid e3
    have Q1 : Hid (addF (b, nz, dz) y = ((s1, N1, D1), c1)) := Lib.hid (by rw [← e1]; unfold addF; rw [FZ.out, F1.out, QZ.out])
    have Q2 : Hid (quoF y (b, nz, dz) = ((s2, N2, D2), c2)) := Lib.hid (by
      rw [← e2]; unfold quoF; rw [FZ.out, F1.out, QZ.out]
      have := NZ.out
      by_cases h : N = 0
      · rw [if_pos (show ((b, nz, dz) : Tri).2.1 = 0 from this.2 h), if_pos (show ((b, N, D) : Tri).2.1 = 0 from h)]
      · rw [if_neg (show ¬ ((b, nz, dz) : Tri).2.1 = 0 from fun h' => h (this.1 h')), if_neg (show ¬ ((b, N, D) : Tri).2.1 = 0 from h)])
    have Q3 : Hid (redF (b, nz, dz) = ((s3, N3, D3), c3)) := Lib.hid (by rw [← e3]; unfold redF; rw [FZ.out, F1.out, QZ.out])
    have R6 : Hid (cmpF (b, N, D) (b, nz, dz) = (0, 0)) := Lib.hid (by unfold cmpF; rw [if_pos ⟨F1.out, FZ.out⟩, QZ.out, cmpQ_eq rfl])
    clear e1 e2 e3 uz vz tz FZ F1 F2 QZ NZ SZ HL TT HX HV1 HV2
    have ha0 := hX.c0
    have ha1 := hX.c1
    have ha2 := hX.c2
    have hb0 := hY.c0
    have hb1 := hY.c1
    have hb2 := hY.c2
    go_wp2_with fail
    refine ((addN' _ qx qy hT R1).mono fun _ _ g => resE g (Lib.hid rfl)).mono ?_
    rintro e w10 ⟨aA, nA, cA, eA, mA, kA, rfl, uA, vA, h10⟩
    replace hT := hT.mono h10
    replace hX := hX.mono h10
    replace hY := hY.mono h10
    replace hZ := hZ.mono h10
    replace qx := qx.mono h10
    replace qy := qy.mono h10
    replace qz := qz.mono h10
    replace T := Add.trans T h10
    clear h10 ha0 ha1 ha2 hb0 hb1 hb2
    obtain ⟨tt, hA⟩ := laid_var w10 s1 aA nA cA eA mA kA
    replace hT := hT.mono tt
    replace hX := hX.mono tt
    replace hY := hY.mono tt
    replace hZ := hZ.mono tt
    replace qx := qx.mono tt
    replace qy := qy.mono tt
    replace qz := qz.mono tt
    replace uA := uA.mono tt
    replace vA := vA.mono tt
    replace T := Add.trans T tt
    clear tt
    have ha0 := hZ.c0
    have ha1 := hZ.c1
    have ha2 := hZ.c2
    have hb0 := hY.c0
    have hb1 := hY.c1
    have hb2 := hY.c2
    go_wp2_with fail
    refine ((addN' _ qz qy hT Q1).mono fun _ _ g => resE g (Lib.hid rfl)).mono ?_
    rintro e w11 ⟨aB, nB, cB, eB, mB, kB, rfl, uB, vB, h11⟩
    replace hT := hT.mono h11
    replace hX := hX.mono h11
    replace hY := hY.mono h11
    replace hZ := hZ.mono h11
    replace qx := qx.mono h11
    replace qy := qy.mono h11
    replace qz := qz.mono h11
    replace uA := uA.mono h11
    replace vA := vA.mono h11
    replace hA := hA.mono h11
    replace T := Add.trans T h11
    clear h11 ha0 ha1 ha2 hb0 hb1 hb2
    obtain ⟨tt, hB⟩ := laid_var w11 s1 aB nB cB eB mB kB
    replace hT := hT.mono tt
    replace hX := hX.mono tt
    replace hY := hY.mono tt
    replace hZ := hZ.mono tt
    replace qx := qx.mono tt
    replace qy := qy.mono tt
    replace qz := qz.mono tt
    replace uA := uA.mono tt
    replace vA := vA.mono tt
    replace hA := hA.mono tt
    replace uB := uB.mono tt
    replace vB := vB.mono tt
    replace T := Add.trans T tt
    clear tt
    have ha0 := hY.c0
    have ha1 := hY.c1
    have ha2 := hY.c2
    have hb0 := hX.c0
    have hb1 := hX.c1
    have hb2 := hX.c2
    go_wp2_with fail
    refine ((quoN' _ qy qx hT R2).mono fun _ _ g => resE g (Lib.hid rfl)).mono ?_
    rintro e w12 ⟨aP, nP, cP, eP, mP, kP, rfl, uP, vP, h12⟩
    replace hT := hT.mono h12
    replace hX := hX.mono h12
    replace hY := hY.mono h12
    replace hZ := hZ.mono h12
    replace qx := qx.mono h12
    replace qy := qy.mono h12
    replace qz := qz.mono h12
    replace uA := uA.mono h12
    replace vA := vA.mono h12
    replace hA := hA.mono h12
    replace uB := uB.mono h12
    replace vB := vB.mono h12
    replace hB := hB.mono h12
    replace T := Add.trans T h12
    clear h12 ha0 ha1 ha2 hb0 hb1 hb2
    obtain ⟨tt, hP⟩ := laid_var w12 s2 aP nP cP eP mP kP
    replace hT := hT.mono tt
    replace hX := hX.mono tt
    replace hY := hY.mono tt
    replace hZ := hZ.mono tt
    replace qx := qx.mono tt
    replace qy := qy.mono tt
    replace qz := qz.mono tt
    replace uA := uA.mono tt
    replace vA := vA.mono tt
    replace hA := hA.mono tt
    replace uB := uB.mono tt
    replace vB := vB.mono tt
    replace hB := hB.mono tt
    replace uP := uP.mono tt
    replace vP := vP.mono tt
    replace T := Add.trans T tt
    clear tt
    have ha0 := hY.c0
    have ha1 := hY.c1
    have ha2 := hY.c2
    have hb0 := hZ.c0
    have hb1 := hZ.c1
    have hb2 := hZ.c2
    go_wp2_with fail
    refine ((quoN' _ qy qz hT Q2).mono fun _ _ g => resE g (Lib.hid rfl)).mono ?_
    rintro e w13 ⟨aQ, nQ, cQ, eQ, mQ, kQ, rfl, uQ, vQ, h13⟩
    replace hT := hT.mono h13
    replace hX := hX.mono h13
    replace hY := hY.mono h13
    replace hZ := hZ.mono h13
    replace qx := qx.mono h13
    replace qy := qy.mono h13
    replace qz := qz.mono h13
    replace uA := uA.mono h13
    replace vA := vA.mono h13
    replace hA := hA.mono h13
    replace uB := uB.mono h13
    replace vB := vB.mono h13
    replace hB := hB.mono h13
    replace uP := uP.mono h13
    replace vP := vP.mono h13
    replace hP := hP.mono h13
    replace T := Add.trans T h13
    clear h13 ha0 ha1 ha2 hb0 hb1 hb2
    obtain ⟨tt, hQ⟩ := laid_var w13 s2 aQ nQ cQ eQ mQ kQ
    replace hT := hT.mono tt
    replace hX := hX.mono tt
    replace hY := hY.mono tt
    replace hZ := hZ.mono tt
    replace qx := qx.mono tt
    replace qy := qy.mono tt
    replace qz := qz.mono tt
    replace uA := uA.mono tt
    replace vA := vA.mono tt
    replace hA := hA.mono tt
    replace uB := uB.mono tt
    replace vB := vB.mono tt
    replace hB := hB.mono tt
    replace uP := uP.mono tt
    replace vP := vP.mono tt
    replace hP := hP.mono tt
    replace uQ := uQ.mono tt
    replace vQ := vQ.mono tt
    replace T := Add.trans T tt
    clear tt
    have ha0 := hX.c0
    have ha1 := hX.c1
    have ha2 := hX.c2
    have hb0 := hZ.c0
    have hb1 := hZ.c1
    have hb2 := hZ.c2
    go_wp2_with fail
    refine ((cmpN' _ qx qz R6).mono fun _ _ g => cmpE g (Lib.hid rfl)).mono ?_
    rintro e w14 ⟨rfl, h14⟩
    replace hT := hT.mono h14
    replace hX := hX.mono h14
    replace hY := hY.mono h14
    replace hZ := hZ.mono h14
    replace qx := qx.mono h14
    replace qy := qy.mono h14
    replace qz := qz.mono h14
    replace uA := uA.mono h14
    replace vA := vA.mono h14
    replace hA := hA.mono h14
    replace uB := uB.mono h14
    replace vB := vB.mono h14
    replace hB := hB.mono h14
    replace uP := uP.mono h14
    replace vP := vP.mono h14
    replace hP := hP.mono h14
    replace uQ := uQ.mono h14
    replace vQ := vQ.mono h14
    replace hQ := hQ.mono h14
    replace T := Add.trans T h14
    clear h14 ha0 ha1 ha2 hb0 hb1 hb2
    have ha0 := hX.c0
    have ha1 := hX.c1
    have ha2 := hX.c2
    go_wp2_with fail
    refine ((reduceN' _ qx hT R3).mono fun _ _ g => resE g (Lib.hid rfl)).mono ?_
    rintro e w15 ⟨aS, nS, cS, eS, mS, kS, rfl, uS, vS, h15⟩
    replace hT := hT.mono h15
    replace hX := hX.mono h15
    replace hY := hY.mono h15
    replace hZ := hZ.mono h15
    replace qx := qx.mono h15
    replace qy := qy.mono h15
    replace qz := qz.mono h15
    replace uA := uA.mono h15
    replace vA := vA.mono h15
    replace hA := hA.mono h15
    replace uB := uB.mono h15
    replace vB := vB.mono h15
    replace hB := hB.mono h15
    replace uP := uP.mono h15
    replace vP := vP.mono h15
    replace hP := hP.mono h15
    replace uQ := uQ.mono h15
    replace vQ := vQ.mono h15
    replace hQ := hQ.mono h15
    replace T := Add.trans T h15
    clear h15 ha0 ha1 ha2
    obtain ⟨tt, hS⟩ := laid_var w15 s3 aS nS cS eS mS kS
    replace hT := hT.mono tt
    replace hX := hX.mono tt
    replace hY := hY.mono tt
    replace hZ := hZ.mono tt
    replace qx := qx.mono tt
    replace qy := qy.mono tt
    replace qz := qz.mono tt
    replace uA := uA.mono tt
    replace vA := vA.mono tt
    replace hA := hA.mono tt
    replace uB := uB.mono tt
    replace vB := vB.mono tt
    replace hB := hB.mono tt
    replace uP := uP.mono tt
    replace vP := vP.mono tt
    replace hP := hP.mono tt
    replace uQ := uQ.mono tt
    replace vQ := vQ.mono tt
    replace hQ := hQ.mono tt
    replace uS := uS.mono tt
    replace vS := vS.mono tt
    replace T := Add.trans T tt
    clear tt
    have ha0 := hZ.c0
    have ha1 := hZ.c1
    have ha2 := hZ.c2
    go_wp2_with fail
    refine ((reduceN' _ qz hT Q3).mono fun _ _ g => resE g (Lib.hid rfl)).mono ?_
    rintro e w16 ⟨aU, nU, cU, eU, mU, kU, rfl, uU, vU, h16⟩
    replace hT := hT.mono h16
    replace hX := hX.mono h16
    replace hY := hY.mono h16
    replace hZ := hZ.mono h16
    replace qx := qx.mono h16
    replace qy := qy.mono h16
    replace qz := qz.mono h16
    replace uA := uA.mono h16
    replace vA := vA.mono h16
    replace hA := hA.mono h16
    replace uB := uB.mono h16
    replace vB := vB.mono h16
    replace hB := hB.mono h16
    replace uP := uP.mono h16
    replace vP := vP.mono h16
    replace hP := hP.mono h16
    replace uQ := uQ.mono h16
    replace vQ := vQ.mono h16
    replace hQ := hQ.mono h16
    replace uS := uS.mono h16
    replace vS := vS.mono h16
    replace hS := hS.mono h16
    replace T := Add.trans T h16
    clear h16 ha0 ha1 ha2
    obtain ⟨tt, hU⟩ := laid_var w16 s3 aU nU cU eU mU kU
    replace hT := hT.mono tt
    replace hX := hX.mono tt
    replace hY := hY.mono tt
    replace hZ := hZ.mono tt
    replace qx := qx.mono tt
    replace qy := qy.mono tt
    replace qz := qz.mono tt
    replace uA := uA.mono tt
    replace vA := vA.mono tt
    replace hA := hA.mono tt
    replace uB := uB.mono tt
    replace vB := vB.mono tt
    replace hB := hB.mono tt
    replace uP := uP.mono tt
    replace vP := vP.mono tt
    replace hP := hP.mono tt
    replace uQ := uQ.mono tt
    replace vQ := vQ.mono tt
    replace hQ := hQ.mono tt
    replace uS := uS.mono tt
    replace vS := vS.mono tt
    replace hS := hS.mono tt
    replace uU := uU.mono tt
    replace vU := vU.mono tt
    replace T := Add.trans T tt
    clear tt
    clear R1 R2 R3 Q1 Q2 Q3 R6 hX hY hZ qx qy qz
    have ha0 := hA.c0
    have ha1 := hA.c1
    have ha2 := hA.c2
    have hb0 := hB.c0
    have hb1 := hB.c1
    have hb2 := hB.c2
    go_wp2_with fail
    refine (sameF true (fracT_mk (b := s1) uA vA) (fracT_mk (b := s1) uB vB) (Lib.hid (decide_eq_true rfl))).mono ?_
    rintro e w17 ⟨rfl, h17⟩
    replace hT := hT.mono h17
    replace uA := uA.mono h17
    replace vA := vA.mono h17
    replace hA := hA.mono h17
    replace uB := uB.mono h17
    replace vB := vB.mono h17
    replace hB := hB.mono h17
    replace uP := uP.mono h17
    replace vP := vP.mono h17
    replace hP := hP.mono h17
    replace uQ := uQ.mono h17
    replace vQ := vQ.mono h17
    replace hQ := hQ.mono h17
    replace uS := uS.mono h17
    replace vS := vS.mono h17
    replace hS := hS.mono h17
    replace uU := uU.mono h17
    replace vU := vU.mono h17
    replace hU := hU.mono h17
    replace T := Add.trans T h17
    clear h17 ha0 ha1 ha2 hb0 hb1 hb2
    clear hA uA vA hB uB vB
    have ha0 := hP.c0
    have ha1 := hP.c1
    have ha2 := hP.c2
    have hb0 := hQ.c0
    have hb1 := hQ.c1
    have hb2 := hQ.c2
    go_wp2_with fail
    refine (sameF true (fracT_mk (b := s2) uP vP) (fracT_mk (b := s2) uQ vQ) (Lib.hid (decide_eq_true rfl))).mono ?_
    rintro e w18 ⟨rfl, h18⟩
    replace hT := hT.mono h18
    replace uP := uP.mono h18
    replace vP := vP.mono h18
    replace hP := hP.mono h18
    replace uQ := uQ.mono h18
    replace vQ := vQ.mono h18
    replace hQ := hQ.mono h18
    replace uS := uS.mono h18
    replace vS := vS.mono h18
    replace hS := hS.mono h18
    replace uU := uU.mono h18
    replace vU := vU.mono h18
    replace hU := hU.mono h18
    replace T := Add.trans T h18
    clear h18 ha0 ha1 ha2 hb0 hb1 hb2
    clear hP uP vP hQ uQ vQ
    have ha0 := hS.c0
    have ha1 := hS.c1
    have ha2 := hS.c2
    have hb0 := hU.c0
    have hb1 := hU.c1
    have hb2 := hU.c2
    go_wp2_with fail
    refine (sameF true (fracT_mk (b := s3) uS vS) (fracT_mk (b := s3) uU vU) (Lib.hid (decide_eq_true rfl))).mono ?_
    rintro e w19 ⟨rfl, h19⟩
    replace hT := hT.mono h19
    replace uS := uS.mono h19
    replace vS := vS.mono h19
    replace hS := hS.mono h19
    replace uU := uU.mono h19
    replace vU := vU.mono h19
    replace hU := hU.mono h19
    replace T := Add.trans T h19
    clear h19 ha0 ha1 ha2 hb0 hb1 hb2
    clear hS uS vS hU uU vU
    go_wp2_with fail
    refine (awake2_any _ hT).mono ?_
    rintro e w20 ⟨rfl, h20⟩
    replace hT := hT.mono h20
    replace T := Add.trans T h20
    clear h20 
    go_wp2_with fail
    go_ret
    exact ⟨rfl, T⟩

theorem red_any {v v' : Value} {b b' : Bool} {xs ys xs' ys' : List Nat} {c : Nat} (w : World) (hx : FracI w v b xs ys) (hy : FracI w v' b' xs' ys') (hT : Tab w) (hc : c < 4294967296) : Calls Tryd.prog 3 #[v, v', .int .u32 (c : Nat)] w (LawP w) := by
  rcases hl : (longB xs ys || longB xs' ys') with _ | _
  · by_cases hv : okF (b, val xs, val ys) = true ∧ okF (b', val xs', val ys') = true
    · by_cases h0 : c = 0
      · exact red_zero w hx hy hT hl hv h0
      · exact red_ok w hx hy hT hc hl hv h0
    · exact red_bad w hx hy hT hl hv
  · exact red_long w hx hy hT hl
end Go.Proofs.YtifpfoeecnkhoaaDoor.RedL
