/- The law MincostScales. -/
import Derived.Test.YtaoibakbnimnkaaM13
import Derived.Deep.RegionLaw
import Derived.Deep.RegionHeld3
namespace Go.Proofs.Ytaoibakbnimnkaa
open Go.RowKit NetM

/-- Three variables of type api.Network, and what is not changed below. -/
def ThreeN (wc w' : World) (g1 ga gb : Nat) (N s t : Nat) (a : Option Addr) (l c : Nat) : Prop := NBox w' g1 N s t a l c ∧ NBox w' ga N s t a l c ∧ NBox w' gb N s t a l c ∧ Add wc w'
theorem ThreeN.add {wc w w' : World} {g1 ga gb : Nat} {N s t : Nat} {a : Option Addr} {l c : Nat} (h : ThreeN wc w g1 ga gb N s t a l c) (hb : Add w w') : ThreeN wc w' g1 ga gb N s t a l c :=
  ⟨h.1.add hb, h.2.1.add hb, h.2.2.1.add hb, Add.trans h.2.2.2 hb⟩
/-- An append whose run is known, at a step of a region that draws its order. -/
theorem step_append_run {P : Program} {w : World} {ops : Array Oper} {o : Oper} {a : Act} {K : Act → World → Prop} {Q : Exit → Act → World → Prop} {E : Prop} (hgd : o.guard = none) (s x : Operand) (t : TypeId)
    (ho : o.op = .call { callee := .builtin .append, args := #[s, x], argTypes := #[t, t] }) (vs vx : Value) (hs : a.eval s = vs) (hx : a.eval x = vx) (v' : Value) (w' : World)
    (hr : (Builtin.append_ #[t, t] o.type #[vs, vx]).run P w = .ok v' w') (h : K (a.put o.dst v') w') : if Region.wanted o (yielded ops a.tmps) = true then Oper.wp P o a w K Q else E := by
  have hw : Region.wanted o (yielded ops a.tmps) = true := by simp [Region.wanted, hgd]
  rw [if_pos hw]
  unfold Oper.wp execOp
  simp only [ho, resolve, invoke, builtin, Sem.run_bind, Sem.run_pure, Result.andThen_ok, List.map_toArray, List.map_cons, List.map_nil, hs, hx, hr]
  exact h
/-- append([]Arc{}, arcs...) in a region that draws its order. -/
theorem step_arcs {ops : Array Oper} {o : Oper} {f : Act} {wc wz : World} {K : Act → World → Prop} {Q : Exit → Act → World → Prop} {E : Prop} (hgd : o.guard = none) (x y : Operand)
    (ho : o.op = .call { callee := .builtin .append, args := #[x, y], argTypes := #[22, 22] }) (hty : o.type = 22) (gE : Nat) (g1 ga gb : Nat) (N s t : Nat) (a : Option Addr) (l c : Nat) (A : List Arc)
    (hx : f.eval x = .slice (some ⟨gE, 0, none⟩) 0 0) (hy : f.eval y = .slice a l c) (hE : wz.heap[gE]? = some (.cells #[] 35 (0, 0))) (hA : ArcsA wc (.slice a l c) A) (hl : A.length = l) (hl2 : 2 ≤ l) (hl15 : l ≤ 15)
    (hT : ThreeN wc wz g1 ga gb N s t a l c) (hg : wc.heap.size ≤ gE) (hg1 : g1 < wc.heap.size) (hga : ga < wc.heap.size) (hgb : gb < wc.heap.size)
    (h : ∀ ra ca w', w'.ownsRow wc.heap.size 35 4 (.slice (some ⟨ra, 0, none⟩) l ca) l (cellsA A) → ThreeN wc w' g1 ga gb N s t a l c → wz.grownBy w' (some gE) → (ra = gE ∨ ra = wz.heap.size) → K (f.put o.dst (.slice (some ⟨ra, 0, none⟩) l ca)) w') :
    if Region.wanted o (yielded ops f.tmps) = true then Oper.wp Try.prog o f wz K Q else E := by
  have hlt := (Array.getElem?_eq_some_iff.1 hE).1
  have hEo := own_empty (base := wc.heap.size) hE hg
  have hne : a ≠ none := by
    rintro rfl
    obtain ⟨b, off, e, -⟩ := hA.cell (k := 0) (by omega)
    cases e
  have hs : ArcsA wz (.slice a A.length c) A := by rw [hl]; exact hA.add hT.2.2.2
  obtain ⟨a', c', w7, r1, r2, r3, r4⟩ := arcs_append _ hEo hs hne (by simp; omega) hT.2.2.2.size
  rw [List.nil_append] at r1 r2 r4
  obtain ⟨g6, cap, e, -, -⟩ := r2.form (by omega)
  rw [e] at r1 r2 r4
  rw [hl] at r1 r2 r4
  have hk := fun (k : Nat) (hk : k < wc.heap.size) => show some k ≠ some gE from fun e => by have := Option.some.inj e; omega
  refine step_append_run hgd x y 22 ho _ _ hx hy _ _ (by rw [hty]; exact r1) (h g6 cap w7 r2 ⟨hT.1.kept r3 (hk _ hg1), hT.2.1.kept r3 (hk _ hga), hT.2.2.1.kept r3 (hk _ hgb), ?_⟩ r3 ?_)
  · exact Below.grown hT.2.2.2 r3 hT.2.2.2.size (fun k e => by have := Option.some.inj (show some gE = some k from e); omega)
  · rcases r4 with r4 | r4
    · exact .inl (Option.some.inj (show some g6 = some gE from r4))
    · exact .inr (Option.some.inj (show some g6 = some wz.heap.size from r4))
theorem heap_new1 (w : World) (o p : Obj) : ((w.alloc o).alloc p).heap[w.heap.size]? = some o := (heap_alloc_old (w.alloc o) p (by simp)).trans (heap_alloc_new w o)
theorem heap_new2 (w : World) (o p : Obj) : ((w.alloc o).alloc p).heap[w.heap.size + 1]? = some p := by
  have := heap_alloc_new (w.alloc o) p
  simpa using this
/-- The two changed networks: twice in block ga, dear in block gb, each with a row of its own. -/
def TwoS (w wr : World) (base g1 ga gb : Nat) (N s t : Nat) (a : Option Addr) (l c : Nat) (X Y : List Arc) (ra ca rb cb : Nat) : Prop :=
  NBox wr ga N s t (some ⟨ra, 0, none⟩) l ca ∧ NBox wr gb N s t (some ⟨rb, 0, none⟩) l cb ∧ NBox wr g1 N s t a l c ∧
  wr.ownsRow base 35 4 (.slice (some ⟨ra, 0, none⟩) l ca) l (cellsA X) ∧ wr.ownsRow base 35 4 (.slice (some ⟨rb, 0, none⟩) l cb) l (cellsA Y) ∧ ra ≠ rb ∧ Add w wr

theorem row_other {w : World} {base g l c r : Nat} {X : List Arc} (h : w.ownsRow base 35 4 (.slice (some ⟨r, 0, none⟩) l c) l (cellsA X)) (hne : r ≠ g) (i : Nat) (u : Value) : (w.setCell ⟨g, i, none⟩ u).ownsRow base 35 4 (.slice (some ⟨r, 0, none⟩) l c) l (cellsA X) :=
  h.kept (row := some g) ⟨rfl, rfl, rfl, by simp, fun k _ hk => heap_setCell_other w ⟨g, i, none⟩ k u (fun e => hk (by simp [e]))⟩ (.inr fun e => hne (Option.some.inj (show some r = some g from e)))
theorem nbox_other {w : World} {g k : Nat} {N s t : Int} {a : Option Addr} {m c : Nat} (h : NBox w k N s t a m c) (hne : k ≠ g) (i : Nat) (u : Value) : NBox (w.setCell ⟨g, i, none⟩ u) k N s t a m c := (heap_setCell_other w ⟨g, i, none⟩ k u hne).trans h
theorem two_make {w2 wm x2 : World} {g1 ga gb : Nat} {N s t : Nat} {a : Option Addr} {l c ra ca rb cb : Nat} {A : List Arc} (n : ThreeN wm x2 g1 ga gb N s t a l c)
    (o1 : x2.ownsRow wm.heap.size 35 4 (.slice (some ⟨ra, 0, none⟩) l ca) l (cellsA A)) (o2 : x2.ownsRow wm.heap.size 35 4 (.slice (some ⟨rb, 0, none⟩) l cb) l (cellsA A)) (hne : ra ≠ rb) (hab : ga ≠ gb) (h1a : g1 ≠ ga) (h1b : g1 ≠ gb)
    (qa : ga < wm.heap.size) (qb : gb < wm.heap.size) (hA : Add w2 wm) (ha : w2.heap.size ≤ ga) (hb : w2.heap.size ≤ gb) :
    ∀ W, W = (x2.setCell ⟨ga, 3, none⟩ (.slice (some ⟨ra, 0, none⟩) l ca)).setCell ⟨gb, 3, none⟩ (.slice (some ⟨rb, 0, none⟩) l cb) → TwoS w2 W wm.heap.size g1 ga gb N s t a l c A A ra ca rb cb := by
  rintro W rfl
  have r1 := (own_block' o1 ra rfl).1
  have r2 := (own_block' o2 rb rfl).1
  obtain ⟨n1, n2, n3, n4⟩ := n
  refine ⟨nbox_other (n2.set3 _ _ _) hab 3 _, (nbox_other n3 (Ne.symm hab) 3 _).set3 _ _ _, nbox_other (nbox_other n1 h1a 3 _) h1b 3 _, row_other (row_other o1 (by omega) 3 _) (by omega) 3 _, row_other (row_other o2 (by omega) 3 _) (by omega) 3 _, hne, ?_⟩
  exact add_setLow (add_setLow (Add.trans hA n4) ha _ _) hb _ _

/-- Of the first j arcs none leads to s, unless b. -/
def BackN (A : List Arc) (s : Int) (j : Nat) (b : Bool) : Prop := b = false → ∀ i, i < j → (at' A i).2.1 ≠ s
/-- The first j arcs changed by g. -/
def mapTo (g : Arc → Arc) : List Arc → Nat → List Arc
  | a :: A, j + 1 => g a :: mapTo g A j
  | A, _ => A
theorem mapTo_zero (g : Arc → Arc) (A : List Arc) : mapTo g A 0 = A := by cases A <;> rfl
theorem mapTo_len (g : Arc → Arc) : ∀ (A : List Arc) (j : Nat), (mapTo g A j).length = A.length
  | [], j => by cases j <;> rfl
  | a :: A, 0 => rfl
  | a :: A, j + 1 => by show (mapTo g A j).length + 1 = _; rw [mapTo_len g A j]; rfl
theorem mapTo_all (g : Arc → Arc) : ∀ A : List Arc, mapTo g A A.length = A.map g
  | [] => rfl
  | a :: A => by show g a :: mapTo g A A.length = _; rw [mapTo_all g A]; rfl
theorem mapTo_at (g : Arc → Arc) : ∀ (A : List Arc) (j : Nat), j < A.length → at' (mapTo g A j) j = at' A j
  | [], j, h => by simp at h
  | a :: A, 0, _ => rfl
  | a :: A, j + 1, h => by
    have ih := mapTo_at g A j (by simpa using h)
    show at' (g a :: mapTo g A j) (j + 1) = at' (a :: A) (j + 1)
    simpa [at'] using ih
theorem mapTo_set (g : Arc → Arc) : ∀ (A : List Arc) (j : Nat), j < A.length → (mapTo g A j).set j (g (at' A j)) = mapTo g A (j + 1)
  | [], j, h => by simp at h
  | a :: A, 0, _ => by
    show (a :: A).set 0 _ = _ :: mapTo g A 0
    rw [mapTo_zero]; rfl
  | a :: A, j + 1, h => by
    have ih := mapTo_set g A j (by simpa using h)
    show (g a :: mapTo g A j).set (j + 1) _ = g a :: mapTo g A (j + 1)
    rw [List.set_cons_succ, ← ih]
    simp [at']
theorem mapTo_same (g : Arc → Arc) : ∀ (A : List Arc) (j : Nat), j < A.length → g (at' A j) = at' A j → mapTo g A (j + 1) = mapTo g A j
  | [], j, h, _ => by simp at h
  | a :: A, 0, _, e => by
    show g a :: mapTo g A 0 = a :: A
    have e2 : g a = a := e
    rw [mapTo_zero, e2]
  | a :: A, j + 1, h, e => by
    have ih := mapTo_same g A j (by simpa using h) (by simpa [at'] using e)
    show g a :: mapTo g A (j + 1) = g a :: mapTo g A j
    rw [ih]
theorem cap_like {g : Arc → Arc} (hg : likeA g) (c : Int → Bool) : ∀ l : List Arc, capF c (l.map g) = capF c l
  | [] => rfl
  | a :: l => by
    obtain ⟨h1, h2, h3⟩ := hg a
    rw [List.map_cons]; dsimp only [capF]; rw [h1, h2, h3, cap_like hg c l]
theorem opt_like {g : Arc → Arc} (hg : likeA g) {n s t : Nat} {l : List Arc} {v : Int} (h : Opt n s t (l.map g) v) : Opt n s t l v := by
  obtain ⟨f, S, h1, h2, h3, h4, h5, h6⟩ := h
  rw [net_like hg] at h5
  rw [cap_like hg] at h6
  exact ⟨f, S, (flow_like hg).1 h1, h2, h3, h4, h5, h6⟩
theorem TwoS.putA {w wr : World} {base g1 ga gb N s t l c ra ca rb cb j : Nat} {a : Option Addr} {X Y : List Arc} (h : TwoS w wr base g1 ga gb N s t a l c X Y ra ca rb cb) (hj : j < X.length) (q1 : g1 < base) (qa : ga < base) (qb : gb < base) (hw : w.heap.size ≤ base) (z : Int) :
    TwoS w (wr.setCell ⟨ra, j * 4 + 3, none⟩ (.int .i64 z)) base g1 ga gb N s t a l c (X.set j ((at' X j).1, (at' X j).2.1, (at' X j).2.2.1, z)) Y ra ca rb cb := by
  obtain ⟨h1, h2, h3, o1, o2, hne, hA⟩ := h
  have r1 := (own_block' o1 ra rfl).1
  have hst := (o1.stored (g := ra) (j * 4 + 3) (iv z)).1
  rw [cellsA_set3 X j z hj] at hst
  exact ⟨nbox_other h1 (by omega) _ _, nbox_other h2 (by omega) _ _, nbox_other h3 (by omega) _ _, hst, row_other o2 (Ne.symm hne) _ _, hne, add_setLow hA (by omega) _ _⟩
theorem TwoS.putB {w wr : World} {base g1 ga gb N s t l c ra ca rb cb j : Nat} {a : Option Addr} {X Y : List Arc} (h : TwoS w wr base g1 ga gb N s t a l c X Y ra ca rb cb) (hj : j < Y.length) (q1 : g1 < base) (qa : ga < base) (qb : gb < base) (hw : w.heap.size ≤ base) (z : Int) :
    TwoS w (wr.setCell ⟨rb, j * 4 + 3, none⟩ (.int .i64 z)) base g1 ga gb N s t a l c X (Y.set j ((at' Y j).1, (at' Y j).2.1, (at' Y j).2.2.1, z)) ra ca rb cb := by
  obtain ⟨h1, h2, h3, o1, o2, hne, hA⟩ := h
  have r1 := (own_block' o2 rb rfl).1
  have hst := (o2.stored (g := rb) (j * 4 + 3) (iv z)).1
  rw [cellsA_set3 Y j z hj] at hst
  exact ⟨nbox_other h1 (by omega) _ _, nbox_other h2 (by omega) _ _, nbox_other h3 (by omega) _ _, row_other o1 hne _ _, hst, hne, add_setLow hA (by omega) _ _⟩
theorem TwoS.add {w wr w' : World} {base g1 ga gb N s t l c ra ca rb cb : Nat} {a : Option Addr} {X Y : List Arc} (h : TwoS w wr base g1 ga gb N s t a l c X Y ra ca rb cb) (hb : Add wr w') : TwoS w w' base g1 ga gb N s t a l c X Y ra ca rb cb :=
  ⟨h.1.add hb, h.2.1.add hb, h.2.2.1.add hb, h.2.2.2.1.kept (grown_of_add hb (o := none)) (.inr (by simp [Value.ownBlock])), h.2.2.2.2.1.kept (grown_of_add hb (o := none)) (.inr (by simp [Value.ownBlock])), h.2.2.2.2.2.1, Add.trans h.2.2.2.2.2.2 hb⟩
theorem row_cell3 {wr : World} {base r l c j : Nat} {X : List Arc} (h : wr.ownsRow base 35 4 (.slice (some ⟨r, 0, none⟩) l c) l (cellsA X)) (hj : j < X.length) : wr.cell? ⟨r, j * 4 + 3, none⟩ = some (.int .i64 (at' X j).2.2.2) ∧ wr.frozen? ⟨r, j * 4 + 3, none⟩ = false := by
  have h1 := h.cells (g := r) rfl _ _ (cellsA_get X j hj).2.2.2
  have e : (⟨r, 0, none⟩ : Addr).add (j * 4 + 3) = ⟨r, j * 4 + 3, none⟩ := by unfold Addr.add; split <;> simp_all
  rw [e] at h1
  exact ⟨h1, h.frozenAt (g := r) _⟩

set_option maxRecDepth 100000 in
set_option maxHeartbeats 4000000 in
theorem scales_any {w : World} {v : Value} {bs : List Nat} (h : RdU w v bs) (hb : ∀ x ∈ bs, x < 256) (m1 m2 : Nat) (hm1 : m1 < 256) (hm2 : m2 < 256) : Calls Try.prog 7 #[v, .int .u8 (m1 : Nat), .int .u8 (m2 : Nat)] w (LawB w) := by
  have CT := Lib.hid (new_any h hb)
  have CN : Hid (∀ W g, Tp W g → Calls Try.prog 21 #[.pointer (some ⟨g, 0, none⟩)] W (NetworkP W g)) := Lib.hid fun W g h => network_any h
  have CA : Hid (∀ W, Calls Try.prog 10 #[] W (LawB W)) := Lib.hid awakeC_any
  clear h hb
  go_enter Try.func7, Try.ntmps7
  go_wp2_with fail
  refine CT.out.mono ?_
  rintro e w1 ⟨g, rfl, ht, h1, hg⟩
  have HT := Lib.hid ht
  have H1 := Lib.hid h1
  have HG := Lib.hid hg
  clear ht h1 hg
  go_wp2_with fail
  refine (CN.out _ _ HT.out).mono ?_
  intro e w2 hnet
  obtain ⟨vn, N, s, t, A, rfl, hA, hsm, h2⟩ := made_of H1.out HG.out hnet
  obtain ⟨va, rfl, ha⟩ := id hA
  obtain ⟨a, l, c, rfl, hl, hlc, hcm, -⟩ := id ha
  unfold maxLen at hcm
  have HSM := Lib.hid hsm
  have HCN := Lib.hid hsm.cnet
  have HL := Lib.hid hl
  have HNA := Lib.hid hA
  have HAR := Lib.hid ha
  have H2 := Lib.hid h2
  have hl15 : 2 ≤ l ∧ l ≤ 15 := by have := hsm.2.2; omega
  obtain ⟨hl2, hl15⟩ := hl15
  obtain ⟨g1, hg1⟩ : ∃ g1, g1 = w2.heap.size := ⟨_, rfl⟩
  obtain ⟨W3, hW3⟩ : ∃ W3, W3 = w2.alloc (.cells #[.int .i64 (N : Nat), .int .i64 (s : Nat), .int .i64 (t : Nat), .slice a l c] 24) := ⟨_, rfl⟩
  have hb3 : NBox W3 g1 N s t a l c := by rw [hW3, hg1]; exact nbox_new w2 N s t _ l c
  have hT3 : Add w2 W3 := by rw [hW3]; exact add_new _ _
  have hg1w : w2.heap.size ≤ g1 := by omega
  have HB3 := Lib.hid hb3
  have HT3 := Lib.hid hT3
  have e1 : (m1 : Int).tmod 9 = ((m1 % 9 : Nat) : Int) := by rw [Int.tmod_eq_emod_of_nonneg (by omega)]; simp
  have e2 : (m2 : Int).tmod 9 = ((m2 % 9 : Nat) : Int) := by rw [Int.tmod_eq_emod_of_nonneg (by omega)]; simp
  obtain ⟨K, hK⟩ : ∃ K : Nat, K = m1 % 9 + 1 := ⟨_, rfl⟩
  obtain ⟨B, hB⟩ : ∃ B : Nat, B = m2 % 9 := ⟨_, rfl⟩
  have hK9 : K ≤ 9 := by omega
  have hB8 : B ≤ 8 := by omega
  have c0 := hb3.c0
  have c1 := hb3.c1
  have c2 := hb3.c2
  have c3 := hb3.c3
  have l3 := hb3.lt
  clear hA ha hsm hnet h2 HT H1 HG CT CN hl hb3 hT3
  go_upto_region 2 with fail
  rw [← hW3, ← hg1]
  clear hW3 hg1
  go_upto_region 3 with fail
  go_cut [10, 11] from 31 (fun p q wx => ∃ ga gb, p = .pointer (some ⟨ga, 0, none⟩) ∧ q = .pointer (some ⟨gb, 0, none⟩) ∧ ThreeN W3 wx g1 ga gb N s t a l c ∧ ga ≠ gb ∧ g1 ≠ ga ∧ g1 ≠ gb ∧ W3.heap.size ≤ ga ∧ W3.heap.size ≤ gb)
  case first =>
    have HF : Hid (∀ W, W = World.drew ((W3.alloc (.cells #[.int .i64 (N : Nat), .int .i64 (s : Nat), .int .i64 (t : Nat), .slice a l c] 24)).alloc (.cells #[.int .i64 (N : Nat), .int .i64 (s : Nat), .int .i64 (t : Nat), .slice a l c] 24)) →
        ThreeN W3 W g1 W3.heap.size (W3.heap.size + 1) N s t a l c ∧ ThreeN W3 W g1 (W3.heap.size + 1) W3.heap.size N s t a l c ∧ g1 ≠ W3.heap.size ∧ g1 ≠ W3.heap.size + 1) := Lib.hid (by
      rintro W rfl
      have k1 : NBox (World.drew ((W3.alloc (.cells #[.int .i64 (N : Nat), .int .i64 (s : Nat), .int .i64 (t : Nat), .slice a l c] 24)).alloc (.cells #[.int .i64 (N : Nat), .int .i64 (s : Nat), .int .i64 (t : Nat), .slice a l c] 24))) W3.heap.size N s t a l c := heap_new1 W3 _ _
      have k2 : NBox (World.drew ((W3.alloc (.cells #[.int .i64 (N : Nat), .int .i64 (s : Nat), .int .i64 (t : Nat), .slice a l c] 24)).alloc (.cells #[.int .i64 (N : Nat), .int .i64 (s : Nat), .int .i64 (t : Nat), .slice a l c] 24))) (W3.heap.size + 1) N s t a l c := heap_new2 W3 _ _
      have kA := b_drew (Add.trans (add_new W3 (.cells #[.int .i64 (N : Nat), .int .i64 (s : Nat), .int .i64 (t : Nat), .slice a l c] 24)) (add_new _ (.cells #[.int .i64 (N : Nat), .int .i64 (s : Nat), .int .i64 (t : Nat), .slice a l c] 24)))
      have k0 := HB3.out.add kA
      exact ⟨⟨k0, k1, k2, kA⟩, ⟨k0, k2, k1, kA⟩, by omega, by omega⟩)
    go_region
    all_goals go_wp2_with fail
    all_goals go_meet
    all_goals first | exact ⟨_, _, rfl, rfl, (HF.out _ rfl).1, by omega, (HF.out _ rfl).2.2.1, (HF.out _ rfl).2.2.2, by omega, by omega⟩ | exact ⟨_, _, rfl, rfl, (HF.out _ rfl).2.1, by omega, (HF.out _ rfl).2.2.2, (HF.out _ rfl).2.2.1, by omega, by omega⟩
  case rest =>
    obtain ⟨ga, gb, rfl, rfl, h3n, hab, h1a, h1b, hwa, hwb⟩ := hcut
    obtain ⟨wm, rfl⟩ : ∃ wm : World, wm = wc := ⟨_, rfl⟩
    have hs3 := HT3.out.size
    have hda : w2.heap.size ≤ ga := by omega
    have hdb : w2.heap.size ≤ gb := by omega
    have H3M : Hid (ThreeN wm wm.drew g1 ga gb N s t a l c) := Lib.hid ⟨h3n.1.add (b_drew (Below.refl _ _)), h3n.2.1.add (b_drew (Below.refl _ _)), h3n.2.2.1.add (b_drew (Below.refl _ _)), b_drew (Below.refl _ _)⟩
    have HAC := Lib.hid (HAR.out.add (Add.trans HT3.out h3n.2.2.2))
    have HA2 := Lib.hid (Add.trans HT3.out h3n.2.2.2)
    have q1 := h3n.1.lt
    have qa := h3n.2.1.lt
    have qb := h3n.2.2.1.lt
    have d3 := h3n.1.c3
    clear c0 c1 c2 c3 l3 h3n
    go_upto_region 4 with fail
    go_cut [] from 31 (fun wx => ∃ ra ca rb cb, TwoS w2 wx wm.heap.size g1 ga gb N s t a l c A A ra ca rb cb)
    case first =>
      go_region_held3 (fun w' => w'.cell? ⟨g1, 3, none⟩ = some (.slice a l c))
        (first | exact n2.1.c3 | exact (nbox_other n2.1 h1a 3 _).c3 | exact (nbox_other (nbox_other n2.1 h1a 3 _) h1b 3 _).c3 | exact n1.1.c3 | exact (n1.add (add_new _ _)).1.c3 | go_keep)
        (first
          | (refine step_arcs rfl (.tmp 33) (.tmp 35) rfl rfl _ g1 ga gb N s t a l c A rfl rfl (by first | exact heap_alloc_new _ _ | exact heap_new1 _ _ _ | exact heap_new2 _ _ _) HAC.out HL.out hl2 hl15 (by first | exact H3M.out.add (add_new _ _) | exact H3M.out.add (Add.trans (add_new _ _) (add_new _ _))) (by first | exact Nat.le_refl _ | exact Nat.le_succ _) q1 qa qb ?_; intro ra ca x1 o1 n1 gr1 e1; have z1 := n1.2.2.2.size; have y1 := (own_block' o1 ra rfl).2; have fa1 := frozen_of_row x1 ga 3 _ 24 n1.2.1)
          | (refine step_arcs rfl (.tmp 37) (.tmp 39) rfl rfl _ g1 ga gb N s t a l c A rfl rfl (by first | exact heap_alloc_new _ _ | exact (gr1.block _ (by simp <;> omega) (by simp <;> omega)).trans (heap_new2 _ _ _) | exact (gr1.block _ (by simp <;> omega) (by simp <;> omega)).trans (heap_new1 _ _ _)) HAC.out HL.out hl2 hl15 (by first | exact n1 | exact n1.add (add_new _ _)) (by first | exact z1 | exact Nat.le_refl _ | exact Nat.le_succ _) q1 qa qb ?_; intro rb cb x2 o2 n2 gr2 e2; have k2a := n2.2.1.c3; have k2b := n2.2.2.1.c3; have f2a := frozen_of_row x2 ga 3 _ 24 n2.2.1; have f2b := frozen_of_row x2 gb 3 _ 24 n2.2.2.1))
      all_goals
        have o1b : x2.ownsRow wm.heap.size 35 4 (.slice (some ⟨ra, 0, none⟩) l ca) l (cellsA A) := by
          first
            | exact o1.kept gr2 (.inr fun e => by have := Option.some.inj (show some ra = some _ from e); (try simp at e1 e2); omega)
            | exact (World.ownsRow.alloc o1 _).kept gr2 (.inr fun e => by have := Option.some.inj (show some ra = some _ from e); (try simp at e1 e2); omega)
        have hne : ra ≠ rb := by (try simp at e1 e2); omega
        have HTW := Lib.hid (two_make n2 o1b o2 hne hab h1a h1b qa qb HA2.out hda hdb)
        clear o1 o1b o2 n1 n2 gr1 gr2 e1 e2 fa1 f2a f2b k2a k2b z1 y1 hne
        go_wp2_with fail
        go_meet
        exact ⟨ra, ca, rb, cb, HTW.out _ rfl⟩
    case rest =>
      obtain ⟨ra, ca, rb, cb, hS⟩ := hcut
      have eK : 1 + (m1 : Int) % 9 = (K : Int) := by rw [hK]; omega
      have eB : (m2 : Int) % 9 = (B : Int) := by rw [hB]; omega
      rw [eK, eB]
      have HS := Lib.hid hS
      have hwz : w2.heap.size ≤ wm.heap.size := HA2.out.size
      have hK0 : 0 < K := by omega
      clear e1 e2 eK eB hK hB hS H3M HAC HA2 d3 hda hdb hs3 hwa hwb HB3 HT3
      obtain ⟨base, hbase⟩ : ∃ b, b = wm.heap.size := ⟨_, rfl⟩
      rw [← hbase] at HS q1 qa qb hwz
      clear hbase
      go_wp2_with fail
      go_loopg [12, 13] l (fun gk bv iv wr => ∃ (b : Bool) (j : Nat), j + gk = l ∧ bv = .bool b ∧ iv = .int .i64 j ∧ Hid (TwoS w2 wr base g1 ga gb N s t a l c (mapTo (scaleA K) A j) (mapTo (dearA s B) A j) ra ca rb cb) ∧ Hid (BackN A (s : Int) j b))
      case atStart => exact ⟨false, 0, by omega, rfl, rfl, Lib.hid (by rw [mapTo_zero, mapTo_zero]; exact HS.out), Lib.hid fun _ i hi => absurd hi (Nat.not_lt_zero _)⟩
      case round =>
        clear HS
        obtain ⟨b, j, hj, rfl, rfl, hS, hback⟩ := hrel
        have na3 := hS.out.1.c3
        have n11 := hS.out.2.2.1.c1
        have n13 := hS.out.2.2.1.c3
        have lr := hS.out.2.2.1.lt
        by_cases hlt : j < l
        · have hjA : j < A.length := by rw [HL.out]; exact hlt
          obtain ⟨ab, aoff, rfl, g0, g1', g2', g3⟩ := (HAR.out.add hS.out.2.2.2.2.2.2).cell hlt
          obtain ⟨x, y, z, u, hx, hxN, hyN, hz0, hz1⟩ := HCN.out.1.at (k := j) hjA
          have hu := HSM.out.2.2.2.2 _ (at_mem (A := A) (k := j) hjA)
          obtain ⟨k1, k2⟩ := row_cell3 (j := j) hS.out.2.2.2.1 (by rw [mapTo_len]; exact hjA)
          rw [mapTo_at _ A j hjA] at k1
          rw [hx] at g0 g1' g2' g3 k1 hu
          dsimp only at g0 g1' g2' g3 k1 hu
          obtain ⟨-, hu0, hu4⟩ := hu
          have m0 : 0 ≤ (K : Int) * u := Int.mul_nonneg (by omega) hu0
          have m9 : (K : Int) * u ≤ 9 * 4 := Int.mul_le_mul (by omega) hu4 hu0 (by omega)
          obtain ⟨ku, hku⟩ : ∃ ku, (K : Int) * u = ku := ⟨_, rfl⟩
          have W1 : IntKind.i64.wrap ((K : Int) * u) = ku := by rw [hku]; exact IntWalk.i64_in _ (by omega)
          have W2 : IntKind.i64.wrap (u + (B : Int)) = u + (B : Int) := IntWalk.i64_in _ (by omega)
          have HP : Hid (∀ W', Add wr W' → TwoS w2 (W'.setCell ⟨ra, j * 4 + 3, none⟩ (.int .i64 ku)) base g1 ga gb N s t (some ⟨ab, aoff, none⟩) l c (mapTo (scaleA K) A (j + 1)) (mapTo (dearA s B) A j) ra ca rb cb) := Lib.hid fun W' hW' => by
            have := (hS.out.add hW').putA (j := j) (by rw [mapTo_len]; exact hjA) q1 qa qb hwz ku
            rw [mapTo_at _ A j hjA, ← hku] at this
            have e : ((at' A j).1, (at' A j).2.1, (at' A j).2.2.1, (K : Int) * u) = scaleA K (at' A j) := by rw [hx]; rfl
            rw [← hku, ← mapTo_set _ A j hjA, ← e]; exact this
          have HX := Lib.hid hx
          clear hS hx hku m0 m9
          go_upto_region 9 with fail
          go_region
          go_upto_region 10 with fail
          obtain ⟨W5, hW5⟩ : ∃ W5, W5 = World.drew (wr.setCell ⟨ra, j * 4 + 3, none⟩ (.int .i64 ku)) := ⟨_, rfl⟩
          have hS5 : TwoS w2 W5 base g1 ga gb N s t (some ⟨ab, aoff, none⟩) l c (mapTo (scaleA K) A (j + 1)) (mapTo (dearA s B) A j) ra ca rb cb := by rw [hW5]; exact (HP.out _ (add_refl _)).add (b_drew (Below.refl _ _))
          rw [← hW5]
          clear hW5 HP na3 n11 n13 lr g0 g1' g2' g3 k1 k2 W1
          have n11 := hS5.2.2.1.c1
          have n13 := hS5.2.2.1.c3
          have nb3 := hS5.2.1.c3
          have lr := hS5.2.2.1.lt
          have hgab : ab < w2.heap.size ∧ ∀ k : Nat, k < l → ∃ b' off', (some ⟨ab, aoff, none⟩ : Option Addr) = some ⟨b', off', none⟩ ∧ b' < w2.heap.size := by
            obtain ⟨b', off', e', r0, -⟩ := HAR.out.cell hlt
            have hb' := World.block_lt_of_cell? _ _ r0
            simp only [Option.some.injEq, Addr.mk.injEq, and_true] at e'
            obtain ⟨rfl, rfl⟩ := e'
            exact ⟨hb', fun k hk => ⟨_, _, rfl, hb'⟩⟩
          obtain ⟨ab', aoff', e', g0, g1', g2', g3⟩ := (HAR.out.add hS5.2.2.2.2.2.2).cell hlt
          simp only [Option.some.injEq, Addr.mk.injEq, and_true] at e'
          obtain ⟨rfl, rfl⟩ := e'
          rw [HX.out] at g0 g1' g2' g3
          dsimp only at g0 g1' g2' g3
          have hblt := hgab.1
          obtain ⟨k1, k2⟩ := row_cell3 (j := j) hS5.2.2.2.2.1 (by rw [mapTo_len]; exact hjA)
          rw [mapTo_at _ A j hjA, HX.out] at k1
          dsimp only at k1
          have rbb := (own_block' hS5.2.2.2.2.1 rb rfl).1
          have HPB : Hid (∀ W', Add W5 W' → TwoS w2 (W'.setCell ⟨rb, j * 4 + 3, none⟩ (.int .i64 (u + (B : Int)))) base g1 ga gb N s t (some ⟨ab, aoff, none⟩) l c (mapTo (scaleA K) A (j + 1)) ((mapTo (dearA s B) A j).set j ((x : Int), (y : Int), z, u + (B : Int))) ra ca rb cb) := Lib.hid fun W' hW' => by
            have := (hS5.add hW').putB (j := j) (by rw [mapTo_len]; exact hjA) q1 qa qb hwz (u + (B : Int))
            rw [mapTo_at _ A j hjA, HX.out] at this
            exact this
          have HS5 := Lib.hid hS5
          clear hS5 hgab
          by_cases hxs : x = s
          · subst hxs
            have d1 : ((x : Int) == (x : Int)) = true := by simp
            have HD : Hid (∀ W', Add W5 W' → TwoS w2 (W'.setCell ⟨rb, j * 4 + 3, none⟩ (.int .i64 (u + (B : Int)))) base g1 ga gb N x t (some ⟨ab, aoff, none⟩) l c (mapTo (scaleA K) A (j + 1)) (mapTo (dearA x B) A (j + 1)) ra ca rb cb) := Lib.hid fun W' hW' => by
              have := HPB.out W' hW'
              have e : dearA (x : Int) B (at' A j) = ((x : Int), (y : Int), z, u + (B : Int)) := by rw [HX.out]; simp [dearA]
              rw [← mapTo_set (dearA (x : Int) B) A j hjA, e]; exact this
            clear HPB HS5
            go_quiet (fail)
            go_upto_region 11 with fail
            clear d1
            go_region
            go_upto_region 12 with fail
            obtain ⟨W6, hW6⟩ : ∃ W6, W6 = (W5.drewN (nq + 1)).setCell ⟨rb, j * 4 + 3, none⟩ (.int .i64 (u + (B : Int))) := ⟨_, rfl⟩
            have hS6 : TwoS w2 W6 base g1 ga gb N x t (some ⟨ab, aoff, none⟩) l c (mapTo (scaleA K) A (j + 1)) (mapTo (dearA x B) A (j + 1)) ra ca rb cb := by rw [hW6]; exact HD.out _ (add_drewN _ _)
            clear HD
            rw [← hW6]
            clear hW6 n11 n13 nb3 lr g0 g1' g2' g3 k1 k2
            have n11 := hS6.2.2.1.c1
            have n13 := hS6.2.2.1.c3
            have lr := hS6.2.2.1.lt
            obtain ⟨ab', aoff', e', g0, g1', g2', g3⟩ := (HAR.out.add hS6.2.2.2.2.2.2).cell hlt
            simp only [Option.some.injEq, Addr.mk.injEq, and_true] at e'
            obtain ⟨rfl, rfl⟩ := e'
            rw [HX.out] at g0 g1' g2' g3
            dsimp only at g0 g1' g2' g3
            have HS6 := Lib.hid hS6
            have HBK : Hid (∀ b' : Bool, (b' = false → b = false ∧ y ≠ x) → BackN A (x : Int) (j + 1) b') := Lib.hid fun b' hb' hb2 i hi => by
              obtain ⟨q3, q4⟩ := hb' hb2
              by_cases e : i = j
              · subst e; rw [HX.out]; dsimp only; omega
              · exact hback.out q3 i (by omega)
            clear hS6 hback
            have hcase : b = true ∨ (b = false ∧ y = x) ∨ (b = false ∧ y ≠ x) := by
              cases b with
              | true => exact .inl rfl
              | false => by_cases h : y = x <;> simp [h]
            rcases hcase with rfl | ⟨rfl, hys⟩ | ⟨rfl, hys⟩
            · have HB2 := Lib.hid (HBK.out true (fun h => Bool.noConfusion h))
              clear HBK
              go_quiet (fail)
              go_wp2_with fail
              go_roundg (gk - 1)
              case measure => omega
              case rel => exact ⟨_, j + 1, by omega, rfl, by go_num, Lib.hid (HS6.out.add (by first | exact add_drewN _ _ | exact b_drew (Below.refl _ _))), HB2⟩
            · have HB2 := Lib.hid (HBK.out true (fun h => Bool.noConfusion h))
              have d2 : ((y : Int) == (x : Int)) = true := by simp; omega
              clear HBK hys
              go_quiet (fail)
              go_wp2_with fail
              go_roundg (gk - 1)
              case measure => omega
              case rel => exact ⟨_, j + 1, by omega, rfl, by go_num, Lib.hid (HS6.out.add (by first | exact add_drewN _ _ | exact b_drew (Below.refl _ _))), HB2⟩
            · have HB2 := Lib.hid (HBK.out false (fun _ => ⟨rfl, hys⟩))
              have d2 : ((y : Int) == (x : Int)) = false := by simp; omega
              clear HBK hys
              go_quiet (fail)
              go_wp2_with fail
              go_roundg (gk - 1)
              case measure => omega
              case rel => exact ⟨_, j + 1, by omega, rfl, by go_num, Lib.hid (HS6.out.add (by first | exact add_drewN _ _ | exact b_drew (Below.refl _ _))), HB2⟩
          · have d1 : ((x : Int) == (s : Int)) = false := by simp; omega
            have HD : Hid (∀ W', Add W5 W' → TwoS w2 W' base g1 ga gb N s t (some ⟨ab, aoff, none⟩) l c (mapTo (scaleA K) A (j + 1)) (mapTo (dearA s B) A (j + 1)) ra ca rb cb) := Lib.hid fun W' hW' => by
              have := HS5.out.add hW'
              rw [mapTo_same (dearA (s : Int) B) A j hjA (by rw [HX.out]; unfold dearA; dsimp only; rw [if_neg (by omega)])]; exact this
            clear HPB HS5
            go_quiet (fail)
            go_upto_region 12 with fail
            clear d1
            obtain ⟨W6, hW6⟩ : ∃ W6, W6 = W5.drewN nq := ⟨_, rfl⟩
            have hS6 : TwoS w2 W6 base g1 ga gb N s t (some ⟨ab, aoff, none⟩) l c (mapTo (scaleA K) A (j + 1)) (mapTo (dearA s B) A (j + 1)) ra ca rb cb := by rw [hW6]; exact HD.out _ (add_drewN _ _)
            clear HD
            rw [← hW6]
            clear hW6 n11 n13 nb3 lr g0 g1' g2' g3 k1 k2
            have n11 := hS6.2.2.1.c1
            have n13 := hS6.2.2.1.c3
            have lr := hS6.2.2.1.lt
            obtain ⟨ab', aoff', e', g0, g1', g2', g3⟩ := (HAR.out.add hS6.2.2.2.2.2.2).cell hlt
            simp only [Option.some.injEq, Addr.mk.injEq, and_true] at e'
            obtain ⟨rfl, rfl⟩ := e'
            rw [HX.out] at g0 g1' g2' g3
            dsimp only at g0 g1' g2' g3
            have HS6 := Lib.hid hS6
            have HBK : Hid (∀ b' : Bool, (b' = false → b = false ∧ y ≠ s) → BackN A (s : Int) (j + 1) b') := Lib.hid fun b' hb' hb2 i hi => by
              obtain ⟨q3, q4⟩ := hb' hb2
              by_cases e : i = j
              · subst e; rw [HX.out]; dsimp only; omega
              · exact hback.out q3 i (by omega)
            clear hS6 hback
            have hcase : b = true ∨ (b = false ∧ y = s) ∨ (b = false ∧ y ≠ s) := by
              cases b with
              | true => exact .inl rfl
              | false => by_cases h : y = s <;> simp [h]
            rcases hcase with rfl | ⟨rfl, hys⟩ | ⟨rfl, hys⟩
            · have HB2 := Lib.hid (HBK.out true (fun h => Bool.noConfusion h))
              clear HBK
              go_quiet (fail)
              go_wp2_with fail
              go_roundg (gk - 1)
              case measure => omega
              case rel => exact ⟨_, j + 1, by omega, rfl, by go_num, Lib.hid (HS6.out.add (by first | exact add_drewN _ _ | exact b_drew (Below.refl _ _))), HB2⟩
            · have HB2 := Lib.hid (HBK.out true (fun h => Bool.noConfusion h))
              have d2 : ((y : Int) == (s : Int)) = true := by simp; omega
              clear HBK hys
              go_quiet (fail)
              go_wp2_with fail
              go_roundg (gk - 1)
              case measure => omega
              case rel => exact ⟨_, j + 1, by omega, rfl, by go_num, Lib.hid (HS6.out.add (by first | exact add_drewN _ _ | exact b_drew (Below.refl _ _))), HB2⟩
            · have HB2 := Lib.hid (HBK.out false (fun _ => ⟨rfl, hys⟩))
              have d2 : ((y : Int) == (s : Int)) = false := by simp; omega
              clear HBK hys
              go_quiet (fail)
              go_wp2_with fail
              go_roundg (gk - 1)
              case measure => omega
              case rel => exact ⟨_, j + 1, by omega, rfl, by go_num, Lib.hid (HS6.out.add (by first | exact add_drewN _ _ | exact b_drew (Below.refl _ _))), HB2⟩
        · obtain rfl : l = j := by omega
          have hS' := hS.out
          rw [show mapTo (scaleA K) A l = A.map (scaleA K) by rw [← HL.out]; exact mapTo_all _ _, show mapTo (dearA s B) A l = A.map (dearA s B) by rw [← HL.out]; exact mapTo_all _ _] at hS'
          obtain ⟨na, nb, n1, o1, o2, -, hAd⟩ := hS'
          have hla : (A.map (scaleA K)).length = l := by rw [List.length_map, HL.out]
          have hlb : (A.map (dearA s B)).length = l := by rw [List.length_map, HL.out]
          have arA : ArcsA wr (.slice (some ⟨ra, 0, none⟩) l ca) (A.map (scaleA K)) := by
            rw [← hla] at o1 ⊢
            exact arcs_own o1
          have arB : ArcsA wr (.slice (some ⟨rb, 0, none⟩) l cb) (A.map (dearA s B)) := by
            rw [← hlb] at o2 ⊢
            exact arcs_own o2
          have hcA : CNet N s t (A.map (scaleA K)) := by
            obtain ⟨⟨k1, k2, k3, k4, k5, k6, k7⟩, -⟩ := HCN.out
            refine ⟨⟨okArcs_like (like_scale K) k1, k2, k3, k4, k5, k6, by rw [List.length_map]; exact k7⟩, fun e he => ?_⟩
            obtain ⟨e', he', rfl⟩ := List.mem_map.1 he
            obtain ⟨p1, p2, p3⟩ := HSM.out.2.2.2.2 e' he'
            have m0 : 0 ≤ (K : Int) * e'.2.2.2 := Int.mul_nonneg (by omega) p2
            have m9 : (K : Int) * e'.2.2.2 ≤ 9 * 4 := Int.mul_le_mul (by omega) p3 p2 (by omega)
            unfold okCost scaleA
            dsimp only
            omega
          have hcB : CNet N s t (A.map (dearA s B)) := by
            obtain ⟨⟨k1, k2, k3, k4, k5, k6, k7⟩, -⟩ := HCN.out
            refine ⟨⟨okArcs_like (like_dear s B) k1, k2, k3, k4, k5, k6, by rw [List.length_map]; exact k7⟩, fun e he => ?_⟩
            obtain ⟨e', he', rfl⟩ := List.mem_map.1 he
            obtain ⟨p1, p2, p3⟩ := HSM.out.2.2.2.2 e' he'
            unfold okCost dearA
            dsimp only
            split <;> omega
          have CM : Hid (∀ W, Add w2 W → Calls Try.prog 18 #[.agg #[.int .i64 (N : Nat), .int .i64 (s : Nat), .int .i64 (t : Nat), .slice a l c]] W (MostP W N s t A)) := Lib.hid fun W hh => most_any (HNA.out.add hh) HCN.out.1
          have CS1 : Hid (∀ W am, Add w2 W → 0 ≤ am → am ≤ 9223372036854775807 → (∀ x, Opt N s t A x → am ≤ x) → Calls Try.prog 19 #[.agg #[.int .i64 (N : Nat), .int .i64 (s : Nat), .int .i64 (t : Nat), .slice a l c], .int .i64 am] W (SolvedC W N s t A am)) := Lib.hid fun W am hh h0 h1 h2 => solvedC_any (HNA.out.add hh) HCN.out h0 h1 h2
          have CS2 : Hid (∀ W am, Add wr W → 0 ≤ am → am ≤ 9223372036854775807 → (∀ x, Opt N s t (A.map (scaleA K)) x → am ≤ x) → Calls Try.prog 19 #[.agg #[.int .i64 (N : Nat), .int .i64 (s : Nat), .int .i64 (t : Nat), .slice (some ⟨ra, 0, none⟩) l ca], .int .i64 am] W (SolvedC W N s t (A.map (scaleA K)) am)) := Lib.hid fun W am hh h0 h1 h2 => solvedC_any ⟨_, rfl, arA.add hh⟩ hcA h0 h1 h2
          have CS3 : Hid (∀ W am, Add wr W → 0 ≤ am → am ≤ 9223372036854775807 → (∀ x, Opt N s t (A.map (dearA s B)) x → am ≤ x) → Calls Try.prog 19 #[.agg #[.int .i64 (N : Nat), .int .i64 (s : Nat), .int .i64 (t : Nat), .slice (some ⟨rb, 0, none⟩) l cb], .int .i64 am] W (SolvedC W N s t (A.map (dearA s B)) am)) := Lib.hid fun W am hh h0 h1 h2 => solvedC_any ⟨_, rfl, arB.add hh⟩ hcB h0 h1 h2
          have HNB : Hid (b = false → noBack (s : Int) A) := Lib.hid fun hb e he => by
            obtain ⟨i, hi, rfl⟩ := List.getElem_of_mem he
            have := hback.out hb i (by rw [← HL.out]; exact hi)
            have e3 : at' A i = A[i] := by unfold at'; simp [List.getD, hi]
            rwa [e3] at this
          have HAD := Lib.hid hAd
          have HNa := Lib.hid na
          have HNb := Lib.hid nb
          have HN1 := Lib.hid n1
          have c0 := n1.c0
          have c1 := n1.c1
          have c2 := n1.c2
          clear hS hback o1 o2 hla hlb arA arB hcA hcB na nb n1 hAd na3 n11
          go_wp2_with fail
          refine (CM.out _ HAD.out).mono ?_
          rintro e w4 ⟨x0, rfl, hopt, h4⟩
          obtain ⟨X, rfl, hX⟩ := opt_nat HCN.out.1 hopt
          have HOP : Hid (∀ y, Opt N s t A y → (X : Int) ≤ y) := Lib.hid fun y hy => by
            have := hopt.unique hy HCN.out.1.2.1 HCN.out.1.1
            omega
          have HA4 := Lib.hid h4
          have b1' := HN1.out.add h4
          clear hopt h4 c0 c1 c2 n13
          have c0 := b1'.c0
          have c1 := b1'.c1
          have c2 := b1'.c2
          have c3 := b1'.c3
          clear b1'
          go_wp2_with fail
          refine (CS1.out _ (X : Int) (Add.trans HAD.out HA4.out) (by omega) (by omega) HOP.out).mono ?_
          rintro e w5 ⟨vc, rfl, hmc, h5⟩
          have HMC := Lib.hid hmc
          have HA5 := Lib.hid (Add.trans HA4.out h5)
          have ba := HNa.out.add HA5.out
          clear hmc h5 c0 c1 c2 c3
          have c0 := ba.c0
          have c1 := ba.c1
          have c2 := ba.c2
          have c3 := ba.c3
          clear ba
          go_wp2_with fail
          refine (CS2.out _ (X : Int) HA5.out (by omega) (by omega) (fun y hy => HOP.out y (opt_like (like_scale K) hy))).mono ?_
          rintro e w6 ⟨vd, rfl, hmd, h6⟩
          have HD := Lib.hid (HMC.out.scale hmd (by omega) HCN.out.1.2.1 HCN.out.1.2.2.1 HCN.out.1.2.2.2.1 HCN.out.1.1)
          have hcb := minc_bound HCN.out HMC.out
          have HA6 := Lib.hid (Add.trans HA5.out h6)
          have bb := HNb.out.add HA6.out
          clear hmd h6 c0 c1 c2 c3
          have c0 := bb.c0
          have c1 := bb.c1
          have c2 := bb.c2
          have c3 := bb.c3
          clear bb
          go_wp2_with fail
          refine (CS3.out _ (X : Int) HA6.out (by omega) (by omega) (fun y hy => HOP.out y (opt_like (like_dear s B) hy))).mono ?_
          rintro e w7 ⟨ve, rfl, hme, h7⟩
          have HME := Lib.hid hme
          have HA7 := Lib.hid (Add.trans H2.out (Add.trans HAD.out (Add.trans HA6.out h7)))
          have mk0 : 0 ≤ (K : Int) * vc := Int.mul_nonneg (by omega) hcb.1
          have mk9 : (K : Int) * vc ≤ 9 * 2500000000000 := Int.mul_le_mul (by omega) hcb.2 hcb.1 (by omega)
          have mb0 : 0 ≤ (X : Int) * (B : Int) := Int.mul_nonneg (by omega) (by omega)
          have mb9 : (X : Int) * (B : Int) ≤ 5368709117500 * 8 := Int.mul_le_mul (by omega) (by omega) (by omega) (by omega)
          have W1 : IntKind.i64.wrap ((K : Int) * vc) = vd := by rw [IntWalk.i64_in _ (by omega), HD.out]
          obtain ⟨xb, hxb⟩ : ∃ xb, (X : Int) * (B : Int) = xb := ⟨_, rfl⟩
          have W2 : IntKind.i64.wrap ((X : Int) * (B : Int)) = xb := by rw [hxb]; exact IntWalk.i64_in _ (by omega)
          rw [hxb] at mb0 mb9
          have W3' : IntKind.i64.wrap (vc + xb) = vc + xb := IntWalk.i64_in _ (by omega)
          have d1 : (vd == vd) = true := by simp
          cases b with
          | true =>
            clear hcb hme h7 mk0 mk9 mb0 mb9 hxb c0 c1 c2 c3 HNB
            go_wp2_with fail
            refine (CA.out _).mono ?_
            rintro e w8 ⟨rfl, h8⟩
            have HE : Hid (LawB w (.returned (.bool true)) w8) := Lib.hid ⟨rfl, Add.trans HA7.out h8⟩
            clear h8
            go_wp2_with fail
            go_ret
            exact HE.out
          | false =>
            have he := HMC.out.dear HME.out (HNB.out rfl) HCN.out.1.2.1 HCN.out.1.2.2.1 HCN.out.1.2.2.2.1 HCN.out.1.1
            rw [hxb] at he
            have d2 : (ve == vc + xb) = true := by rw [he]; simp
            clear hcb hme h7 mk0 mk9 mb0 mb9 hxb c0 c1 c2 c3 HNB he
            go_wp2_with fail
            refine (CA.out _).mono ?_
            rintro e w8 ⟨rfl, h8⟩
            have HE : Hid (LawB w (.returned (.bool true)) w8) := Lib.hid ⟨rfl, Add.trans HA7.out h8⟩
            clear h8
            go_wp2_with fail
            go_ret
            exact HE.out
end Go.Proofs.Ytaoibakbnimnkaa
