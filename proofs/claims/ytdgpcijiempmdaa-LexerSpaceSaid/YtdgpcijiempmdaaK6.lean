/- Package lexer: take, row and token. -/
import Derived.Test.YtdgpcijiempmdaaK5
namespace Go.Proofs.Ytdgpcijiempmdaa
open Go.RowKit LxM

/-- A token's value. -/
def tokV (t : Tok) : Value := .agg #[.int .i64 (t.kind : Nat), .string t.text, .int .i64 (t.line : Nat), .int .i64 (t.col : Nat)]
def zeroTok : Tok := ⟨0, ⟨#[]⟩, 0, 0⟩
/-- A token in a variable. -/
def TokB (w : World) (g : Nat) (t : Tok) : Prop := w.heap[g]? = some (.cells #[.int .i64 (t.kind : Nat), .string t.text, .int .i64 (t.line : Nat), .int .i64 (t.col : Nat)] 32 (0, 0))
theorem TokB.lt {w : World} {g : Nat} {t : Tok} (h : TokB w g t) : g < w.heap.size := (Array.getElem?_eq_some_iff.1 h).1
theorem TokB.mono {w w' : World} {g : Nat} {t : Tok} (h : TokB w g t) (hb : Add w w') : TokB w' g t := (hb.block g h.lt).trans h
theorem TokB.c0 {w : World} {g : Nat} {t : Tok} (h : TokB w g t) : w.cell? ⟨g, 0, none⟩ = some (.int .i64 (t.kind : Nat)) := by rw [cell_of_row w g 0 _ _ (0, 0) h]; rfl
theorem TokB.c1 {w : World} {g : Nat} {t : Tok} (h : TokB w g t) : w.cell? ⟨g, 1, none⟩ = some (.string t.text) := by rw [cell_of_row w g 1 _ _ (0, 0) h]; rfl
theorem TokB.c2 {w : World} {g : Nat} {t : Tok} (h : TokB w g t) : w.cell? ⟨g, 2, none⟩ = some (.int .i64 (t.line : Nat)) := by rw [cell_of_row w g 2 _ _ (0, 0) h]; rfl
theorem TokB.c3 {w : World} {g : Nat} {t : Tok} (h : TokB w g t) : w.cell? ⟨g, 3, none⟩ = some (.int .i64 (t.col : Nat)) := by rw [cell_of_row w g 3 _ _ (0, 0) h]; rfl
theorem TokB.fr {w : World} {g : Nat} {t : Tok} (h : TokB w g t) (j : Nat) : w.frozen? ⟨g, j, none⟩ = false := frozen_of_row w g j _ _ h
theorem tok_new (w : World) : TokB (w.alloc (.cells #[.int .i64 0, .string ⟨#[]⟩, .int .i64 0, .int .i64 0] 32)) w.heap.size zeroTok := heap_alloc_new w _
/-- What is stored into the variable. -/
def put4 (w : World) (g : Nat) (u0 u1 u2 u3 : Value) : World := (((w.setCell ⟨g, 0, none⟩ u0).setCell ⟨g, 1, none⟩ u1).setCell ⟨g, 2, none⟩ u2).setCell ⟨g, 3, none⟩ u3
theorem tok_put {w : World} {g : Nat} {t : Tok} (h : TokB w g t) (t' : Tok) : TokB (put4 w g (.int .i64 (t'.kind : Nat)) (.string t'.text) (.int .i64 (t'.line : Nat)) (.int .i64 (t'.col : Nat))) g t' := by
  unfold TokB at h ⊢
  unfold put4
  have h1 := heap_setCell_same w g 0 _ _ (.int .i64 (t'.kind : Nat)) h
  have h2 := heap_setCell_same _ g 1 _ _ (.string t'.text) h1
  have h3 := heap_setCell_same _ g 2 _ _ (.int .i64 (t'.line : Nat)) h2
  rw [heap_setCell_same _ g 3 _ _ _ h3]
  rfl
theorem below_put4 {b g : Nat} {w w' : World} (h : Below b w w') (hg : b ≤ g) (u0 u1 u2 u3 : Value) : Below b w (put4 w' g u0 u1 u2 u3) := (((h.setCell hg _).setCell hg _).setCell hg _).setCell hg _
theorem sc_put4 {w : World} {g k : Nat} {s : ByteArray} {i : Nat} (h : Sc w k s i) (hne : k ≠ g) (u0 u1 u2 u3 : Value) : Sc (put4 w g u0 u1 u2 u3) k s i := by
  unfold Sc put4
  rw [Below.heap_setCell _ _ _ _ hne, Below.heap_setCell _ _ _ _ hne, Below.heap_setCell _ _ _ _ hne, Below.heap_setCell _ _ _ _ hne]
  exact h
/-- A token is returned. -/
def RetTok (w : World) (t : Tok) (e : Ending) (w' : World) : Prop := e = .returned (tokV t) ∧ Add w w'
def RetTokE (w : World) (t : Tok) (n : Nat) (e : Ending) (w' : World) : Prop := e = .returned (.tuple #[tokV t, .int .i64 (n : Nat)]) ∧ Add w w'

set_option maxRecDepth 100000 in
set_option maxHeartbeats 2000000 in
theorem take_any {g : Nat} {s : ByteArray} {i e k : Nat} {w : World} (h : Sc w g s i) (hie : i ≤ e) (he : e ≤ s.size) (hs : s.size ≤ 1000000) :
    Calls Try.prog 35 #[.pointer (some ⟨g, 0, none⟩), .int .i64 (k : Nat), .int .i64 (e : Nat)] w (RetTok w (tokAt s k i e)) := by
  have i1 : (0 : Int) ≤ (i : Int) := by omega
  have i2 : (i : Int) ≤ (e : Int) := by omega
  have i3 : (e : Int) ≤ (s.size : Int) := by omega
  obtain ⟨t, ht⟩ : ∃ t, t = s.extract i e := ⟨_, rfl⟩
  obtain ⟨l, hl⟩ : ∃ l, l = lin s i := ⟨_, rfl⟩
  obtain ⟨c, hc⟩ : ∃ c, c = col s i := ⟨_, rfl⟩
  have htok : tokAt s k i e = ⟨k, t, l, c⟩ := by rw [ht, hl, hc]; rfl
  rw [htok]
  have htz : t.size ≤ 1000000 := by rw [ht, ByteArray.size_extract]; omega
  have HT := Lib.hid ht
  have HS := Lib.hid h
  have HNE := Lib.hid (show g ≠ w.heap.size from Nat.ne_of_lt h.lt)
  have CC : Hid (∀ w', Calls Try.prog 37 #[.string (s.extract i e)] w' (fun e w2 => e = .returned (.string t) ∧ Add w' w2)) := Lib.hid fun w' => by rw [← ht]; exact cloneS_any t w' htz
  have CP : Hid (∀ w', Sc w' g s i → Calls Try.prog 16 #[.pointer (some ⟨g, 0, none⟩)] w' (RetP w' l c)) := Lib.hid fun w' hh => by rw [hl, hc]; exact pos_any hh (by omega)
  clear h ht hl hc htok htz
  go_enter Try.func35, Try.ntmps35
  go_wp2_with fail
  obtain ⟨W, hW⟩ : ∃ W, W = w.alloc (.cells #[.int .i64 0, .string ⟨#[]⟩, .int .i64 0, .int .i64 0] 32) := ⟨_, rfl⟩
  have hSW : Sc W g s i := by rw [hW]; exact HS.out.mono (add_new w _)
  have hTW : TokB W w.heap.size zeroTok := by rw [hW]; exact tok_new w
  have HA := Lib.hid (show Add w W by rw [hW]; exact add_new w _)
  rw [← hW]
  clear hW
  have K0 : Hid (∀ w', Add W w' → w'.cell? ⟨g, 0, none⟩ = some (.string s) ∧ w'.cell? ⟨g, 1, none⟩ = some (.int .i64 (i : Nat))) := Lib.hid fun w' a => ⟨(hSW.mono a).c0, (hSW.mono a).c1⟩
  have hc0 := hSW.c0
  have hc1 := hSW.c1
  have HSW := Lib.hid hSW
  have HTW := Lib.hid hTW
  clear hSW hTW
  go_wp2_with fail
  go_region_held3 (fun w' => w'.cell? ⟨g, 0, none⟩ = some (.string s) ∧ w'.cell? ⟨g, 1, none⟩ = some (.int .i64 (i : Nat)))
    (first | exact K0.out _ (Below.drew (Below.refl _ _)) | exact K0.out _ a2 | exact K0.out _ a3 | exact ⟨(sc_put4 (HSW.out.mono a3) HNE.out _ _ _ _).c0, (sc_put4 (HSW.out.mono a3) HNE.out _ _ _ _).c1⟩ | go_keep)
    (first | (go_at_call 37; ((with_reducible refine (CC.out _).mono ?_); rintro e w7 ⟨rfl, hq1⟩; have a2 := Add.trans (Below.drew (Below.refl _ _) : Add W (World.drew W)) hq1))
           | (go_at_call 16; ((with_reducible refine (CP.out _ (HSW.out.mono a2)).mono ?_); rintro e w8 ⟨rfl, hq2⟩; have a3 := Add.trans a2 hq2; have hB3 := HTW.out.mono a3; have s0 := hB3.c0; have s1 := hB3.c1; have s2 := hB3.c2; have s3 := hB3.c3; have f0 := hB3.fr 0; have f1 := hB3.fr 1; have f2 := hB3.fr 2; have f3 := hB3.fr 3)))
  have hF := tok_put hB3 ⟨k, t, l, c⟩
  have HF := Lib.hid hF
  have HB := Lib.hid (below_put4 (Add.trans HA.out a3) (Nat.le_refl w.heap.size) (.int .i64 (k : Nat)) (.string t) (.int .i64 (l : Nat)) (.int .i64 (c : Nat)))
  clear hF
  obtain ⟨W9, hW9⟩ : ∃ W9, W9 = put4 w8 w.heap.size (.int .i64 (k : Nat)) (.string t) (.int .i64 (l : Nat)) (.int .i64 (c : Nat)) := ⟨_, rfl⟩
  rw [← hW9] at HF HB
  unfold put4 at hW9
  rw [← hW9]
  have p0 := HF.out.c0
  have p1 := HF.out.c1
  have p2 := HF.out.c2
  have p3 := HF.out.c3
  clear hW9 HF a3 hB3 s0 s1 s2 s3 f0 f1 f2 f3
  go_wp2_with fail
  exact bodyPost_ret (v := tokV ⟨k, t, l, c⟩) (by simp [results, Try.results35, go_sem, p0, p1, p2, p3, tokV]) rfl ⟨rfl, HB.out⟩
end Go.Proofs.Ytdgpcijiempmdaa
