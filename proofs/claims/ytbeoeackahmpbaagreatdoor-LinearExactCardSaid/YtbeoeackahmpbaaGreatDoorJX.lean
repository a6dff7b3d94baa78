import Derived.Test.YtbeoeackahmpbaaGreatDoorJP
import Derived.Test.YtbeoeackahmpbaaGreatDoorJQ
namespace Go.Proofs.YtbeoeackahmpbaaGreatDoor
open Go.RowKit NatM Go.Proofs.YtbeoeackahmpbaaGreatDoor.Api
def FracsA (w : World) (v : Value) (L : List Tri) : Prop := ∃ (a : Option Addr) (n c : Nat), v = .slice a n c ∧ L.length = n ∧ n ≤ 100000 ∧
 ∀ i, i < n → ∃ b off s an m cn ad d cd, a = some ⟨b, off, none⟩ ∧ w.cell? ⟨b, off + i * 3, none⟩ = some (.bool s) ∧ w.cell? ⟨b, off + i * 3 + 1, none⟩ = some (.slice an m cn) ∧ w.cell? ⟨b, off + i * 3 + 2, none⟩ = some (.slice ad d cd) ∧
  FracA w (.agg #[.bool s, .slice an m cn, .slice ad d cd]) (L.getD i (false, 0, 0))
theorem FracsA.mono {w w' : World} {v : Value} {L : List Tri} (h : FracsA w v L) (hb : Add w w') : FracsA w' v L := by
 obtain ⟨a, n, c, rfl, hl, hn, h⟩ := h
 refine ⟨a, n, c, rfl, hl, hn, fun i hi => ?_⟩
 obtain ⟨b, off, s, an, m, cn, ad, d, cd, h1, h2, h3, h4, h5⟩ := h i hi
 have k := fun (p : Addr) (v : Value) (g : w.cell? p = some v) => (hb.cell (p := p) (World.block_lt_of_cell? w _ g)).trans g
 exact ⟨b, off, s, an, m, cn, ad, d, cd, h1, k _ _ h2, k _ _ h3, k _ _ h4, h5.mono hb⟩
theorem fitQ_lt (q : Rat) : (fitQ q).1.2.1 < pw 128 ∧ (fitQ q).1.2.2 < pw 128 := by
 unfold fitQ
 split
 · exact ⟨pw_pos 128, pw_pos 128⟩
 · next h =>
   have h1 : q.num.natAbs < pw 128 := by omega
   have h2 : q.den < pw 128 := by omega
   exact ⟨h1, h2⟩
def ResE2 (w : World) (s : Bool) (N D c : Nat) (e : Ending) (w' : World) : Prop := ∃ a n k a' n' k', e = .returned (.tuple #[.agg #[.bool s, .slice a n k, .slice a' n' k'], .int .i64 (c : Nat)]) ∧ Num w' (.slice a n k) N ∧ Num w' (.slice a' n' k') D ∧ Add w w'
theorem resE2 {w : World} {p : Tri × Nat} {s : Bool} {N D c : Nat} {e : Ending} {w' : World} (g : ResF w p e w') (h : Hid (p = ((s, N, D), c))) : ResE2 w s N D c e w' := by
 obtain ⟨v, he, ⟨a, n, k, a', n', k', rfl, h1, h2⟩, h3⟩ := g
 have e1 := h.out
 subst e1
 exact ⟨a, n, k, a', n', k', he, h1, h2, h3⟩
theorem Box.other2 {w : World} {g k : Nat} {b an n cn ad d cd} (h : Box w k b an n cn ad d cd) (hk : k ≠ g) (u0 u1 u2 : Value) : Box (put3 w g u0 u1 u2) k b an n cn ad d cd := (put3_other u0 u1 u2 hk).trans h
end Go.Proofs.YtbeoeackahmpbaaGreatDoor
namespace Go.Proofs.YtbeoeackahmpbaaGreatDoor
open Go.RowKit NatM Go.Proofs.YtbeoeackahmpbaaGreatDoor.Api
end Go.Proofs.YtbeoeackahmpbaaGreatDoor
