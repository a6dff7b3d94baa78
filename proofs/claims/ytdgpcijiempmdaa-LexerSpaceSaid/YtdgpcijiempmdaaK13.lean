/- Package lexer: the law's helpers same and awake. -/
import Derived.Test.YtdgpcijiempmdaaK12
namespace Go.Proofs.Ytdgpcijiempmdaa
open Go.RowKit LxM

/-- A bool is returned; draws at most. -/
def RetQ (w : World) (b : Bool) (e : Ending) (w' : World) : Prop := e = .returned (.bool b) ∧ ∃ q, w' = w.drewN q
theorem ToksB.cell {w : World} {ao : Option Addr} {n c : Nat} {ts : List Tok} (h : ToksB w (.slice ao n c) ts) {i : Nat} (hi : i < n) : ∃ b, ao = some ⟨b, 0, none⟩ ∧
    w.cell? ⟨b, i * 4, none⟩ = some (.int .i64 ((ts.getD i ⟨0, ⟨#[]⟩, 0, 0⟩).kind : Nat)) ∧ w.cell? ⟨b, i * 4 + 1, none⟩ = some (.string (ts.getD i ⟨0, ⟨#[]⟩, 0, 0⟩).text) ∧
    w.cell? ⟨b, i * 4 + 2, none⟩ = some (.int .i64 ((ts.getD i ⟨0, ⟨#[]⟩, 0, 0⟩).line : Nat)) ∧ w.cell? ⟨b, i * 4 + 3, none⟩ = some (.int .i64 ((ts.getD i ⟨0, ⟨#[]⟩, 0, 0⟩).col : Nat)) := by
  obtain ⟨ao', n', c', e, hl, -, h⟩ := h
  cases e
  obtain ⟨b, rfl, -, hc⟩ := h i hi
  exact ⟨b, rfl, hc 0 (by decide), hc 1 (by decide), hc 2 (by decide), hc 3 (by decide)⟩
theorem ToksB.isSlice {w : World} {v : Value} {ts : List Tok} (h : ToksB w v ts) : ∃ ao c, v = .slice ao ts.length c ∧ ts.length ≤ 100000 := by
  obtain ⟨ao, n, c, rfl, rfl, hn, -⟩ := h
  exact ⟨ao, c, rfl, hn⟩

set_option maxRecDepth 100000 in
set_option maxHeartbeats 2000000 in
theorem same_any {w : World} {v v2 : Value} {ts : List Tok} (h : ToksB w v ts) (h2 : ToksB w v2 ts) :
    Calls Try.prog 11 #[v, v2] w (RetQ w true) := by
  obtain ⟨ao, c, rfl, hm⟩ := h.isSlice
  obtain ⟨ao2, c2, rfl, _⟩ := h2.isSlice
  obtain ⟨n, en⟩ : ∃ n, n = ts.length := ⟨_, rfl⟩
  rw [← en] at h h2 hm ⊢
  have H1 := Lib.hid h
  have H2 := Lib.hid h2
  clear h h2 en
  go_enter Try.func11, Try.ntmps11
  go_wp2_with fail
  go_loopw [5] (fun i wr => ∃ k : Nat, k ≤ n ∧ i = .int .i64 (k : Nat) ∧ ∃ q, wr = w.drewN q) (fun i _ => n - (intOf i).toNat)
  case atStart => exact ⟨0, Nat.zero_le _, rfl, 0, rfl⟩
  case round =>
    obtain ⟨k, hk, rfl, q, rfl⟩ := hrel
    by_cases h0 : k = n
    · subst h0
      go_wp2_with fail
      go_ret
      exact ⟨rfl, _, rfl⟩
    · have hlt : k < n := by omega
      obtain ⟨b, rfl, a0, a1, a2, a3⟩ := H1.out.cell hlt
      obtain ⟨b', rfl, b0, b1, b2, b3⟩ := H2.out.cell hlt
      obtain ⟨⟨kd, t, l, cl⟩, ht⟩ : ∃ t, ts.getD k ⟨0, ⟨#[]⟩, 0, 0⟩ = t := ⟨_, rfl⟩
      rw [ht] at a0 a1 a2 a3 b0 b1 b2 b3
      clear ht h0
      dsimp only at a0 a1 a2 a3 b0 b1 b2 b3
      go_wp2_with fail
      go_quiet (fail)
      go_wp2_with fail
      go_roundw
      case rel => exact ⟨k + 1, by omega, by go_num, _, rfl⟩
      case measure => simp [intOf]; omega

/-- The text of the sanity check. -/
def sA : ByteArray := ⟨#[97, 45, 49, 32, 49, 47, 50, 59, 32, 35, 32, 120]⟩
def tsA : List Tok := [⟨1, ⟨#[97, 45, 49]⟩, 1, 1⟩, ⟨2, ⟨#[49]⟩, 1, 5⟩, ⟨3, ⟨#[47]⟩, 1, 6⟩, ⟨2, ⟨#[50]⟩, 1, 7⟩, ⟨3, ⟨#[59]⟩, 1, 8⟩, ⟨4, ⟨#[]⟩, 1, 13⟩]
theorem scan_A : scanT sA = ⟨0, tsA, 0, 0⟩ := by
  have r1 : rowE inName sA 1 = 3 := by rw [rowE_in (by decide) (by decide), rowE_in (by decide) (by decide), rowE_out (by decide)]
  have r2 : rowE digit sA 5 = 5 := by rw [rowE_out (by decide)]
  have r3 : rowE digit sA 7 = 7 := by rw [rowE_out (by decide)]
  have r4 : rowE notLF sA 10 = 12 := by rw [rowE_in (by decide) (by decide), rowE_in (by decide) (by decide), rowE_out (by decide)]
  unfold scanT
  rw [if_neg (by decide), scan_letter (by decide) (by decide), r1, if_neg (by decide), scan_space (by decide) (by decide), scan_digit (by decide) (by decide), r2, if_neg (by decide),
    scan_sign (by decide) (by decide), scan_digit (by decide) (by decide), r3, if_neg (by decide), scan_sign (by decide) (by decide), scan_space (by decide) (by decide), scan_comment (by decide) (by decide), r4, scan_end (by decide)]
  rfl
end Go.Proofs.Ytdgpcijiempmdaa
