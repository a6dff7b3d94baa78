/- The law NaturalLong: its walk, for all arguments. -/
import Derived.Test.YtjgaeodihijalaaDoorR9
namespace Go.Proofs.YtjgaeodihijalaaDoor.Long
open Go.Proofs.YtjgaeodihijalaaDoor Go.Proofs.YtjgaeodihijalaaDoor.Api Go.RowKit NatM

/-- Block g is a row of n bytes that the call made itself. -/
def OwnY (w : World) (base g n : Nat) (bs : List Nat) : Prop := w.ownsRow base 5 1 (.slice (some ⟨g, 0, none⟩) n n) n (bs.map byt)
theorem OwnY.length {w : World} {base g n : Nat} {zs : List Nat} (h : OwnY w base g n zs) : zs.length = n := by have := h.1; simpa using this
theorem OwnY.cell {w : World} {base g n : Nat} {zs : List Nat} (h : OwnY w base g n zs) (i : Nat) (hi : i < n) : w.cell? ⟨g, i, none⟩ = some (.int .u8 (zs.getD i 0 : Nat)) := by
  have hl := h.length
  have := h.cellAt i (by omega)
  rw [this]
  simp [List.getD, hl, hi, byt]
theorem OwnY.free {w : World} {base g n : Nat} {zs : List Nat} (h : OwnY w base g n zs) (i : Nat) : w.frozen? ⟨g, i, none⟩ = false := h.frozenAt i
theorem OwnY.set {w : World} {base g n : Nat} {zs : List Nat} (h : OwnY w base g n zs) (i s : Nat) : OwnY (w.setCell ⟨g, i, none⟩ (.int .u8 (s : Nat))) base g n (zs.set i s) := by
  have := (h.stored i (byt s)).1
  rw [← List.map_set] at this
  exact this
theorem OwnY.made {w : World} {base g n : Nat} (h : w.ownsRow base 5 1 (.slice (some ⟨g, 0, none⟩) n n) n (madeCells #[Value.int .u8 0] n).toList) : OwnY w base g n (List.replicate n 0) := by
  unfold OwnY
  rw [List.map_replicate]
  rw [toList_madeCells_one] at h
  exact h
theorem OwnY.lt {w : World} {base g n : Nat} {zs : List Nat} (h : OwnY w base g n zs) : base ≤ g ∧ g < w.heap.size := World.ownsRow.lt h g rfl
theorem OwnY.below {w w' : World} {base g n : Nat} {zs : List Nat} (h : OwnY w base g n zs) (hb : Below w.heap.size w w') : OwnY w' base g n zs := by
  refine ⟨h.1, ?_⟩
  rcases h.2 with hn | ⟨g', cap, cur, e, hg, hgg, rest⟩
  · exact .inl hn
  · refine .inr ⟨g', cap, cur, e, hg, ?_, rest⟩
    rw [hb.block g' (Array.getElem?_eq_some_iff.1 hgg).1]; exact hgg
/-- The text of the bytes. -/
def strOf (bs : List Nat) : ByteArray := strOfNums (bs.map fun n : Nat => (n : Int))
theorem strOf_size (bs : List Nat) : (strOf bs).size = bs.length := by unfold strOf; rw [strOfNums_size, List.length_map]
theorem OwnY.conv {w : World} {base g n : Nat} {bs : List Nat} (h : OwnY w base g n bs) : (convert 49 9 (.slice (some ⟨g, 0, none⟩) n n)).run Tryd.prog w = .ok (.string (strOf bs)) w := by
  have hl := h.length
  refine run_convert_bytes_arg (P := Tryd.prog) w 49 5 Tryd.underlying49 Tryd.underlying5 g 0 n n (bs.map fun n : Nat => (n : Int)) (by rw [List.length_map, hl]) (fun i hi => ?_) 9 Tryd.underlying9
  rw [Nat.zero_add, h.cell i hi]
  simp [List.getD, hl, hi]

set_option maxRecDepth 100000 in
set_option maxHeartbeats 8000000 in
theorem long_any (m c q : Nat) (w : World) (hm : m ≤ 255) (hc : c ≤ 255) (hq : q ≤ 65535) :
    Calls Tryd.prog 11 #[.int .u8 (m : Nat), .int .u8 (c : Nat), .int .u16 (q : Nat)] w (LawP w) := by
  obtain ⟨i0, hi, hz0, hz1, hz2⟩ := info_parts info5
  obtain ⟨n, hn⟩ : ∃ n : Nat, 5000 + (m : Int) % 3 = (n : Int) := ⟨5000 + m % 3, by omega⟩
  obtain ⟨l, hl⟩ : ∃ l : Nat, 4920 + (q : Int) % 30 = (l : Int) := ⟨4920 + q % 30, by omega⟩
  have hn5 : 5000 ≤ n ∧ n ≤ 5002 := by omega
  have hl5 : 4920 ≤ l ∧ l ≤ 4949 := by omega
  obtain ⟨hn6, hn7⟩ := hn5
  obtain ⟨hl6, hl7⟩ := hl5
  obtain ⟨t, ht⟩ : ∃ t : Nat, 48 + (c : Int) % 12 = (t : Int) := ⟨48 + c % 12, by omega⟩
  have ht7 : t ≤ 59 := by omega
  go_enter Tryd.func11, Tryd.ntmps11
  go_wp2_with (at_make; refine wpList_make_full _ rfl _ _ 49 rfl w.heap.size 5 i0 (.int .u8 0) 1 Tryd.underlying49 hi hz0 hz1 _ _ _ _ n rfl rfl (by omega) (by omega) (by rw [hz2]; omega) (by unfold maxLen; omega) (Nat.le_refl _) ?_)
  intro w1 hown hgr
  have hadd : Add w w1 := (Below.refl _ _).grown hgr (Nat.le_refl _) (by simp)
  have hown := OwnY.made hown
  clear hgr
  go_wp2_with fail
  go_loopw [8] (fun i wr => ∃ (k : Nat) (bs : List Nat), k ≤ n ∧ i = .int .i64 (k : Nat) ∧ OwnY wr w.heap.size w.heap.size n bs ∧ Add w wr) (fun i _ => n - (intOf i).toNat)
  case atStart => exact ⟨0, _, Nat.zero_le _, rfl, hown, hadd⟩
  case round =>
    clear hown hadd
    obtain ⟨k, bs, hk, rfl, hown, hadd⟩ := hrel
    by_cases hlt : k < n
    · have hcell := hown.cell k hlt
      have hfree := hown.free k
      have dlt : decide (k < n) = true := decide_eq_true hlt
      go_wp2_with fail
      go_roundw
      case rel => exact ⟨k + 1, _, by omega, by go_num, hown.set k 48, hadd.setCell (Nat.le_refl _) _⟩
      case measure => simp [intOf]; omega
    · have dlt : decide (k < n) = false := decide_eq_false hlt
      obtain ⟨j, hj⟩ : ∃ j : Nat, (n : Int) - 1 = (j : Int) := ⟨n - 1, by omega⟩
      have hjn : j < n := by omega
      have hcell := hown.cell j hjn
      have hfree := hown.free j
      have hown2 := hown.set j t
      have hadd2 : Add w (wr.setCell ⟨w.heap.size, j, none⟩ (.int .u8 (t : Nat))) := hadd.setCell (Nat.le_refl _) _
      obtain ⟨bs', hbs'⟩ : ∃ bs', bs' = bs.set j t := ⟨_, rfl⟩
      rw [← hbs'] at hown2
      have hconv := hown2.conv
      have hsz : (strOf bs').size ≤ 1000000 := by rw [strOf_size, hown2.length]; omega
      obtain ⟨p, hp⟩ : ∃ p, parseS (strOf bs') = p := ⟨_, rfl⟩
      have FP : Hid ((strOf bs').size ≤ 1000000 ∧ parseS (strOf bs') = p) := Lib.hid ⟨hsz, hp⟩
      clear hown hadd hbs' hp hsz
      go_wp2_with fail
      refine (parseN p FP).mono ?_
      rintro e w3 ⟨vx, rfl, n_x, h3⟩
      have hown3 := hown2.below h3
      have hconv3 := hown3.conv
      have T3 := Add.trans hadd2 h3
      clear hown2 hadd2 h3 hconv n_x
      go_wp2_with fail
      refine (refParseN p FP).mono ?_
      rintro e w4 ⟨vy, rfl, n_y, h4⟩
      have T4 := Add.trans T3 h4
      clear hown3 T3 h4 hconv3 n_y hcell hfree
      go_wp2_with (at_make; refine wpList_make_full _ rfl _ _ 49 rfl w.heap.size 5 i0 (.int .u8 0) 1 Tryd.underlying49 hi hz0 hz1 _ _ _ _ l rfl rfl (by omega) (by omega) (by rw [hz2]; omega) (by unfold maxLen; omega) T4.size ?_)
      intro w5 hown hgr
      have hadd : Add w w5 := T4.grown hgr T4.size (by simp)
      obtain ⟨g, hg⟩ : ∃ g, g = w4.heap.size := ⟨_, rfl⟩
      rw [← hg] at hown ⊢
      have hown := OwnY.made hown
      have hwg : w.heap.size ≤ g := by rw [hg]; exact T4.size
      clear hgr hg T4
      go_wp2_with fail
      go_loopw [14] (fun i wr => ∃ (k : Nat) (bs : List Nat), k ≤ l ∧ i = .int .i64 (k : Nat) ∧ OwnY wr w.heap.size g l bs ∧ Add w wr) (fun i _ => l - (intOf i).toNat)
      case atStart => exact ⟨0, _, Nat.zero_le _, rfl, hown, hadd⟩
      case round =>
        clear hown hadd
        obtain ⟨k, bs, hk, rfl, hown, hadd⟩ := hrel
        by_cases hlt : k < l
        · have hcell := hown.cell k hlt
          have hfree := hown.free k
          have dlt : decide (k < l) = true := decide_eq_true hlt
          go_wp2_with fail
          go_roundw
          case rel => exact ⟨k + 1, _, by omega, by go_num, hown.set k 57, hadd.setCell hwg _⟩
          case measure => simp [intOf]; omega
        · have dlt : decide (k < l) = false := decide_eq_false hlt
          have hconv := hown.conv
          have hsz : (strOf bs).size ≤ 1000000 := by rw [strOf_size, hown.length]; omega
          obtain ⟨r, hr⟩ : ∃ r, parseS (strOf bs) = r := ⟨_, rfl⟩
          have FR : Hid ((strOf bs).size ≤ 1000000 ∧ parseS (strOf bs) = r) := Lib.hid ⟨hsz, hr⟩
          clear hr hsz
          go_wp2_with fail
          refine (parseN r FR).mono ?_
          rintro e w6 ⟨vu, rfl, n_u, h6⟩
          have hown6 := hown.below h6
          have hconv6 := hown6.conv
          have T6 := Add.trans hadd h6
          clear hown hadd h6 hconv
          go_wp2_with fail
          refine (refParseN r FR).mono ?_
          rintro e w7 ⟨vv, rfl, n_v, h7⟩
          replace n_u := n_u.mono h7
          have T7 := Add.trans T6 h7
          clear hown6 T6 h7 hconv6
          go_wp2_with fail
          refine (sameN true n_u n_v (Lib.hid (decide_eq_true rfl))).mono ?_
          rintro e w9 ⟨rfl, h9⟩
          have T9 := Add.trans T7 h9
          clear T7 h9 n_u n_v
          go_wp2_with fail
          refine (awake_any _).mono ?_
          rintro e w' ⟨rfl, hadd⟩
          go_wp2_with fail
          go_ret
          exact ⟨rfl, Add.trans T9 hadd⟩
end Go.Proofs.YtjgaeodihijalaaDoor.Long
