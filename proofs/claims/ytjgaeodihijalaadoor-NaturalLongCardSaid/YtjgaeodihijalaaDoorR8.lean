/- The reference's Format writes the decimal digits of a number. -/
import Derived.Test.YtjgaeodihijalaaDoorR7
import Derived.Laws.Concat
namespace Go.Proofs.YtjgaeodihijalaaDoor
open Go.RowKit NatM Go.Proofs.YtjgaeodihijalaaDoor.Api

theorem refDivideL {v1 v2 : Value} {A d : Nat} {w : World} (h1 : Num w v1 A) (h2 : Num w v2 d) (h : Hid (A < pw 2000 ∧ 0 < d ∧ d < 4294967296)) : Calls Tryd.prog 64 #[v1, v2] w (DivO w A d) := by
  obtain ⟨hA, hd, hd'⟩ := h.out
  obtain ⟨xs, r1, -, rfl, l1⟩ := num_reads h1 hA
  obtain ⟨ys, r2, c2, e2, l2⟩ := num_reads h2 (lt_pw1 hd')
  have : ys = [d] := by
    match ys, l2 with
    | [], _ => simp [val] at e2; omega
    | [a], _ => simp [val] at e2; rw [e2]
  subst this
  rcases Nat.lt_or_ge (val xs) d with hl | hl
  · have := refDivide_less v1 v2 xs [d] w r1 r2 (by omega) (by simp) (by simpa [val] using hl)
    simpa [val] using this
  · exact refDivide_one v1 v2 xs d w r1 r2 (by omega) hd hl
theorem num_one {w : World} {v : Value} {N : Nat} (h : Num w v N) (h0 : 0 < N) (h1 : N < 4294967296) : ∃ b off c, v = .slice (some ⟨b, off, none⟩) 1 c ∧ w.cell? ⟨b, off, none⟩ = some (.int .u32 (N : Nat)) := by
  obtain ⟨zs, r, c, e, l⟩ := num_reads h (lt_pw1 h1)
  have : zs = [N] := by
    match zs, l with
    | [], _ => simp [val] at e; omega
    | [a], _ => simp [val] at e; rw [e]
  subst this
  obtain ⟨ao, n, c, rfl, hl, -, -, -, hr⟩ := r
  obtain rfl : 1 = n := by simpa using hl
  obtain ⟨b, off, rfl, g⟩ := hr (by decide)
  exact ⟨b, off, c, rfl, by have := g 0 (by decide); simpa using this⟩
theorem num_shape {w : World} {v : Value} {N k : Nat} (h : Num w v N) (hN : N < pw k) : ∃ ao n c, v = .slice ao n c ∧ n ≤ k ∧ (n = 0 ↔ N = 0) := by
  obtain ⟨zs, ⟨ao, n, c, rfl, hl, -⟩, hc, e, l⟩ := num_reads h hN
  refine ⟨ao, n, c, rfl, by omega, ?_⟩
  unfold Canon at hc
  rw [← e, val_eq_zero]; omega

theorem num_nil {w : World} {v : Value} (h : Num w v 0) : ∃ ao c, v = .slice ao 0 c := by
  obtain ⟨ao, n, c, rfl, hn, -⟩ := num_shape (k := 0) h (by decide)
  obtain rfl : n = 0 := by omega
  exact ⟨_, _, rfl⟩
/-- The text of digits, the least first. -/
def txt (ds : List Nat) : ByteArray := ⟨(ds.reverse.map chr).toArray⟩
theorem txt_nil : txt [] = ByteArray.empty := rfl
theorem txt_append (ds es : List Nat) : txt es ++ txt ds = txt (ds ++ es) := by
  unfold txt; rw [ByteArray.mk_append_mk, List.reverse_append, List.map_append]
theorem txt_size (ds : List Nat) : (txt ds).size = ds.length := by unfold txt; simp [ByteArray.size]
theorem txt_one (t : Nat) : strOfNums [48 + (t : Int)] = txt [t] := by
  unfold strOfNums txt
  simp only [List.map_cons, List.map_nil, List.reverse_cons, List.reverse_nil, List.nil_append]
  congr 3
theorem txt_top {us : List Nat} {t : Nat} (h : 0 < (txt (us ++ [t])).size) : (txt (us ++ [t]))[0] = chr t := by
  unfold txt; simp; rfl
theorem txt_from (us : List Nat) (t : Nat) : (txt (us ++ [t])).extract 1 (txt (us ++ [t])).size = txt us := by
  have h1 : (txt (us ++ [t])).data.toList = chr t :: us.reverse.map chr := by unfold txt; simp
  rw [Lib.extract_from, h1]; rfl
theorem fmt_end {vs : List Nat} {N : Nat} (hd : Digits vs) (hv : val10 vs = N) (h : vs.length = 1 ∨ ∃ us t, vs = us ++ [t] ∧ t ≠ 0) : FmtIs (txt vs) N := by
  rcases Nat.eq_zero_or_pos N with h0 | h0
  · rcases h with h | ⟨us, t, rfl, ht⟩
    · match vs, h with
      | [a], _ =>
        simp [val10] at hv
        left; refine ⟨h0, ?_⟩
        rw [hv, h0]; rfl
    · rw [val10_snoc] at hv
      have : 10 ^ us.length * t ≠ 0 := Nat.mul_ne_zero (Nat.pos_iff_ne_zero.1 (Nat.pow_pos (by decide))) ht
      omega
  · refine .inr ⟨h0, vs, hd, ?_, hv, rfl⟩
    rcases h with h | ⟨us, t, rfl, ht⟩
    · match vs, h with
      | [a], _ =>
        simp [val10] at hv
        simp [Canon, tlen]; omega
    · unfold Canon
      refine tlen_eq _ _ (Nat.le_refl _) (fun i hi => ?_) (fun _ => ?_)
      · simp [List.getD, List.getElem?_eq_none hi]
      · simp [List.getD]; exact ht

/-- What the outer loop keeps: R is what is still to be written. -/
def FSt (w : World) (N R : Nat) (x s : Value) (wr : World) : Prop :=
  ∃ ds, s = .string (txt ds) ∧ Digits ds ∧ N = val10 ds + 10 ^ ds.length * R ∧ Num wr x R ∧ Add w wr ∧ (R = 0 → ds ≠ []) ∧ ds.length ≤ 20000
theorem inner_step' {es : List Nat} {T p : Nat} (h : val10 es + 10 ^ es.length * p = T) : val10 (es ++ [p % 10]) + 10 ^ (es ++ [p % 10]).length * (p / 10) = T := inner_step h
theorem outer_step {ds es : List Nat} {N R v : Nat} (h : N = val10 ds + 10 ^ ds.length * R) (hv : val10 es = v) (hl : es.length = 9) (hr : v = R % 1000000000) : N = val10 (ds ++ es) + 10 ^ (ds ++ es).length * (R / 1000000000) := by
  have e : ∀ ps qs : List Nat, val10 (ps ++ qs) = val10 ps + 10 ^ ps.length * val10 qs := by
    intro ps qs
    induction ps with
    | nil => simp [val10]
    | cons a ps ih =>
      simp only [List.cons_append, val10, ih, List.length_cons, Nat.pow_succ]
      rw [Nat.mul_add, ← Nat.mul_assoc, Nat.mul_comm (10 ^ ps.length) 10]; omega
  rw [e, hv, hr, List.length_append, hl, Nat.pow_add, h, Nat.mul_assoc, Nat.add_assoc, ← Nat.mul_add]
  congr 2
  exact (Nat.mod_add_div R 1000000000).symm

set_option maxRecDepth 100000 in
set_option maxHeartbeats 8000000 in
theorem refFormat_ok (va : Value) (xs : List Nat) (w : World) (ha : Reads w va xs) (hs : xs.length ≤ 100000) (hN : val xs < pw 512) :
    Calls Tryd.prog 39 #[va] w (FmtP w (val xs)) := by
  have HL := Lib.hid (refLarge_is false va xs w ha (by omega) (Lib.hid (decide_eq_false (by omega))))
  have HT := fun w1 (h : Add w w1) => Lib.hid (refTrim_any va xs w1 (ha.mono h) (by omega))
  obtain ⟨N, hNe⟩ : ∃ N, N = val xs := ⟨_, rfl⟩
  rw [← hNe] at hN ⊢
  simp only [← hNe] at HT
  have HNB := Lib.hid hN
  clear hNe hN ha hs
  go_enter Tryd.func39, Tryd.ntmps39
  go_wp2_with fail
  refine HL.out.mono ?_; rintro e w1 ⟨rfl, h1⟩
  go_wp2_with fail
  refine (HT _ h1).out.mono ?_; rintro e w2 ⟨x, rfl, n2, h2⟩
  replace n2 := n2.num
  replace h2 := Add.trans h1 h2
  clear h1 HT HL
  by_cases h0 : N = 0
  · have hF : FmtP w N (.returned (.tuple #[.string ⟨#[48]⟩, .int .i64 0])) w2 := ⟨_, rfl, .inl ⟨h0, rfl⟩, by decide, h2⟩
    rw [h0] at n2
    obtain ⟨ao, c, rfl⟩ := num_nil n2
    clear n2 h2 h0
    go_wp2_with fail
    go_ret2
    exact hF
  · have hst : FSt w N N x (.string ByteArray.empty) w2 := ⟨[], rfl, Digits.nil, by simp [val10], n2, h2, fun h => absurd h h0, by decide⟩
    obtain ⟨ao, n, c, rfl, hn, hn0⟩ := num_shape n2 HNB.out
    have hne : ((n : Int) == 0) = false := by rw [beq_eq_false_iff_ne]; omega
    clear n2 h2 h0 hn hn0
    go_wp2_with fail
    go_loopg [4, 5] N (fun R x s wr => ∃ xv sv : Value, xv = x ∧ sv = s ∧ FSt w N R xv sv wr ∧ R ≤ N)
    case atStart => exact ⟨_, _, rfl, rfl, hst, Nat.le_refl _⟩
    case round =>
      clear hst
      obtain ⟨xv, sv, rfl, rfl, ⟨ds, rfl, hds, hval, hnum, hadd, hne0, hdl⟩, hRN⟩ := hrel
      obtain ⟨ao', m, c', rfl, hm, hm0⟩ := num_shape hnum (Nat.lt_of_le_of_lt hRN HNB.out)
      have HVAL := Lib.hid hval
      have HDS := Lib.hid hds
      have HRN := Lib.hid hRN
      clear hval hds hRN
      by_cases hR : gk = 0
      · obtain rfl : m = 0 := hm0.2 hR
        have hv : val10 ds = N := by rw [HVAL.out, hR, Nat.mul_zero, Nat.add_zero]
        have HV := Lib.hid hv
        have hnz : ds ≠ [] := hne0 hR
        have HNZ := Lib.hid hnz
        clear hv hnz hne0 hnum hm hm0 hR
        go_wp2_with fail
        go_loopw [5] (fun s wr' => ∃ vs, s = .string (txt vs) ∧ Hid (Digits vs) ∧ Hid (val10 vs = N) ∧ Hid (vs ≠ []) ∧ vs.length ≤ 20000 ∧ wr = wr') (fun s _ => Lib.strSize s)
        case atStart => exact ⟨ds, rfl, HDS, HV, HNZ, hdl, rfl⟩
        case round =>
          obtain ⟨vs, rfl, hvd, hvv, hvn, hvl, rfl⟩ := hrel
          have hsz := txt_size vs
          rcases List.eq_nil_or_concat vs with h | ⟨us, t, h⟩
          · exact absurd h hvn.out
          · rw [List.concat_eq_append] at h
            subst h
            have hul : (us ++ [t]).length = us.length + 1 := by simp
            have h0s : 0 < (txt (us ++ [t])).size := by rw [hsz, hul]; omega
            have htop := txt_top h0s
            have ht10 : t < 10 := hvd.out t (by simp)
            have hbyte : ((txt (us ++ [t]))[0]).toNat = 48 + t := by rw [htop]; unfold chr; simp; omega
            by_cases hlen : us.length = 0
            · have hF : FmtP w N (.returned (.tuple #[.string (txt (us ++ [t])), .int .i64 0])) wr := ⟨_, rfl, fmt_end hvd.out hvv.out (.inl (by rw [hul, hlen])), by rw [hsz]; omega, hadd⟩
              have d1 : decide (1 < (txt (us ++ [t])).size) = false := by rw [hsz, hul, hlen]; rfl
              have g1 : ¬ 1 < (txt (us ++ [t])).size := by omega
              clear hbyte htop hsz hul
              go_wp2_with fail
              go_ret2
              exact hF
            · have d1 : decide (1 < (txt (us ++ [t])).size) = true := by rw [hsz, hul]; simp; omega
              have g1 : 1 < (txt (us ++ [t])).size := by omega
              by_cases ht : t = 0
              · subst ht
                have d2 : ((((txt (us ++ [0]))[0]).toNat : Int) == 48) = true := by rw [hbyte]; rfl
                have hfrom := txt_from us 0
                have h1s : 1 ≤ (txt (us ++ [0])).size := by omega
                have hd' : Hid (Digits us) := Lib.hid (fun z hz => hvd.out z (by simp [hz]))
                have hv' : Hid (val10 us = N) := Lib.hid (by have := hvv.out; rw [val10_snoc] at this; simpa using this)
                have hn' : Hid (us ≠ []) := Lib.hid (fun e => hlen (by rw [e]; rfl))
                have hsz' := Lib.hid hsz
                have hul' := Lib.hid hul
                clear hbyte htop hsz hul hvd hvv hvn
                go_wp2_with fail
                go_roundw
                case rel => exact ⟨us, rfl, hd', hv', hn', by have := hul'.out; omega, by trivial⟩
                case measure => show (txt us).size < (txt (us ++ [0])).size; rw [txt_size, txt_size, hul'.out]; omega
              · have hF : FmtP w N (.returned (.tuple #[.string (txt (us ++ [t])), .int .i64 0])) wr := ⟨_, rfl, fmt_end hvd.out hvv.out (.inr ⟨us, t, rfl, ht⟩), by rw [hsz]; omega, hadd⟩
                have d2 : ((((txt (us ++ [t]))[0]).toNat : Int) == 48) = false := by rw [hbyte, beq_eq_false_iff_ne]; omega
                clear hbyte htop hsz hul
                go_wp2_with fail
                go_ret2
                exact hF
      · have hmp : m ≠ 0 := fun h => hR (hm0.1 h)
        have hmt : decide (0 < m) = true := by simp; omega
        have hdl2 : ds.length < 32 * 512 := by
          refine ten_bound (N := N) ?_ HNB.out
          rw [HVAL.out]
          have : 10 ^ ds.length * 1 ≤ 10 ^ ds.length * gk := Nat.mul_le_mul_left _ (by omega)
          omega
        have nb9 := (num_lit wr wr.heap.size rfl 1000000000 1000000000 rfl (by decide) (by decide))
        have hA1 : Add wr (wr.alloc (.cells #[.int .u32 1000000000] 44)) := (Below.refl _ _).alloc (Nat.le_refl _) _
        have HC := Lib.hid (refDivideL (hnum.mono hA1) nb9 (Lib.hid ⟨lt_up (Nat.lt_of_le_of_lt HRN.out HNB.out) (by decide), by decide, by decide⟩))
        have hadd1 := Add.trans hadd hA1
        have HGK := Lib.hid hR
        clear nb9 hA1 hnum hadd hm hm0 hne0 hmp hR
        go_wp2_with fail
        refine HC.out.mono ?_; rintro e w3 ⟨q, r, rfl, n3, n4, h3⟩
        have hadd3 := Add.trans hadd1 h3
        obtain ⟨p, hp⟩ : ∃ p, p = gk % 1000000000 := ⟨_, rfl⟩
        rw [← hp] at n4
        have hp9 : p < 1000000000 := by omega
        replace n3 := n3.num
        replace n4 := n4.num
        have HP := Lib.hid hp
        clear HC hadd1 h3 hp
        by_cases hp0 : p = 0
        · subst hp0
          obtain ⟨ar, cr, rfl⟩ := num_nil n4
          go_wp2_with fail
          go_loopw [8, 9, 10] (fun v pt i wr => ∃ (es : List Nat) (z : Nat), v = .int .u32 (z : Nat) ∧ z < 10 ^ (9 - es.length) ∧ pt = .string (txt es) ∧ es.length ≤ 9 ∧ i = .int .i64 (es.length : Nat) ∧ Hid (Digits es) ∧ Hid (val10 es + 10 ^ es.length * z = 0) ∧ Add w3 wr) (fun _ _ i _ => 9 - (intOf i).toNat)
          case atStart => exact ⟨[], 0, rfl, by simp, rfl, by decide, rfl, Lib.hid Digits.nil, Lib.hid (by simp [val10]), Below.refl _ _⟩
          case round =>
            obtain ⟨es, z, rfl, hz, rfl, hel, rfl, hed, hev, haddi⟩ := hrel
            obtain ⟨k, hk⟩ : ∃ k, k = es.length := ⟨_, rfl⟩
            rw [← hk] at hz hel ⊢
            have HK := Lib.hid hk
            have hesz : (txt es).size ≤ 100 := by rw [txt_size]; omega
            clear hk
            by_cases hk9 : k < 9
            · have hz9 : z < 1000000000 := Nat.lt_of_lt_of_le hz (Nat.pow_le_pow_right (n := 10) (by decide) (by omega : 9 - k ≤ 9))
              have hz2 : Hid (z / 10 < 10 ^ (9 - (k + 1))) := Lib.hid (by
                apply Nat.div_lt_of_lt_mul
                rw [Nat.mul_comm, ← Nat.pow_succ, show (9 - (k + 1)).succ = 9 - k from by omega]; exact hz)
              obtain ⟨t, ht⟩ : ∃ t, t = z % 10 := ⟨_, rfl⟩
              have hti : (z : Int) % 10 = (t : Int) := by omega
              have ht10 : t < 10 := by omega
              have hconv : (convert 49 9 (.slice (some ⟨wr.heap.size, 0, none⟩) 1 1)).run Tryd.prog (wr.alloc (.cells #[.int .u8 (48 + (t : Int))] 5)) = .ok (.string (txt [t])) (wr.alloc (.cells #[.int .u8 (48 + (t : Int))] 5)) := by
                rw [← txt_one]
                exact run_convert_bytes_arg (P := Tryd.prog) _ 49 5 Tryd.underlying49 Tryd.underlying5 wr.heap.size 0 1 1 [48 + (t : Int)] rfl (fun i hi => by
                  obtain rfl : i = 0 := by omega
                  simp) 9 Tryd.underlying9
              have hta := txt_append es [t]
              have ht1 : (txt [t]).size ≤ 1 := by rw [txt_size]; simp
              have HZ := Lib.hid hz
              have ht' := Lib.hid ht
              clear hz ht
              go_wp2_with fail
              go_roundw
              case rel =>
                refine ⟨es ++ [t], z / 10, by go_num, ?_, rfl, ?_, ?_, Lib.hid (hed.out.snoc ht10), Lib.hid ?_, haddi.alloc haddi.size _⟩
                · rw [List.length_append, ← HK.out]; exact hz2.out
                · rw [List.length_append, ← HK.out]; simp; omega
                · rw [List.length_append, ← HK.out]; go_num
                · rw [ht'.out]; exact inner_step hev.out
              case measure => simp [intOf]; omega
            · obtain rfl : k = 9 := by omega
              have hz0 : z = 0 := by
                have : (10 : Nat) ^ (9 - 9) = 1 := rfl
                omega
              have hv : val10 es = 0 := by have := hev.out; rw [hz0, Nat.mul_zero, Nat.add_zero] at this; exact this
              have HO := Lib.hid (outer_step HVAL.out hv HK.out.symm HP.out)
              have hta := txt_append ds es
              have HTA := Lib.hid hta
              have hdsz : (txt ds).size ≤ 20000 := by rw [txt_size]; omega
              have hst : FSt w N (gk / 1000000000) q (.string (txt (ds ++ es))) wr := ⟨ds ++ es, rfl, fun z hz => by
                rcases List.mem_append.1 hz with h | h
                · exact HDS.out z h
                · exact hed.out z h, HO.out, n3.mono haddi, Add.trans hadd3 haddi, fun _ e => by
                  have := congrArg List.length e
                  rw [List.length_append, ← HK.out] at this
                  simp at this, by rw [List.length_append, ← HK.out]; omega⟩
              clear hz0 hv hz hev hed haddi n3 n4 hadd3
              go_wp2_with fail
              go_roundg (gk / 1000000000)
              case measure => have := HGK.out; omega
              case rel => exact ⟨q, .string (txt (ds ++ es)), rfl, rfl, hst, by have := HRN.out; omega⟩
        · obtain ⟨b3, o3, c3, rfl, hc3⟩ := num_one n4 (by omega) (by omega)
          go_wp2_with fail
          go_loopw [8, 9, 10] (fun v pt i wr => ∃ (es : List Nat) (z : Nat), v = .int .u32 (z : Nat) ∧ z < 10 ^ (9 - es.length) ∧ pt = .string (txt es) ∧ es.length ≤ 9 ∧ i = .int .i64 (es.length : Nat) ∧ Hid (Digits es) ∧ Hid (val10 es + 10 ^ es.length * z = p) ∧ Add w3 wr) (fun _ _ i _ => 9 - (intOf i).toNat)
          case atStart => exact ⟨[], p, rfl, by simp; omega, rfl, by decide, rfl, Lib.hid Digits.nil, Lib.hid (by simp [val10]), Below.refl _ _⟩
          case round =>
            obtain ⟨es, z, rfl, hz, rfl, hel, rfl, hed, hev, haddi⟩ := hrel
            obtain ⟨k, hk⟩ : ∃ k, k = es.length := ⟨_, rfl⟩
            rw [← hk] at hz hel ⊢
            have HK := Lib.hid hk
            have hesz : (txt es).size ≤ 100 := by rw [txt_size]; omega
            clear hk
            by_cases hk9 : k < 9
            · have hz9 : z < 1000000000 := Nat.lt_of_lt_of_le hz (Nat.pow_le_pow_right (n := 10) (by decide) (by omega : 9 - k ≤ 9))
              have hz2 : Hid (z / 10 < 10 ^ (9 - (k + 1))) := Lib.hid (by
                apply Nat.div_lt_of_lt_mul
                rw [Nat.mul_comm, ← Nat.pow_succ, show (9 - (k + 1)).succ = 9 - k from by omega]; exact hz)
              obtain ⟨t, ht⟩ : ∃ t, t = z % 10 := ⟨_, rfl⟩
              have hti : (z : Int) % 10 = (t : Int) := by omega
              have ht10 : t < 10 := by omega
              have hconv : (convert 49 9 (.slice (some ⟨wr.heap.size, 0, none⟩) 1 1)).run Tryd.prog (wr.alloc (.cells #[.int .u8 (48 + (t : Int))] 5)) = .ok (.string (txt [t])) (wr.alloc (.cells #[.int .u8 (48 + (t : Int))] 5)) := by
                rw [← txt_one]
                exact run_convert_bytes_arg (P := Tryd.prog) _ 49 5 Tryd.underlying49 Tryd.underlying5 wr.heap.size 0 1 1 [48 + (t : Int)] rfl (fun i hi => by
                  obtain rfl : i = 0 := by omega
                  simp) 9 Tryd.underlying9
              have hta := txt_append es [t]
              have ht1 : (txt [t]).size ≤ 1 := by rw [txt_size]; simp
              have HZ := Lib.hid hz
              have ht' := Lib.hid ht
              clear hz ht
              go_wp2_with fail
              go_roundw
              case rel =>
                refine ⟨es ++ [t], z / 10, by go_num, ?_, rfl, ?_, ?_, Lib.hid (hed.out.snoc ht10), Lib.hid ?_, haddi.alloc haddi.size _⟩
                · rw [List.length_append, ← HK.out]; exact hz2.out
                · rw [List.length_append, ← HK.out]; simp; omega
                · rw [List.length_append, ← HK.out]; go_num
                · rw [ht'.out]; exact inner_step hev.out
              case measure => simp [intOf]; omega
            · obtain rfl : k = 9 := by omega
              have hz0 : z = 0 := by
                have : (10 : Nat) ^ (9 - 9) = 1 := rfl
                omega
              have hv : val10 es = p := by have := hev.out; rw [hz0, Nat.mul_zero, Nat.add_zero] at this; exact this
              have HO := Lib.hid (outer_step HVAL.out hv HK.out.symm HP.out)
              have hta := txt_append ds es
              have HTA := Lib.hid hta
              have hdsz : (txt ds).size ≤ 20000 := by rw [txt_size]; omega
              have hst : FSt w N (gk / 1000000000) q (.string (txt (ds ++ es))) wr := ⟨ds ++ es, rfl, fun z hz => by
                rcases List.mem_append.1 hz with h | h
                · exact HDS.out z h
                · exact hed.out z h, HO.out, n3.mono haddi, Add.trans hadd3 haddi, fun _ e => by
                  have := congrArg List.length e
                  rw [List.length_append, ← HK.out] at this
                  simp at this, by rw [List.length_append, ← HK.out]; omega⟩
              clear hz0 hv hz hev hed haddi n3 n4 hadd3
              go_wp2_with fail
              go_roundg (gk / 1000000000)
              case measure => have := HGK.out; omega
              case rel => exact ⟨q, .string (txt (ds ++ es)), rfl, rfl, hst, by have := HRN.out; omega⟩
end Go.Proofs.YtjgaeodihijalaaDoor
