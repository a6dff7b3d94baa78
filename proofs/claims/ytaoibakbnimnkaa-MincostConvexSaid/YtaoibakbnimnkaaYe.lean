/- Package mincost: balance. -/
import Derived.Test.YtaoibakbnimnkaaJZ
namespace Go.Proofs.Ytaoibakbnimnkaa
open Go.RowKit NetM

theorem zeroCells_bool (n : Nat) : (Builtin.zeroCells #[Value.bool false] n).toList = List.replicate n (Value.bool false) := by
  refine List.ext_getElem (by simp [Builtin.zeroCells]) fun i h1 h2 => ?_
  simp [Builtin.zeroCells, Nat.mod_one]
theorem clear_run {w : World} {g N c : Nat} {T : List Bool} (h : BBlk w g T) (hT : T.length = N) (h0 : 0 < N) (ty : TypeId) :
    ∃ w', (Builtin.clear_ #[46] ty #[.slice (some ⟨g, 0, none⟩) N c]).run Try.prog w = .ok (.tuple #[]) w' ∧ w' = w.setRow g (List.replicate N (Value.bool false)).toArray := by
  refine ⟨_, ?_, rfl⟩
  obtain ⟨n, rfl⟩ : ∃ n, N = n + 1 := ⟨N - 1, by omega⟩
  have hst := run_storeCells_at Try.prog g 0 4 (List.replicate (n + 1) (Value.bool false)) 0 _ w h (by simp; omega) (fun v hv => by rw [List.eq_of_mem_replicate hv]; rfl)
  have hd : List.drop (n + 1) (T.map bv) = [] := List.drop_eq_nil_of_le (by simp; omega)
  simp only [List.length_replicate, Nat.zero_add, List.take_zero, List.nil_append, hd, List.append_nil] at hst
  obtain ⟨i, hi, hz⟩ : ∃ i, Try.prog.info? 4 = some i ∧ i.zero = some (.bool false) := by
    have : (Try.prog.info? 4).map (fun i => i.zero) = some (some (.bool false)) := by kernel_rfl
    cases hq : Try.prog.info? 4 with
    | none => rw [hq] at this; cases this
    | some i => rw [hq] at this; exact ⟨i, rfl, Option.some.inj this⟩
  simp [Builtin.clear_, run_underlying Try.underlying46, zeroValue, typeInfo, hi, hz]
  have e : (Builtin.zeroCells (Value.bool false).cells (n + 1)).toList = List.replicate (n + 1) (Value.bool false) := zeroCells_bool (n + 1)
  rw [e, hst]
  simp
/-- All marks are taken off. -/
theorem CB.clear {w0 w : World} {A0 A : List Arc} {N gr ga gs gf gp gx gt : Nat} {va sv : Value} {R : Nat → Int} {P X : List Int} {T : List Bool} (h : CB w0 w A0 A N gr ga gs gf gp gx gt va sv R P X T) :
    CB w0 (w.setRow gt (List.replicate N (Value.bool false)).toArray) A0 A N gr ga gs gf gp gx gt va sv R P X (List.replicate N false) := by
  obtain ⟨h1, h2, h3, h4, h5, h6, h7, h8, h9, h10, h11, h12, h13, h14, h15, h16, h17⟩ := h
  have hg : w.grownBy (w.setRow gt (List.replicate N (Value.bool false)).toArray) (some gt) := ⟨rfl, rfl, rfl, by simp [World.setRow], fun k _ hk => setRow_other w gt k _ (fun e => hk (by rw [e]))⟩
  obtain ⟨cs, hcs⟩ := h3.blk
  obtain ⟨cf, hcf⟩ := h4.blk
  obtain ⟨ca, hca⟩ := h2.blk
  refine ⟨h1.kept hg (fun e => ty_ne h7 h1 (by decide) (Option.some.inj e)), h2.kept hg (fun e => ty_ne h7 hca (by decide) (Option.some.inj e)), h3.kept hg (fun e => ty_ne h7 hcs (by decide) (Option.some.inj e)), h4.kept hg (far_ty h7 (by decide) (ty_ne h7 hcf (by decide))),
    Blk.kept h5 hg (fun e => ty_ne h7 h5 (by decide) (Option.some.inj e).symm), Blk.kept h6 hg (fun e => ty_ne h7 h6 (by decide) (Option.some.inj e).symm), ?_,
    h8, h9, by simp, h11, Below.trans h12 ⟨rfl, rfl, rfl, by simp [World.setRow], fun k hk => setRow_other w gt k _ (by omega)⟩, h13, h14, h15, h16, h17⟩
  unfold BBlk Blk
  rw [setRow_heap w gt _ _ _ _ h7]
  simp [bv]
def BalP (w0 : World) (A0 : List Arc) (N d : Nat) (L : Int) (gr ga gs gf gp gx gt : Nat) (va sv : Value) (e : Ending) (w' : World) : Prop :=
  e = .returned (.tuple #[]) ∧ ∃ F X P T, BalI A0 N d L F X P ∧ (∀ x, x < N → ¬ 0 < X.getD x 0) ∧ CB w0 w' A0 (Ad A0 d) N gr ga gs gf gp gx gt va sv (roomS (Ad A0 d) F) P X T
def BalM (w0 wr : World) (A0 : List Arc) (N d : Nat) (L : Int) (gr ga gs gf gp gx gt : Nat) (va sv : Value) (k : Nat) : Prop :=
  ∃ F X P T, BalI A0 N d L F X P ∧ CB w0 wr A0 (Ad A0 d) N gr ga gs gf gp gx gt va sv (roomS (Ad A0 d) F) P X T ∧ posX X N ≤ (k : Int)
def RndM (w0 wr : World) (A0 : List Arc) (N d : Nat) (gr ga gs gf gp gx gt : Nat) (va sv : Value) (P F X : List Int) (k : Nat) : Prop :=
  ∃ F1 X1 T1, RoundI (Ad A0 d) N P F X k F1 X1 T1 ∧ CB w0 wr A0 (Ad A0 d) N gr ga gs gf gp gx gt va sv (roomS (Ad A0 d) F1) P X1 T1
theorem cir_ad {A : List Arc} {N : Nat} (h : Cir A N) (d : Nat) : Cir (Ad A d) N where
  ok := Ad_okN h.ok d
  len := by rw [Ad_len]; exact h.len
  nN := h.nN
  cap := fun i hi => by
    rw [Ad_len] at hi
    rw [Ad_at]
    have := h.cap i hi
    show 0 ≤ (at' A i).2.2.1 / 2 ^ d ∧ (at' A i).2.2.1 / 2 ^ d < 4294967296
    have h1 : (at' A i).2.2.1 / 2 ^ d ≤ (at' A i).2.2.1 := Int.ediv_le_self _ this.1
    have h2 : 0 ≤ (at' A i).2.2.1 / 2 ^ d := Int.ediv_nonneg this.1 (Int.le_of_lt (Int.pow_pos (by decide)))
    omega
  cst := fun j hj => by rw [Ad_cost]; rw [Ad_len] at hj; exact h.cst j hj
  wt := by
    obtain ⟨w, w0, w1, w2⟩ := h.wt
    exact ⟨w, w0, fun j hj => by rw [Ad_cost, Ad_tn]; rw [Ad_len] at hj; exact w1 j hj, w2⟩
theorem bal_pbb {A N d L F X P} (h : BalI A N d L F X P) : ∀ x, x < N → -200000000 ≤ P.getD x 0 ∧ P.getD x 0 ≤ 200000000 := fun x hx => by
  have := h.pb x hx
  have := h.lb
  omega
set_option maxRecDepth 100000 in
set_option maxHeartbeats 4000000 in
theorem balance_any {w0 w : World} {A0 : List Arc} {N d gr ga gs gf gp gx gt : Nat} {L : Int} {va sv : Value} {F X P : List Int} {T : List Bool} (hCB : CB w0 w A0 (Ad A0 d) N gr ga gs gf gp gx gt va sv (roomS (Ad A0 d) F) P X T) (hB : BalI A0 N d L F X P)
    (hc : Cir A0 N) (hN0 : 0 < N) : Calls Try.prog 50 #[.pointer (some ⟨gr, 0, none⟩)] w (BalP w0 A0 N d L gr ga gs gf gp gx gt va sv) := by
  obtain ⟨K0, hK0⟩ : ∃ K0 : Nat, posX X N ≤ (K0 : Int) := ⟨(posX X N).toNat, by omega⟩
  have HM0 : Hid (BalM w0 w A0 N d L gr ga gs gf gp gx gt va sv K0) := Lib.hid ⟨F, X, P, T, hB, hCB, hK0⟩
  have HC := Lib.hid hc
  have hN7 := hc.nN
  clear hCB hB hc hK0
  go_enter Try.func50, Try.ntmps50
  go_wp2_with fail
  go_loopg [] K0 (fun k wr => Hid (BalM w0 wr A0 N d L gr ga gs gf gp gx gt va sv k))
  case atStart => exact HM0
  case round =>
    clear HM0
    obtain ⟨F, X, P, T, hB, hCB, hk⟩ := hrel.out
    have hcd := cir_ad HC.out d
    have CA := approach_any hCB hcd (bal_pbb hB) hB.wi hB.fine hB.bal (hB.redB HC.out) hN0
    by_cases hx : ∃ x, x < N ∧ 0 < X.getD x 0
    · have CA1 : Hid (Calls Try.prog 54 #[.pointer (some ⟨gr, 0, none⟩)] wr fun e w' => e = .returned (.bool true) ∧ ∃ V P', NewP (Ad A0 d) F P X N V P' ∧ CB w0 w' A0 (Ad A0 d) N gr ga gs gf gp gx gt va sv (roomS (Ad A0 d) F) P' X T) := Lib.hid (CA.mono fun e w' h => by
        rcases h with ⟨-, h1, -⟩ | ⟨h1, h2⟩
        · obtain ⟨x, hx1, hx2⟩ := hx
          exact absurd hx2 (h1 x hx1)
        · exact ⟨h1, h2⟩)
      have HB := Lib.hid hB
      have HK := Lib.hid hk
      clear CA hB hCB hk hcd hrel hx
      go_upto_region 1 with (go_at_call 54; refine CA1.out.mono ?_; rintro e w2 ⟨rfl, V, P', k1, k2⟩; have HNP := Lib.hid k1; have HCB2 := Lib.hid k2; clear k1 k2)
      have hB2 := HB.out.approach HC.out HNP.out
      have hTl := HCB2.out.2.2.2.2.2.2.2.2.2.1
      obtain ⟨w3, hcl, hw3⟩ := clear_run (c := N) HCB2.out.2.2.2.2.2.2.1 hTl hN0 0
      have hCB3 := HCB2.out.clear
      rw [← hw3] at hCB3
      have HR0 : Hid (RndM w0 w3 A0 N d gr ga gs gf gp gx gt va sv P' F X 0) := Lib.hid ⟨F, X, List.replicate N false, RoundI.start hB2.wi hB2.fine hB2.bal, hCB3⟩
      have HB2 := Lib.hid hB2
      have c5 := HCB2.out.1.c5
      have l1 := HCB2.out.1.lt
      have c4 := hCB3.1.c4
      have l2 := hCB3.1.lt
      clear CA1 hw3 hCB3 hB2 HB HCB2 hTl
      go_upto_region 2 with fail
      clear hcl c5
      go_wp2_with fail
      clear c4 l1 l2
      go_loopw [15] (fun iv wr => ∃ k : Nat, k ≤ N ∧ iv = .int .i64 k ∧ Hid (RndM w0 wr A0 N d gr ga gs gf gp gx gt va sv P' F X k)) (fun iv _ => N - (intOf iv).toNat)
      case atStart => exact ⟨0, Nat.zero_le _, rfl, HR0⟩
      case round =>
        clear HR0
        obtain ⟨k, hk, rfl, HR⟩ := hrel
        obtain ⟨F1, X1, T1, hRi, hC⟩ := HR.out
        by_cases hlt : k < N
        · have xr : wr.cell? ⟨gx, k, none⟩ = some (.int .i64 (X1.getD k 0)) := IBlk.get hC.2.2.2.2.2.1 k (by rw [hC.2.2.2.2.2.2.2.2.1]; exact hlt)
          have l2 := Blk.lt hC.2.2.2.2.2.1
          have HSK : Hid (¬ 0 < X1.getD k 0 → RndM w0 wr A0 N d gr ga gs gf gp gx gt va sv P' F X (k + 1)) := Lib.hid fun h => ⟨F1, X1, T1, hRi.skip h, hC⟩
          have CSD : Hid (0 < X1.getD k 0 → Calls Try.prog 55 #[.pointer (some ⟨gr, 0, none⟩), .int .i64 k, .int .i64 (X1.getD k 0)] wr fun e w' => (∃ p, e = .returned (.int .i64 p)) ∧ RndM w0 w' A0 N d gr ga gs gf gp gx gt va sv P' F X (k + 1)) := Lib.hid fun h => by
            have hb := bal_bound (cir_ad HC.out d) hRi.wi hRi.bal k hlt
            refine (send_any (cir_ad HC.out d) (bal_pbb HB2.out) (N - cnt (T1.set k true) + 1) k _ F1 X1 T1 wr (Nat.lt_succ_self _) hlt h (by omega) hRi.wi hRi.fine hRi.bal hC).mono ?_
            rintro e w' ⟨p, F', X', T', rfl, k1, k2, -⟩
            exact ⟨⟨p, rfl⟩, F', X', T', hRi.send hlt h k1, k2⟩
          obtain ⟨xv, hxv⟩ : ∃ xv, xv = X1.getD k 0 := ⟨_, rfl⟩
          rw [← hxv] at xr HSK CSD
          clear hRi hC HR hxv
          by_cases hp : 0 < xv
          · have d1 : decide (0 < xv) = true := decide_eq_true hp
            have CS2 := Lib.hid (CSD.out hp)
            clear CSD HSK
            go_wp2_with (go_at_call 55; refine CS2.out.mono ?_; rintro e w9 ⟨⟨p, rfl⟩, k9⟩; have HK9 := Lib.hid k9; clear k9)
            go_roundw
            case rel => exact ⟨k + 1, by omega, by go_num, HK9⟩
            case measure => simp [intOf]; omega
          · have d1 : decide (0 < xv) = false := decide_eq_false hp
            have HK9 := Lib.hid (HSK.out hp)
            clear CSD HSK
            go_wp2_with fail
            go_roundw
            case rel => exact ⟨k + 1, by omega, by go_num, HK9⟩
            case measure => simp [intOf]; omega
        · obtain rfl : k = N := by omega
          have hfin := HB2.out.round HC.out HNP.out hRi
          have hpn := posX_nonneg X1 k
          have HKK := HK.out
          have HN2 : Hid (BalM w0 wr A0 k d L gr ga gs gf gp gx gt va sv (gk - 1)) := Lib.hid ⟨F1, X1, P', T1, hfin.1, hC, by have := hfin.2; omega⟩
          have HPOS : Hid (0 < gk) := Lib.hid (by have := hfin.2; omega)
          clear hfin hpn HKK hRi hC HR
          go_wp2_with fail
          go_roundg (gk - 1)
          case measure => have := HPOS.out; omega
          case rel => exact HN2
    · have CA0 : Hid (Calls Try.prog 54 #[.pointer (some ⟨gr, 0, none⟩)] wr fun e w' => e = .returned (.bool false) ∧ CB w0 w' A0 (Ad A0 d) N gr ga gs gf gp gx gt va sv (roomS (Ad A0 d) F) P X T) := Lib.hid (CA.mono fun e w' h => by
        rcases h with ⟨h1, -, h2⟩ | ⟨-, V, P', h1, -⟩
        · exact ⟨h1, h2⟩
        · exact (h1.path (S := fun _ => false) (fun x hx1 hx2 => absurd ⟨x, hx1, hx2⟩ hx) (fun x _ h => by cases h) (fun j _ h => by cases h)).elim)
      have HF : Hid (∀ w', CB w0 w' A0 (Ad A0 d) N gr ga gs gf gp gx gt va sv (roomS (Ad A0 d) F) P X T → BalP w0 A0 N d L gr ga gs gf gp gx gt va sv (.returned (.tuple #[])) w') := Lib.hid fun w' h => ⟨rfl, F, X, P, T, hB, fun x h1 h2 => hx ⟨x, h1, h2⟩, h⟩
      clear CA hB hCB hk hcd hrel hx
      go_wp2_with (go_at_call 54; refine CA0.out.mono ?_; rintro e w2 ⟨rfl, k1⟩; have HR := Lib.hid (HF.out _ k1); clear k1)
      go_end0
      exact HR.out
end Go.Proofs.Ytaoibakbnimnkaa
