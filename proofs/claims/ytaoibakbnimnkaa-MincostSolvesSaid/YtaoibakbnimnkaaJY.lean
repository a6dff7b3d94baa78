/- Package container/heap over the frontier: up, down, Push, Pop. | Package container/heap over the frontier: down. | Package container/heap over the frontier: Push, Pop. -/
import Derived.Test.YtaoibakbnimnkaaJX

namespace Go.Proofs.Ytaoibakbnimnkaa
open Go.RowKit NetM

/-! ### Which function a call through the interface enters (227: the model's count of embedded interfaces, as the walk prints it) -/
theorem rcv_any (w : World) (a : Addr) (nm : String) : (receiverAt 86 (.val (.pointer (some a))) false (some nm)).run Try.prog w = (loadVar 88 a).run Try.prog w := by kernel_rfl
theorem load_front (w : World) (gn : Nat) (a : Option Addr) (n c : Nat) (hv : w.cell? ⟨gn, 0, none⟩ = some (.slice a n c)) : (loadVar 88 ⟨gn, 0, none⟩).run Try.prog w = .ok (.slice a n c) w := by
  go_simp
theorem mLen0 (w : World) (a : Addr) : (method 227 86 (.pointer (some a)) "Len").run Try.prog w = (do let v ← (receiverAt 86 (.val (.pointer (some a))) false (some (("Len".splitOn ".").getLastD "Len"))); pure (58, v) : Sem (FuncId × Value)).run Try.prog w := by kernel_rfl
theorem mLen (w : World) (gn : Nat) (a : Option Addr) (n c : Nat) (hv : w.cell? ⟨gn, 0, none⟩ = some (.slice a n c)) : (method 227 86 (.pointer (some ⟨gn, 0, none⟩)) "Len").run Try.prog w = .ok (58, .slice a n c) w := by
  rw [mLen0, Sem.run_bind, rcv_any, load_front w gn a n c hv]
  rfl
theorem mLess0 (w : World) (a : Addr) : (method 227 86 (.pointer (some a)) "Less").run Try.prog w = (do let v ← (receiverAt 86 (.val (.pointer (some a))) false (some (("Less".splitOn ".").getLastD "Less"))); pure (83, v) : Sem (FuncId × Value)).run Try.prog w := by kernel_rfl
theorem mLess (w : World) (gn : Nat) (a : Option Addr) (n c : Nat) (hv : w.cell? ⟨gn, 0, none⟩ = some (.slice a n c)) : (method 227 86 (.pointer (some ⟨gn, 0, none⟩)) "Less").run Try.prog w = .ok (83, .slice a n c) w := by
  rw [mLess0, Sem.run_bind, rcv_any, load_front w gn a n c hv]
  rfl
theorem mSwap0 (w : World) (a : Addr) : (method 227 86 (.pointer (some a)) "Swap").run Try.prog w = (do let v ← (receiverAt 86 (.val (.pointer (some a))) false (some (("Swap".splitOn ".").getLastD "Swap"))); pure (86, v) : Sem (FuncId × Value)).run Try.prog w := by kernel_rfl
theorem mSwap (w : World) (gn : Nat) (a : Option Addr) (n c : Nat) (hv : w.cell? ⟨gn, 0, none⟩ = some (.slice a n c)) : (method 227 86 (.pointer (some ⟨gn, 0, none⟩)) "Swap").run Try.prog w = .ok (86, .slice a n c) w := by
  rw [mSwap0, Sem.run_bind, rcv_any, load_front w gn a n c hv]
  rfl
theorem mPush (w : World) (a : Addr) : (method 227 86 (.pointer (some a)) "Push").run Try.prog w = .ok (85, .pointer (some a)) w := by kernel_rfl
theorem mPop (w : World) (a : Addr) : (method 227 86 (.pointer (some a)) "Pop").run Try.prog w = .ok (84, .pointer (some a)) w := by kernel_rfl

/-- The frontier in an interface. -/
def fif (gn : Nat) : Value := .iface 86 (.pointer (some ⟨gn, 0, none⟩))
/-- What up holds. -/
def UpM (w wr : World) (base gn g n cap : Nat) (h : List NC) (j : Nat) : Prop := ∃ h', FrB wr base gn g n cap h' ∧ UpI h' j ∧ h'.Perm h ∧ Off w wr gn g g
def HeapP (w : World) (base gn g n cap : Nat) (h : List NC) (e : Ending) (w' : World) : Prop := e = .returned (.tuple #[]) ∧ ∃ h', FrB w' base gn g n cap h' ∧ HeapN h' h'.length ∧ h'.Perm h ∧ Off w w' gn g g
set_option maxRecDepth 100000 in
set_option maxHeartbeats 4000000 in
theorem up_any {w : World} {base gn g n cap : Nat} {h : List NC} (f : FrB w base gn g n cap h) {j : Nat} (u : UpI h j) (hn : n ≤ 10000000000) :
    Calls Try.prog 62 #[fif gn, .int .i64 j] w (HeapP w base gn g n cap h) := by
  have HM : Hid (UpM w w base gn g n cap h j) := Lib.hid ⟨h, f, u, List.Perm.refl _, Off.refl _ _ _⟩
  unfold fif
  clear f u
  go_enter Try.func62, Try.ntmps62
  go_wp2_with fail
  go_loopw [1] (fun jv wr => ∃ j : Nat, jv = .int .i64 j ∧ Hid (UpM w wr base gn g n cap h j)) (fun jv _ => (intOf jv).toNat)
  case atStart => exact ⟨j, rfl, HM⟩
  case round =>
    clear HM
    obtain ⟨j, rfl, HM⟩ := hrel
    obtain ⟨h', hf, hu, hp, ho⟩ := HM.out
    have hjl := hu.1
    rw [← hf.2.2.1] at hjl
    have v0 := hf.var
    by_cases hj : j = 0
    · subst hj
      have HF : Hid (HeapP w base gn g n cap h (.returned (.tuple #[])) wr) := Lib.hid ⟨rfl, h', hf, hu.done (.inl rfl), hp, ho⟩
      clear hf hu hp ho HM v0
      go_wp2_with fail
      go_end0
      exact HF.out
    · have hil : (j - 1) / 2 < n := by omega
      have d0 : (((j : Int) - 1) / 2 == (j : Int)) = false := by simp; omega
      have hi : ((j : Int) - 1) / 2 = (((j - 1) / 2 : Nat) : Int) := by omega
      have HI := Lib.hid hi
      have CL : Hid (Calls Try.prog 83 #[.slice (some ⟨g, 0, none⟩) n cap, .int .i64 j, .int .i64 (((j : Int) - 1) / 2)] wr fun e w' => e = .returned (.bool (decide (key h' j < key h' ((j - 1) / 2)))) ∧ ∃ m, w' = wr.drewN m) := Lib.hid (by
        rw [hi]; exact less_any hf hjl hil)
      have ml := mLess wr gn _ _ _ v0
      have HFR := Lib.hid hf
      have HU := Lib.hid hu
      have HPE := Lib.hid hp
      have HO := Lib.hid ho
      clear hf hu hp ho HM hi
      by_cases hk : key h' j < key h' ((j - 1) / 2)
      · rw [decide_eq_true hk] at CL
        have HK := Lib.hid hk
        clear hk
        go_upto_region 2 with (go_at_call 83; refine CL.out.mono ?_; rintro e w2 ⟨rfl, m, rfl⟩)
        clear CL ml v0
        have hA : Add wr (wr.drewN m) := add_drewN _ _
        obtain ⟨W2, hW2⟩ : ∃ W2, W2 = wr.drewN m := ⟨_, rfl⟩
        rw [← hW2] at hA ⊢
        have hf2 := HFR.out.kept (grownA_of hA) (by simp) (by simp)
        have ms := mSwap W2 gn _ _ _ hf2.var
        have CS : Hid (Calls Try.prog 86 #[.slice (some ⟨g, 0, none⟩) n cap, .int .i64 (((j : Int) - 1) / 2), .int .i64 j] W2 fun e w' => e = .returned (.tuple #[]) ∧ FrB w' base gn g n cap (swp h' ((j - 1) / 2) j) ∧ Off W2 w' gn g g) := Lib.hid (by
          rw [HI.out]; exact swap_any hf2 hil hjl)
        have HNEXT : Hid (∀ w', FrB w' base gn g n cap (swp h' ((j - 1) / 2) j) → Off W2 w' gn g g → UpM w w' base gn g n cap h ((j - 1) / 2)) := Lib.hid fun w' k1 k2 => by
          have hl := HFR.out.2.2.1
          exact ⟨_, k1, HU.out.step (by omega) HK.out, (swp_perm (by omega) (by omega)).trans HPE.out, HO.out.trans ((Off.add gn g hA).trans k2)⟩
        clear hf2 hW2 hA HFR HU HPE HO HK d0
        go_wp2_with (go_at_call 86; refine CS.out.mono ?_; rintro e w3 ⟨rfl, k1, k2⟩; have HN3 := Lib.hid (HNEXT.out _ k1 k2); clear k1 k2)
        go_roundw
        case rel => exact ⟨(j - 1) / 2, by rw [HI.out], HN3⟩
        case measure => simp [intOf]; omega
      · rw [decide_eq_false hk] at CL
        have HF : Hid (∀ m, HeapP w base gn g n cap h (.returned (.tuple #[])) (wr.drewN m)) := Lib.hid fun m =>
          ⟨rfl, h', HFR.out.kept (grownA_of (add_drewN _ _)) (by simp) (by simp), HU.out.done (.inr (by omega)), HPE.out, HO.out.trans (Off.add gn g (add_drewN _ _))⟩
        clear HFR HU HPE HO hk
        go_wp2_with (go_at_call 83; refine CL.out.mono ?_; rintro e w2 ⟨rfl, m, rfl⟩)
        go_end0
        exact HF.out m
end Go.Proofs.Ytaoibakbnimnkaa

namespace Go.Proofs.Ytaoibakbnimnkaa
open Go.RowKit NetM

/-- What down holds. -/
def DownM (w wr : World) (base gn g n cap : Nat) (h : List NC) (i : Nat) : Prop := ∃ h', FrB wr base gn g (n + 1) cap h' ∧ DownI h' n i ∧ h'.Perm h ∧ gH h' n = gH h n ∧ Off w wr gn g g
def DownP (w : World) (base gn g n cap : Nat) (h : List NC) (e : Ending) (w' : World) : Prop := ∃ b h', e = .returned (.bool b) ∧ FrB w' base gn g (n + 1) cap h' ∧ HeapN h' n ∧ h'.Perm h ∧ gH h' n = gH h n ∧ Off w w' gn g g
set_option maxRecDepth 100000 in
set_option maxHeartbeats 4000000 in
theorem down_any {w : World} {base gn g n cap : Nat} {h : List NC} (f : FrB w base gn g (n + 1) cap h) (d : DownI h n 0) (hn : n ≤ 10000000000) :
    Calls Try.prog 66 #[fif gn, .int .i64 0, .int .i64 n] w (DownP w base gn g n cap h) := by
  have HM : Hid (DownM w w base gn g n cap h 0) := Lib.hid ⟨h, f, d, List.Perm.refl _, rfl, Off.refl _ _ _⟩
  unfold fif
  clear f d
  go_enter Try.func66, Try.ntmps66
  go_wp2_with fail
  go_loopw [7] (fun iv wr => ∃ i : Nat, iv = .int .i64 i ∧ (i < n ∨ i = 0) ∧ Hid (DownM w wr base gn g n cap h i)) (fun iv _ => n - (intOf iv).toNat)
  case atStart => exact ⟨0, rfl, .inr rfl, HM⟩
  case round =>
    clear HM
    obtain ⟨i, rfl, hin, HM⟩ := hrel
    obtain ⟨h', hf, hu, hp, hq, ho⟩ := HM.out
    have v0 := hf.var
    have HFR := Lib.hid hf
    have HU := Lib.hid hu
    have HPE := Lib.hid hp
    have HQ := Lib.hid hq
    have HO := Lib.hid ho
    have HHL := Lib.hid hf.2.2.1
    clear hf hu hp hq ho HM
    have W1 : IntKind.i64.wrap (2 * (i : Int)) = 2 * (i : Int) := IntWalk.i64_in _ (by omega)
    have W2' : IntKind.i64.wrap (2 * (i : Int) + 1) = 2 * (i : Int) + 1 := IntWalk.i64_in _ (by omega)
    have W3 : IntKind.i64.wrap (2 * (i : Int) + 1 + 1) = 2 * (i : Int) + 1 + 1 := IntWalk.i64_in _ (by omega)
    by_cases hj1 : 2 * i + 1 < n
    · have ml := mLess wr gn _ _ _ v0
      have e0 : decide ((n : Int) ≤ 2 * (i : Int) + 1) = false := decide_eq_false (by omega)
      have e1 : decide (2 * (i : Int) + 1 < 0) = false := decide_eq_false (by omega)
      have z1 : 2 * (i : Int) + 1 = ((2 * i + 1 : Nat) : Int) := by omega
      have z2 : 2 * (i : Int) + 1 + 1 = ((2 * i + 2 : Nat) : Int) := by omega
      have HZ1 := Lib.hid z1
      have HZ2 := Lib.hid z2
      clear z1 z2
      by_cases hj2 : 2 * i + 2 < n
      · have e2 : decide (2 * (i : Int) + 1 + 1 < (n : Int)) = true := decide_eq_true (by omega)
        have CL : Hid (Calls Try.prog 83 #[.slice (some ⟨g, 0, none⟩) (n + 1) cap, .int .i64 (2 * (i : Int) + 1 + 1), .int .i64 (2 * (i : Int) + 1)] wr fun e w' => e = .returned (.bool (decide (key h' (2 * i + 2) < key h' (2 * i + 1)))) ∧ ∃ m, w' = wr.drewN m) := Lib.hid (by
          rw [HZ1.out, show ((2 * i + 1 : Nat) : Int) + 1 = ((2 * i + 2 : Nat) : Int) by omega]; exact less_any HFR.out (by omega) (by omega))
        by_cases hk : key h' (2 * i + 2) < key h' (2 * i + 1)
        · rw [decide_eq_true hk] at CL
          have HMIN : Hid (∀ c, 0 < c → c < n → (c - 1) / 2 = i → key h' (2 * i + 2) ≤ key h' c) := Lib.hid fun c c0 hc hpc => by
            have : c = 2 * i + 1 ∨ c = 2 * i + 2 := by omega
            rcases this with rfl | rfl <;> omega
          clear hk
          go_upto_region 8 with (go_at_call 83; refine CL.out.mono ?_; rintro e w2 ⟨rfl, m0, rfl⟩)
          clear CL
          clear ml v0
          have hA : Add wr (wr.drewN m0) := add_drewN _ _
          obtain ⟨W2, hW2⟩ : ∃ W2, W2 = wr.drewN m0 := ⟨_, rfl⟩
          rw [← hW2] at hA ⊢
          have hf2 := HFR.out.kept (grownA_of hA) (by simp) (by simp)
          have HF2 := Lib.hid hf2
          have HO2 := Lib.hid (HO.out.trans (Off.add gn g hA))
          have v2 := hf2.var
          have ml2 := mLess W2 gn _ _ _ v2
          clear hf2 hA HO hW2
          have CL2 : Hid (Calls Try.prog 83 #[.slice (some ⟨g, 0, none⟩) (n + 1) cap, .int .i64 (2 * (i : Int) + 1 + 1), .int .i64 (i : Nat)] W2 fun e w' => e = .returned (.bool (decide (key h' (2 * i + 2) < key h' i))) ∧ ∃ m, w' = W2.drewN m) := Lib.hid (by
            rw [show (2 * (i : Int) + 1 + 1 : Int) = ((2 * i + 2 : Nat) : Int) by omega]; exact less_any HF2.out (by omega) (by omega))
          by_cases hk2 : key h' (2 * i + 2) < key h' i
          · rw [decide_eq_true hk2] at CL2
            have ms : ∀ m, (method 227 86 (.pointer (some ⟨gn, 0, none⟩)) "Swap").run Try.prog (W2.drewN m) = .ok (86, .slice (some ⟨g, 0, none⟩) (n + 1) cap) (W2.drewN m) := fun m => mSwap _ gn _ _ _ (HF2.out.kept (grownA_of (add_drewN _ _)) (by simp) (by simp)).var
            have CS : Hid (∀ m, Calls Try.prog 86 #[.slice (some ⟨g, 0, none⟩) (n + 1) cap, .int .i64 (i : Nat), .int .i64 (2 * (i : Int) + 1 + 1)] (W2.drewN m) fun e w' => e = .returned (.tuple #[]) ∧ FrB w' base gn g (n + 1) cap (swp h' i (2 * i + 2)) ∧ Off (W2.drewN m) w' gn g g) := Lib.hid (fun m => by
              rw [show (2 * (i : Int) + 1 + 1 : Int) = ((2 * i + 2 : Nat) : Int) by omega]; exact swap_any (HF2.out.kept (grownA_of (add_drewN _ _)) (by simp) (by simp)) (by omega) (by omega))
            have HNEXT : Hid (∀ m w', FrB w' base gn g (n + 1) cap (swp h' i (2 * i + 2)) → Off (W2.drewN m) w' gn g g → DownM w w' base gn g n cap h (2 * i + 2)) := Lib.hid fun m w' k1 k2 => by
              have hl := HHL.out
              refine ⟨_, k1, HU.out.step (by omega) (by omega) (by omega) HMIN.out hk2, (swp_perm (by omega) (by omega)).trans HPE.out, ?_, HO2.out.trans ((Off.add gn g (add_drewN _ _)).trans k2)⟩
              rw [swp_get (by omega) (by omega), if_neg (by omega), if_neg (by omega)]; exact HQ.out
            clear hk2
            go_wp2_with (first | (go_at_call 83; refine CL2.out.mono ?_; rintro e w2 ⟨rfl, m1, rfl⟩) | (go_at_call 86; refine (CS.out _).mono ?_; rintro e w3 ⟨rfl, k1, k2⟩; have HN3 := Lib.hid (HNEXT.out _ _ k1 k2); clear k1 k2))
            go_roundw
            case rel => exact ⟨2 * i + 2, by first | rfl | (congr 1; omega), .inl (by omega), HN3⟩
            case measure => simp [intOf]; omega
          · rw [decide_eq_false hk2] at CL2
            have HF : Hid (∀ b m, DownP w base gn g n cap h (.returned (.bool b)) (W2.drewN m)) := Lib.hid fun b m => ⟨b, h', rfl, HF2.out.kept (grownA_of (add_drewN _ _)) (by simp) (by simp), HU.out.done (fun c c0 hc hpc => by have := HMIN.out c c0 hc hpc; omega), HPE.out, HQ.out, HO2.out.trans (Off.add gn g (add_drewN _ _))⟩
            clear HFR HU HPE HQ HF2 HO2 hk2
            go_wp2_with (go_at_call 83; refine CL2.out.mono ?_; rintro e w2 ⟨rfl, m1, rfl⟩)
            go_ret
            exact HF.out _ _
        · rw [decide_eq_false hk] at CL
          have HMIN : Hid (∀ c, 0 < c → c < n → (c - 1) / 2 = i → key h' (2 * i + 1) ≤ key h' c) := Lib.hid fun c c0 hc hpc => by
            have : c = 2 * i + 1 ∨ c = 2 * i + 2 := by omega
            rcases this with rfl | rfl <;> omega
          clear hk
          go_upto_region 8 with (go_at_call 83; refine CL.out.mono ?_; rintro e w2 ⟨rfl, m0, rfl⟩)
          clear CL
          clear ml v0
          have hA : Add wr (wr.drewN m0) := add_drewN _ _
          obtain ⟨W2, hW2⟩ : ∃ W2, W2 = wr.drewN m0 := ⟨_, rfl⟩
          rw [← hW2] at hA ⊢
          have hf2 := HFR.out.kept (grownA_of hA) (by simp) (by simp)
          have HF2 := Lib.hid hf2
          have HO2 := Lib.hid (HO.out.trans (Off.add gn g hA))
          have v2 := hf2.var
          have ml2 := mLess W2 gn _ _ _ v2
          clear hf2 hA HO hW2
          have CL2 : Hid (Calls Try.prog 83 #[.slice (some ⟨g, 0, none⟩) (n + 1) cap, .int .i64 (2 * (i : Int) + 1), .int .i64 (i : Nat)] W2 fun e w' => e = .returned (.bool (decide (key h' (2 * i + 1) < key h' i))) ∧ ∃ m, w' = W2.drewN m) := Lib.hid (by
            rw [show (2 * (i : Int) + 1 : Int) = ((2 * i + 1 : Nat) : Int) by omega]; exact less_any HF2.out (by omega) (by omega))
          by_cases hk2 : key h' (2 * i + 1) < key h' i
          · rw [decide_eq_true hk2] at CL2
            have ms : ∀ m, (method 227 86 (.pointer (some ⟨gn, 0, none⟩)) "Swap").run Try.prog (W2.drewN m) = .ok (86, .slice (some ⟨g, 0, none⟩) (n + 1) cap) (W2.drewN m) := fun m => mSwap _ gn _ _ _ (HF2.out.kept (grownA_of (add_drewN _ _)) (by simp) (by simp)).var
            have CS : Hid (∀ m, Calls Try.prog 86 #[.slice (some ⟨g, 0, none⟩) (n + 1) cap, .int .i64 (i : Nat), .int .i64 (2 * (i : Int) + 1)] (W2.drewN m) fun e w' => e = .returned (.tuple #[]) ∧ FrB w' base gn g (n + 1) cap (swp h' i (2 * i + 1)) ∧ Off (W2.drewN m) w' gn g g) := Lib.hid (fun m => by
              rw [show (2 * (i : Int) + 1 : Int) = ((2 * i + 1 : Nat) : Int) by omega]; exact swap_any (HF2.out.kept (grownA_of (add_drewN _ _)) (by simp) (by simp)) (by omega) (by omega))
            have HNEXT : Hid (∀ m w', FrB w' base gn g (n + 1) cap (swp h' i (2 * i + 1)) → Off (W2.drewN m) w' gn g g → DownM w w' base gn g n cap h (2 * i + 1)) := Lib.hid fun m w' k1 k2 => by
              have hl := HHL.out
              refine ⟨_, k1, HU.out.step (by omega) (by omega) (by omega) HMIN.out hk2, (swp_perm (by omega) (by omega)).trans HPE.out, ?_, HO2.out.trans ((Off.add gn g (add_drewN _ _)).trans k2)⟩
              rw [swp_get (by omega) (by omega), if_neg (by omega), if_neg (by omega)]; exact HQ.out
            clear hk2
            go_wp2_with (first | (go_at_call 83; refine CL2.out.mono ?_; rintro e w2 ⟨rfl, m1, rfl⟩) | (go_at_call 86; refine (CS.out _).mono ?_; rintro e w3 ⟨rfl, k1, k2⟩; have HN3 := Lib.hid (HNEXT.out _ _ k1 k2); clear k1 k2))
            go_roundw
            case rel => exact ⟨2 * i + 1, by first | rfl | (congr 1; omega), .inl (by omega), HN3⟩
            case measure => simp [intOf]; omega
          · rw [decide_eq_false hk2] at CL2
            have HF : Hid (∀ b m, DownP w base gn g n cap h (.returned (.bool b)) (W2.drewN m)) := Lib.hid fun b m => ⟨b, h', rfl, HF2.out.kept (grownA_of (add_drewN _ _)) (by simp) (by simp), HU.out.done (fun c c0 hc hpc => by have := HMIN.out c c0 hc hpc; omega), HPE.out, HQ.out, HO2.out.trans (Off.add gn g (add_drewN _ _))⟩
            clear HFR HU HPE HQ HF2 HO2 hk2
            go_wp2_with (go_at_call 83; refine CL2.out.mono ?_; rintro e w2 ⟨rfl, m1, rfl⟩)
            go_ret
            exact HF.out _ _
      · have e2 : decide (2 * (i : Int) + 1 + 1 < (n : Int)) = false := decide_eq_false (by omega)
        have HMIN : Hid (∀ c, 0 < c → c < n → (c - 1) / 2 = i → key h' (2 * i + 1) ≤ key h' c) := Lib.hid fun c c0 hc hpc => by
          obtain rfl : c = 2 * i + 1 := by omega
          exact Int.le_refl _
        go_upto_region 8 with fail
        obtain ⟨m0, hm0⟩ : ∃ m0 : Nat, m0 = 0 := ⟨_, rfl⟩
        clear hm0
        clear ml v0
        have hA : Add wr wr := add_refl _
        obtain ⟨W2, hW2⟩ : ∃ W2, W2 = wr := ⟨_, rfl⟩
        rw [← hW2]
        rw (occs := [2]) [← hW2] at hA
        have hf2 := HFR.out.kept (grownA_of hA) (by simp) (by simp)
        have HF2 := Lib.hid hf2
        have HO2 := Lib.hid (HO.out.trans (Off.add gn g hA))
        have v2 := hf2.var
        have ml2 := mLess W2 gn _ _ _ v2
        clear hf2 hA HO hW2
        have CL2 : Hid (Calls Try.prog 83 #[.slice (some ⟨g, 0, none⟩) (n + 1) cap, .int .i64 (2 * (i : Int) + 1), .int .i64 (i : Nat)] W2 fun e w' => e = .returned (.bool (decide (key h' (2 * i + 1) < key h' i))) ∧ ∃ m, w' = W2.drewN m) := Lib.hid (by
          rw [show (2 * (i : Int) + 1 : Int) = ((2 * i + 1 : Nat) : Int) by omega]; exact less_any HF2.out (by omega) (by omega))
        by_cases hk2 : key h' (2 * i + 1) < key h' i
        · rw [decide_eq_true hk2] at CL2
          have ms : ∀ m, (method 227 86 (.pointer (some ⟨gn, 0, none⟩)) "Swap").run Try.prog (W2.drewN m) = .ok (86, .slice (some ⟨g, 0, none⟩) (n + 1) cap) (W2.drewN m) := fun m => mSwap _ gn _ _ _ (HF2.out.kept (grownA_of (add_drewN _ _)) (by simp) (by simp)).var
          have CS : Hid (∀ m, Calls Try.prog 86 #[.slice (some ⟨g, 0, none⟩) (n + 1) cap, .int .i64 (i : Nat), .int .i64 (2 * (i : Int) + 1)] (W2.drewN m) fun e w' => e = .returned (.tuple #[]) ∧ FrB w' base gn g (n + 1) cap (swp h' i (2 * i + 1)) ∧ Off (W2.drewN m) w' gn g g) := Lib.hid (fun m => by
            rw [show (2 * (i : Int) + 1 : Int) = ((2 * i + 1 : Nat) : Int) by omega]; exact swap_any (HF2.out.kept (grownA_of (add_drewN _ _)) (by simp) (by simp)) (by omega) (by omega))
          have HNEXT : Hid (∀ m w', FrB w' base gn g (n + 1) cap (swp h' i (2 * i + 1)) → Off (W2.drewN m) w' gn g g → DownM w w' base gn g n cap h (2 * i + 1)) := Lib.hid fun m w' k1 k2 => by
            have hl := HHL.out
            refine ⟨_, k1, HU.out.step (by omega) (by omega) (by omega) HMIN.out hk2, (swp_perm (by omega) (by omega)).trans HPE.out, ?_, HO2.out.trans ((Off.add gn g (add_drewN _ _)).trans k2)⟩
            rw [swp_get (by omega) (by omega), if_neg (by omega), if_neg (by omega)]; exact HQ.out
          clear hk2
          go_wp2_with (first | (go_at_call 83; refine CL2.out.mono ?_; rintro e w2 ⟨rfl, m1, rfl⟩) | (go_at_call 86; refine (CS.out _).mono ?_; rintro e w3 ⟨rfl, k1, k2⟩; have HN3 := Lib.hid (HNEXT.out _ _ k1 k2); clear k1 k2))
          go_roundw
          case rel => exact ⟨2 * i + 1, by first | rfl | (congr 1; omega), .inl (by omega), HN3⟩
          case measure => simp [intOf]; omega
        · rw [decide_eq_false hk2] at CL2
          have HF : Hid (∀ b m, DownP w base gn g n cap h (.returned (.bool b)) (W2.drewN m)) := Lib.hid fun b m => ⟨b, h', rfl, HF2.out.kept (grownA_of (add_drewN _ _)) (by simp) (by simp), HU.out.done (fun c c0 hc hpc => by have := HMIN.out c c0 hc hpc; omega), HPE.out, HQ.out, HO2.out.trans (Off.add gn g (add_drewN _ _))⟩
          clear HFR HU HPE HQ HF2 HO2 hk2
          go_wp2_with (go_at_call 83; refine CL2.out.mono ?_; rintro e w2 ⟨rfl, m1, rfl⟩)
          go_ret
          exact HF.out _ _
    · have e0 : decide ((n : Int) ≤ 2 * (i : Int) + 1) = true := decide_eq_true (by omega)
      have HF : Hid (∀ b, DownP w base gn g n cap h (.returned (.bool b)) wr) := Lib.hid fun b => ⟨b, h', rfl, HFR.out, HU.out.done (fun c c0 hc hpc => by omega), HPE.out, HQ.out, HO.out⟩
      clear HFR HU HPE HQ HO
      go_wp2_with fail
      go_ret
      exact HF.out _
end Go.Proofs.Ytaoibakbnimnkaa

namespace Go.Proofs.Ytaoibakbnimnkaa
open Go.RowKit NetM

def HPushP (w : World) (base gn g n : Nat) (h : List NC) (x : NC) (e : Ending) (w' : World) : Prop := e = .returned (.tuple #[]) ∧ ∃ g' cap' h', FrB w' base gn g' (n + 1) cap' h' ∧ PushH h x h' ∧ Off w w' gn g g'
def HPopP (w : World) (base gn g n cap : Nat) (h : List NC) (e : Ending) (w' : World) : Prop := ∃ r h', e = .returned (ncv r) ∧ FrB w' base gn g n cap h' ∧ PopH h r h' ∧ Off w w' gn g g
set_option maxRecDepth 100000 in
set_option maxHeartbeats 4000000 in
theorem hpush_any {w : World} {base gn g n cap : Nat} {h : List NC} (f : FrB w base gn g n cap h) (hh : HeapN h h.length) (hn : n ≤ 5000000000) (hbw : base ≤ w.heap.size) (x : NC) :
    Calls Try.prog 57 #[fif gn, ncv x] w (HPushP w base gn g n h x) := by
  have CP : Hid (Calls Try.prog 85 #[.pointer (some ⟨gn, 0, none⟩), ncv x] w fun e w' => e = .returned (.tuple #[]) ∧ ∃ g' cap', FrB w' base gn g' (n + 1) cap' (h ++ [x]) ∧ Off w w' gn g g') := Lib.hid (fpush_any f (by omega) hbw x.1 x.2)
  have HN : Hid (n = h.length) := Lib.hid f.2.2.1
  have HH := Lib.hid hh
  have mp := mPush w ⟨gn, 0, none⟩
  obtain ⟨v, hv⟩ : ∃ v, v = ncv x := ⟨_, rfl⟩
  rw [← hv] at CP ⊢
  unfold fif
  clear f hh hv
  go_enter Try.func57, Try.ntmps57
  go_upto_region 1 with (go_at_call 85; refine CP.out.mono ?_; rintro e w2 ⟨rfl, g2, cap2, f2, o2⟩; have HF2 := Lib.hid f2; have HO2 := Lib.hid o2; clear f2 o2)
  have ml := mLen w2 gn _ _ _ HF2.out.var
  have CU := Lib.hid (up_any HF2.out (j := n) (by have := UpI.start HH.out x; rw [HN.out]; exact this) (by omega))
  unfold fif at CU
  have HFIN : Hid (∀ w', HeapP w2 base gn g2 (n + 1) cap2 (h ++ [x]) (.returned (.tuple #[])) w' → HPushP w base gn g n h x (.returned (.tuple #[])) w') := Lib.hid fun w' k => by
    obtain ⟨-, h', k1, k2, k3, k4⟩ := k
    exact ⟨rfl, g2, cap2, h', k1, ⟨k2, k3.trans (List.perm_append_singleton _ _)⟩, HO2.out.trans k4⟩
  clear mp CP
  go_wp2_with (first | (go_at_call 58; refine len_any.mono ?_; rintro e w3 ⟨rfl, rfl⟩) | (go_at_call 62; refine CU.out.mono ?_; rintro e w3 k; obtain rfl := k.1; have HK := Lib.hid (HFIN.out _ k); clear k))
  go_end0
  exact HK.out
set_option maxRecDepth 100000 in
set_option maxHeartbeats 4000000 in
theorem hpop_any {w : World} {base gn g n cap : Nat} {h : List NC} (f : FrB w base gn g (n + 1) cap h) (hh : HeapN h h.length) (hn : n ≤ 5000000000) :
    Calls Try.prog 63 #[fif gn] w (HPopP w base gn g n cap h) := by
  have HN : Hid (n + 1 = h.length) := Lib.hid f.2.2.1
  have HH := Lib.hid hh
  have ml := mLen w gn _ _ _ f.var
  have ms := mSwap w gn _ _ _ f.var
  have CS := Lib.hid (swap_any f (i := 0) (j := n) (by omega) (by omega))
  unfold fif
  clear f hh
  go_enter Try.func63, Try.ntmps63
  go_upto_region 3 with (first | (go_at_call 58; refine len_any.mono ?_; rintro e w ⟨rfl, rfl⟩) | (go_at_call 86; refine CS.out.mono ?_; rintro e w2 ⟨rfl, f2, o2⟩; have HF2 := Lib.hid f2; have HO2 := Lib.hid o2; clear f2 o2))
  have CD := Lib.hid (down_any HF2.out (DownI.start HH.out HN.out) (by omega))
  unfold fif at CD
  have mp := mPop
  have CP : Hid (∀ w' h', FrB w' base gn g (n + 1) cap h' → Calls Try.prog 84 #[.pointer (some ⟨gn, 0, none⟩)] w' fun e w'' => e = .returned (ncv (gH h' n)) ∧ FrB w'' base gn g n cap (h'.take n) ∧ Off w' w'' gn g g) := Lib.hid fun w' h' k => fpop_any k
  have HFIN : Hid (∀ w3 h3 w4, HeapN h3 n → h3.Perm (swp h 0 n) → gH h3 n = gH (swp h 0 n) n → Off w w3 gn g g → FrB w4 base gn g n cap (h3.take n) → Off w3 w4 gn g g → HPopP w base gn g n cap h (.returned (ncv (gH h3 n))) w4) := Lib.hid fun w3 h3 w4 k1 k2 k3 k4 k5 k6 => by
    have hl := HN.out
    have e : gH (swp h 0 n) n = gH h 0 := by rw [swp_get (by omega) (by omega), if_pos rfl]
    have hp := pop_of HH.out hl (k2.trans (swp_perm (by omega) (by omega))) k1 (by rw [k3, e])
    rw [k3, e]
    exact ⟨_, _, rfl, k5, hp, k4.trans k6⟩
  clear ml ms CS
  go_wp2_with (first | (go_at_call 66; refine CD.out.mono ?_; rintro e w3 ⟨b, h3, rfl, k1, k2, k3, k4, k5⟩; have HK1 := Lib.hid k1; have HK := Lib.hid (And.intro k2 (And.intro k3 (And.intro k4 k5))); clear k1 k2 k3 k4 k5) | (go_at_call 84; refine (CP.out _ _ HK1.out).mono ?_; rintro e w4 ⟨rfl, k6, k7⟩; have HR := Lib.hid (HFIN.out _ _ _ HK.out.1 HK.out.2.1 HK.out.2.2.1 (HO2.out.trans HK.out.2.2.2) k6 k7); clear k6 k7))
  go_ret
  exact HR.out
end Go.Proofs.Ytaoibakbnimnkaa
