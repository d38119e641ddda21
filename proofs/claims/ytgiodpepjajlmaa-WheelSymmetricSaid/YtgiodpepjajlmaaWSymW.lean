/-
  Stage 7: the walk of WheelSymmetric.
-/
import Derived.Test.YtgiodpepjajlmaaWSane
import Derived.Test.YtgiodpepjajlmaaCMkW
set_option linter.unusedSimpArgs false
set_option linter.unusedVariables false
namespace Go.Proofs.Ytgiodpepjajlmaa
open Go.RowKit

set_option maxHeartbeats 3200000 in
theorem sym_walk (a : Option Addr) (len cap : Nat) (zs : List Int) (w : World) (h : IsRow .i64 w a len cap zs) :
    Calls Try.prog 5 #[.slice a len cap] w fun e w' => e = .returned (.bool true) ∧ Below w.heap.size w w' := by
  have HK := Lib.hid (mk_new (T := 59) h)
  have HB0 := Lib.hid (box1W w (.cells #[.slice a len cap, .int .i64 0] 59))
  clear h
  go_enter Try.func5, Try.ntmps5
  go_wp2_with fail
  refine (new_any a len cap w).mono ?_
  rintro e w1 ⟨rfl, rfl⟩
  go_wp2_with fail
  refine (mwagon_any w.heap.size 0 1 _ HK.out (by decide) (by decide) (by decide)).mono ?_
  rintro e w2 ⟨x, rfl, hx, k2, m2⟩
  have HB2 := Lib.hid (Moves.below HB0.out m2 (Nat.le_refl _) HB0.out.size)
  have HX := Lib.hid hx.1
  clear hx k2 m2 HK HB0
  go_wp2_with fail
  have HC := Lib.hid (newW w2 x 30 w2.heap.size rfl)
  have HB3 := Lib.hid (HB2.out.alloc HB2.out.size (.cells #[.string x.num, .int .i64 x.len, .int .i64 x.axl, .int .i64 x.mas, .int .i64 x.brk, .int .i64 x.gds, .bool x.gen, .string x.dst] 30))
  refine (poff_any x _).mono ?_
  rintro e w3 ⟨v, rfl, O, B⟩
  have HC3 := Lib.hid (HC.out.below B)
  have HB4 := Lib.hid (HB3.out.trans (B.mono HB3.out.size))
  have e2 := offR_ok HX.out
  rw [e2] at O ⊢
  have O := Lib.hid O
  clear e2 B HC HB3 HB2
  obtain ⟨hA, hl, hl2, hl6⟩ := offW_asc HX.out
  obtain ⟨x1, x2, -, x4⟩ := validW_len HX.out
  have hab := axlK_bd (knW x)
  rw [← x4] at hab
  obtain ⟨os, hos⟩ : ∃ os, os = offW x := ⟨_, rfl⟩
  simp only [← hos] at O hA hl hl2 hl6
  have HA := Lib.hid hA
  obtain ⟨A1, c1, rfl, R1⟩ := OwnI.read O.out
  have HR1 := Lib.hid R1
  obtain ⟨n, hn⟩ : ∃ n, n = os.length := ⟨_, rfl⟩
  have HN := Lib.hid hn
  rw [← hn] at hl hl2 hl6 ⊢
  have hax : x.axl = (n : Int) := by omega
  obtain ⟨c0, c1', c2', -⟩ := WBlk.of HC3.out
  rw [hax] at c2'
  obtain ⟨F, hF⟩ : ∃ F, F = 10 * x.len := ⟨_, rfl⟩
  have HF := Lib.hid hF
  have f1 : 800 ≤ F := by omega
  have f2 : F ≤ 4000 := by omega
  have HPL := Lib.hid (show ∀ j, j < n → 0 < os.getD j 0 ∧ os.getD j 0 < F from fun j hj => by rw [HF.out]; exact HA.out.pos j (by rw [← HN.out]; exact hj))
  have HUP := Lib.hid (show ∀ j, j + 1 < n → os.getD j 0 < os.getD (j + 1) 0 from fun j hj => HA.out.up j (by rw [← HN.out]; exact hj))
  have HSY := Lib.hid (show ∀ j, j < n → os.getD j 0 + os.getD (n - 1 - j) 0 = F from fun j hj => by rw [HF.out, HN.out]; exact HA.out.sym j (by rw [← HN.out]; exact hj))
  have hlx : x.len = F / 10 := by omega
  have HLX := Lib.hid hlx
  clear hn hax x4 hA hF hl R1 hos x1 x2 hab hlx O
  have ev : ((n : Int) != (n : Int)) = false := bne_self_eq_false _
  go_wp2_with fail
  clear ev
  go_loopw [6] (fun i wr => ∃ k : Nat, k ≤ n ∧ i = .int .i64 k ∧ Hid (∃ m, wr = w3.drewN m)) (fun i _ => n - (intOf i).toNat)
  case atStart => exact ⟨0, by omega, rfl, Lib.hid ⟨0, rfl⟩⟩
  case round =>
    clear c0 c1' c2'
    obtain ⟨k, hk, rfl, W⟩ := hrel
    have HB := Lib.hid (show Below w.heap.size w wr from by obtain ⟨m, rfl⟩ := W.out; exact bdn HB4.out)
    by_cases hlt : k < n
    · have HW := Lib.hid (show Below w3.heap.size w3 wr from by obtain ⟨m, rfl⟩ := W.out; exact bdn (Below.refl _ _))
      have HWR := Lib.hid (fun m' : Nat => show ∃ m, wr.drewN m' = w3.drewN m from by obtain ⟨m, rfl⟩ := W.out; exact ⟨m + m', by rw [World.drewN_drewN]⟩)
      obtain ⟨-, c1', -⟩ := WBlk.of (HC3.out.below HW.out)
      obtain ⟨ad, rfl, -, d1⟩ := (HR1.out.below HW.out) k (by rw [← HN.out]; exact hlt)
      obtain ⟨ad', e2, -, d2⟩ := (HR1.out.below HW.out) (n - 1 - k) (by rw [← HN.out]; omega)
      injection e2 with e2
      subst e2
      have p1 := HPL.out k hlt
      have p2 := HPL.out (n - 1 - k) (by omega)
      have p3 := HSY.out k hlt
      obtain ⟨z, hz⟩ : ∃ z, z = os.getD k 0 := ⟨_, rfl⟩
      obtain ⟨y, hy⟩ : ∃ y, y = os.getD (n - 1 - k) 0 := ⟨_, rfl⟩
      have HZ := Lib.hid hz
      rw [← hz] at d1 p1 p3
      rw [← hy] at d2 p2 p3
      obtain ⟨p1, p1'⟩ := p1
      obtain ⟨p2, p2'⟩ := p2
      obtain ⟨q, hq⟩ : ∃ q, q = n - 1 - k := ⟨_, rfl⟩
      rw [← hq] at d2
      have q1 : (n : Int) - 1 - (k : Int) = (q : Int) := by omega
      have HQ1 := Lib.hid q1
      have q2 : (q : Int) < (n : Int) := by omega
      have q3 : (0 : Int) ≤ (q : Int) := by omega
      have wq : IntKind.i64.wrap (q : Int) = (q : Int) := IntWalk.i64_in _ (by omega)
      have w1 : IntKind.i64.wrap ((n : Int) - 1) = (n : Int) - 1 := IntWalk.i64_in _ (by omega)
      have HW1 := Lib.hid w1
      have w3' : IntKind.i64.wrap (z + y) = F := by rw [p3]; exact IntWalk.i64_in _ (by omega)
      have w4 : IntKind.i64.wrap (10 * x.len) = F := by rw [HLX.out]; have := HF.out; have := HLX.out; rw [show 10 * (F / 10) = F by omega]; exact IntWalk.i64_in _ (by omega)
      have g1 : decide (z ≤ 0) = false := decide_eq_false (by omega)
      have g2 : decide (F ≤ z) = false := decide_eq_false (by omega)
      have g3 : (F != F) = false := bne_self_eq_false _
      clear hz hy hq p3 W q1 w1
      cases k with
      | zero =>
        have d1' : wr.cell? ad = some (.int .i64 z) := d1
        have e0 : ((0 : Nat) : Int) = 0 := rfl
        have n0 : (0 : Int) < (n : Int) := by omega
        have q1 : (n : Int) - 1 = (q : Int) := by have := HQ1.out; omega
        rw [e0]
        go_upto_region 8 with fail
        go_quiet (fail)
        go_wp2_with fail
        go_roundw
        case rel => exact ⟨1, by omega, by go_num, Lib.hid (HWR.out nq)⟩
        case measure => simp [intOf] <;> omega
      | succ k =>
        obtain ⟨ad', e2, -, d0⟩ := (HR1.out.below HW.out) k (by rw [← HN.out]; omega)
        injection e2 with e2
        subst e2
        have hu := HUP.out k (by omega)
        rw [← HZ.out] at hu
        obtain ⟨z0, hz0⟩ : ∃ z, z = os.getD k 0 := ⟨_, rfl⟩
        rw [← hz0] at d0 hu
        have g4 : decide (z ≤ z0) = false := decide_eq_false (by omega)
        have g5 : decide ((0 : Int) < (k : Int) + 1) = true := decide_eq_true (by omega)
        have q1 : (n : Int) - 1 - ((k : Int) + 1) = (q : Int) := by have := HQ1.out; omega
        have w1 := HW1.out
        have kw : IntKind.i64.wrap (k : Int) = (k : Int) := IntWalk.i64_in _ (by omega)
        have k0 : (0 : Int) ≤ (k : Int) := by omega
        have k1 : (0 : Int) ≤ (k : Int) + 1 := by omega
        have k2 : (k : Int) + 1 < (n : Int) := by omega
        have k3 : (k : Int) < (n : Int) := by omega
        have ek : ((k + 1 : Nat) : Int) = (k : Int) + 1 := rfl
        rw [add_sc] at d1
        rw [ek]
        clear hz0
        go_upto_region 8 with fail
        go_quiet (fail)
        go_wp2_with fail
        go_roundw
        case rel => exact ⟨k + 1 + 1, by omega, by go_num, Lib.hid (HWR.out nq)⟩
        case measure => simp [intOf] <;> omega
    · obtain rfl : k = n := by omega
      go_wp2_with fail
      refine (sane_any _).mono ?_
      rintro e w5 ⟨rfl, B5⟩
      go_wp2_with fail
      go_ret
      exact ⟨rfl, HB.out.trans (B5.mono HB.out.size)⟩
end Go.Proofs.Ytgiodpepjajlmaa
