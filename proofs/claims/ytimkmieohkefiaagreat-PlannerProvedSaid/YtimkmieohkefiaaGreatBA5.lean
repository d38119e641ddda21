/-
  PStr, PFmt, CName, CValid, GJ, GK, GPs, GS, MkFrom, GT, ZSorT, PU, GV: joined.
-/
import Derived.BigQuiet
import Derived.Test.YtimkmieohkefiaaGreatBA1
import Derived.Test.YtimkmieohkefiaaGreatBA2
import Derived.Test.YtimkmieohkefiaaGreatBA3
import Derived.Test.YtimkmieohkefiaaGreatBA4
set_option linter.unusedSimpArgs false
set_option linter.unusedVariables false
namespace Go.Proofs.YtimkmieohkefiaaGreat
open Go.RowKit

set_option maxHeartbeats 400000 in
theorem pdigits_any (s : ByteArray) (n : Int) (w : World) (h0 : 0 ≤ n) (h1 : n ≤ 1000) :
    Calls Tryz.prog 166 #[.string s, .int .i64 n] w fun e w' => e = .returned (.bool (dgs s n.toNat)) ∧ w = w' := by
  obtain ⟨N, rfl⟩ := Int.eq_ofNat_of_zero_le h0
  rw [Int.toNat_natCast]
  by_cases hs : s.size = N
  · subst hs
    have HF : Hid (dgs s s.size = s.data.toList.all dig) := Lib.hid (by unfold dgs; simp)
    go_enter Tryz.func166, Tryz.ntmps166
    go_wp2_with fail
    go_loop [12] (fun i => ∃ k : Nat, k ≤ s.size ∧ i = .int .i64 k ∧ (s.data.toList.take k).all dig = true) (fun i => s.size - (intOf i).toNat)
    case atStart => exact ⟨0, by omega, rfl, by simp⟩
    case round =>
      obtain ⟨k, hk, rfl, hall⟩ := hrel
      have HA := Lib.hid hall
      clear hall
      by_cases hlt : k < s.size
      · have HS := Lib.hid (all_snocD s k hlt)
        by_cases c1 : (s[k].toNat : Int) < 48
        · have hd : dig s[k] = false := decide_eq_false (by omega)
          have HD := Lib.hid hd
          clear hd
          go_wp2
          go_ret
          exact ⟨ret_bool (by rw [HF.out, all_take s (k + 1) (by rw [HS.out, HD.out]; simp)]), rfl⟩
        · by_cases c2 : 57 < (s[k].toNat : Int)
          · have hd : dig s[k] = false := decide_eq_false (by omega)
            have HD := Lib.hid hd
            clear hd
            go_wp2
            go_ret
            exact ⟨ret_bool (by rw [HF.out, all_take s (k + 1) (by rw [HS.out, HD.out]; simp)]), rfl⟩
          · have hd : dig s[k] = true := decide_eq_true ⟨by omega, by omega⟩
            have HD := Lib.hid hd
            clear hd
            go_wp2
            go_round
            case rel => exact ⟨k + 1, by omega, by go_num, by rw [HS.out, HA.out, HD.out]; rfl⟩
            case measure => simp [intOf]; omega
      · go_wp2
        go_ret
        exact ⟨ret_bool (by rw [HF.out]; have e : k = s.size := by omega
                            have g := HA.out; rw [e, List.take_of_length_le (by simp)] at g; exact g.symm), rfl⟩
  · have HF : Hid (dgs s N = false) := Lib.hid (by unfold dgs; simp [hs])
    have hne : ((s.size : Int) != (N : Int)) = true := by rw [bne_iff_ne]; omega
    clear hs
    go_enter Tryz.func166, Tryz.ntmps166
    go_wp2_with fail
    go_ret
    exact ⟨ret_bool HF.out.symm, rfl⟩

set_option maxHeartbeats 800000 in
theorem psum_any (s : ByteArray) (w : World) (h2 : s.size ≤ 1000) (hd : s.data.toList.all dig = true) :
    Calls Tryz.prog 182 #[.string s] w fun e w' => e = .returned (.int .i64 (sumTo s.data.toList s.size)) ∧ w = w' := by
  have HD := Lib.hid hd
  clear hd
  go_enter Tryz.func182, Tryz.ntmps182
  go_wp2_with fail
  go_loop [3, 8] (fun t i => ∃ k : Nat, k ≤ s.size ∧ i = .int .i64 k ∧ t = .int .i64 (sumTo s.data.toList k)) (fun _ i => s.size - (intOf i).toNat)
  case atStart => exact ⟨0, by omega, rfl, by simp [sumTo]⟩
  case round =>
    obtain ⟨k, hk, rfl, rfl⟩ := hrel
    have hb := sumTo_bd HD.out k (by omega)
    obtain ⟨b1, b2⟩ := hb
    by_cases hlt : k < s.size
    · obtain ⟨c1, c2⟩ := dig_all HD.out k (by omega)
      have hks : k < s.size := by omega
      have HS : Hid (sumTo s.data.toList (k + 1) = sumTo s.data.toList k + wt k s[k]) := Lib.hid (by rw [sumTo, getD_byte s k hks])
      have d1 : 48 ≤ (s[k].toNat : Int) := by omega
      have d2 : (s[k].toNat : Int) ≤ 57 := by omega
      by_cases p : k % 2 = 0
      · have pe : ((k : Int) % 2 == 0) = true := beq_iff_eq.2 (by omega)
        have HW : Hid (wt k s[k] = if 9 < 2 * dv s[k] then 2 * dv s[k] - 9 else 2 * dv s[k]) := Lib.hid (by unfold wt; rw [if_pos p])
        clear p
        by_cases g : 9 < 2 * dv s[k]
        all_goals
          have HG := Lib.hid g
          have g' := g
          unfold dv at g'
          clear g
          go_wp2
          go_round
          case rel => exact ⟨k + 1, by omega, by go_num, congrArg (Value.int .i64) (by rw [HS.out, HW.out]; have hg := HG.out; unfold dv at hg ⊢; first | (rw [if_pos hg]; omega) | (rw [if_neg hg]; omega))⟩
          case measure => simp [intOf]; omega
      · have pe : ((k : Int) % 2 == 0) = false := beq_eq_false_iff_ne.2 (by omega)
        have HW : Hid (wt k s[k] = dv s[k]) := Lib.hid (by unfold wt; rw [if_neg p])
        clear p
        go_wp2
        go_round
        case rel => exact ⟨k + 1, by omega, by go_num, congrArg (Value.int .i64) (by rw [HS.out, HW.out]; unfold dv; omega)⟩
        case measure => simp [intOf]; omega
    · obtain rfl : s.size = k := by omega
      go_wp2
      go_ret
      exact ⟨rfl, rfl⟩

/-- The sum of all bytes is a multiple of ten. -/
def okP (s : ByteArray) : Bool := decide (sumTo s.data.toList s.size % 10 = 0)

set_option maxHeartbeats 400000 in
theorem pchecks_any (s : ByteArray) (w : World) (h2 : s.size ≤ 1000) (hd : s.data.toList.all dig = true) :
    Calls Tryz.prog 167 #[.string s] w fun e w' => e = .returned (.bool (okP s)) ∧ w = w' := by
  have hb := sumTo_bd hd s.size (by omega)
  obtain ⟨b1, b2⟩ := hb
  have HD := Lib.hid hd
  have WC : (sumTo s.data.toList s.size).tmod 10 = sumTo s.data.toList s.size % 10 := IntWalk.rem_in _ _ (by omega)
  by_cases g : sumTo s.data.toList s.size % 10 = 0
  · have g' : (sumTo s.data.toList s.size % 10 == 0) = true := by simp [g]
    have HF : Hid (okP s = true) := Lib.hid (by unfold okP; exact decide_eq_true g)
    clear hd g
    go_enter Tryz.func167, Tryz.ntmps167
    go_wp2_with fail
    refine (psum_any _ _ h2 HD.out).mono ?_
    rintro e w' ⟨rfl, rfl⟩
    go_wp2_with fail
    go_ret
    exact ⟨ret_bool HF.out.symm, rfl⟩
  · have g' : (sumTo s.data.toList s.size % 10 == 0) = false := by simp [g]
    have HF : Hid (okP s = false) := Lib.hid (by unfold okP; exact decide_eq_false g)
    clear hd g
    go_enter Tryz.func167, Tryz.ntmps167
    go_wp2_with fail
    refine (psum_any _ _ h2 HD.out).mono ?_
    rintro e w' ⟨rfl, rfl⟩
    go_wp2_with fail
    go_ret
    exact ⟨ret_bool HF.out.symm, rfl⟩

/-- Of twelve digits the sum is that of the first eleven and the last. -/
theorem okP_12 {s : ByteArray} (h : s.size = 12) : okP s = oks s.data.toList := by
  unfold okP oks
  rw [h]
  have e : sumTo s.data.toList 12 = sumTo s.data.toList 11 + dv (s.data.toList.getD 11 48) := by
    rw [sumTo]; unfold wt; rw [if_neg (by decide)]
  rw [e]

end Go.Proofs.YtimkmieohkefiaaGreat

namespace Go.Proofs.YtimkmieohkefiaaGreat
open Go.RowKit

set_option maxHeartbeats 400000 in
theorem pvalid_any (s : ByteArray) (w : World) :
    Calls Tryz.prog 137 #[.string s] w fun e w' => e = .returned (.int .i64 (validS s)) ∧ w = w' := by
  cases hs : dgs s 12
  · have HF : Hid (validS s = 11) := Lib.hid (by unfold validS; rw [hs]; rfl)
    go_enter Tryz.func137, Tryz.ntmps137
    go_wp2_with fail
    refine (pdigits_any _ _ _ (by omega) (by omega)).mono ?_
    rintro e w' ⟨rfl, rfl⟩
    go_wp2_with fail
    go_ret
    exact ⟨ret_int HF.out.symm, rfl⟩
  · obtain ⟨hz, hd⟩ := dgs_t hs
    have HD := Lib.hid hd
    have HE : Hid (validS s = if okP s = true then 0 else 9) := Lib.hid (by unfold validS; rw [if_pos hs, okP_12 hz])
    have hz2 : s.size ≤ 1000 := by omega
    have hs' := Lib.hid hs
    clear hz hd
    cases ho : okP s
    · have HF : Hid (validS s = 9) := Lib.hid (by rw [HE.out, ho]; rfl)
      go_enter Tryz.func137, Tryz.ntmps137
      go_wp2_with fail
      refine (pdigits_any _ _ _ (by omega) (by omega)).mono ?_
      rintro e w' ⟨rfl, rfl⟩
      go_wp2_with fail
      refine (pchecks_any _ _ hz2 HD.out).mono ?_
      rintro e w' ⟨rfl, rfl⟩
      go_wp2_with fail
      go_ret
      exact ⟨ret_int HF.out.symm, rfl⟩
    · have HF : Hid (validS s = 0) := Lib.hid (by rw [HE.out, ho]; rfl)
      go_enter Tryz.func137, Tryz.ntmps137
      go_wp2_with fail
      refine (pdigits_any _ _ _ (by omega) (by omega)).mono ?_
      rintro e w' ⟨rfl, rfl⟩
      go_wp2_with fail
      refine (pchecks_any _ _ hz2 HD.out).mono ?_
      rintro e w' ⟨rfl, rfl⟩
      go_wp2_with fail
      go_ret
      exact ⟨ret_int HF.out.symm, rfl⟩

set_option maxHeartbeats 400000 in
theorem pkind_any (s : ByteArray) (w : World) :
    Calls Tryz.prog 90 #[.string s] w fun e w' => e = .returned (R2 (kindR s)) ∧ w = w' := by
  by_cases hv : validS s = 0
  · obtain ⟨hz, hd, ho⟩ := validR_size hv
    have hk : 4 < s.size := by omega
    have HF : Hid (kindR s = (knd s[4], 0)) := Lib.hid (by unfold kindR; rw [if_pos hv, getD_byte s 4 hk])
    have HV := Lib.hid hv
    have ev : (validS s != 0) = false := by simp [hv]
    clear hv hd ho hz
    have fin : ∀ (v : Int), knd s[4] = v → kindR s = (v, 0) := fun v h => by rw [HF.out, h]
    have HFn := Lib.hid fin
    clear fin
    by_cases c0 : s[4].toNat = 55
    · have HC : Hid (knd s[4] = 1) := Lib.hid (by unfold knd; rw [c0]; rfl)
      go_enter Tryz.func90, Tryz.ntmps90
      go_wp2_with fail
      refine (pvalid_any _ _).mono ?_
      rintro e w' ⟨rfl, rfl⟩
      go_wp2_with fail
      go_ret2
      exact ⟨ret_r2 (HFn.out _ HC.out), rfl⟩
    by_cases c1 : s[4].toNat = 56
    · have HC : Hid (knd s[4] = 1) := Lib.hid (by unfold knd; rw [c1]; rfl)
      go_enter Tryz.func90, Tryz.ntmps90
      go_wp2_with fail
      refine (pvalid_any _ _).mono ?_
      rintro e w' ⟨rfl, rfl⟩
      go_wp2_with fail
      go_ret2
      exact ⟨ret_r2 (HFn.out _ HC.out), rfl⟩
    by_cases c2 : s[4].toNat = 50
    · have HC : Hid (knd s[4] = 2) := Lib.hid (by unfold knd; rw [c2]; rfl)
      go_enter Tryz.func90, Tryz.ntmps90
      go_wp2_with fail
      refine (pvalid_any _ _).mono ?_
      rintro e w' ⟨rfl, rfl⟩
      go_wp2_with fail
      go_ret2
      exact ⟨ret_r2 (HFn.out _ HC.out), rfl⟩
    by_cases c3 : s[4].toNat = 52
    · have HC : Hid (knd s[4] = 2) := Lib.hid (by unfold knd; rw [c3]; rfl)
      go_enter Tryz.func90, Tryz.ntmps90
      go_wp2_with fail
      refine (pvalid_any _ _).mono ?_
      rintro e w' ⟨rfl, rfl⟩
      go_wp2_with fail
      go_ret2
      exact ⟨ret_r2 (HFn.out _ HC.out), rfl⟩
    by_cases c4 : s[4].toNat = 57
    · have HC : Hid (knd s[4] = 3) := Lib.hid (by unfold knd; rw [c4]; rfl)
      go_enter Tryz.func90, Tryz.ntmps90
      go_wp2_with fail
      refine (pvalid_any _ _).mono ?_
      rintro e w' ⟨rfl, rfl⟩
      go_wp2_with fail
      go_ret2
      exact ⟨ret_r2 (HFn.out _ HC.out), rfl⟩
    · have HC : Hid (knd s[4] = 0) := Lib.hid (by unfold knd; rw [if_neg (by omega), if_neg (by omega), if_neg c4])
      go_enter Tryz.func90, Tryz.ntmps90
      go_wp2_with fail
      refine (pvalid_any _ _).mono ?_
      rintro e w' ⟨rfl, rfl⟩
      go_wp2_with fail
      go_ret2
      exact ⟨ret_r2 (HFn.out _ HC.out), rfl⟩
  · have HF : Hid (kindR s = (0, validS s)) := Lib.hid (by unfold kindR; rw [if_neg hv])
    have ev : (validS s != 0) = true := by simp [hv]
    clear hv
    go_enter Tryz.func90, Tryz.ntmps90
    go_wp2_with fail
    refine (pvalid_any _ _).mono ?_
    rintro e w' ⟨rfl, rfl⟩
    go_wp2_with fail
    go_ret2
    exact ⟨ret_r2 HF.out, rfl⟩

end Go.Proofs.YtimkmieohkefiaaGreat

namespace Go.Proofs.YtimkmieohkefiaaGreat
open Go.RowKit

theorem nm_false {s : ByteArray} {k : Nat} (h : (s.data.toList.take k).all nmc = false) : nameS s = false := by
  unfold nameS; rw [nm_take s k h, Bool.and_false]
set_option maxHeartbeats 800000 in
theorem pname_any (s : ByteArray) (w : World) :
    Calls Tryz.prog 93 #[.string s] w fun e w' => e = .returned (.bool (nameS s)) ∧ w = w' := by
  by_cases h0 : s.size = 0
  · have HF := Lib.hid (show nameS s = false by unfold nameS; rw [h0]; rfl)
    have hz : ((s.size : Int) == 0) = true := by rw [h0]; rfl
    go_enter Tryz.func93, Tryz.ntmps93
    go_wp2_with fail
    go_ret
    exact ⟨ret_bool HF.out.symm, rfl⟩
  have hz : ((s.size : Int) == 0) = false := by rw [beq_eq_false_iff_ne]; omega
  by_cases h1 : 12 < s.size
  · have HF := Lib.hid (show nameS s = false by unfold nameS; rw [decide_eq_false (by omega)]; rfl)
    have hl : (12 : Int) < (s.size : Int) := by omega
    clear h0 h1
    go_enter Tryz.func93, Tryz.ntmps93
    go_wp2_with fail
    go_ret
    exact ⟨ret_bool HF.out.symm, rfl⟩
  have HF := Lib.hid (show nameS s = s.data.toList.all nmc by unfold nameS; rw [decide_eq_true (by omega), Bool.true_and])
  clear h0
  go_enter Tryz.func93, Tryz.ntmps93
  go_wp2_with fail
  go_loop [14] (fun i => ∃ k : Nat, k ≤ s.size ∧ i = .int .i64 k ∧ (s.data.toList.take k).all nmc = true) (fun i => s.size - (intOf i).toNat)
  case atStart => exact ⟨0, by omega, rfl, by simp⟩
  case round =>
    obtain ⟨k, hk, rfl, hall⟩ := hrel
    have HA := Lib.hid hall
    clear hall hz
    by_cases hlt : k < s.size
    · have HS := Lib.hid (nm_snoc s k hlt)
      have bad : nmc s[k] = false → nameS s = false := fun h => nm_false (k := k + 1) (by rw [HS.out, h, Bool.and_false])
      have HB := Lib.hid bad
      clear bad
      have good : nmc s[k] = true → (s.data.toList.take (k + 1)).all nmc = true := fun h => by rw [HS.out, HA.out, h]; rfl
      have HG := Lib.hid good
      clear good
      by_cases c1 : (s[k].toNat : Int) < 97
      · by_cases c2 : (s[k].toNat : Int) < 48
        · have HD := Lib.hid (show nmc s[k] = false from decide_eq_false (by omega))
          go_wp2
          go_ret
          exact ⟨ret_bool (HB.out HD.out).symm, rfl⟩
        · by_cases c3 : 57 < (s[k].toNat : Int)
          · have HD := Lib.hid (show nmc s[k] = false from decide_eq_false (by omega))
            go_wp2
            go_ret
            exact ⟨ret_bool (HB.out HD.out).symm, rfl⟩
          · have HD := Lib.hid (show nmc s[k] = true from decide_eq_true (by omega))
            go_wp2
            go_round
            case rel => exact ⟨k + 1, by omega, by go_num, HG.out HD.out⟩
            case measure => simp [intOf]; omega
      · by_cases c4 : 122 < (s[k].toNat : Int)
        · have c3 : 57 < (s[k].toNat : Int) := by omega
          have c2 : ¬ (s[k].toNat : Int) < 48 := by omega
          have HD := Lib.hid (show nmc s[k] = false from decide_eq_false (by omega))
          go_wp2
          go_ret
          exact ⟨ret_bool (HB.out HD.out).symm, rfl⟩
        · have HD := Lib.hid (show nmc s[k] = true from decide_eq_true (by omega))
          go_wp2
          go_round
          case rel => exact ⟨k + 1, by omega, by go_num, HG.out HD.out⟩
          case measure => simp [intOf]; omega
    · have HE := Lib.hid (show nameS s = true by rw [HF.out]; have e : k = s.size := by omega
                                                 have g := HA.out; rw [e, List.take_of_length_le (by simp)] at g; exact g)
      go_wp2
      go_ret
      exact ⟨ret_bool HE.out.symm, rfl⟩

set_option maxHeartbeats 400000 in
theorem axles_any (k : Int) (w : World) :
    Calls Tryz.prog 91 #[.int .i64 k] w fun e w' => e = .returned (.int .i64 (axlK k)) ∧ w = w' := by
  by_cases h2 : k = 2
  · subst h2
    go_enter Tryz.func91, Tryz.ntmps91
    go_wp2
    go_ret
    exact ⟨rfl, rfl⟩
  · by_cases h3 : k = 3
    · subst h3
      go_enter Tryz.func91, Tryz.ntmps91
      go_wp2
      go_ret
      exact ⟨rfl, rfl⟩
    · have HF := Lib.hid (show axlK k = 4 by unfold axlK; rw [if_neg h2, if_neg h3])
      have e2 : (k == 2) = false := beq_eq_false_iff_ne.2 h2
      have e3 : (k == 3) = false := beq_eq_false_iff_ne.2 h3
      clear h2 h3
      go_enter Tryz.func91, Tryz.ntmps91
      go_wp2
      go_ret
      exact ⟨ret_int HF.out.symm, rfl⟩
end Go.Proofs.YtimkmieohkefiaaGreat

namespace Go.Proofs.YtimkmieohkefiaaGreat
open Go.RowKit

theorem rng_t {x : Wag} {k v : Int} (hv : leastK k = v) (h1 : v ≤ x.len) (h2 : x.len ≤ 400) (h3 : 50 ≤ x.mas) (h4 : x.mas ≤ 2000) (h5 : 0 ≤ x.brk) (h6 : x.brk ≤ x.mas) (h7 : 0 ≤ x.gds) (h8 : x.gds ≤ 9) : decide (rngW x k) = true := by
  subst hv; exact decide_eq_true ⟨h1, h2, h3, h4, h5, h6, h7, h8⟩
theorem rng_f {x : Wag} {k v : Int} (hv : leastK k = v) (h : ¬ (v ≤ x.len ∧ x.len ≤ 400 ∧ 50 ≤ x.mas ∧ x.mas ≤ 2000 ∧ 0 ≤ x.brk ∧ x.brk ≤ x.mas ∧ 0 ≤ x.gds ∧ x.gds ≤ 9)) : decide (rngW x k) = false := by
  subst hv; exact decide_eq_false h
theorem box1 (w : World) (o : Obj) : Below w.heap.size w (w.alloc o) := (Below.refl _ _).alloc (Nat.le_refl _) _

set_option maxHeartbeats 1600000 in
theorem prange_any (x : Wag) (k : Int) (w : World) :
    Calls Tryz.prog 92 #[aggW x, .int .i64 k] w fun e w' => e = .returned (.bool (decide (rngW x k))) ∧ Below w.heap.size w w' := by
  by_cases hk : k = 3
  · have hv : leastK k = 120 := by unfold leastK; rw [if_pos hk]
    have ek : (k == 3) = true := beq_iff_eq.2 hk
    by_cases r1 : ¬ (120 ≤ x.len)
    · have HF := Lib.hid (rng_f hv (fun g => absurd g.1 r1))
      clear hk
      go_enter Tryz.func92, Tryz.ntmps92
      go_wp2
      go_ret
      exact ⟨ret_bool HF.out.symm, box1 _ _⟩
    replace r1 := Decidable.of_not_not r1
    by_cases r2 : ¬ (x.len ≤ 400)
    · have HF := Lib.hid (rng_f hv (fun g => absurd g.2.1 r2))
      clear hk
      go_enter Tryz.func92, Tryz.ntmps92
      go_wp2
      go_ret
      exact ⟨ret_bool HF.out.symm, box1 _ _⟩
    replace r2 := Decidable.of_not_not r2
    by_cases r3 : ¬ (50 ≤ x.mas)
    · have HF := Lib.hid (rng_f hv (fun g => absurd g.2.2.1 r3))
      clear hk
      go_enter Tryz.func92, Tryz.ntmps92
      go_wp2
      go_ret
      exact ⟨ret_bool HF.out.symm, box1 _ _⟩
    replace r3 := Decidable.of_not_not r3
    by_cases r4 : ¬ (x.mas ≤ 2000)
    · have HF := Lib.hid (rng_f hv (fun g => absurd g.2.2.2.1 r4))
      clear hk
      go_enter Tryz.func92, Tryz.ntmps92
      go_wp2
      go_ret
      exact ⟨ret_bool HF.out.symm, box1 _ _⟩
    replace r4 := Decidable.of_not_not r4
    by_cases r5 : ¬ (0 ≤ x.brk)
    · have HF := Lib.hid (rng_f hv (fun g => absurd g.2.2.2.2.1 r5))
      clear hk
      go_enter Tryz.func92, Tryz.ntmps92
      go_wp2
      go_ret
      exact ⟨ret_bool HF.out.symm, box1 _ _⟩
    replace r5 := Decidable.of_not_not r5
    by_cases r6 : ¬ (x.brk ≤ x.mas)
    · have HF := Lib.hid (rng_f hv (fun g => absurd g.2.2.2.2.2.1 r6))
      clear hk
      go_enter Tryz.func92, Tryz.ntmps92
      go_wp2
      go_ret
      exact ⟨ret_bool HF.out.symm, box1 _ _⟩
    replace r6 := Decidable.of_not_not r6
    by_cases r7 : ¬ (0 ≤ x.gds)
    · have HF := Lib.hid (rng_f hv (fun g => absurd g.2.2.2.2.2.2.1 r7))
      clear hk
      go_enter Tryz.func92, Tryz.ntmps92
      go_wp2
      go_ret
      exact ⟨ret_bool HF.out.symm, box1 _ _⟩
    replace r7 := Decidable.of_not_not r7
    by_cases r8 : ¬ (x.gds ≤ 9)
    · have HF := Lib.hid (rng_f hv (fun g => absurd g.2.2.2.2.2.2.2 r8))
      clear hk
      go_enter Tryz.func92, Tryz.ntmps92
      go_wp2
      go_ret
      exact ⟨ret_bool HF.out.symm, box1 _ _⟩
    replace r8 := Decidable.of_not_not r8
    have HF := Lib.hid (rng_t hv r1 r2 r3 r4 r5 r6 r7 r8)
    clear hk
    go_enter Tryz.func92, Tryz.ntmps92
    go_wp2
    go_ret
    exact ⟨ret_bool HF.out.symm, box1 _ _⟩
  · have hv : leastK k = 80 := by unfold leastK; rw [if_neg hk]
    have ek : (k == 3) = false := beq_eq_false_iff_ne.2 hk
    by_cases r1 : ¬ (80 ≤ x.len)
    · have HF := Lib.hid (rng_f hv (fun g => absurd g.1 r1))
      clear hk
      go_enter Tryz.func92, Tryz.ntmps92
      go_wp2
      go_ret
      exact ⟨ret_bool HF.out.symm, box1 _ _⟩
    replace r1 := Decidable.of_not_not r1
    by_cases r2 : ¬ (x.len ≤ 400)
    · have HF := Lib.hid (rng_f hv (fun g => absurd g.2.1 r2))
      clear hk
      go_enter Tryz.func92, Tryz.ntmps92
      go_wp2
      go_ret
      exact ⟨ret_bool HF.out.symm, box1 _ _⟩
    replace r2 := Decidable.of_not_not r2
    by_cases r3 : ¬ (50 ≤ x.mas)
    · have HF := Lib.hid (rng_f hv (fun g => absurd g.2.2.1 r3))
      clear hk
      go_enter Tryz.func92, Tryz.ntmps92
      go_wp2
      go_ret
      exact ⟨ret_bool HF.out.symm, box1 _ _⟩
    replace r3 := Decidable.of_not_not r3
    by_cases r4 : ¬ (x.mas ≤ 2000)
    · have HF := Lib.hid (rng_f hv (fun g => absurd g.2.2.2.1 r4))
      clear hk
      go_enter Tryz.func92, Tryz.ntmps92
      go_wp2
      go_ret
      exact ⟨ret_bool HF.out.symm, box1 _ _⟩
    replace r4 := Decidable.of_not_not r4
    by_cases r5 : ¬ (0 ≤ x.brk)
    · have HF := Lib.hid (rng_f hv (fun g => absurd g.2.2.2.2.1 r5))
      clear hk
      go_enter Tryz.func92, Tryz.ntmps92
      go_wp2
      go_ret
      exact ⟨ret_bool HF.out.symm, box1 _ _⟩
    replace r5 := Decidable.of_not_not r5
    by_cases r6 : ¬ (x.brk ≤ x.mas)
    · have HF := Lib.hid (rng_f hv (fun g => absurd g.2.2.2.2.2.1 r6))
      clear hk
      go_enter Tryz.func92, Tryz.ntmps92
      go_wp2
      go_ret
      exact ⟨ret_bool HF.out.symm, box1 _ _⟩
    replace r6 := Decidable.of_not_not r6
    by_cases r7 : ¬ (0 ≤ x.gds)
    · have HF := Lib.hid (rng_f hv (fun g => absurd g.2.2.2.2.2.2.1 r7))
      clear hk
      go_enter Tryz.func92, Tryz.ntmps92
      go_wp2
      go_ret
      exact ⟨ret_bool HF.out.symm, box1 _ _⟩
    replace r7 := Decidable.of_not_not r7
    by_cases r8 : ¬ (x.gds ≤ 9)
    · have HF := Lib.hid (rng_f hv (fun g => absurd g.2.2.2.2.2.2.2 r8))
      clear hk
      go_enter Tryz.func92, Tryz.ntmps92
      go_wp2
      go_ret
      exact ⟨ret_bool HF.out.symm, box1 _ _⟩
    replace r8 := Decidable.of_not_not r8
    have HF := Lib.hid (rng_t hv r1 r2 r3 r4 r5 r6 r7 r8)
    clear hk
    go_enter Tryz.func92, Tryz.ntmps92
    go_wp2
    go_ret
    exact ⟨ret_bool HF.out.symm, box1 _ _⟩

theorem validW_num {x : Wag} {k e : Int} (h : kindR x.num = (k, e)) (he : e ≠ 0) : validW x = e := by
  unfold validW; rw [h]; exact if_neg he
theorem validW_kind {x : Wag} {k : Int} (h : kindR x.num = (k, 0)) : validW x = valK x k := by
  unfold validW; rw [h]; exact if_pos rfl
theorem valK_axl {x : Wag} {k : Int} (h : ¬ x.axl = axlK k) : valK x k = 1 := by unfold valK; rw [if_neg h]
theorem valK_rng {x : Wag} {k : Int} (h : x.axl = axlK k) (hr : decide (rngW x k) = false) : valK x k = 2 := by
  unfold valK; rw [if_pos h, if_neg (of_decide_eq_false hr)]
theorem valK_nam {x : Wag} {k : Int} (h : x.axl = axlK k) (hr : decide (rngW x k) = true) (hn : nameS x.dst = false) : valK x k = 7 := by
  unfold valK; rw [if_pos h, if_pos (of_decide_eq_true hr), hn]; rfl
theorem valK_ok {x : Wag} {k : Int} (h : x.axl = axlK k) (hr : decide (rngW x k) = true) (hn : nameS x.dst = true) : valK x k = 0 := by
  unfold valK; rw [if_pos h, if_pos (of_decide_eq_true hr), hn]; rfl
/-- The error of Valid, and what is left of the world. -/
def ValPost (x : Wag) (w : World) (e : Ending) (w' : World) : Prop := e = .returned (.int .i64 (validW x)) ∧ Below w.heap.size w w'
theorem ValPost.mk' {x : Wag} {w w' : World} {v : Int} (h : validW x = v) (b : Below w.heap.size w w') : ValPost x w (.returned (.int .i64 v)) w' := ⟨by rw [h], b⟩

set_option maxHeartbeats 1600000 in
theorem cvalid_any (x : Wag) (w : World) : Calls Tryz.prog 49 #[aggW x] w (ValPost x w) := by
  obtain ⟨k, e, hke⟩ : ∃ k e, kindR x.num = (k, e) := ⟨_, _, rfl⟩
  have HK := Lib.hid hke
  clear hke
  obtain ⟨c0, c1, c2, c3, c4, c5, c6, c7, lt⟩ := WBlk.of (newW w x 33 w.heap.size rfl)
  have HB := Lib.hid (box1 w (.cells #[.string x.num, .int .i64 x.len, .int .i64 x.axl, .int .i64 x.mas, .int .i64 x.brk, .int .i64 x.gds, .bool x.gen, .string x.dst] 33))
  go_enter Tryz.func49, Tryz.ntmps49
  go_wp2_with fail
  refine (pkind_any x.num _).mono ?_
  rintro e' w' ⟨rfl, rfl⟩
  rw [HK.out]
  by_cases he : e ≠ 0
  · have HV := Lib.hid (validW_num HK.out he)
    have ev : (e != 0) = true := bne_iff_ne.2 he
    clear he
    go_wp2_with fail
    go_ret
    exact ValPost.mk' HV.out HB.out
  obtain rfl := Decidable.of_not_not he
  have HV := Lib.hid (validW_kind HK.out)
  go_wp2_with fail
  have HC := Lib.hid (newW w x 33 w.heap.size rfl)
  go_quiet ((go_at_call 91; exact Calls.quiet_of_same ((axles_any _ _).mono fun _ _ h => ⟨h.1, h.2.symm⟩)))
  clear he
  by_cases ha : ¬ x.axl = axlK k
  · have HV2 := Lib.hid (HV.out.trans (valK_axl ha))
    have ev : (x.axl != axlK k) = true := bne_iff_ne.2 ha
    clear ha
    go_wp2_with fail
    go_ret
    exact ValPost.mk' HV2.out (bdn HB.out)
  replace ha := Decidable.of_not_not ha
  have HA := Lib.hid ha
  have ev : (x.axl != axlK k) = false := bne_eq_false_iff_eq.2 ha
  clear ha
  go_wp2_with fail
  refine (prange_any x k _).mono ?_
  rintro e' w2 ⟨rfl, B2⟩
  have HB2 := Lib.hid ((bdn (n := nq) HB.out).trans (B2.mono (Nat.le_of_lt (by show w.heap.size < (World.alloc w _).heap.size; simp))))
  have HC2 := Lib.hid ((HC.out.drewN nq).below B2)
  clear c0 c1 c2 c3 c4 c5 c6 c7 lt B2 ev
  cases hr : decide (rngW x k) with
  | false =>
    have HV2 := Lib.hid (HV.out.trans (valK_rng HA.out hr))
    clear hr
    go_wp2_with fail
    go_ret
    exact ValPost.mk' HV2.out HB2.out
  | true =>
    have HR := Lib.hid hr
    clear hr
    have c7 := (WBlk.of HC2.out).c7
    go_wp2_with fail
    refine (pname_any x.dst _).mono ?_
    rintro e' w' ⟨rfl, rfl⟩
    cases hn : nameS x.dst with
    | false =>
      have HV2 := Lib.hid (HV.out.trans (valK_nam HA.out HR.out hn))
      clear hn
      go_wp2_with fail
      go_ret
      exact ValPost.mk' HV2.out HB2.out
    | true =>
      have HV2 := Lib.hid (HV.out.trans (valK_ok HA.out HR.out hn))
      clear hn
      go_wp2_with fail
      go_ret
      exact ValPost.mk' HV2.out HB2.out

end Go.Proofs.YtimkmieohkefiaaGreat

namespace Go.Proofs.YtimkmieohkefiaaGreat
open Go.RowKit Go.Lib

/-- The slice from A on reads as the strings bs. -/
def SRow (w : World) (A : Option Addr) (bs : List ByteArray) : Prop := VRow w w.heap.size A (bs.map Value.string)
theorem SRow.below {w w' : World} {A : Option Addr} {bs : List ByteArray} (h : SRow w A bs) (k : Below w.heap.size w w') : SRow w' A bs := VRow.below h k
theorem SRow.cell {w : World} {A : Option Addr} {bs : List ByteArray} (h : SRow w A bs) {k : Nat} {s : ByteArray} (hk : bs[k]? = some s) : ∃ ad : Addr, A = some ad ∧ ad.block < w.heap.size ∧ w.cell? (ad.add k) = some (.string s) :=
  h k (.string s) (by rw [List.getElem?_map, hk]; rfl)
/-- The slice from A on reads as orders, each a list of strings. -/
def ORw (w : World) (A : Option Addr) (os : List (List ByteArray)) : Prop :=
  ∀ k bs, os[k]? = some bs → ∃ (ad : Addr) (a : Option Addr) (c : Nat), A = some ad ∧ ad.block < w.heap.size ∧ w.cell? (ad.add k) = some (.slice a bs.length c) ∧ SRow w a bs ∧ bs.length ≤ maxLen
theorem ORw.below {w w' : World} {A : Option Addr} {os : List (List ByteArray)} (h : ORw w A os) (k : Below w.heap.size w w') : ORw w' A os := fun i bs hi => by
  obtain ⟨ad, a, c, e, hb, hc, hs, hm⟩ := h i bs hi
  exact ⟨ad, a, c, e, Nat.lt_of_lt_of_le hb k.size, (k.cell (by rw [add_block]; exact hb)).trans hc, hs.below k, hm⟩
theorem bytes_inj17 {a b : ByteArray} (h : a.toList = b.toList) : a = b := by
  apply ByteArray.ext
  rw [ByteArray.toList_eq, ByteArray.toList_eq] at h
  exact Array.toList_inj.1 h
theorem toList_ne17 {a b : ByteArray} (h : a ≠ b) : (a.toList == b.toList) = false := beq_eq_false_iff_ne.2 fun e => h (bytes_inj17 e)
/-- The index of a string, from the k-th on. -/
def idxZ (d : ByteArray) : Nat → List ByteArray → Int
  | _, [] => -1
  | k, x :: l => if x = d then (k : Int) else idxZ d (k + 1) l
theorem idxZ_at (d : ByteArray) (k0 : Nat) : ∀ (bs : List ByteArray) (k : Nat) (x : ByteArray), bs[k]? = some x → idxZ d (k0 + k) (bs.drop k) = if x = d then ((k0 + k : Nat) : Int) else idxZ d (k0 + (k + 1)) (bs.drop (k + 1)) := by
  intro bs k x hk
  obtain ⟨hl, rfl⟩ := List.getElem?_eq_some_iff.1 hk
  rw [List.drop_eq_getElem_cons hl]; rfl
set_option maxHeartbeats 1600000 in
theorem idxS_any (bs : List ByteArray) (d : ByteArray) (A : Option Addr) (n c : Nat) (hn : n = bs.length) (hm : n ≤ maxLen) (w : World) (h : SRow w A bs) :
    Calls Tryz.prog 94 #[.slice A n c, .string d] w fun e w' => e = .returned (.int .i64 (idxZ d 0 bs)) ∧ w' = w := by
  have hl : n ≤ 9223372036854775807 := hm
  have H := Lib.hid h
  have HN := Lib.hid hn
  obtain ⟨r, hr⟩ : ∃ r, r = idxZ d 0 bs := ⟨_, rfl⟩
  have HR := Lib.hid hr
  rw [← hr]
  clear h hr hn hm
  go_enter Tryz.func94, Tryz.ntmps94
  go_wp2_with fail
  go_loopw [8] (fun iv wr => ∃ k : Nat, k ≤ n ∧ iv = .int .i64 (k : Int) ∧ Hid (idxZ d k (bs.drop k) = r) ∧ Hid (wr = w)) (fun iv _ => n - (intOf iv).toNat)
  case atStart => exact ⟨0, by omega, rfl, Lib.hid (by rw [List.drop_zero]; exact HR.out.symm), Lib.hid rfl⟩
  case round =>
    obtain ⟨k, hk, rfl, F, HW⟩ := hrel
    obtain rfl := HW.out
    by_cases hlt : k < n
    · obtain ⟨x, hx⟩ : ∃ x, bs[k]? = some x := ⟨_, List.getElem?_eq_getElem (by rw [← HN.out]; exact hlt)⟩
      obtain ⟨ad, rfl, -, ck⟩ := H.out.cell hx
      have hat := idxZ_at d 0 bs k x hx
      rw [Nat.zero_add, Nat.zero_add, F.out] at hat
      have HLT := Lib.hid hlt
      by_cases hz : x = d
      · rw [if_pos hz] at hat
        subst hz
        have HA := Lib.hid hat
        have hq : (x.toList == x.toList) = true := by simp
        clear hat hx
        go_wp2_with fail
        go_ret
        exact ⟨by rw [HA.out]; rfl, rfl⟩
      · rw [if_neg hz] at hat
        have HA := Lib.hid hat.symm
        have hq : (d.toList == x.toList) = false := toList_ne17 (Ne.symm hz)
        clear hat hx hz
        go_wp2_with fail
        go_roundw
        case rel => exact ⟨k + 1, by omega, by go_num, Lib.hid HA.out, Lib.hid trivial⟩
        case measure => simp [intOf]; omega
    · have hkn := F.out
      rw [List.drop_of_length_le (by rw [← HN.out]; omega)] at hkn
      have HE := Lib.hid (show r = -1 from hkn.symm)
      clear hkn
      go_wp2_with fail
      go_ret
      exact ⟨by rw [HE.out]; rfl, rfl⟩
/-- Not too many orders, wagons or blocks of an order. -/
def okBs (os : List (List ByteArray)) : Bool := os.all fun bs => decide (bs.length ≤ 32)
def limB (os : List (List ByteArray)) (n : Nat) : Bool := decide (os.length ≤ 16) && (decide (n ≤ 96) && okBs os)
theorem okBs_at {os : List (List ByteArray)} {k : Nat} {bs : List ByteArray} (hk : os[k]? = some bs) : okBs (os.drop k) = (decide (bs.length ≤ 32) && okBs (os.drop (k + 1))) := by
  obtain ⟨hl, rfl⟩ := List.getElem?_eq_some_iff.1 hk
  rw [List.drop_eq_getElem_cons hl]; rfl
set_option maxHeartbeats 1600000 in
theorem limits_any (os : List (List ByteArray)) (A W : Option Addr) (n c m d : Nat) (hn : n = os.length) (hm : n ≤ maxLen) (hm2 : m ≤ maxLen) (w : World) (h : ORw w A os) :
    Calls Tryz.prog 48 #[.slice A n c, .slice W m d] w fun e w' => e = .returned (.bool (limB os m)) ∧ Below w.heap.size w w' := by
  have hl : n ≤ 9223372036854775807 := hm
  have hl2 : m ≤ 9223372036854775807 := hm2
  have H := Lib.hid h
  have HN := Lib.hid hn
  obtain ⟨r, hr⟩ : ∃ r, r = limB os m := ⟨_, rfl⟩
  have HR := Lib.hid hr
  rw [← hr]
  clear h hr hn hm hm2
  by_cases h16 : n ≤ 16
  · by_cases h96 : m ≤ 96
    · have HR2 := Lib.hid (show r = okBs os by rw [HR.out]; unfold limB; rw [decide_eq_true (by rw [← HN.out]; exact h16), decide_eq_true h96]; rfl)
      have g1 : ¬ (16 : Int) < (n : Int) := by omega
      have g2 : ¬ (96 : Int) < (m : Int) := by omega
      clear HR h96
      go_enter Tryz.func48, Tryz.ntmps48
      go_wp2_with fail
      go_loopw [17] (fun iv wr => ∃ k : Nat, k ≤ n ∧ iv = .int .i64 (k : Int) ∧ Hid (okBs (os.drop k) = r) ∧ Hid (Below w.heap.size w wr)) (fun iv _ => n - (intOf iv).toNat)
      case atStart => exact ⟨0, by omega, rfl, Lib.hid (by rw [List.drop_zero]; exact HR2.out.symm), Lib.hid (Below.refl _ _)⟩
      case round =>
        obtain ⟨k, hk, rfl, F, HB⟩ := hrel
        by_cases hlt : k < n
        · obtain ⟨bs, hx⟩ : ∃ x, os[k]? = some x := ⟨_, List.getElem?_eq_getElem (by rw [← HN.out]; exact hlt)⟩
          obtain ⟨ad, a, bc, rfl, hb, ck, -, hbm⟩ := (H.out.below HB.out) k bs hx
          have hat := okBs_at hx
          rw [F.out] at hat
          have HLT := Lib.hid hlt
          have B2 := Lib.hid (HB.out.trans ((box1W wr (.cells #[.slice a bs.length bc] 29)).mono HB.out.size))
          have y0 : (wr.alloc (.cells #[.slice a bs.length bc] 29)).cell? ⟨wr.heap.size, 0, none⟩ = some (.slice a bs.length bc) := by rw [cell_new]; rfl
          obtain ⟨bn, hbn⟩ : ∃ q, q = bs.length := ⟨_, rfl⟩
          rw [← hbn] at ck B2 y0 hat hbm
          have hl3 : bn ≤ 9223372036854775807 := hbm
          clear hbm hbn
          by_cases h32 : bn ≤ 32
          · rw [decide_eq_true h32, Bool.true_and] at hat
            have HA := Lib.hid hat.symm
            have g3 : ¬ (32 : Int) < (bn : Int) := by omega
            clear hat hx h32
            go_wp2_with fail
            go_roundw
            case rel => exact ⟨k + 1, by omega, by go_num, HA, B2⟩
            case measure => simp [intOf]; omega
          · rw [decide_eq_false h32, Bool.false_and] at hat
            have HA := Lib.hid hat
            have g3 : (32 : Int) < (bn : Int) := by omega
            clear hat hx h32
            go_wp2_with fail
            go_ret
            exact ⟨by rw [HA.out]; rfl, B2.out⟩
        · have hkn := F.out
          rw [List.drop_of_length_le (by rw [← HN.out]; omega)] at hkn
          have HE := Lib.hid (show r = true from hkn.symm)
          clear hkn
          go_wp2_with fail
          go_ret
          exact ⟨by rw [HE.out]; rfl, HB.out⟩
    · have HR2 := Lib.hid (show r = false by rw [HR.out]; unfold limB; rw [decide_eq_false h96]; simp)
      have g1 : ¬ (16 : Int) < (n : Int) := by omega
      have g2 : (96 : Int) < (m : Int) := by omega
      clear HR h96
      go_enter Tryz.func48, Tryz.ntmps48
      go_wp2_with fail
      go_ret
      exact ⟨by rw [HR2.out]; rfl, Below.refl _ _⟩
  · have HR2 := Lib.hid (show r = false by rw [HR.out]; unfold limB; rw [decide_eq_false (by rw [← HN.out]; exact h16)]; rfl)
    have g1 : (16 : Int) < (n : Int) := by omega
    clear HR h16
    go_enter Tryz.func48, Tryz.ntmps48
    go_wp2_with fail
    go_ret
    exact ⟨by rw [HR2.out]; rfl, Below.refl _ _⟩
/-- The train and the block of a destination, from the t-th order on. -/
def plcZ (d : ByteArray) : Nat → List (List ByteArray) → Int × Int × Bool
  | _, [] => (0, 0, false)
  | t, bs :: os => if 0 ≤ idxZ d 0 bs then ((t : Int), idxZ d 0 bs, true) else plcZ d (t + 1) os
theorem plcZ_at (d : ByteArray) {os : List (List ByteArray)} {k : Nat} {bs : List ByteArray} (hk : os[k]? = some bs) : plcZ d k (os.drop k) = if 0 ≤ idxZ d 0 bs then ((k : Int), idxZ d 0 bs, true) else plcZ d (k + 1) (os.drop (k + 1)) := by
  obtain ⟨hl, rfl⟩ := List.getElem?_eq_some_iff.1 hk
  rw [List.drop_eq_getElem_cons hl]; rfl
set_option maxHeartbeats 1600000 in
theorem place_any (os : List (List ByteArray)) (d : ByteArray) (A : Option Addr) (n c : Nat) (hn : n = os.length) (hm : n ≤ maxLen) (w : World) (h : ORw w A os) :
    Calls Tryz.prog 50 #[.string d, .slice A n c] w fun e w' => e = .returned (.tuple #[.int .i64 (plcZ d 0 os).1, .int .i64 (plcZ d 0 os).2.1, .bool (plcZ d 0 os).2.2]) ∧ Below w.heap.size w w' := by
  have hl : n ≤ 9223372036854775807 := hm
  have H := Lib.hid h
  have HN := Lib.hid hn
  have HI := Lib.hid (fun (bs : List ByteArray) => idxS_any bs d)
  obtain ⟨r, hr⟩ : ∃ r, r = plcZ d 0 os := ⟨_, rfl⟩
  have HR := Lib.hid hr
  rw [← hr]
  clear h hr hn hm
  go_enter Tryz.func50, Tryz.ntmps50
  go_wp2_with fail
  go_loopw [12] (fun iv wr => ∃ k : Nat, k ≤ n ∧ iv = .int .i64 (k : Int) ∧ Hid (plcZ d k (os.drop k) = r) ∧ Hid (Below w.heap.size w wr)) (fun iv _ => n - (intOf iv).toNat)
  case atStart => exact ⟨0, by omega, rfl, Lib.hid (by rw [List.drop_zero]; exact HR.out.symm), Lib.hid (Below.refl _ _)⟩
  case round =>
    obtain ⟨k, hk, rfl, F, HB⟩ := hrel
    by_cases hlt : k < n
    · obtain ⟨bs, hx⟩ : ∃ x, os[k]? = some x := ⟨_, List.getElem?_eq_getElem (by rw [← HN.out]; exact hlt)⟩
      obtain ⟨ad, a, bc, rfl, hb, ck, hsr, hbm⟩ := (H.out.below HB.out) k bs hx
      have hat := plcZ_at d hx
      rw [F.out] at hat
      have HLT := Lib.hid hlt
      obtain ⟨bn, hbn⟩ : ∃ q, q = bs.length := ⟨_, rfl⟩
      rw [← hbn] at ck hbm
      have B2 := Lib.hid (HB.out.trans ((box1W wr (.cells #[.slice a bn bc] 29)).mono HB.out.size))
      have y0 : (wr.alloc (.cells #[.slice a bn bc] 29)).cell? ⟨wr.heap.size, 0, none⟩ = some (.slice a bn bc) := by rw [cell_new]; rfl
      have HC := Lib.hid (HI.out bs a bn bc hbn hbm _ (hsr.below (box1W wr (.cells #[.slice a bn bc] 29))))
      obtain ⟨z, hz⟩ : ∃ z, z = idxZ d 0 bs := ⟨_, rfl⟩
      rw [← hz] at HC hat
      clear hbm hbn hsr hz
      go_wp2_with fail
      refine HC.out.mono ?_
      rintro e w3 ⟨rfl, hw3⟩
      subst hw3
      by_cases hz0 : 0 ≤ z
      · rw [if_pos hz0] at hat
        have HA := Lib.hid hat
        clear hat hx HC
        go_wp2_with fail
        go_ret3
        exact ⟨by rw [HA.out]; rfl, B2.out⟩
      · rw [if_neg hz0] at hat
        have HA := Lib.hid hat.symm
        clear hat hx HC
        go_wp2_with fail
        go_roundw
        case rel => exact ⟨k + 1, by have := HLT.out; omega, by go_num, HA, B2⟩
        case measure => simp [intOf]; have := HLT.out; omega
    · have hkn := F.out
      rw [List.drop_of_length_le (by rw [← HN.out]; omega)] at hkn
      have HE := Lib.hid (show r = (0, 0, false) from hkn.symm)
      clear hkn
      go_wp2_with fail
      go_ret3
      exact ⟨by rw [HE.out]; rfl, HB.out⟩
end Go.Proofs.YtimkmieohkefiaaGreat

namespace Go.Proofs.YtimkmieohkefiaaGreat
open Go.RowKit Go.Lib

/-- What an append of one item leaves. -/
def AppIt (base : Nat) (v : Value) (l : List It) (p : It) (W : World) (v' : Value) (w' : World) : Prop :=
  IOwn 52 w' base v' (l ++ [p]) ∧ W.grownBy w' v.ownBlock ∧ ∃ g c, v' = .slice (some ⟨g, 0, none⟩) (l.length + 1) c ∧ g < w'.heap.size
theorem wpList_appIt (W : World) {ops : Array Oper} {rest : List Oper} {o : Oper} {a : Act} {Q : Exit → Act → World → Prop} (hgd : o.guard = none) (s x : Operand)
    (ho : o.op = .call { callee := .builtin .append, args := #[s, x], argTypes := #[35, 35] }) (base : Nat) (v : Value) (l : List It) (hs : a.eval s = v) (O : IOwn 52 W base v l)
    (p : It) (w0 : World) (hW : W = w0.alloc (.cells #[.int .i64 p.1, .int .i64 p.2.1, .int .i64 p.2.2.1, .int .i64 p.2.2.2] 52)) (z : Nat) (hz : w0.heap.size = z) (hx : a.eval x = .slice (some ⟨z, 0, none⟩) 1 1)
    (hl : l.length ≤ 1000000) (hb : base ≤ W.heap.size)
    (h : ∀ v' w', AppIt base v l p W v' w' → wpList Tryz.prog ops Q rest (a.put o.dst v') w') : wpList Tryz.prog ops Q (o :: rest) a W := by
  obtain ⟨i0, hi, hz0, hz1, hz2⟩ := info_parts infoItem17
  subst hz
  have O' : World.ownsRow W base 52 4 v l.length ((flatI l).map (Value.int .i64)) := O
  refine wpList_append_lies W hgd s x 35 ho base 52 i0 (.agg #[.int .i64 0, .int .i64 0, .int .i64 0, .int .i64 0]) 4 32 Tryz.underlying35 hi hz0 hz1 hz2 rfl (by decide) v l.length ((flatI l).map (Value.int .i64)) hs O' ⟨w0.heap.size, 0, none⟩ 1 1 ((flatI [p]).map (Value.int .i64)) hx rfl (by rw [hW]; exact news_int (W := w0) (ys := flatI [p])) (one_cells (ys := flatI [p])) (by decide) (by unfold maxLen; omega) (by omega) hb W.heap.size rfl ?_
  intro g cap w1 hown hg hat hlt
  exact h _ w1 ⟨IOwn.app (l := l) (m := [p]) hown rfl rfl, hg, g, cap, rfl, hlt⟩
/-- The items of the wagons, behind those that there are. -/
def itsZ (os : List (List ByteArray)) : List It → List Wag → List It × Int
  | out, [] => (out, 0)
  | out, x :: l => if validW x ≠ 0 then ([], validW x) else if (plcZ x.dst 0 os).2.2 = true then itsZ os (out ++ [((plcZ x.dst 0 os).1, (plcZ x.dst 0 os).2.1, 0, x.len)]) l else ([], 13)
def itemsR (os : List (List ByteArray)) (l : List Wag) : List It × Int := if limB os l.length = true then itsZ os [] l else ([], 3)
theorem itsZ_at (os : List (List ByteArray)) (out : List It) {l : List Wag} {k : Nat} {x : Wag} (hk : l[k]? = some x) :
    itsZ os out (l.drop k) = if validW x ≠ 0 then ([], validW x) else if (plcZ x.dst 0 os).2.2 = true then itsZ os (out ++ [((plcZ x.dst 0 os).1, (plcZ x.dst 0 os).2.1, 0, x.len)]) (l.drop (k + 1)) else ([], 13) := by
  obtain ⟨hl, rfl⟩ := List.getElem?_eq_some_iff.1 hk
  rw [List.drop_eq_getElem_cons hl]; rfl
def ItmPost (os : List (List ByteArray)) (l : List Wag) (w : World) (e : Ending) (w' : World) : Prop :=
  ∃ v, e = .returned (.tuple #[v, .int .i64 (itemsR os l).2]) ∧ IOwn 52 w' w.heap.size v (itemsR os l).1 ∧ Below w.heap.size w w'
set_option maxRecDepth 100000 in
set_option maxHeartbeats 6400000 in
theorem items_any (os : List (List ByteArray)) (l : List Wag) (A B : Option Addr) (n c m d : Nat) (hn : n = os.length) (hnm : n ≤ maxLen) (hm : m = l.length) (w : World) (h : ORw w A os) (hl : RRow WR w B l) :
    Calls Tryz.prog 17 #[.slice A n c, .slice B m d] w (ItmPost os l w) := by
  have HLM := Lib.hid (limits_any os A B n c m d hn hnm (by rw [hm]; exact hl.len) w h)
  have HPL := Lib.hid (fun (s : ByteArray) (W : World) (k : Below w.heap.size w W) => place_any os s A n c hn hnm W (h.below k))
  have HRW := Lib.hid hl
  have HM := Lib.hid hm
  have hmm : m ≤ 9223372036854775807 := by rw [hm]; exact hl.len
  obtain ⟨r, hr⟩ : ∃ r, r = itemsR os l := ⟨_, rfl⟩
  have HR := Lib.hid (show r = if limB os m = true then itsZ os [] l else ([], 3) by rw [hr, hm]; rfl)
  have HP := Lib.hid (show ∀ v W, IOwn 52 W w.heap.size v r.1 → Below w.heap.size w W → ItmPost os l w (.returned (.tuple #[v, .int .i64 r.2])) W from fun v W h1 h2 => ⟨v, by rw [hr], by rw [← hr]; exact h1, h2⟩)
  clear h hl hn hnm hm hr
  go_enter Tryz.func17, Tryz.ntmps17
  go_wp2_with fail
  refine HLM.out.mono ?_
  rintro e w1 ⟨rfl, B1⟩
  have HB := Lib.hid B1
  clear B1 HLM
  cases hlb : limB os m with
  | false =>
    have HE := Lib.hid (show r = ([], 3) by rw [HR.out, hlb]; rfl)
    clear hlb HR
    go_wp2_with fail
    go_ret2
    have := HP.out (.slice none 0 0) w1 (by rw [HE.out]; exact IOwn.nil) HB.out
    rw [HE.out] at this
    exact this
  | true =>
    have HE := Lib.hid (show itsZ os [] l = r by rw [HR.out, hlb, if_pos rfl])
    have HM96 := Lib.hid (show m ≤ 96 by unfold limB at hlb; simp at hlb; omega)
    have hm96 := HM96.out
    clear hlb HR
    go_upto_region 5 with fail
    obtain ⟨bb, hbb⟩ : ∃ b, b = w1.heap.size := ⟨_, rfl⟩
    have HBB := Lib.hid hbb
    have HWB := Lib.hid (show w.heap.size ≤ bb by rw [hbb]; exact HB.out.size)
    clear hbb
    go_loopw [6, 19] (fun v6 iv wr => ∃ (k : Nat) (out : List It), k ≤ m ∧ iv = .int .i64 (k : Int) ∧ Hid (itsZ os out (l.drop k) = r ∧ out.length = k) ∧ Hid (IOwn 52 wr bb v6 out) ∧ Hid (Below bb w1 wr)) (fun _ iv _ => m - (intOf iv).toNat)
    case atStart => exact ⟨0, [], Nat.zero_le _, rfl, Lib.hid ⟨by rw [List.drop_zero]; exact HE.out, rfl⟩, Lib.hid IOwn.nil, Lib.hid (by rw [HBB.out]; exact Below.refl _ _)⟩
    case round =>
      obtain ⟨k, out, hk, rfl, HF, HO, HR⟩ := hrel
      have HZ := Lib.hid (show bb ≤ wr.heap.size by rw [HBB.out]; exact HR.out.size)
      have HBW := Lib.hid (HB.out.trans (HR.out.mono HWB.out))
      by_cases hlt : k < m
      · obtain ⟨x, hx⟩ : ∃ x, l[k]? = some x := ⟨_, List.getElem?_eq_getElem (by rw [← HM.out]; exact hlt)⟩
        have hat := itsZ_at os out hx
        rw [HF.out.1] at hat
        have HAT := Lib.hid hat
        obtain ⟨ad, rfl, CR⟩ := (HRW.out.below HBW.out).at_ hx
        have CX := WSpelt.of CR
        have HVC := Lib.hid (fun W => cvalid_any x W)
        obtain ⟨vv, hvv⟩ : ∃ z, z = validW x := ⟨_, rfl⟩
        have HVV := Lib.hid hvv
        obtain ⟨x0, x1, x2, x3, x4, x5, x6, x7⟩ := x
        have c0 : wr.cell? (ad.add (k * 8)) = some (.string x0) := CX.c0
        have c1 : wr.cell? ⟨(ad.add (k * 8)).block, (ad.add (k * 8)).off + 1, none⟩ = some (.int .i64 x1) := CX.c1
        have c2 : wr.cell? ⟨(ad.add (k * 8)).block, (ad.add (k * 8)).off + 2, none⟩ = some (.int .i64 x2) := CX.c2
        have c3 : wr.cell? ⟨(ad.add (k * 8)).block, (ad.add (k * 8)).off + 3, none⟩ = some (.int .i64 x3) := CX.c3
        have c4 : wr.cell? ⟨(ad.add (k * 8)).block, (ad.add (k * 8)).off + 4, none⟩ = some (.int .i64 x4) := CX.c4
        have c5 : wr.cell? ⟨(ad.add (k * 8)).block, (ad.add (k * 8)).off + 5, none⟩ = some (.int .i64 x5) := CX.c5
        have c6 : wr.cell? ⟨(ad.add (k * 8)).block, (ad.add (k * 8)).off + 6, none⟩ = some (.bool x6) := CX.c6
        have c7 : wr.cell? ⟨(ad.add (k * 8)).block, (ad.add (k * 8)).off + 7, none⟩ = some (.string x7) := CX.c7
        have HLB := Lib.hid CR.lt
        have HKL := Lib.hid HF.out.2
        have B4 := Lib.hid (box1W wr (.cells #[.string x0, .int .i64 x1, .int .i64 x2, .int .i64 x3, .int .i64 x4, .int .i64 x5, .bool x6, .string x7] 33))
        have O4 := Lib.hid (HO.out.below B4.out)
        have Y4 := Lib.hid (show AB 33 (wr.alloc (.cells #[.string x0, .int .i64 x1, .int .i64 x2, .int .i64 x3, .int .i64 x4, .int .i64 x5, .bool x6, .string x7] 33)) wr.heap.size [.string x0, .int .i64 x1, .int .i64 x2, .int .i64 x3, .int .i64 x4, .int .i64 x5, .bool x6, .string x7] from AB.new wr [.string x0, .int .i64 x1, .int .i64 x2, .int .i64 x3, .int .i64 x4, .int .i64 x5, .bool x6, .string x7] 33 wr.heap.size rfl)
        have R4 := Lib.hid (HR.out.trans (B4.out.mono HZ.out))
        have HLT := Lib.hid hlt
        clear CX CR hx HO HR HBW HF hat hvv
        go_upto_region 7 with fail
        obtain ⟨y, hy⟩ : ∃ y, y = wr.heap.size := ⟨_, rfl⟩
        rw [← hy] at Y4 ⊢
        generalize wr.alloc (.cells #[.string x0, .int .i64 x1, .int .i64 x2, .int .i64 x3, .int .i64 x4, .int .i64 x5, .bool x6, .string x7] 33) = w4 at *
        clear hy c0 c1 c2 c3 c4 c5 c6 c7 B4
        have y0 := Y4.out.cell 0 (u := .string x0) rfl
        have y1 := Y4.out.cell 1 (u := .int .i64 x1) rfl
        have y2 := Y4.out.cell 2 (u := .int .i64 x2) rfl
        have y3 := Y4.out.cell 3 (u := .int .i64 x3) rfl
        have y4 := Y4.out.cell 4 (u := .int .i64 x4) rfl
        have y5 := Y4.out.cell 5 (u := .int .i64 x5) rfl
        have y6 := Y4.out.cell 6 (u := .bool x6) rfl
        have y7 := Y4.out.cell 7 (u := .string x7) rfl
        go_wp2_with fail
        refine (HVC.out w4).mono ?_
        rintro e w5 ⟨rfl, B5⟩
        rw [← HVV.out]
        have hs4 : bb ≤ w4.heap.size := by rw [HBB.out]; exact R4.out.size
        have O5 := Lib.hid (O4.out.below B5)
        have Y5 := Lib.hid (Y4.out.below B5 Y4.out.lt)
        have R5 := Lib.hid (R4.out.trans (B5.mono hs4))
        have W5 := Lib.hid (HB.out.trans (R5.out.mono HWB.out))
        clear y0 y1 y2 y3 y4 y5 y6 y7 hs4 O4 Y4 R4 B5 HVC
        by_cases hv0 : vv = 0
        · have HA1 := Lib.hid (show r = if (plcZ x7 0 os).2.2 = true then itsZ os (out ++ [((plcZ x7 0 os).1, (plcZ x7 0 os).2.1, 0, x1)]) (l.drop (k + 1)) else ([], 13) from by have := HAT.out; rw [← HVV.out, if_neg (fun g => g hv0)] at this; exact this)
          obtain ⟨p, hp⟩ : ∃ p, p = plcZ x7 0 os := ⟨_, rfl⟩
          have HPC := Lib.hid (HPL.out x7 w5 W5.out)
          rw [← hp] at HA1 HPC
          have HV0 := Lib.hid hv0
          subst hv0
          clear hp HAT
          have y7 := Y5.out.cell 7 (u := .string x7) rfl
          go_wp2_with fail
          refine HPC.out.mono ?_
          rintro e w6 ⟨rfl, B6⟩
          have hs5 : bb ≤ w5.heap.size := by rw [HBB.out]; exact R5.out.size
          have O6 := Lib.hid (O5.out.below B6)
          have Y6 := Lib.hid (Y5.out.below B6 Y5.out.lt)
          have R6 := Lib.hid (R5.out.trans (B6.mono hs5))
          have W6 := Lib.hid (HB.out.trans (R6.out.mono HWB.out))
          have HZ6 := Lib.hid (show bb ≤ w6.heap.size by rw [HBB.out]; exact R6.out.size)
          clear y7 hs5 O5 Y5 R5 W5 B6 HPC
          obtain ⟨p1, p2, p3⟩ := p
          simp only at HA1
          cases p3 with
          | false =>
            have HE2 := Lib.hid (show r = ([], 13) by rw [HA1.out]; rfl)
            clear HA1
            go_wp2_with fail
            go_ret2
            have := HP.out (.slice none 0 0) w6 (by rw [HE2.out]; exact IOwn.nil) W6.out
            rw [HE2.out] at this
            exact this
          | true =>
            have HE2 := Lib.hid (show itsZ os (out ++ [(p1, p2, 0, x1)]) (l.drop (k + 1)) = r by rw [HA1.out]; rfl)
            clear HA1
            obtain ⟨oA, oc, hv6, -⟩ := O6.out.full
            rw [HKL.out] at hv6
            subst hv6
            have y1 := Y6.out.cell 1 (u := .int .i64 x1) rfl
            have hk96 : k ≤ 96 := by omega
            have HK96 := Lib.hid hk96
            go_wp2_with (first | (at_builtin; refine wpList_appIt _ rfl (.tmp 38) (.tmp 44) rfl bb _ out rfl (O6.out.alloc _) (p1, p2, 0, x1) w6 rfl _ rfl rfl (by rw [HKL.out]; omega) (le_allocG HZ6.out) ?_; intro v8 w8 A8))
            have O8 := Lib.hid A8.1
            have R8 := Lib.hid (below_grown (R6.out.trans ((box1W w6 (.cells #[.int .i64 p1, .int .i64 p2, .int .i64 0, .int .i64 x1] 52)).mono HZ6.out)) A8.2.1 (fun g hg => (O6.out.block hg).1) (le_allocG HZ6.out))
            clear A8
            go_roundw
            case rel => exact ⟨k + 1, out ++ [(p1, p2, 0, x1)], by have := HLT.out; omega, by go_num, Lib.hid ⟨HE2.out, by rw [List.length_append, HKL.out]; rfl⟩, O8, R8⟩
            case measure => simp [intOf]; have := HLT.out; omega
        · have hne : (vv != 0) = true := bne_iff_ne.2 hv0
          have HE2 := Lib.hid (show r = ([], vv) by have := HAT.out; rw [← HVV.out, if_pos hv0] at this; exact this)
          clear hv0 HAT
          go_wp2_with fail
          go_ret2
          have := HP.out (.slice none 0 0) w5 (by rw [HE2.out]; exact IOwn.nil) W5.out
          rw [HE2.out] at this
          exact this
      · have HE2 := Lib.hid (show r = (out, 0) by have := HF.out.1; rw [List.drop_of_length_le (by rw [← HM.out]; omega)] at this; exact this.symm)
        go_wp2_with fail
        go_ret2
        have := HP.out _ wr (by rw [HE2.out]; exact HO.out.base HWB.out) HBW.out
        rw [HE2.out] at this
        exact this
end Go.Proofs.YtimkmieohkefiaaGreat

namespace Go.Proofs.YtimkmieohkefiaaGreat
open Go.RowKit Go.Lib

theorem back_ex {l : List It} {wt : Int} {bs v : List Int} (hf : FormOk l wt) (h : Sol l wt bs v) : ∀ (n y : Nat), y < l.length → blk l y < (n : Int) → ∃ c, IsBackB l v bs y c := by
  intro n
  induction n with
  | zero => intro y hy hb; have := (hf.blk y hy).1; omega
  | succ n ih =>
    intro y hy hb
    by_cases h0 : bs.getD y 0 ≤ 0
    · exact ⟨_, .one y h0⟩
    · have hM := h.base y hy
      rcases hM.hit with g | ⟨x, hx, e⟩
      · omega
      · have hx' : x < l.length := hx
        obtain ⟨z, hz, hzm⟩ : ∃ z, (z < l.length ∧ via l v z y = bs.getD y 0) ∧ ∀ u, u < z → via l v u y ≠ bs.getD y 0 := by
          have : ∀ k x, x < k → x < l.length → via l v x y = bs.getD y 0 → ∃ z, (z < l.length ∧ via l v z y = bs.getD y 0) ∧ ∀ u, u < z → via l v u y ≠ bs.getD y 0 := by
            intro k
            induction k with
            | zero => intro x hx; omega
            | succ k ihk =>
              intro x hxk hxl hxe
              by_cases g : ∃ u, u < x ∧ via l v u y = bs.getD y 0
              · obtain ⟨u, hu, hue⟩ := g
                exact ihk u (by omega) (by omega) hue
              · exact ⟨x, ⟨hxl, hxe⟩, fun u hu k => g ⟨u, hu, k⟩⟩
          exact this (x + 1) x (Nat.lt_succ_self _) hx' e
        have hr : rel l z y ≠ 0 := fun g => by
          have := via_zero (v := v) g
          omega
        obtain ⟨c, hc⟩ := ih z hz.1 (by have := (rel_pos hr).2; omega)
        exact ⟨_, .step y z c (by omega) hz.1 hz.2 hzm hc⟩
theorem mk_ex {l : List It} {wt : Int} {bs v : List Int} (hv : validR l wt = 0) (h : Sol l wt bs v) : ∃ st ch, MakeR l wt st v ch 0 := by
  have hf := formOk_of hv
  by_cases h0 : l.length = 0
  · have e : v = [] := List.length_eq_zero_iff.1 (h.vlen.trans h0)
    exact ⟨0, [], Or.inr (Or.inr ⟨hv, rfl, ⟨bs, h⟩, Or.inl ⟨e, rfl⟩⟩), Or.inr (Or.inr ⟨hv, rfl, bs, v, h, Or.inl ⟨h0, rfl⟩⟩)⟩
  · obtain ⟨M, hM⟩ := TopV.ex v v.length (by rw [h.vlen]; omega)
    obtain ⟨y, hy⟩ := hM.top
    obtain ⟨c, hc⟩ := back_ex hf h 33 y (by rw [← h.vlen]; exact hy.lt) (by have := (hf.blk y (by rw [← h.vlen]; exact hy.lt)).2; omega)
    exact ⟨_, toZ c, Or.inr (Or.inr ⟨hv, rfl, ⟨bs, h⟩, Or.inr ⟨M, hM, rfl⟩⟩), Or.inr (Or.inr ⟨hv, rfl, bs, v, h, Or.inr ⟨y, c, hy, hc, rfl⟩⟩)⟩
/-- A test for solutions. -/
def solB (l : List It) (wt : Int) (bs v : List Int) : Bool :=
  (v.length == l.length) && (bs.length == l.length) && (List.range l.length).all fun y =>
    decide (0 ≤ bs.getD y 0) && ((List.range l.length).all fun x => decide (via l v x y ≤ bs.getD y 0)) && (decide (bs.getD y 0 = 0) || (List.range l.length).any fun x => decide (via l v x y = bs.getD y 0)) && decide (nextZ (bs.getD y 0) (rnd l y) wt = (v.getD y 0, 0))
theorem sol_of {l : List It} {wt : Int} {bs v : List Int} (h : solB l wt bs v = true) : Sol l wt bs v := by
  unfold solB at h
  simp only [Bool.and_eq_true, beq_iff_eq, List.all_eq_true, List.mem_range, decide_eq_true_eq, Bool.or_eq_true, List.any_eq_true] at h
  obtain ⟨⟨h1, h2⟩, h3⟩ := h
  refine ⟨h1, h2, fun _ h => h, fun x y _ hx _ => hx, fun y hy => ?_, fun y hy => (h3 y hy).2, fun y hy => ?_⟩
  · obtain ⟨⟨⟨a, b⟩, c⟩, _⟩ := h3 y hy
    refine ⟨a, fun x hx => b x hx, ?_⟩
    rcases c with c | ⟨x, hx, e⟩
    · exact Or.inl c
    · exact Or.inr ⟨x, hx, e⟩
  · have : l.length ≤ y := Nat.not_lt.1 hy
    exact ⟨by rw [List.getD_eq_getElem?_getD, List.getElem?_eq_none (by omega)]; rfl, by rw [List.getD_eq_getElem?_getD, List.getElem?_eq_none (by omega)]; rfl⟩
/-- The scheme of a solution that is known. -/
theorem sc_at {l : List It} {wt : Int} {bs v : List Int} {S : Nat} (hv : validR l wt = 0) (h : Sol l wt bs v) (hs : StepsOf v (S : Int)) : ∃ ch, ScR l ⟨wt, (S : Int), mvZ l (S : Int) v, (pushZ l wt (S : Int) v).1, v, ch⟩ := by
  obtain ⟨st, ch, hm⟩ := mk_ex hv h
  have : LeastR l wt (S : Int) v 0 := Or.inr (Or.inr ⟨hv, rfl, ⟨bs, h⟩, hs⟩)
  obtain ⟨e, -, -⟩ := hm.1.uniq this
  subst e
  exact ⟨ch, hm, rfl, rfl⟩
abbrev its3 : List It := [(0, 0, 0, 100), (0, 0, 0, 100), (0, 1, 0, 100)]
abbrev its4 : List It := [(0, 1, 0, 100), (0, 3, 0, 100), (0, 0, 0, 100), (0, 2, 0, 100)]
set_option maxRecDepth 100000 in
theorem its3_sol : solB its3 0 [0, 0, 0] [0, 0, 0] = true ∧ solB its3 1 [0, 0, 0] [0, 0, 0] = true ∧ solB its3 2 [0, 0, 0] [0, 0, 0] = true ∧ solB its3 12 [0, 0, 0] [0, 0, 0] = true := by decide +kernel
set_option maxRecDepth 100000 in
theorem its4_sol : solB its4 1 [1, 2, 0, 1] [1, 2, 0, 1] = true ∧ solB its4 2 [1, 2, 0, 1] [1, 2, 0, 1] = true ∧ solB its4 12 [1, 2, 0, 1] [1, 2, 0, 1] = true := by decide +kernel
theorem its3_v : validR its3 0 = 0 := by decide
theorem its4_v : validR its4 0 = 0 := by decide
theorem its4_no : ∀ bs v, ¬ Sol its4 0 bs v := fun bs v h => by
  have hf := formOk_of its4_v
  have hb := h.bound hf
  have h2 := (h.base 0 (by decide)).le 2 (by decide)
  have e : via its4 v 2 0 = v.getD 2 0 + 1 := rfl
  have h3 : 1 ≤ bs.getD 0 0 := by
    have h4 : via its4 v 2 0 ≤ bs.getD 0 0 := h2
    have := (hb 2).1
    omega
  obtain ⟨j, hj, _⟩ := next_mono (a := 1) (by omega) h3 (hf.rb 0 (by decide)) hf.wb (h.code 0 (by decide))
  have h5 : nextZ 1 0 0 = (j, 0) := hj
  rw [next4.2.2.2.1] at h5
  injection h5 with _ h5
  omega
theorem steps3 : StepsOf [0, 0, 0] ((0 : Nat) : Int) := Or.inr ⟨0, ⟨by decide, ⟨0, by decide, rfl⟩⟩, by decide⟩
theorem steps4 : StepsOf [1, 2, 0, 1] ((2 : Nat) : Int) := Or.inr ⟨2, ⟨by decide, ⟨1, by decide, rfl⟩⟩, by decide⟩
set_option maxRecDepth 100000 in
theorem mv3 : mvZ its3 ((0 : Nat) : Int) [0, 0, 0] = 3 := by decide +kernel
set_option maxRecDepth 100000 in
theorem pu3 : (pushZ its3 0 ((0 : Nat) : Int) [0, 0, 0]).1 = 1 ∧ (pushZ its3 1 ((0 : Nat) : Int) [0, 0, 0]).1 = 1 ∧ (pushZ its3 2 ((0 : Nat) : Int) [0, 0, 0]).1 = 1 ∧ (pushZ its3 12 ((0 : Nat) : Int) [0, 0, 0]).1 = 1 := by decide +kernel
set_option maxRecDepth 100000 in
theorem ld4 : loadL its4 1 ((2 : Nat) : Int) [1, 2, 0, 1] = [200, 100, 400] := by decide +kernel
theorem q_first {P q : List Sc} (h : Srt17 P q) {s : Sc} (hs : s ∈ P) (hm : ∀ t ∈ P, t = s ∨ Bf s t) : q[0]? = some s := by
  have hq : s ∈ q := h.perm.mem_iff.2 hs
  obtain ⟨i, hi⟩ := List.mem_iff_getElem?.1 hq
  obtain ⟨hil, e⟩ := List.getElem?_eq_some_iff.1 hi
  rcases Nat.eq_zero_or_pos i with rfl | hp
  · exact hi
  · have h0 : 0 < q.length := by omega
    have hb := List.pairwise_iff_getElem.1 h.asc 0 i h0 hil hp
    rw [e] at hb
    rcases hm q[0] (h.perm.mem_iff.1 (List.getElem_mem h0)) with g | g
    · rw [g] at hb; exact absurd hb Bf.irr
    · exact absurd (hb.trans g) Bf.irr
theorem scL_cons {l : List It} : scL l = (scO l 0).toList ++ ((scO l 1).toList ++ ((scO l 2).toList ++ (scO l 12).toList)) := by
  unfold scL scK wts
  simp only [List.take, List.filterMap_cons, List.filterMap_nil]
  cases scO l 0 <;> cases scO l 1 <;> cases scO l 2 <;> cases scO l 12 <;> rfl
theorem scL_of3 {l : List It} {s1 s2 s3 : Sc} (e0 : scO l 0 = none) (h1 : ScR l s1) (w1 : s1.wt = 1) (h2 : ScR l s2) (w2 : s2.wt = 2) (h3 : ScR l s3) (w3 : s3.wt = 12) : scL l = [s1, s2, s3] := by
  have g1 := scO_some h1
  have g2 := scO_some h2
  have g3 := scO_some h3
  rw [w1] at g1; rw [w2] at g2; rw [w3] at g3
  rw [scL_cons, e0, g1, g2, g3]; rfl
theorem its3_sc : ∃ c0 c1 c2 c3, scL its3 = [⟨0, ((0 : Nat) : Int), 3, 1, [0, 0, 0], c0⟩, ⟨1, ((0 : Nat) : Int), 3, 1, [0, 0, 0], c1⟩, ⟨2, ((0 : Nat) : Int), 3, 1, [0, 0, 0], c2⟩, ⟨12, ((0 : Nat) : Int), 3, 1, [0, 0, 0], c3⟩] := by
  obtain ⟨a0, a1, a2, a3⟩ := its3_sol
  obtain ⟨p0, p1, p2, p3⟩ := pu3
  obtain ⟨c0, s0⟩ := sc_at (wt := 0) its3_v (sol_of a0) steps3
  obtain ⟨c1, s1⟩ := sc_at (wt := 1) ((valid_w (by decide) (by decide)).trans its3_v) (sol_of a1) steps3
  obtain ⟨c2, s2⟩ := sc_at (wt := 2) ((valid_w (by decide) (by decide)).trans its3_v) (sol_of a2) steps3
  obtain ⟨c3, s3⟩ := sc_at (wt := 12) ((valid_w (by decide) (by decide)).trans its3_v) (sol_of a3) steps3
  rw [mv3, p0] at s0
  rw [mv3, p1] at s1
  rw [mv3, p2] at s2
  rw [mv3, p3] at s3
  exact ⟨c0, c1, c2, c3, by rw [scL_cons, show scO its3 0 = _ from scO_some s0, show scO its3 1 = _ from scO_some s1, show scO its3 2 = _ from scO_some s2, show scO its3 12 = _ from scO_some s3]; rfl⟩
theorem sane3E : solE its3 = 0 := by
  obtain ⟨c0, c1, c2, c3, e⟩ := its3_sc
  unfold solE; rw [if_neg (fun g => g its3_v), e]; rfl
theorem sane3 {q : List Sc} (h : Srt17 (scL its3) q) : q.length = 4 ∧ ∃ s, q[0]? = some s ∧ s.wt = 0 ∧ s.st = 0 ∧ s.mv = 3 ∧ s.pu = 1 := by
  obtain ⟨c0, c1, c2, c3, e⟩ := its3_sc
  refine ⟨?_, ?_⟩
  · rw [h.len, e]; rfl
  · refine ⟨_, q_first h (s := ⟨0, ((0 : Nat) : Int), 3, 1, [0, 0, 0], c0⟩) (by rw [e]; exact List.mem_cons_self ..) (fun t ht => ?_), rfl, rfl, rfl, rfl⟩
    rw [e] at ht
    simp only [List.mem_cons, List.not_mem_nil, or_false] at ht
    rcases ht with rfl | rfl | rfl | rfl
    · exact Or.inl rfl
    · exact Or.inr (Or.inr ⟨rfl, Or.inr ⟨rfl, by simp only; omega⟩⟩)
    · exact Or.inr (Or.inr ⟨rfl, Or.inr ⟨rfl, by simp only; omega⟩⟩)
    · exact Or.inr (Or.inr ⟨rfl, Or.inr ⟨rfl, by simp only; omega⟩⟩)
theorem ord4 : IsOrd [200, 100, 400] [2, 0, 1] := ⟨by decide, by unfold Rk; decide⟩
theorem mout4 : MOut [200, 100, 400] [500, 500, 500] [2, 0, 1] [1, 2, 0] [] 0 := Or.inr (Or.inl ⟨by decide, by unfold OkTo; decide, by decide, rfl, rfl⟩)
abbrev s4a (c : List Int) : Sc := ⟨1, ((2 : Nat) : Int), mvZ its4 ((2 : Nat) : Int) [1, 2, 0, 1], (pushZ its4 1 ((2 : Nat) : Int) [1, 2, 0, 1]).1, [1, 2, 0, 1], c⟩
abbrev s4b (c : List Int) : Sc := ⟨2, ((2 : Nat) : Int), mvZ its4 ((2 : Nat) : Int) [1, 2, 0, 1], (pushZ its4 2 ((2 : Nat) : Int) [1, 2, 0, 1]).1, [1, 2, 0, 1], c⟩
abbrev s4c (c : List Int) : Sc := ⟨12, ((2 : Nat) : Int), mvZ its4 ((2 : Nat) : Int) [1, 2, 0, 1], (pushZ its4 12 ((2 : Nat) : Int) [1, 2, 0, 1]).1, [1, 2, 0, 1], c⟩
theorem its4_sc : ∃ c1 c2 c3, scL its4 = [s4a c1, s4b c2, s4c c3] := by
  obtain ⟨a1, a2, a3⟩ := its4_sol
  obtain ⟨c1, s1⟩ := sc_at (wt := 1) ((valid_w (by decide) (by decide)).trans its4_v) (sol_of a1) steps4
  obtain ⟨c2, s2⟩ := sc_at (wt := 2) ((valid_w (by decide) (by decide)).trans its4_v) (sol_of a2) steps4
  obtain ⟨c3, s3⟩ := sc_at (wt := 12) ((valid_w (by decide) (by decide)).trans its4_v) (sol_of a3) steps4
  have e0 : scO its4 0 = none := by
    cases e : scO its4 0 with
    | none => rfl
    | some t =>
      obtain ⟨h1, h2⟩ := (scO_spec its4 0).1 t e
      rcases h1.1.1 with ⟨g1, g2, _⟩ | ⟨_, g2, _⟩ | ⟨_, _, ⟨bs, g3⟩, _⟩
      · exact absurd g2.symm g1
      · cases g2
      · rw [h2] at g3; exact absurd g3 (its4_no _ _)
  exact ⟨c1, c2, c3, scL_of3 e0 s1 rfl s2 rfl s3 rfl⟩
theorem sane4E : solE its4 = 0 := by
  obtain ⟨c1, c2, c3, e⟩ := its4_sc
  unfold solE; rw [if_neg (fun g => g its4_v), e]; rfl
theorem sane4 {q : List Sc} {res : Option (Sc × List Int)} {rf : List Int} {er : Int} (h : Srt17 (scL its4) q) (k : PlanR its4 [500, 500, 500] q res rf er) : er = 0 ∧ ∃ s tk, res = some (s, tk) ∧ s.wt = 1 ∧ s.st = 2 := by
  obtain ⟨c1, c2, c3, e'⟩ := its4_sc
  have hq := q_first h (s := ⟨1, ((2 : Nat) : Int), mvZ its4 ((2 : Nat) : Int) [1, 2, 0, 1], (pushZ its4 1 ((2 : Nat) : Int) [1, 2, 0, 1]).1, [1, 2, 0, 1], c1⟩) (by rw [e']; exact List.mem_cons_self ..) (fun t ht => by
    rw [e'] at ht
    simp only [List.mem_cons, List.not_mem_nil, or_false] at ht
    rcases ht with rfl | rfl | rfl
    · exact Or.inl rfl
    · exact Or.inr (Or.inr ⟨rfl, Or.inr ⟨rfl, by simp only; omega⟩⟩)
    · exact Or.inr (Or.inr ⟨rfl, Or.inr ⟨rfl, by simp only; omega⟩⟩))
  have hm : MatR (ldS its4 ⟨1, ((2 : Nat) : Int), mvZ its4 ((2 : Nat) : Int) [1, 2, 0, 1], (pushZ its4 1 ((2 : Nat) : Int) [1, 2, 0, 1]).1, [1, 2, 0, 1], c1⟩) [500, 500, 500] [1, 2, 0] [] 0 := by
    show MatR (loadL its4 1 ((2 : Nat) : Int) [1, 2, 0, 1]) _ _ _ _
    rw [ld4]
    exact ⟨_, ord4, mout4⟩
  have hk : PlanR its4 [500, 500, 500] q (some (_, [1, 2, 0])) [] 0 := Or.inr (Or.inl ⟨by decide, 0, _, [1, 2, 0], hq, fun j t hj => absurd hj (Nat.not_lt_zero _), hm, rfl, rfl, rfl⟩)
  obtain ⟨rfl, -, rfl⟩ := k.uniq hk
  exact ⟨rfl, _, _, rfl, rfl, rfl⟩
abbrev wag17 : Wag := ⟨⟨#[51, 49, 56, 48, 50, 55, 55, 51, 49, 50, 51, 55]⟩, 100, 2, 100, 0, 0, false, ⟨#[97]⟩⟩
set_option maxRecDepth 100000 in
theorem items17 : itemsR [[⟨#[98]⟩]] [wag17] = ([], 13) := by decide +kernel
end Go.Proofs.YtimkmieohkefiaaGreat

namespace Go.Proofs.YtimkmieohkefiaaGreat
open Go.RowKit Go.Lib

def litI (bs : List Int) : List It := bs.map fun b => (0, b, 0, 100)
theorem litI_take {bs : List Int} {k : Nat} (hk : k < bs.length) : litI (bs.take (k + 1)) = litI (bs.take k) ++ [(0, bs.getD k 0, 0, 100)] := by
  unfold litI
  rw [List.take_add_one, List.map_append, List.getD_eq_getElem?_getD, List.getElem?_eq_getElem hk]; rfl
set_option maxHeartbeats 1600000 in
theorem litems_any (bs : List Int) (A : Option Addr) (n c : Nat) (hn : n = bs.length) (hm : n ≤ 1000) (w : World) (h : Row .i64 w w.heap.size A bs) :
    Calls Tryz.prog 14 #[.slice A n c] w fun e w' => ∃ v, e = .returned v ∧ IOwn 52 w' w.heap.size v (litI bs) ∧ Below w.heap.size w w' := by
  have H := Lib.hid h
  have HN := Lib.hid hn
  clear h hn
  go_enter Tryz.func14, Tryz.ntmps14
  go_wp2_with fail
  go_loopw [3, 8] (fun ov iv wr => ∃ k : Nat, k ≤ n ∧ iv = .int .i64 (k : Int) ∧ Hid (IOwn 52 wr w.heap.size ov (litI (bs.take k))) ∧ Hid (Below w.heap.size w wr)) (fun _ iv _ => n - (intOf iv).toNat)
  case atStart => exact ⟨0, Nat.zero_le _, rfl, Lib.hid IOwn.nil, Lib.hid (Below.refl _ _)⟩
  case round =>
    obtain ⟨k, hk, rfl, HO, HB⟩ := hrel
    by_cases hlt : k < n
    · obtain ⟨ad, rfl, hb, ck⟩ := (H.out.below HB.out) k (by rw [← HN.out]; exact hlt)
      have HT := Lib.hid (litI_take (bs := bs) (k := k) (by rw [← HN.out]; exact hlt))
      have HLT := Lib.hid hlt
      have HKL := Lib.hid (show (litI (bs.take k)).length = k by unfold litI; rw [List.length_map, List.length_take, ← HN.out]; omega)
      obtain ⟨z, hz⟩ : ∃ z, z = bs.getD k 0 := ⟨_, rfl⟩
      rw [← hz] at ck HT
      obtain ⟨oA, oc, hv6, -⟩ := HO.out.full
      rw [HKL.out] at hv6
      subst hv6
      clear hz
      go_wp2_with (first | (at_builtin; refine wpList_appIt _ rfl (.tmp 12) (.tmp 15) rfl w.heap.size _ (litI (bs.take k)) rfl (HO.out.alloc _) (0, z, 0, 100) wr rfl _ rfl rfl (by rw [HKL.out]; omega) (le_allocG HB.out.size) ?_; intro v8 w8 A8))
      have O8 := Lib.hid (show IOwn 52 w8 w.heap.size v8 (litI (bs.take (k + 1))) by rw [HT.out]; exact A8.1)
      have R8 := Lib.hid (below_grown (HB.out.trans ((box1W wr (.cells #[.int .i64 0, .int .i64 z, .int .i64 0, .int .i64 100] 52)).mono HB.out.size)) A8.2.1 (fun g hg => (HO.out.block hg).1) (le_allocG HB.out.size))
      clear A8
      go_roundw
      case rel => exact ⟨k + 1, by have := HLT.out; omega, by go_num, O8, R8⟩
      case measure => simp [intOf]; have := HLT.out; omega
    · have HT := Lib.hid (show bs.take k = bs from List.take_of_length_le (by rw [← HN.out]; omega))
      go_wp2_with fail
      go_ret
      exact ⟨_, rfl, by have := HO.out; rw [HT.out] at this; exact this, HB.out⟩
theorem IOwn.args {T : TypeId} {w : World} {base : Nat} {v : Value} {l : List It} (h : IOwn T w base v l) : ∃ A c, v = .slice A l.length c ∧ IRow w A l ∧ (A = none → l.length = 0 ∧ c = 0) := by
  obtain ⟨A, c, e, hr, _⟩ := h.full
  refine ⟨A, c, e, hr, fun hA => ?_⟩
  rcases h.2 with ⟨e2, _⟩ | ⟨g, cap, cur, e2, _⟩
  · rw [e] at e2
    injection e2 with _ e3 e4
    exact ⟨e3, e4⟩
  · rw [e, hA] at e2
    injection e2 with e3
    cases e3
abbrev nB : ByteArray := { data := #[98] }
abbrev wagC : Array Value := #[.string { data := #[51, 49, 56, 48, 50, 55, 55, 51, 49, 50, 51, 55] }, .int .i64 100, .int .i64 2, .int .i64 100, .int .i64 0, .int .i64 0, .bool false, .string { data := #[97] }]
theorem lit17 (w : World) : let W := ((w.alloc (.cells #[.string nB] 9)).alloc (.cells #[.slice (some ⟨w.heap.size, 0, none⟩) 1 1] 29)).alloc (.cells wagC 33)
    ORw W (some ⟨w.heap.size + 1, 0, none⟩) [[nB]] ∧ RRow WR W (some ⟨w.heap.size + 2, 0, none⟩) [wag17] ∧ Below w.heap.size w W := by
  intro W
  have e1 : (w.alloc (.cells #[.string nB] 9)).heap.size = w.heap.size + 1 := by simp
  have e2 : ((w.alloc (.cells #[.string nB] 9)).alloc (.cells #[.slice (some ⟨w.heap.size, 0, none⟩) 1 1] 29)).heap.size = w.heap.size + 2 := by simp
  have b1 := box1W w (.cells #[.string nB] 9)
  have b2 := box1W (w.alloc (.cells #[.string nB] 9)) (.cells #[.slice (some ⟨w.heap.size, 0, none⟩) 1 1] 29)
  have b3 := box1W ((w.alloc (.cells #[.string nB] 9)).alloc (.cells #[.slice (some ⟨w.heap.size, 0, none⟩) 1 1] 29)) (.cells wagC 33)
  have c1 : (w.alloc (.cells #[.string nB] 9)).cell? ⟨w.heap.size, 0, none⟩ = some (.string nB) := by rw [cell_new]; rfl
  have c2 : ((w.alloc (.cells #[.string nB] 9)).alloc (.cells #[.slice (some ⟨w.heap.size, 0, none⟩) 1 1] 29)).cell? ⟨w.heap.size + 1, 0, none⟩ = some (.slice (some ⟨w.heap.size, 0, none⟩) 1 1) := by rw [← e1, cell_new]; rfl
  have d1 : W.cell? ⟨w.heap.size, 0, none⟩ = some (.string nB) := (b3.cell (p := ⟨w.heap.size, 0, none⟩) (by rw [e2]; show w.heap.size < _; omega)).trans ((b2.cell (p := ⟨w.heap.size, 0, none⟩) (by rw [e1]; show w.heap.size < _; omega)).trans c1)
  have d2 : W.cell? ⟨w.heap.size + 1, 0, none⟩ = some (.slice (some ⟨w.heap.size, 0, none⟩) 1 1) := (b3.cell (p := ⟨w.heap.size + 1, 0, none⟩) (by rw [e2]; show w.heap.size + 1 < _; omega)).trans c2
  have e3 : W.heap.size = w.heap.size + 3 := by simp [W]
  refine ⟨fun k bs hk => ?_, ⟨fun j u hj => ⟨⟨w.heap.size + 2, 0, none⟩, rfl, by rw [e3]; show w.heap.size + 2 < _; omega, ?_⟩, by decide⟩, b1.trans ((b2.trans (b3.mono b2.size)).mono b1.size)⟩
  · cases k with
    | zero =>
      simp only [List.getElem?_cons_zero, Option.some.injEq] at hk
      subst hk
      refine ⟨⟨w.heap.size + 1, 0, none⟩, some ⟨w.heap.size, 0, none⟩, 1, rfl, by rw [e3]; show w.heap.size + 1 < _; omega, d2, fun j u hj => ?_, by decide⟩
      cases j with
      | zero =>
        simp only [List.map_cons, List.getElem?_cons_zero, Option.some.injEq] at hj
        subst hj
        exact ⟨_, rfl, by rw [e3]; show w.heap.size < _; omega, d1⟩
      | succ j => simp at hj
    | succ k => simp at hk
  · have h := newR (R := WR) (W := (w.alloc (.cells #[.string nB] 9)).alloc (.cells #[.slice (some ⟨w.heap.size, 0, none⟩) 1 1] 29)) (T := 33) (l := [wag17]) j u hj
    rw [e2] at h
    exact h
set_option maxRecDepth 100000 in
set_option maxHeartbeats 6400000 in
theorem sane17_any (w : World) : Calls Tryz.prog 16 #[] w fun e w' => e = .returned (.bool true) ∧ Below w.heap.size w w' := by
  have HI3 := Lib.hid (litems_any [0, 0, 1] (some ⟨w.heap.size, 0, none⟩) 3 3 rfl (by decide) (w.alloc (.cells #[.int .i64 0, .int .i64 0, .int .i64 1] 3)) (row_new (k := .i64) (W := w) (T := 3) [0, 0, 1]))
  have B0 := Lib.hid (box1W w (.cells #[.int .i64 0, .int .i64 0, .int .i64 1] 3))
  go_enter Tryz.func16, Tryz.ntmps16
  go_wp2_with fail
  refine HI3.out.mono ?_
  rintro e w1 ⟨v1, rfl, O1, B1⟩
  obtain ⟨A1, c1, rfl, R1, hA1⟩ := O1.args
  have HSC := Lib.hid (schemes_any its3 A1 c1 3 rfl w1 R1)
  have HB1 := Lib.hid (B0.out.trans (B1.mono B0.out.size))
  clear O1 B1 R1 hA1 HI3 B0
  go_wp2_with fail
  refine HSC.out.mono ?_
  rintro e w2 (⟨hq, rfl, B2⟩ | ⟨hq, v2, q, rfl, hs, O2, B2⟩)
  · exact absurd sane3E hq
  · obtain ⟨hl, s, hs0, e1, e2, e3, e4⟩ := sane3 hs
    obtain ⟨A2, c2, rfl, RR2⟩ := O2.slice
    rw [hl]
    have HS0 := Lib.hid hs0
    have HB2 := Lib.hid (HB1.out.trans (B2.mono HB1.out.size))
    have HR2 := Lib.hid RR2
    have HV := Lib.hid (And.intro e1 (And.intro e2 (And.intro e3 e4)))
    clear hq hs O2 RR2 hl hs0 e1 e2 e3 e4 B2 HSC HB1
    have HI4 := Lib.hid (litems_any [1, 3, 0, 2] (some ⟨w2.heap.size, 0, none⟩) 4 4 rfl (by decide) (w2.alloc (.cells #[.int .i64 1, .int .i64 3, .int .i64 0, .int .i64 2] 3)) (row_new (k := .i64) (W := w2) (T := 3) [1, 3, 0, 2]))
    have B3 := Lib.hid (box1W w2 (.cells #[.int .i64 1, .int .i64 3, .int .i64 0, .int .i64 2] 3))
    go_wp2_with fail
    refine HI4.out.mono ?_
    rintro e w4 ⟨v4, rfl, O4, B4⟩
    obtain ⟨A4, c4, rfl, R4, hA4⟩ := O4.args
    have B24 := Lib.hid (B3.out.trans (B4.mono B3.out.size))
    have HT := Lib.hid (box1W w4 (.cells #[.int .i64 500, .int .i64 500, .int .i64 500] 3))
    have HPC := Lib.hid (pplan_any its4 A4 c4 4 [500, 500, 500] (some ⟨w4.heap.size, 0, none⟩) 3 3 rfl hA4 rfl (by decide) (w4.alloc (.cells #[.int .i64 500, .int .i64 500, .int .i64 500] 3)) (R4.below HT.out) (row_new (k := .i64) (W := w4) (T := 3) [500, 500, 500]))
    clear O4 B4 R4 hA4 HI4 B3
    go_wp2_with fail
    refine HPC.out.mono ?_
    rintro e w5 ⟨res, rf, er, sh, vr, rfl, hp, hsh, -, B5⟩
    rcases hp with ⟨h0, _⟩ | ⟨_, q4, hq4, hpr⟩
    · exact absurd sane4E h0
    · obtain ⟨rfl, sc, tk, rfl, g1, g2⟩ := sane4 hq4 hpr
      have HSH := Lib.hid (show sh.wt = 1 ∧ sh.st = 2 from ⟨by rw [hsh.wt, g1], by rw [hsh.st, g2]⟩)
      have B25 := B24.out.trans ((HT.out.trans (B5.mono HT.out.size)).mono B24.out.size)
      have HB25 := Lib.hid B25
      clear hsh hq4 hpr g1 g2 B5 HPC HT B24 B25
      obtain ⟨iA, il, ic, wt, st, vA, vn, vc, uA, un, uc, tA, tn, tc⟩ := sh
      obtain ⟨rfl, rfl⟩ := HSH.out
      clear HSH
      go_upto_region 3 with fail
      have BS := box1W w5 (.cells #[.slice iA il ic, .int .i64 1, .int .i64 2, .slice vA vn vc, .slice uA un uc, .slice tA tn tc] 43)
      have HB26 := Lib.hid (HB2.out.trans ((HB25.out.trans (BS.mono HB25.out.size)).mono HB2.out.size))
      have HR6 := Lib.hid (HR2.out.below (HB25.out.trans (BS.mono HB25.out.size)))
      have Y6 := Lib.hid (show AB 43 (w5.alloc (.cells #[.slice iA il ic, .int .i64 1, .int .i64 2, .slice vA vn vc, .slice uA un uc, .slice tA tn tc] 43)) w5.heap.size [.slice iA il ic, .int .i64 1, .int .i64 2, .slice vA vn vc, .slice uA un uc, .slice tA tn tc] from AB.new w5 [.slice iA il ic, .int .i64 1, .int .i64 2, .slice vA vn vc, .slice uA un uc, .slice tA tn tc] 43 w5.heap.size rfl)
      obtain ⟨y, hy⟩ : ∃ y, y = w5.heap.size := ⟨_, rfl⟩
      rw [← hy] at Y6 ⊢
      generalize w5.alloc (.cells #[.slice iA il ic, .int .i64 1, .int .i64 2, .slice vA vn vc, .slice uA un uc, .slice tA tn tc] 43) = w6 at *
      clear hy BS HB25 HR2 HB2
      have HLT := Lib.hid (lit17 w6)
      have HIT := Lib.hid (items_any [[nB]] [wag17] (some ⟨w6.heap.size + 1, 0, none⟩) (some ⟨w6.heap.size + 2, 0, none⟩) 1 1 1 1 rfl (by decide) rfl _ HLT.out.1 HLT.out.2.1)
      go_wp2_with fail
      refine HIT.out.mono ?_
      rintro e w7 ⟨v7, rfl, -, B7⟩
      rw [items17]
      have B67 := HLT.out.2.2.trans (B7.mono HLT.out.2.2.size)
      have HB7 := Lib.hid (HB26.out.trans (B67.mono HB26.out.size))
      have HR7 := Lib.hid (HR6.out.below B67)
      have Y7 := Lib.hid (Y6.out.below B67 Y6.out.lt)
      clear B7 B67 HLT HIT HB26 HR6 Y6
      obtain ⟨ad, rfl, CX⟩ := HR7.out.at_ HS0.out
      have c0 : w7.cell? (ad.add (0 * 4)) = some (.int .i64 s.wt) := CX.first rfl
      have c1 : w7.cell? ⟨(ad.add (0 * 4)).block, (ad.add (0 * 4)).off + 1, none⟩ = some (.int .i64 s.st) := CX.next 1 (by decide) rfl
      have c2 : w7.cell? ⟨(ad.add (0 * 4)).block, (ad.add (0 * 4)).off + 2, none⟩ = some (.int .i64 s.mv) := CX.next 2 (by decide) rfl
      have c3 : w7.cell? ⟨(ad.add (0 * 4)).block, (ad.add (0 * 4)).off + 3, none⟩ = some (.int .i64 s.pu) := CX.next 3 (by decide) rfl
      obtain ⟨e1, e2, e3, e4⟩ := HV.out
      rw [e1] at c0; rw [e2] at c1; rw [e3] at c2; rw [e4] at c3
      have ea : ad.add (0 * 4) = ad := by unfold Addr.add; simp
      rw [ea] at c0 c1 c2 c3
      have y1 := Y7.out.cell 1 (u := .int .i64 1) rfl
      have y2 := Y7.out.cell 2 (u := .int .i64 2) rfl
      clear e1 e2 e3 e4 ea CX HS0 HV HR7
      go_wp2_with fail
      go_ret
      exact ⟨rfl, HB7.out⟩
end Go.Proofs.YtimkmieohkefiaaGreat

namespace Go.Proofs.YtimkmieohkefiaaGreat
open Go.RowKit

set_option maxHeartbeats 400000 in
theorem from_any (m N : Nat) (a b : Int) (w : World) (h : IsMk w m N) (hN : N ≤ 1000000000000) (h1 : a ≤ b) (h2 : -1000000000000000 ≤ a) (h3 : b ≤ 1000000000000000) :
    Calls Tryz.prog 31 #[.pointer (some ⟨m, 0, none⟩), .int .i64 a, .int .i64 b] w (NextPost m (N + 1) a b w) := by
  go_enter Tryz.func31, Tryz.ntmps31
  go_wp2_with fail
  refine (next_any m N _ _ h hN (by omega) (by omega)).mono ?_
  rintro e w1 ⟨v, rfl, v1, v2, k1, k2⟩
  go_wp2_with fail
  go_ret
  exact NextPost.mk' (a + v) rfl (by omega) (by omega) k1 k2

end Go.Proofs.YtimkmieohkefiaaGreat

namespace Go.Proofs.YtimkmieohkefiaaGreat
open Go.RowKit Go.Lib

def trkL : List Int := [300, 500, 900, 1500, 4000]
def TrkPost (m M : Nat) (w : World) (e : Ending) (w' : World) : Prop :=
  ∃ v b, e = .returned v ∧ Own .i64 3 w' w.heap.size v b ∧ b.length ≤ 10 ∧ (∀ z ∈ b, z ∈ trkL) ∧ IsMk w' m M ∧ Moves m w w'
set_option maxRecDepth 100000 in
set_option maxHeartbeats 3200000 in
theorem tracks_any (m N : Nat) (w : World) (h : IsMk w m N) (hN : N ≤ 1000000) :
    Calls Tryz.prog 24 #[.pointer (some ⟨m, 0, none⟩)] w (TrkPost m (N + 11) w) := by
  have hm := h.lt
  go_enter Tryz.func24, Tryz.ntmps24
  go_wp2_with fail
  refine (from_any m N 1 10 _ h (by omega) (by omega) (by omega) (by omega)).mono ?_
  rintro e w2 ⟨v, rfl, v1, v2, k1, k2⟩
  obtain ⟨k0, rfl⟩ := Int.eq_ofNat_of_zero_le (show 0 ≤ v by omega)
  have HK := Lib.hid k1
  have HM := Lib.hid k2
  clear k1 k2
  go_wp2_with fail
  go_loopw [3, 4] (fun ov iv wr => ∃ (b : List Int) (k M : Nat), iv = .int .i64 (k : Int) ∧ b.length + k ≤ 10 ∧ M + k ≤ N + 11 ∧ Hid (Own .i64 3 wr w.heap.size ov b) ∧ Hid (∀ z ∈ b, z ∈ trkL) ∧ Hid (IsMk wr m M) ∧ Hid (Moves m w wr)) (fun _ iv _ => (intOf iv).toNat)
  case atStart => exact ⟨[], k0, N + 1, rfl, by simp; omega, by omega, Lib.hid Own.nil, Lib.hid (fun z hz => by cases hz), HK, HM⟩
  case round =>
    clear HK HM
    obtain ⟨b, k, M, rfl, hk, hM, O, G, K, V⟩ := hrel
    by_cases hk0 : k = 0
    · subst hk0
      have K' := Lib.hid (K.out.more (show M ≤ N + 11 by omega))
      have HLN := Lib.hid (show b.length ≤ 10 by omega)
      go_wp2_with fail
      go_ret
      exact ⟨_, b, rfl, O.out, HLN.out, G.out, K'.out, V.out⟩
    · have hkp : (0 : Int) < (k : Int) := by omega
      obtain ⟨A, c, hv, -, -, -, -⟩ := O.out.slice
      have HLN := Lib.hid (show b.length ≤ 9 by omega)
      obtain ⟨n, hn⟩ : ∃ n, n = b.length := ⟨_, rfl⟩
      rw [← hn] at hv
      subst hv
      have HN := Lib.hid hn
      clear hn
      have HMX := Lib.hid (show M ≤ 1000000000 by omega)
      have K1 := Lib.hid (K.out.alloc (.cells #[.int .i64 300, .int .i64 500, .int .i64 900, .int .i64 1500, .int .i64 4000] 3))
      have V1 := Lib.hid (V.out.alloc (.cells #[.int .i64 300, .int .i64 500, .int .i64 900, .int .i64 1500, .int .i64 4000] 3))
      have O1 := Lib.hid (O.out.alloc (.cells #[.int .i64 300, .int .i64 500, .int .i64 900, .int .i64 1500, .int .i64 4000] 3))
      have HML := Lib.hid (Nat.lt_of_lt_of_le hm V.out.size)
      clear K V O
      go_wp2_with fail
      refine (pick_any m M (fun z => z ∈ trkL) wr.heap.size 5 5 _ K1.out (by have := HMX.out; omega) (by omega) (by omega) (by have := HML.out; omega) (by simp) (by exact new_pick _ _ (fun z => z ∈ trkL) [300, 500, 900, 1500, 4000] (by decide) _ rfl)).mono ?_
      rintro e w3 ⟨x, rfl, hx, k5, k6⟩
      have M3 := Lib.hid (V1.out.trans k6)
      have O3 := Lib.hid (O1.out.moves k6 hm)
      have K3 := Lib.hid k5
      have HX := Lib.hid hx
      clear k5 k6 hx K1 V1 O1
      go_wp2_with (first | (at_builtin; refine wpList_appI _ rfl (.tmp 11) (.tmp 15) rfl w.heap.size _ b rfl (O3.out.alloc _) x w3 rfl _ rfl 1 rfl (by have := HLN.out; omega) (le_allocG M3.out.size) ?_; intro v4 w4 A4))
      have O4 := Lib.hid A4.1
      have M4 := Lib.hid ((M3.out.alloc (.cells #[.int .i64 x] 3)).grown A4.2.1 (fun j hj => (own_block O3.out hj).1))
      have K4 := Lib.hid ((K3.out.alloc (.cells #[.int .i64 x] 3)).grown A4.2.1 (fun j hj => by have := (own_block O3.out hj).1; omega))
      clear A4
      go_roundw
      case rel =>
        refine ⟨b ++ [x], k - 1, M + 1, by congr 1; omega, by rw [List.length_append]; simp; omega, by omega, O4, Lib.hid (fun z hz => ?_), K4, M4⟩
        rcases List.mem_append.1 hz with g | g
        · exact G.out z g
        · rw [List.mem_singleton] at g; subst g; exact HX.out
      case measure => simp [intOf]; omega
theorem gitems_same (l : List It) (A A' : Option Addr) (n c c' : Nat) (hn : n = l.length) (w : World) (h : IRow w A l) (h' : IRow w A' l) :
    Calls Tryz.prog 22 #[.slice A n c, .slice A' n c'] w fun e w' => e = .returned (.bool true) ∧ ∃ n, w' = w.drewN n := by
  have hl : n ≤ 9223372036854775807 := by rw [hn]; exact h.len
  have H := Lib.hid h
  have H' := Lib.hid h'
  have HL := Lib.hid hn
  clear h h' hn
  go_enter Tryz.func22, Tryz.ntmps22
  go_wp2_with fail
  go_loopw [5] (fun i wr => (∃ n, wr = w.drewN n) ∧ ∃ k : Nat, k ≤ n ∧ i = .int .i64 k) (fun i _ => n - (intOf i).toNat)
  case atStart => exact ⟨⟨0, rfl⟩, 0, by omega, rfl⟩
  case round =>
    obtain ⟨⟨q, hw⟩, k, hk, rfl⟩ := hrel
    have HW := Lib.hid (show ∃ n, wr = w.drewN n from ⟨q, hw⟩)
    by_cases hlt : k < n
    · obtain ⟨a, rfl, C⟩ := (H.out.drewN q).at_ k (by rw [← HL.out]; exact hlt)
      obtain ⟨a', rfl, C'⟩ := (H'.out.drewN q).at_ k (by rw [← HL.out]; exact hlt)
      rw [← hw] at C C'
      have D1 := C.spelt
      have D2 := C'.spelt
      obtain ⟨x0, x1, x2, x3⟩ := l.getD k it0
      obtain ⟨c0, c1, c2, c3⟩ := D1
      obtain ⟨g0, g1, g2, g3⟩ := D2

      clear C C' hw
      go_upto_region 6 with fail
      go_quiet (fail)
      clear c0 c1 c2 c3 g0 g1 g2 g3
      go_wp2_with fail
      go_roundw
      case rel => exact ⟨by obtain ⟨n, rfl⟩ := HW.out; exact ⟨n + nq, by rw [World.drewN_drewN]⟩, k + 1, by omega, by go_num⟩
      case measure => simp [intOf]; omega
    · clear hw
      go_wp2_with fail
      go_ret
      exact ⟨rfl, HW.out⟩
end Go.Proofs.YtimkmieohkefiaaGreat

namespace Go.Proofs.YtimkmieohkefiaaGreat
open Go.RowKit Go.Lib

theorem prvS_succ (p : List Int) (n : Nat) : prvS p (n + 1) = some (p.getD n 0) := rfl
/-- What is known while a list is read. -/
structure Inn (l : List It) (t : Int) (s0 s : List Bool) (p : List Int) (n : Nat) : Prop where
  eq : goL l t none s0 p = goL l t (prvS p n) s (p.drop n)
  len : s.length = l.length
  prev : ∀ y, prvS p n = some y → btw y 0 ((l.length : Int) - 1) = true
theorem Inn.ok {l : List It} {t : Int} {s0 s : List Bool} {p : List Int} {n : Nat} (h : Inn l t s0 s p n) (hn : n < p.length) (hx : btw (p.getD n 0) 0 ((l.length : Int) - 1) = true) (hs : stepOk l t (prvS p n) s (p.getD n 0) = true) : Inn l t s0 (s.set (p.getD n 0).toNat true) p (n + 1) := by
  refine ⟨?_, by rw [List.length_set]; exact h.len, fun y hy => ?_⟩
  · rw [h.eq, drop_any 0 hn, goL_ok hs]; rfl
  · rw [prvS_succ] at hy; injection hy with hy; rw [← hy]; exact hx
theorem Inn.no {l : List It} {t : Int} {s0 s : List Bool} {p : List Int} {n : Nat} (h : Inn l t s0 s p n) (hn : n < p.length) (hs : stepOk l t (prvS p n) s (p.getD n 0) = false) : goL l t none s0 p = none := by
  rw [h.eq, drop_any 0 hn, goL_no hs]
end Go.Proofs.YtimkmieohkefiaaGreat

namespace Go.Proofs.YtimkmieohkefiaaGreat
open Go.RowKit Go.Lib

end Go.Proofs.YtimkmieohkefiaaGreat

namespace Go.Proofs.YtimkmieohkefiaaGreat
open Go.RowKit Go.Lib

theorem Pl.set {l : List It} {wt : Int} {S : Nat} {v : List Int} (h : Pl l wt S v) {i z : Nat} (hi : i < l.length) (hz : isC (rdN l i) wt.toNat z = true) (hl : z < 2 ^ S) : Pl l wt S (v.set i (z : Int)) := by
  have hf := formOk_of h.val
  refine ⟨h.val, fitB_iff.2 ⟨by have := h.s12; omega, by rw [List.length_set]; exact h.len, fun x hx => ?_⟩⟩
  by_cases e : i = x
  · subst e
    unfold okC
    have hat : (v.set i (z : Int)).getD i 0 = z := by
      rw [List.getD_eq_getElem?_getD, List.getElem?_set, if_pos rfl, if_pos (by rw [h.len]; exact hi)]; rfl
    have e2 : (2 : Int) ^ ((S : Int)).toNat = ((2 ^ S : Nat) : Int) := by simp
    obtain ⟨V, hV⟩ := Int.eq_ofNat_of_zero_le hf.wb.1
    rw [hat, (h.rd hi).1, e2, decide_eq_true (show (z : Int) < ((2 ^ S : Nat) : Int) by omega)]
    rw [hV] at hz ⊢
    rw [isZ_nat (h.rd hi).2 (by have := hf.wb.2; omega)]
    exact hz
  · have := (fitB_iff.1 h.fit).2.2 x hx
    unfold okC at this ⊢
    rw [List.getD_eq_getElem?_getD, List.getElem?_set, if_neg e, ← List.getD_eq_getElem?_getD]
    exact this
/-- A plan in the block g whose list may be any other of the call's own. -/
structure PQ (wr : World) (m g : Nat) (st : Int) (A : Option Addr) (n c : Nat) (v : List Int) : Prop where
  box : PBox wr g st A n c
  own : Own .i64 3 wr (m + 1) (.slice A n c) v
  ne : ∀ q, (Value.slice A n c).ownBlock = some q → q ≠ g
  len : n = v.length
  lt : m < g
section
variable {w w' : World} {m g n c : Nat} {st : Int} {A : Option Addr} {v : List Int}
theorem PQ.of (h : PSt w m g st A n c v) : PQ w m g st A n c v := ⟨h.box, h.own, fun q hq => by have := h.lo q hq; omega, h.len, h.lt⟩
theorem PQ.below (h : PQ w m g st A n c v) (k : Below w.heap.size w w') : PQ w' m g st A n c v := ⟨h.box.below k h.box.lt, h.own.below k, h.ne, h.len, h.lt⟩
theorem PQ.step (h : PQ w m g st A n c v) (k : Moves m w w') : PQ w' m g st A n c v := ⟨h.box.moves k (by have := h.lt; omega), h.own.moves k (Nat.lt_succ_self _), h.ne, h.len, h.lt⟩
theorem PQ.row (h : PQ w m g st A n c v) : Row .i64 w w.heap.size A v ∧ v.length ≤ maxLen := by
  obtain ⟨A', c', ev, LR, -, hm, -⟩ := h.own.slice
  have e1 : A = A' := by injection ev
  subst e1
  exact ⟨LR, hm⟩
theorem PBox.setN {b : Nat} (h : PBox w b st A n c) {p : Addr} (hp : p.block ≠ b) (u : Value) : PBox (w.setCell p u) b st A n c := by
  have nb : ∀ j, p ≠ ⟨b, j, none⟩ := fun j e => hp (congrArg Addr.block e)
  exact ⟨(World.cell?_setCell_other _ _ _ _ (nb 0)).trans h.c0, (World.cell?_setCell_other _ _ _ _ (nb 1)).trans h.c1, fun j => by rw [World.frozen?_setCell]; exact h.f j, by rw [World.size_setCell]; exact h.lt⟩
/-- The box g1 takes the plan of the box g. -/
theorem PQ.put {g1 n1 c1 : Nat} {st1 : Int} {A1 : Option Addr} (h : PQ w m g st A n c v) (p : PBox w g1 st1 A1 n1 c1) (hm : m < g1) (hne : g1 ≠ g) (ho : ∀ q, (Value.slice A n c).ownBlock = some q → q ≠ g1) :
    PQ ((w.setCell ⟨g1, 0, none⟩ (.int .i64 st)).setCell ⟨g1, 1, none⟩ (.slice A n c)) m g1 st A n c v ∧ PQ ((w.setCell ⟨g1, 0, none⟩ (.int .i64 st)).setCell ⟨g1, 1, none⟩ (.slice A n c)) m g st A n c v :=
  have O := (h.own.setN (p := ⟨g1, 0, none⟩) ho (.int .i64 st)).setN (p := ⟨g1, 1, none⟩) ho (.slice A n c)
  ⟨⟨p.put, O, ho, h.len, hm⟩, ⟨(h.box.setN (p := ⟨g1, 0, none⟩) hne _).setN (p := ⟨g1, 1, none⟩) hne _, O, h.ne, h.len, h.lt⟩⟩
/-- A code is stored. -/
theorem PQ.code {gq : Nat} (h : PQ w m g st (some ⟨gq, 0, none⟩) n c v) (j : Nat) (x : Int) : PQ (w.setCell ⟨gq, j, none⟩ (.int .i64 x)) m g st (some ⟨gq, 0, none⟩) n c (v.set j x) :=
  ⟨h.box.setN (p := ⟨gq, j, none⟩) (h.ne gq rfl) _, h.own.store h.len j x, h.ne, by rw [List.length_set]; exact h.len, h.lt⟩
theorem JM.setC {w0 wr : World} {b cj N : Nat} {jA : Option Addr} {l : List It} {wt : Int} (h : JM w0 wr b jA cj l wt N) {p : Addr} (hp : b < p.block) (u : Value) : JM w0 (wr.setCell p u) b jA cj l wt N :=
  h.under (B := b + 1) ((Below.refl (b + 1) wr).setCell (p := p) hp u) (Nat.lt_succ_self b)
end
end Go.Proofs.YtimkmieohkefiaaGreat

namespace Go.Proofs.YtimkmieohkefiaaGreat
open Go.RowKit Go.Lib

end Go.Proofs.YtimkmieohkefiaaGreat

namespace Go.Proofs.YtimkmieohkefiaaGreat
open Go.RowKit Go.Lib

theorem ord_plan {l : List It} {wt : Int} {v : List Int} (h : Plan l wt v) : ordB l v = true := ordB_iff.2 fun x hx y hy => by
  unfold ordA
  by_cases hr : rel l x y = 0
  · rw [decide_eq_true hr]; rfl
  · have := h.sort x y hx hy
    rw [via_str hr] at this
    rw [decide_eq_true this, Bool.or_true]
theorem bound_witP {l : List It} {wt er : Int} {zs : List Int} {bs v : List Int} (hv : validR l wt = 0) (h : Sol l wt bs v) (hw : WitR l wt zs er) : er = 0 ∧ boundE l wt zs = (mx0 v v.length, 0) := by
  have hf := formOk_of hv
  rcases hw.valid hv with ⟨_, _, hno⟩ | ⟨rfl, bs', v', h', hz⟩
  · exact absurd h (hno _ _)
  · obtain ⟨rfl, rfl⟩ := h'.uniq hf.blk h
    refine ⟨rfl, ?_⟩
    unfold boundE
    rw [if_neg (fun g => g hv)]
    rcases hz with ⟨h0, rfl⟩ | ⟨y, ch, hy, hb, rfl⟩
    · have e : v'.length = 0 := by rw [h.vlen, h0]
      rw [e]; rfl
    · obtain ⟨b1, b2⟩ := hb.bound hf h (by rw [← h.vlen]; exact hy.lt)
      rw [if_pos (chB_iff.2 ⟨ch, rfl, b1⟩), map_toZ, b2, mx0_top hy (fun y => (h.bound hf y).1.1)]
theorem chk_make {l : List It} {wt st : Int} {v ch : List Int} (hv : validR l wt = 0) (h : MakeR l wt st v ch 0) : chkE l wt st v ch = 0 := by
  rcases h.1.valid hv with ⟨h5, _⟩ | ⟨_, bs, h5, h6⟩
  · cases h5
  · have hf := formOk_of hv
    obtain ⟨S, hS, hpl⟩ := sol_pl hv h5 h6
    obtain ⟨_, hb⟩ := bound_witP hv h5 h.2
    have h0 := h5.bound hf
    have h3 := steps_mx0 h6 (fun y => (h0 y).1.1)
    have hval : val14 l wt st v = 0 := by rw [hS]; exact hpl.val14
    have hm := mx0_le v v.length
    have hbd := bound_bd (ch := ch) hv (by rw [hb])
    rw [hb] at hbd
    unfold chkE
    rw [if_neg (fun g => g hval), if_neg (by rw [ord_plan (h5.plan hf)]; exact Bool.noConfusion), hb, if_neg (fun g => g rfl), if_pos]
    simp only at hbd
    obtain ⟨K, hK⟩ := Int.eq_ofNat_of_zero_le hm.1
    show (stepsZ (mx0 v v.length)).1 = st
    rw [hK] at h3 hbd ⊢
    rw [stepsZ_nat (by omega), h3]
    rfl
end Go.Proofs.YtimkmieohkefiaaGreat

namespace Go.Proofs.YtimkmieohkefiaaGreat
open Go.RowKit Go.Lib

theorem trk_ok {b : List Int} (hl : b.length ≤ 32) (hb : ∀ z ∈ b, 1 ≤ z ∧ z ≤ 38400) : trkE b = 0 := by
  unfold trkE
  rw [if_neg (by omega), if_pos (okF_of hb)]
theorem trkL_bd {z : Int} (h : z ∈ trkL) : 300 ≤ z ∧ z ≤ 4000 := by
  have : ∀ z ∈ trkL, 300 ≤ z ∧ z ≤ 4000 := by decide
  exact this z h
theorem solE_cases {l : List It} (hv : validR l 0 = 0) : solE l = 0 ∨ solE l = 15 := by
  unfold solE
  rw [if_neg (fun g => g hv)]
  split
  · exact Or.inr rfl
  · exact Or.inl rfl
theorem srt_scr {l : List It} {q : List Sc} (h : Srt17 (scL l) q) {i : Nat} {s : Sc} (hi : q[i]? = some s) : ScR l s := (scL_mem.1 (h.perm.mem_iff.1 (List.mem_of_getElem? hi))).1
theorem plan_cases {l : List It} {b : List Int} {q : List Sc} {res : Option (Sc × List Int)} {rf : List Int} {er : Int} (hs : Srt17 (scL l) q) (hb : trkE b = 0) (h : PlanR l b q res rf er) :
    (∃ i s tk, q[i]? = some s ∧ NoRoom l b q i ∧ ScR l s ∧ res = some (s, tk) ∧ rf = [] ∧ er = 0 ∧ Asg (ldS l s) b tk ∧ fitR (ldS l s) b tk = true ∧ Hall (ldS l s) b) ∨
    (er = 14 ∧ res = none ∧ NoRoom l b q q.length ∧ ∃ s, q[0]? = some s ∧ ScR l s ∧ refR (ldS l s) b rf = true) := by
  rcases h with ⟨h0, _⟩ | ⟨_, i, s, tk, hi, hn, ⟨os, h1, h2⟩, rfl, rfl, rfl⟩ | ⟨_, hn, ⟨s, hs0, os, h1, h2⟩, rfl, rfl⟩
  · exact absurd hb h0
  · have hr := srt_scr hs hi
    have V := vd_of ((scr_loads hr b).2.trans hb)
    rcases mout_cases V h1 h2 with ⟨_, _, G, H⟩ | ⟨e, _⟩
    · exact Or.inl ⟨i, s, tk, hi, hn, hr, rfl, rfl, rfl, G, fit_asg V G, H⟩
    · cases e
  · have hr := srt_scr hs hs0
    have V := vd_of ((scr_loads hr b).2.trans hb)
    rcases mout_cases V h1 h2 with ⟨e, _⟩ | ⟨_, _, R, _⟩
    · cases e
    · exact Or.inr ⟨rfl, rfl, hn, s, hs0, hr, R⟩
theorem ck_ok {l : List It} {s : Sc} {b tk : List Int} (h : ScR l s) (hf : fitR (ldS l s) b tk = true) : ckE l s.wt s.st s.v s.ch b tk = 0 := by
  unfold ckE
  have := chk_make (make_pl h.1).1 h.1
  rw [if_neg (fun g => g this), if_pos hf]
end Go.Proofs.YtimkmieohkefiaaGreat
