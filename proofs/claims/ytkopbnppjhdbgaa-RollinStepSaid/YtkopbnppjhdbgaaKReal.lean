/-
  Stage 12: Real, the program's and the reference's.
-/
import Derived.Test.YtkopbnppjhdbgaaKStep
import Derived.Test.YtkopbnppjhdbgaaWApp
set_option linter.unusedSimpArgs false
set_option linter.unusedVariables false
namespace Go.Proofs.Ytkopbnppjhdbgaa
open Go.RowKit

/-- The bits from R on that are set, below B. -/
def blN (K R : Nat) : Nat → List Int
  | 0 => []
  | b + 1 => if R ≤ b ∧ K / 2 ^ b % 2 = 1 then blN K R b ++ [(b : Int)] else blN K R b
theorem blN_yes {K R b : Nat} (h : R ≤ b) (h2 : K / 2 ^ b % 2 = 1) : blN K R (b + 1) = blN K R b ++ [(b : Int)] := by
  show (if R ≤ b ∧ K / 2 ^ b % 2 = 1 then _ else _) = _
  rw [if_pos ⟨h, h2⟩]
theorem blN_no {K R b : Nat} (h2 : ¬ K / 2 ^ b % 2 = 1) : blN K R (b + 1) = blN K R b := by
  show (if R ≤ b ∧ K / 2 ^ b % 2 = 1 then _ else _) = _
  rw [if_neg (fun g => h2 g.2)]
theorem blN_low {K R : Nat} : ∀ b, b ≤ R → blN K R b = [] := by
  intro b
  induction b with
  | zero => intro _; rfl
  | succ b ih =>
    intro h
    show (if R ≤ b ∧ K / 2 ^ b % 2 = 1 then _ else _) = _
    rw [if_neg (fun g => by omega), ih (by omega)]
theorem blN_len (K R : Nat) : ∀ b, (blN K R b).length ≤ b := by
  intro b
  induction b with
  | zero => exact Nat.le_refl _
  | succ b ih =>
    by_cases h : R ≤ b ∧ K / 2 ^ b % 2 = 1
    · rw [blN_yes h.1 h.2, List.length_append]; simp; omega
    · show (if R ≤ b ∧ K / 2 ^ b % 2 = 1 then _ else _ : List Int).length ≤ _
      rw [if_neg h]; omega
/-- What Real answers. -/
def realL (k r : Int) : List Int := if rndB r = true ∧ cdB k = true ∧ (k.toNat % 2 ^ r.toNat == 2 ^ r.toNat - 1) = true then blN k.toNat r.toNat 12 else []
def realE (k r : Int) : Int := if rndB r = true ∧ cdB k = true then (if (k.toNat % 2 ^ r.toNat == 2 ^ r.toNat - 1) = true then 0 else 15) else 2
theorem real_bad {k r : Int} (h : ¬ (rndB r = true ∧ cdB k = true)) : realL k r = [] ∧ realE k r = 2 := by
  unfold realL realE
  rw [if_neg (fun g => h ⟨g.1, g.2.1⟩), if_neg h]
  exact ⟨rfl, rfl⟩
theorem rnd_yes {R : Nat} (h : R ≤ 12) : rndB (R : Int) = true := rndB_iff.2 (by omega)
theorem cd_yes {K : Nat} (h : K < 4096) : cdB (K : Int) = true := cdB_iff.2 (by omega)
theorem real_none {K R : Nat} (hR : R ≤ 12) (hK : K < 4096) (h : (K % 2 ^ R == 2 ^ R - 1) = false) : realL K R = [] ∧ realE K R = 15 := by
  unfold realL realE
  rw [rnd_yes hR, cd_yes hK]
  show (if true = true ∧ true = true ∧ (K % 2 ^ R == 2 ^ R - 1) = true then _ else _) = _ ∧ (if true = true ∧ true = true then (if (K % 2 ^ R == 2 ^ R - 1) = true then _ else _) else _) = _
  rw [h]
  exact ⟨rfl, rfl⟩
theorem real_yes {K R : Nat} (hR : R ≤ 12) (hK : K < 4096) (h : (K % 2 ^ R == 2 ^ R - 1) = true) : realL K R = blN K R 12 ∧ realE K R = 0 := by
  unfold realL realE
  rw [rnd_yes hR, cd_yes hK]
  show (if true = true ∧ true = true ∧ (K % 2 ^ R == 2 ^ R - 1) = true then _ else _) = _ ∧ (if true = true ∧ true = true then (if (K % 2 ^ R == 2 ^ R - 1) = true then _ else _) else _) = _
  rw [h]
  exact ⟨rfl, rfl⟩
theorem realL_len (k r : Int) : (realL k r).length ≤ 12 := by
  unfold realL
  by_cases h : rndB r = true ∧ cdB k = true ∧ (k.toNat % 2 ^ r.toNat == 2 ^ r.toNat - 1) = true
  · rw [if_pos h]; exact blN_len _ _ 12
  · rw [if_neg h]; exact Nat.zero_le _
/-- A list of the call's own, and an error. -/
def RealPost (zs : List Int) (x : Int) (w : World) (e : Ending) (w' : World) : Prop := ∃ v, e = .returned (.tuple #[v, .int .i64 x]) ∧ Own .i64 3 w' w.heap.size v zs ∧ Below w.heap.size w w'
set_option maxHeartbeats 1600000 in
theorem real_any (k r : Int) (w : World) : Calls Try.prog 52 #[.int .i64 k, .int .i64 r] w (RealPost (realL k r) (realE k r) w) := by
  by_cases h : rndB r = true ∧ cdB k = true
  · obtain ⟨R, rfl⟩ := Int.eq_ofNat_of_zero_le (rndB_iff.1 h.1).1
    obtain ⟨K, rfl⟩ := Int.eq_ofNat_of_zero_le (cdB_iff.1 h.2).1
    have hR : R ≤ 12 := by have := (rndB_iff.1 h.1).2; omega
    have hK : K < 4096 := by have := (cdB_iff.1 h.2).2; omega
    obtain ⟨h1, h2⟩ := h
    cases hm : (K % 2 ^ R == 2 ^ R - 1)
    · have hz := real_none hR hK hm
      rw [hz.1, hz.2]
      clear hz
      go_enter Try.func52, Try.ntmps52
      go_wp2_with fail
      refine (isRound_any _ _).mono ?_
      rintro e w1 ⟨rfl, rfl⟩
      rw [h1]
      go_wp2_with fail
      refine (isCode_any _ _).mono ?_
      rintro e w1 ⟨rfl, rfl⟩
      rw [h2]
      go_wp2_with fail
      refine (hasMissed_any _ _ _ hR hK).mono ?_
      rintro e w1 ⟨rfl, rfl⟩
      rw [hm]
      go_wp2_with fail
      go_ret2
      exact ⟨_, rfl, Own.nil, Below.refl _ _⟩
    · have hz := real_yes hR hK hm
      rw [hz.1, hz.2]
      clear hz
      have hl0 := Lib.hid (blN_low (K := K) R (Nat.le_refl R))
      go_enter Try.func52, Try.ntmps52
      go_wp2_with fail
      refine (isRound_any _ _).mono ?_
      rintro e w1 ⟨rfl, rfl⟩
      rw [h1]
      go_wp2_with fail
      refine (isCode_any _ _).mono ?_
      rintro e w1 ⟨rfl, rfl⟩
      rw [h2]
      go_wp2_with fail
      refine (hasMissed_any _ _ _ hR hK).mono ?_
      rintro e w1 ⟨rfl, rfl⟩
      rw [hm]
      clear hm h1 h2
      go_wp2_with fail
      go_loopw [6, 7] (fun ov iv wr => ∃ b : Nat, R ≤ b ∧ b ≤ 12 ∧ iv = .int .i64 (b : Int) ∧ Hid (Own .i64 3 wr w.heap.size ov (blN K R b)) ∧ Hid (Below w.heap.size w wr)) (fun _ iv _ => 12 - (intOf iv).toNat)
      case atStart => exact ⟨R, Nat.le_refl _, by omega, rfl, Lib.hid (by rw [hl0.out]; exact Own.nil), Lib.hid (Below.refl _ _)⟩
      case round =>
        clear hl0
        obtain ⟨b, hb1, hb, rfl, O, B⟩ := hrel
        by_cases hlt : b < 12
        · have hlt' : (b : Int) < 12 := by omega
          go_wp2_with fail
          refine (hasBit_any _ _ _ hK (by omega)).mono ?_
          rintro e w1 ⟨rfl, rfl⟩
          by_cases hbit : K / 2 ^ b % 2 = 1
          · have HS := Lib.hid (blN_yes hb1 hbit)
            rw [show (K / 2 ^ b % 2 == 1) = true from beq_iff_eq.2 hbit]
            clear hbit
            have hll := Nat.le_trans (blN_len K R b) hb
            go_wp2_with (first | (at_builtin; refine wpList_appI _ rfl (.tmp 28) (.tmp 30) rfl w.heap.size _ (blN K R b) rfl (O.out.alloc _) (b : Int) wr rfl _ rfl 1 rfl (by omega) (le_allocW B.out.size) ?_; rintro v6 w6 hap; have O6 := Lib.hid hap.1; have B6 := Lib.hid (hap.below B.out B.out.size O.out); obtain ⟨_, _, g6, c6, rfl, _, _⟩ := hap; clear O B))
            go_roundw
            case rel => exact ⟨b + 1, by omega, by omega, by go_num, by rw [HS.out]; exact O6, B6⟩
            case measure => simp [intOf] <;> omega
          · have HS := Lib.hid (blN_no (R := R) hbit)
            rw [show (K / 2 ^ b % 2 == 1) = false from beq_eq_false_iff_ne.2 hbit]
            clear hbit
            go_wp2_with fail
            go_roundw
            case rel => exact ⟨b + 1, by omega, by omega, by go_num, by rw [HS.out]; exact O, B⟩
            case measure => simp [intOf] <;> omega
        · obtain rfl : b = 12 := by omega
          go_wp2_with fail
          go_ret2
          exact ⟨_, rfl, O.out, B.out⟩
  · have hz := real_bad h
    rw [hz.1, hz.2]
    clear hz
    go_enter Try.func52, Try.ntmps52
    go_wp2_with fail
    refine (isRound_any _ _).mono ?_
    rintro e w1 ⟨rfl, rfl⟩
    cases h1 : rndB r
    · go_wp2_with fail
      go_ret2
      exact ⟨_, rfl, Own.nil, Below.refl _ _⟩
    · have h2 : cdB k = false := Bool.eq_false_iff.2 (fun g => h ⟨h1, g⟩)
      clear h
      go_wp2_with fail
      refine (isCode_any _ _).mono ?_
      rintro e w1 ⟨rfl, rfl⟩
      rw [h2]
      go_wp2_with fail
      go_ret2
      exact ⟨_, rfl, Own.nil, Below.refl _ _⟩
set_option maxHeartbeats 1600000 in
theorem rreal_any (k r : Int) (w : World) : Calls Try.prog 29 #[.int .i64 k, .int .i64 r] w (RealPost (realL k r) (realE k r) w) := by
  by_cases h : rndB r = true ∧ cdB k = true
  · obtain ⟨R, rfl⟩ := Int.eq_ofNat_of_zero_le (rndB_iff.1 h.1).1
    obtain ⟨K, rfl⟩ := Int.eq_ofNat_of_zero_le (cdB_iff.1 h.2).1
    have hR : R ≤ 12 := by have := (rndB_iff.1 h.1).2; omega
    have hK : K < 4096 := by have := (cdB_iff.1 h.2).2; omega
    clear h
    obtain ⟨P, hP⟩ : ∃ x, x = 2 ^ R := ⟨_, rfl⟩
    have p1 := pow_le4096 hR
    have p2 := Nat.two_pow_pos R
    have hp := pow_run hR
    have hp2 := powW hR
    rw [← hP] at p1 p2 hp hp2
    have HP := Lib.hid hP
    clear hP
    have hne : ((P : Int) == 0) = false := beq_eq_false_iff_ne.2 (by omega)
    have hne2 : ¬ (P : Int) = 0 := by omega
    have q1 : ¬ (R : Int) < 0 := by omega
    have q2 : ¬ (13 : Int) ≤ (R : Int) := by omega
    have q3 : ¬ (K : Int) < 0 := by omega
    have q4 : ¬ (4096 : Int) ≤ (K : Int) := by omega
    have hsb : (P : Int) - 1 = ((P - 1 : Nat) : Int) := by omega
    have hsw : IntKind.i64.wrap ((P : Int) - 1) = ((P - 1 : Nat) : Int) := by rw [hsb, wrapI _ (by omega)]
    cases hm : (K % 2 ^ R == 2 ^ R - 1)
    · have hz := real_none hR hK hm
      rw [hz.1, hz.2]
      have hb : ((K : Int) % (P : Int) != ((P - 1 : Nat) : Int)) = true := by
        rw [← HP.out, beq_eq_false_iff_ne] at hm
        rw [bne_iff_ne]; omega
      clear hz hm
      go_enter Try.func29, Try.ntmps29
      go_wp2_with fail
      go_quiet (fail)
      generalize hdr : w.drewN _ = w2
      have HD := Lib.hid (show ∃ n, w2 = w.drewN n from ⟨_, hdr.symm⟩)
      clear hdr
      go_wp2_with fail
      go_ret2
      obtain ⟨n, rfl⟩ := HD.out
      exact ⟨_, rfl, Own.nil, bdn (Below.refl _ _)⟩
    · have hz := real_yes hR hK hm
      rw [hz.1, hz.2]
      have hb : ((K : Int) % (P : Int) != ((P - 1 : Nat) : Int)) = false := by
        rw [← HP.out, beq_iff_eq] at hm
        rw [bne_eq_false_iff_eq]; omega
      clear hz hm
      have hl0 := Lib.hid (blN_low (K := K) R (Nat.le_refl R))
      go_enter Try.func29, Try.ntmps29
      go_wp2_with fail
      go_quiet (fail)
      generalize hdr : w.drewN _ = w2
      have HB0 := Lib.hid (show Below w.heap.size w w2 from by rw [← hdr]; exact bdn (Below.refl _ _))
      clear hdr
      clear hb hne hne2 q1 q2 q3 q4 hsb hsw hp hp2
      go_wp2_with fail
      go_loopw [6, 7] (fun ov iv wr => ∃ b : Nat, R ≤ b ∧ b ≤ 12 ∧ iv = .int .i64 (b : Int) ∧ Hid (Own .i64 3 wr w.heap.size ov (blN K R b)) ∧ Hid (Below w.heap.size w wr)) (fun _ iv _ => 12 - (intOf iv).toNat)
      case atStart => exact ⟨R, Nat.le_refl _, by omega, rfl, Lib.hid (by rw [hl0.out]; exact Own.nil), HB0⟩
      case round =>
        clear hl0 HB0
        obtain ⟨b, hb1, hb, rfl, O, B⟩ := hrel
        by_cases hlt : b < 12
        · have hlt' : (b : Int) < 12 := by omega
          have hd := Nat.div_le_self K (2 ^ b)
          have hh := one_and (K / 2 ^ b) (by omega)
          rw [← cast_shr] at hh
          by_cases hbit : K / 2 ^ b % 2 = 1
          · have HS := Lib.hid (blN_yes hb1 hbit)
            rw [hbit] at hh
            clear hbit hd
            have hll := Nat.le_trans (blN_len K R b) hb
            go_wp2_with (first | (at_builtin; refine wpList_appI _ rfl (.tmp 40) (.tmp 42) rfl w.heap.size _ (blN K R b) rfl (O.out.alloc _) (b : Int) wr rfl _ rfl 1 rfl (by omega) (le_allocW B.out.size) ?_; rintro v6 w6 hap; have O6 := Lib.hid hap.1; have B6 := Lib.hid (hap.below B.out B.out.size O.out); obtain ⟨_, _, g6, c6, rfl, _, _⟩ := hap; clear O B))
            go_roundw
            case rel => exact ⟨b + 1, by omega, by omega, by go_num, by rw [HS.out]; exact O6, B6⟩
            case measure => simp [intOf] <;> omega
          · have HS := Lib.hid (blN_no (R := R) hbit)
            rw [show K / 2 ^ b % 2 = 0 by omega] at hh
            clear hbit hd
            go_wp2_with fail
            go_roundw
            case rel => exact ⟨b + 1, by omega, by omega, by go_num, by rw [HS.out]; exact O, B⟩
            case measure => simp [intOf] <;> omega
        · obtain rfl : b = 12 := by omega
          go_wp2_with fail
          go_ret2
          exact ⟨_, rfl, O.out, B.out⟩
  · have hz := real_bad h
    rw [hz.1, hz.2]
    clear hz
    by_cases a1 : r < 0
    · go_enter Try.func29, Try.ntmps29
      go_wp2_with fail
      go_ret2
      exact ⟨_, rfl, Own.nil, Below.refl _ _⟩
    · by_cases a2 : 13 ≤ r
      · go_enter Try.func29, Try.ntmps29
        go_wp2_with fail
        go_ret2
        exact ⟨_, rfl, Own.nil, Below.refl _ _⟩
      · by_cases a3 : k < 0
        · go_enter Try.func29, Try.ntmps29
          go_wp2_with fail
          go_ret2
          exact ⟨_, rfl, Own.nil, Below.refl _ _⟩
        · have a4 : 4096 ≤ k := by
            rw [rndB_iff, cdB_iff] at h; omega
          clear h
          go_enter Try.func29, Try.ntmps29
          go_wp2_with fail
          go_ret2
          exact ⟨_, rfl, Own.nil, Below.refl _ _⟩
end Go.Proofs.Ytkopbnppjhdbgaa
