/-
  Stage 12, plain: what each call answers, as functions of integers; what Nth and Rank keep from bit to bit.
-/
import Derived.Test.YtkopbnppjhdbgaaKProg
set_option linter.unusedSimpArgs false
set_option linter.unusedVariables false
namespace Go.Proofs.Ytkopbnppjhdbgaa
open Go.RowKit

/-- A number, and no error. -/
abbrev okN (n : Nat) : Int × Int := ((n : Int), 0)
def isZ (k r v : Int) : Bool := frmB r v && (cdB k && isC r.toNat v.toNat k.toNat)
def nextZ (n r v : Int) : Int × Int :=
  if frmB r v = true ∧ 0 ≤ n then (if nxt r.toNat v.toNat n.toNat < 4096 then okN (nxt r.toNat v.toNat n.toNat) else (0, 15)) else (0, 2)
def countZ (s r v : Int) : Int × Int :=
  if frmB r v = true ∧ (0 ≤ s ∧ s ≤ 12) then okN (cnt r.toNat v.toNat (2 ^ s.toNat)) else (0, 2)
def nthZ (i r v : Int) : Int × Int :=
  if frmB r v = true ∧ 0 ≤ i then (if nth r.toNat v.toNat i.toNat < 4096 then okN (nth r.toNat v.toNat i.toNat) else (0, 15)) else (0, 2)
def rankZ (k r v : Int) : Int × Int :=
  if frmB r v = true then (if isZ k r v = true then okN (cnt r.toNat v.toNat k.toNat) else (0, 15)) else (0, 2)
theorem frm_nat {r v : Int} (h : frmB r v = true) : ∃ R V : Nat, r = R ∧ v = V ∧ R ≤ 12 ∧ V ≤ 12 := by
  have := frmB_iff.1 h
  exact ⟨r.toNat, v.toNat, by omega, by omega, by omega, by omega⟩
theorem isZ_no {k r v : Int} (h : frmB r v = false) : isZ k r v = false := by unfold isZ; rw [h]; rfl
theorem isZ_cd {k r v : Int} (h : cdB k = false) : isZ k r v = false := by unfold isZ; rw [h]; simp
theorem frm_yes {R V : Nat} (hr : R ≤ 12) (hv : V ≤ 12) : frmB (R : Int) (V : Int) = true := frmB_iff.2 (by omega)
theorem isZ_nat {R V K : Nat} (hr : R ≤ 12) (hv : V ≤ 12) : isZ (K : Int) (R : Int) (V : Int) = isC R V K := by
  unfold isZ
  rw [frm_yes hr hv]
  by_cases h : K < 4096
  · rw [cdB_iff.2 (by omega)]; rfl
  · have e : isC R V K = false := Bool.eq_false_iff.2 (fun g => h (isC_iff.1 g).1)
    show (true && (cdB (K : Int) && isC R V K)) = _
    rw [e]; simp
theorem nextZ_bad {n r v : Int} (h : ¬ (frmB r v = true ∧ 0 ≤ n)) : nextZ n r v = (0, 2) := by unfold nextZ; rw [if_neg h]
theorem nextZ_nat {R V N : Nat} (hr : R ≤ 12) (hv : V ≤ 12) : nextZ (N : Int) (R : Int) (V : Int) = if nxt R V N < 4096 then okN (nxt R V N) else (0, 15) := by
  unfold nextZ
  rw [if_pos ⟨frm_yes hr hv, by omega⟩]; rfl
theorem nextZ_hit {R V N K : Nat} (hr : R ≤ 12) (hv : V ≤ 12) (h : N ≤ K) (hc : isC R V K = true) (hn : ∀ x, N ≤ x → x < K → isC R V x = false) : nextZ (N : Int) (R : Int) (V : Int) = okN K := by
  have hk := (isC_iff.1 hc).1
  have e : nxt R V N = K := by rw [nxt_skip h (by omega) hn, nxt_hit hc]
  rw [nextZ_nat hr hv, e, if_pos hk]
theorem nextZ_none {R V N K : Nat} (hr : R ≤ 12) (hv : V ≤ 12) (hk : 4096 ≤ K) (hn : ∀ x, N ≤ x → x < K → isC R V x = false) : nextZ (N : Int) (R : Int) (V : Int) = (0, 15) := by
  have e : ¬ nxt R V N < 4096 := fun g => by
    rcases nxt_is R V N with ⟨h1, h2, h3, _⟩ | ⟨h1, _⟩
    · rw [hn _ h2 (by omega)] at h3; cases h3
    · omega
  rw [nextZ_nat hr hv, if_neg e]
theorem countZ_bad {s r v : Int} (h : ¬ (frmB r v = true ∧ (0 ≤ s ∧ s ≤ 12))) : countZ s r v = (0, 2) := by unfold countZ; rw [if_neg h]
theorem countZ_nat {R V S : Nat} (hr : R ≤ 12) (hv : V ≤ 12) (hs : S ≤ 12) : countZ (S : Int) (R : Int) (V : Int) = okN (cnt R V (2 ^ S)) := by
  unfold countZ
  rw [if_pos ⟨frm_yes hr hv, by omega, by omega⟩]; rfl
theorem nthZ_bad {i r v : Int} (h : ¬ (frmB r v = true ∧ 0 ≤ i)) : nthZ i r v = (0, 2) := by unfold nthZ; rw [if_neg h]
theorem nthZ_nat {R V I : Nat} (hr : R ≤ 12) (hv : V ≤ 12) : nthZ (I : Int) (R : Int) (V : Int) = if nth R V I < 4096 then okN (nth R V I) else (0, 15) := by
  unfold nthZ
  rw [if_pos ⟨frm_yes hr hv, by omega⟩]; rfl
theorem nthZ_hit {R V I K : Nat} (hr : R ≤ 12) (hv : V ≤ 12) (hc : isC R V K = true) (hi : cnt R V K = I) : nthZ (I : Int) (R : Int) (V : Int) = okN K := by
  rw [nthZ_nat hr hv, nth_hit hc hi, if_pos (isC_iff.1 hc).1]
theorem nthZ_none {R V I : Nat} (hr : R ≤ 12) (hv : V ≤ 12) (h : cnt R V 4096 ≤ I) : nthZ (I : Int) (R : Int) (V : Int) = (0, 15) := by
  rw [nthZ_nat hr hv, nth_none h, if_neg (by omega)]
theorem rankZ_bad {k r v : Int} (h : frmB r v = false) : rankZ k r v = (0, 2) := by unfold rankZ; rw [h]; rfl
theorem rankZ_none {k r v : Int} (h : frmB r v = true) (h2 : isZ k r v = false) : rankZ k r v = (0, 15) := by unfold rankZ; rw [h, h2]; rfl
theorem rankZ_nat {R V K : Nat} (hr : R ≤ 12) (hv : V ≤ 12) (h : isC R V K = true) : rankZ (K : Int) (R : Int) (V : Int) = okN (cnt R V K) := by
  unfold rankZ
  rw [frm_yes hr hv, isZ_nat hr hv, h]; rfl

/-- The bits of a number from b on, and those below. -/
theorem mod_step (K b : Nat) : K % 2 ^ (b + 1) = K % 2 ^ b + 2 ^ b * (K / 2 ^ b % 2) := Nat.mod_pow_succ
theorem or_bit {H b s : Nat} (hH : H % 2 ^ (b + 1) = 0) (hs : s < 2 ^ b) : (H + s) ||| 2 ^ b = H + 2 ^ b + s := by
  obtain ⟨q, rfl⟩ : ∃ q, H = 2 ^ (b + 1) * q := ⟨H / 2 ^ (b + 1), by have := Nat.div_add_mod H (2 ^ (b + 1)); omega⟩
  have hp : 2 ^ (b + 1) = 2 ^ b + 2 ^ b := by rw [Nat.pow_succ]; omega
  have e1 := Nat.two_pow_add_eq_or_of_lt (i := b + 1) (b := s) (by omega) q
  have e2 := Nat.two_pow_add_eq_or_of_lt (i := b + 1) (b := 2 ^ b + s) (by omega) q
  have e3 := Nat.two_pow_add_eq_or_of_lt (i := b) (b := s) hs 1
  rw [Nat.mul_one] at e3
  rw [e1, Nat.add_assoc, e2, e3, Nat.or_assoc, Nat.or_comm s]

/-- What Nth keeps: the bits from B on are found. -/
structure NtI (R V I0 B H I Vc : Nat) : Prop where
  rb : R ≤ B
  b12 : B ≤ 12
  mod : H % 2 ^ B = 0
  top : H + 2 ^ B ≤ 4096
  vc : Vc ≤ 12
  le : I ≤ I0
  cn : ∀ t, t ≤ 2 ^ B → cnt R V (H + t) = (I0 - I) + cnt R Vc t
  cd : ∀ t, t < 2 ^ B → isC R V (H + t) = isC R Vc t
  lt : I < cnt R Vc (2 ^ B)
theorem NtI.start {R V I0 : Nat} (hr : R ≤ 12) (hv : V ≤ 12) (h : I0 < cnt R V 4096) : NtI R V I0 12 0 I0 V :=
  ⟨hr, Nat.le_refl _, Nat.zero_mod _, by decide, hv, Nat.le_refl _, fun t _ => by rw [Nat.zero_add, Nat.sub_self, Nat.zero_add], fun t _ => by rw [Nat.zero_add], h⟩
theorem pow_dbl (b : Nat) : 2 ^ (b + 1) = 2 ^ b + 2 ^ b := by rw [Nat.pow_succ]; omega
theorem mod_half {H b : Nat} (h : H % 2 ^ (b + 1) = 0) : H % 2 ^ b = 0 :=
  Nat.mod_eq_zero_of_dvd (Nat.dvd_trans (Nat.pow_dvd_pow 2 (Nat.le_succ b)) (Nat.dvd_of_mod_eq_zero h))
theorem NtI.keep {R V I0 b H I Vc : Nat} (h : NtI R V I0 (b + 1) H I Vc) (hr : R ≤ b) (hi : I < cnt R Vc (2 ^ b)) : NtI R V I0 b H I Vc := by
  have hp := pow_dbl b
  have := h.top
  have := h.b12
  have := Nat.two_pow_pos b
  exact ⟨hr, by omega, mod_half h.mod, by omega, h.vc, h.le, fun t ht => h.cn t (by omega), fun t ht => h.cd t (by omega), hi⟩
theorem NtI.take {R V I0 b H I Vc : Nat} (h : NtI R V I0 (b + 1) H I Vc) (hr : R ≤ b) (hi : cnt R Vc (2 ^ b) ≤ I) :
    1 ≤ Vc ∧ NtI R V I0 b (H + 2 ^ b) (I - cnt R Vc (2 ^ b)) (Vc - 1) := by
  have hp := pow_dbl b
  have h1 := h.top
  have h2 := h.b12
  have h3 := h.lt
  have h4 := h.le
  have hc := h.vc
  cases Vc with
  | zero => rw [hp, cnt_none hr (by omega) (Nat.le_refl _)] at h3; omega
  | succ c =>
    refine ⟨by omega, hr, by omega, ?_, by omega, by omega, by omega, fun t ht => ?_, fun t ht => ?_, ?_⟩
    · exact add_mod0 (mod_half h.mod) (Nat.mod_self _)
    · have e := h.cn (2 ^ b + t) (by omega)
      rw [cnt_high hr (by omega) ht] at e
      rw [Nat.add_assoc, e, Nat.add_sub_cancel]; omega
    · have e := h.cd (2 ^ b + t) (by omega)
      rw [isC_high hr (by omega) ht] at e
      rw [Nat.add_assoc, e, Nat.add_sub_cancel]
    · rw [hp, cnt_high hr (by omega) (Nat.le_refl _)] at h3
      rw [Nat.add_sub_cancel]; omega
theorem NtI.done {R V I0 H I Vc : Nat} (h : NtI R V I0 R H I Vc) : isC R V (H + mN R) = true ∧ cnt R V (H + mN R) = I0 := by
  have hp := Nat.two_pow_pos R
  have h1 := h.lt
  have h4 := h.le
  rw [cnt_first h.b12] at h1
  unfold mN
  refine ⟨by rw [h.cd _ (by omega)]; exact isC_first h.b12, ?_⟩
  rw [h.cn _ (by omega), cnt_low (Nat.le_refl _)]; omega
/-- What Rank keeps. -/
structure RkI (R V K B acc Vc : Nat) : Prop where
  rb : R ≤ B
  b12 : B ≤ 12
  vc : Vc ≤ 12
  cd : isC R Vc (K % 2 ^ B) = true
  cn : cnt R V K = acc + cnt R Vc (K % 2 ^ B)
theorem RkI.start {R V K : Nat} (hr : R ≤ 12) (hv : V ≤ 12) (h : isC R V K = true) : RkI R V K 12 0 V := by
  have hk := (isC_iff.1 h).1
  have e : K % 2 ^ 12 = K := Nat.mod_eq_of_lt hk
  exact ⟨hr, Nat.le_refl _, hv, by rw [e]; exact h, by rw [e, Nat.zero_add]⟩
theorem RkI.keep {R V K b acc Vc : Nat} (h : RkI R V K (b + 1) acc Vc) (hr : R ≤ b) (hb : K / 2 ^ b % 2 ≠ 1) : RkI R V K b acc Vc := by
  have e : K % 2 ^ (b + 1) = K % 2 ^ b := by rw [mod_step, show K / 2 ^ b % 2 = 0 by omega, Nat.mul_zero, Nat.add_zero]
  have h1 := h.cd
  have h2 := h.cn
  have := h.b12
  rw [e] at h1 h2
  exact ⟨hr, by omega, h.vc, h1, h2⟩
theorem RkI.take {R V K b acc Vc : Nat} (h : RkI R V K (b + 1) acc Vc) (hr : R ≤ b) (hb : K / 2 ^ b % 2 = 1) : 1 ≤ Vc ∧ RkI R V K b (acc + cnt R Vc (2 ^ b)) (Vc - 1) := by
  have e : K % 2 ^ (b + 1) = 2 ^ b + K % 2 ^ b := by rw [mod_step, hb, Nat.mul_one, Nat.add_comm]
  have hm := Nat.mod_lt K (Nat.two_pow_pos b)
  have h1 := h.cd
  have h2 := h.cn
  have h3 := h.b12
  have hc := h.vc
  rw [e] at h1 h2
  cases Vc with
  | zero => rw [isC_none hr (by omega) hm] at h1; cases h1
  | succ c =>
    rw [isC_high hr (by omega) hm] at h1
    rw [cnt_high hr (by omega) (by omega)] at h2
    exact ⟨by omega, hr, by omega, by omega, h1, by rw [h2, Nat.add_sub_cancel]; omega⟩
theorem RkI.done {R V K acc Vc : Nat} (h : RkI R V K R acc Vc) : cnt R V K = acc := by
  have e := (isC_iff.1 h.cd).2.1
  rw [Nat.mod_mod] at e
  have := h.cn
  rw [e, cnt_low (Nat.le_refl _)] at this; exact this
end Go.Proofs.Ytkopbnppjhdbgaa
