/-
  Stage 4: the length of the first group.
-/
import Derived.Test.YtbpgbdnfoofnaaaDoorDRval
set_option linter.unusedSimpArgs false
set_option linter.unusedVariables false
namespace Go.Proofs.YtbpgbdnfoofnaaaDoor
open Go.RowKit

/-- All pulses are in their ranges. -/
def allP (l : List Pul) : Prop := ∀ p ∈ l, okP p
theorem run_all {t : Int} {l : List Pul} (h : run t l) : allP l := by
  induction l generalizing t with
  | nil => intro p hp; cases hp
  | cons q l ih =>
    intro p hp
    rcases List.mem_cons.1 hp with rfl | hp
    · exact h.1
    · exact ih h.2.2 p hp
theorem getD_memP {l : List Pul} {k : Nat} (hk : k < l.length) : l.getD k (0, 0, 0) ∈ l := by
  rw [List.getD_eq_getElem?_getD, List.getElem?_eq_getElem hk]; exact List.getElem_mem hk
theorem allP.at_ {l : List Pul} (h : allP l) {k : Nat} (hk : k < l.length) {d t s : Int} (e : (d, t, s) = l.getD k (0, 0, 0)) : (0 ≤ d ∧ d ≤ 31) ∧ (0 ≤ t ∧ t ≤ 1000000000) ∧ (s = 1 ∨ s = -1) := by
  have := h _ (getD_memP hk)
  rw [← e] at this
  exact this
theorem allP.drop {l : List Pul} (h : allP l) (n : Nat) : allP (l.drop n) := fun p hp => h p (List.mem_of_mem_drop hp)
theorem allP.take {l : List Pul} (h : allP l) (n : Nat) : allP (l.take n) := fun p hp => h p (List.mem_of_mem_take hp)
theorem more_yes {t d tt s : Int} {c : Nat} {l : List Pul} (h : tt - t ≤ 1023) : more t (c + 1) ((d, tt, s) :: l) = more tt c l + 1 := by
  show (if tt - t ≤ 1023 then more tt c l + 1 else 0) = _
  rw [if_pos h]
theorem more_no {t d tt s : Int} {c : Nat} {l : List Pul} (h : ¬ tt - t ≤ 1023) : more t c ((d, tt, s) :: l) = 0 := by
  cases c with
  | zero => rfl
  | succ c =>
    show (if tt - t ≤ 1023 then more tt c l + 1 else 0) = _
    rw [if_neg h]
theorem more_nil {t : Int} {c : Nat} : more t c [] = 0 := by cases c <;> rfl
theorem glen_step {l : List Pul} {k : Nat} {t d tt s : Int} (hk : k < 8) (hd : l.drop k = (d, tt, s) :: l.drop (k + 1)) (h : glen l = k + more t (8 - k) (l.drop k)) :
    (tt - t ≤ 1023 → glen l = k + 1 + more tt (8 - (k + 1)) (l.drop (k + 1))) ∧ (¬ tt - t ≤ 1023 → glen l = k) := by
  rw [hd] at h
  refine ⟨fun g => ?_, fun g => ?_⟩
  · rw [show 8 - k = (8 - (k + 1)) + 1 by omega, more_yes g] at h; omega
  · rw [more_no g] at h; omega

set_option maxHeartbeats 800000 in
theorem glen_any (l : List Pul) (A : Option Addr) (c : Nat) (w : World) (h : PRow w A l) (ho : allP l) (hne : l ≠ []) :
    Calls Tryd.prog 26 #[.slice A l.length c] w fun e w' => e = .returned (.int .i64 (glen l)) ∧ ∃ n, w' = w.drewN n := by
  have hl : l.length ≤ 9223372036854775807 := h.len
  have hlp := List.length_pos_iff.2 hne
  have H := Lib.hid h
  have HO := Lib.hid ho
  have h0 : glen l = 1 + more (bef l 1) (8 - 1) (l.drop 1) := by
    cases l with
    | nil => exact absurd rfl hne
    | cons p l => rfl
  obtain ⟨L, hL⟩ : ∃ n, n = l.length := ⟨_, rfl⟩
  have HL := Lib.hid hL
  have H0 := Lib.hid h0
  rw [← hL] at hl hlp ⊢
  obtain ⟨M, hM⟩ : ∃ M : Nat, M = min L 8 := ⟨_, rfl⟩
  have hm : ∀ w ts t, (Builtin.min_ ts t #[.int .i64 (L : Int), .int .i64 8]).run Tryd.prog w = .ok (.int .i64 (M : Int)) w := fun w ts t => by
    rw [run_min2]; unfold min2
    by_cases g : (8 : Int) < L
    · rw [if_pos g, show (M : Int) = 8 by omega]
    · rw [if_neg g, show (M : Int) = L by omega]
  have m1 : M ≤ L := by omega
  have m2 : M ≤ 8 := by omega
  have HM := Lib.hid hM
  clear h hL hne h0 ho hM
  go_enter Tryd.func26, Tryd.ntmps26
  go_wp2_with fail
  go_loopw [3] (fun i wr => ∃ k : Nat, 1 ≤ k ∧ k ≤ M ∧ i = .int .i64 k ∧ Hid (glen l = k + more (bef l k) (8 - k) (l.drop k)) ∧ Hid (∃ n, wr = w.drewN n)) (fun i _ => L - (intOf i).toNat)
  case atStart => exact ⟨1, by omega, by have := HM.out; omega, rfl, H0, Lib.hid ⟨0, rfl⟩⟩
  case round =>
    obtain ⟨k, hk1, hk, rfl, V, X⟩ := hrel
    by_cases hlt : k < M
    · obtain ⟨m, rfl⟩ : ∃ m, k = m + 1 := ⟨k - 1, by omega⟩
      obtain ⟨n, hn⟩ := X.out
      have hkl : m + 1 < l.length := by rw [← HL.out]; omega
      have hml : m < l.length := by omega
      have hpr : PRow wr A l := by rw [hn]; exact H.out.drewN n
      obtain ⟨ad, rfl, C⟩ := hpr.at_ (m + 1) hkl
      obtain ⟨ad', e', C'⟩ := hpr.at_ m hml
      obtain rfl : ad = ad' := by injection e'
      have hd := drop_at hkl
      have hbm : bef l (m + 1) = (l.getD m (0, 0, 0)).2.1 := rfl
      have hbn : bef l (m + 1 + 1) = (l.getD (m + 1) (0, 0, 0)).2.1 := rfl
      obtain ⟨⟨d, tt, s⟩, hp⟩ : ∃ p, p = l.getD (m + 1) (0, 0, 0) := ⟨_, rfl⟩
      obtain ⟨⟨d', t, s'⟩, hq⟩ : ∃ p, p = l.getD m (0, 0, 0) := ⟨_, rfl⟩
      have b1 := (HO.out.at_ hkl hp).2.1
      have b2 := (HO.out.at_ hml hq).2.1
      rw [← hp] at C hd hbn
      rw [← hq] at C' hbm
      have hv := V.out
      rw [hbm] at hv
      obtain ⟨g1, g2⟩ := glen_step (by omega) hd hv
      have G1 := Lib.hid g1
      have G2 := Lib.hid g2
      have HBN := Lib.hid hbn
      obtain ⟨c0, c1, c2⟩ := C.spelt
      obtain ⟨e0, e1, e2⟩ := C'.spelt
      simp only at c0 c1 c2 e0 e1 e2
      have wt : IntKind.i64.wrap (tt - t) = tt - t := IntWalk.i64_in _ (by omega)
      clear hp hq hd hbm hbn hv V C C' e' g1 g2 hn hpr hkl hml
      have hi : (m : Int) + 1 < (M : Int) := by omega
      go_upto_region 2 with fail
      go_quiet (fail)
      clear c0 c1 c2 e0 e1 e2
      by_cases hg : tt - t ≤ 1023
      · have HV := Lib.hid (G1.out hg)
        go_wp2_with fail
        go_roundw
        case rel => exact ⟨m + 1 + 1, by omega, by omega, by go_num, Lib.hid (by rw [HBN.out]; exact HV.out), by obtain ⟨n, rfl⟩ := X.out; exact Lib.hid ⟨n + nq, by rw [World.drewN_drewN]⟩⟩
        case measure => simp [intOf]; omega
      · have HV := Lib.hid (G2.out hg)
        go_wp2_with fail
        go_ret
        exact ⟨ret_int (by rw [HV.out]; simp), by obtain ⟨n, rfl⟩ := X.out; exact ⟨n + nq, by rw [World.drewN_drewN]⟩⟩
    · obtain rfl : k = M := by omega
      have e : glen l = k := by
        have h1 := V.out
        have h2 : more (bef l k) (8 - k) (l.drop k) = 0 := by
          by_cases g : 8 ≤ L
          · rw [show 8 - k = 0 by have := HM.out; omega]; rfl
          · rw [show k = l.length by have := HM.out; have := HL.out; omega, List.drop_length, more_nil]
        omega
      have HE := Lib.hid e
      clear e
      go_upto_region 2 with fail
      go_quiet (fail)
      go_wp2_with fail
      go_ret
      exact ⟨ret_int (by rw [HE.out]), by obtain ⟨n, rfl⟩ := X.out; exact ⟨n + nq, by rw [World.drewN_drewN]⟩⟩
end Go.Proofs.YtbpgbdnfoofnaaaDoor
