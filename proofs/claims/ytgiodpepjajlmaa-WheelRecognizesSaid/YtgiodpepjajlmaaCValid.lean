/-
  Stage 6: the first error of a wagon: the program and the reference. Written by tools/gen_cvalid.py.
-/
import Derived.Test.YtgiodpepjajlmaaCName
set_option linter.unusedSimpArgs false
set_option linter.unusedVariables false
namespace Go.Proofs.Ytgiodpepjajlmaa
open Go.RowKit

theorem rng_t {x : Wag} {k v : Int} (hv : leastK k = v) (h1 : v ≤ x.len) (h2 : x.len ≤ 400) (h3 : 50 ≤ x.mas) (h4 : x.mas ≤ 2000) (h5 : 0 ≤ x.brk) (h6 : x.brk ≤ x.mas) (h7 : 0 ≤ x.gds) (h8 : x.gds ≤ 9) : decide (rngW x k) = true := by
  subst hv; exact decide_eq_true ⟨h1, h2, h3, h4, h5, h6, h7, h8⟩
theorem rng_f {x : Wag} {k v : Int} (hv : leastK k = v) (h : ¬ (v ≤ x.len ∧ x.len ≤ 400 ∧ 50 ≤ x.mas ∧ x.mas ≤ 2000 ∧ 0 ≤ x.brk ∧ x.brk ≤ x.mas ∧ 0 ≤ x.gds ∧ x.gds ≤ 9)) : decide (rngW x k) = false := by
  subst hv; exact decide_eq_false h
theorem box1 (w : World) (o : Obj) : Below w.heap.size w (w.alloc o) := (Below.refl _ _).alloc (Nat.le_refl _) _

set_option maxHeartbeats 1600000 in
theorem prange_any (x : Wag) (k : Int) (w : World) :
    Calls Try.prog 45 #[aggW x, .int .i64 k] w fun e w' => e = .returned (.bool (decide (rngW x k))) ∧ Below w.heap.size w w' := by
  by_cases hk : k = 3
  · have hv : leastK k = 120 := by unfold leastK; rw [if_pos hk]
    have ek : (k == 3) = true := beq_iff_eq.2 hk
    by_cases r1 : ¬ (120 ≤ x.len)
    · have HF := Lib.hid (rng_f hv (fun g => absurd g.1 r1))
      clear hk
      go_enter Try.func45, Try.ntmps45
      go_wp2
      go_ret
      exact ⟨ret_bool HF.out.symm, box1 _ _⟩
    replace r1 := Decidable.of_not_not r1
    by_cases r2 : ¬ (x.len ≤ 400)
    · have HF := Lib.hid (rng_f hv (fun g => absurd g.2.1 r2))
      clear hk
      go_enter Try.func45, Try.ntmps45
      go_wp2
      go_ret
      exact ⟨ret_bool HF.out.symm, box1 _ _⟩
    replace r2 := Decidable.of_not_not r2
    by_cases r3 : ¬ (50 ≤ x.mas)
    · have HF := Lib.hid (rng_f hv (fun g => absurd g.2.2.1 r3))
      clear hk
      go_enter Try.func45, Try.ntmps45
      go_wp2
      go_ret
      exact ⟨ret_bool HF.out.symm, box1 _ _⟩
    replace r3 := Decidable.of_not_not r3
    by_cases r4 : ¬ (x.mas ≤ 2000)
    · have HF := Lib.hid (rng_f hv (fun g => absurd g.2.2.2.1 r4))
      clear hk
      go_enter Try.func45, Try.ntmps45
      go_wp2
      go_ret
      exact ⟨ret_bool HF.out.symm, box1 _ _⟩
    replace r4 := Decidable.of_not_not r4
    by_cases r5 : ¬ (0 ≤ x.brk)
    · have HF := Lib.hid (rng_f hv (fun g => absurd g.2.2.2.2.1 r5))
      clear hk
      go_enter Try.func45, Try.ntmps45
      go_wp2
      go_ret
      exact ⟨ret_bool HF.out.symm, box1 _ _⟩
    replace r5 := Decidable.of_not_not r5
    by_cases r6 : ¬ (x.brk ≤ x.mas)
    · have HF := Lib.hid (rng_f hv (fun g => absurd g.2.2.2.2.2.1 r6))
      clear hk
      go_enter Try.func45, Try.ntmps45
      go_wp2
      go_ret
      exact ⟨ret_bool HF.out.symm, box1 _ _⟩
    replace r6 := Decidable.of_not_not r6
    by_cases r7 : ¬ (0 ≤ x.gds)
    · have HF := Lib.hid (rng_f hv (fun g => absurd g.2.2.2.2.2.2.1 r7))
      clear hk
      go_enter Try.func45, Try.ntmps45
      go_wp2
      go_ret
      exact ⟨ret_bool HF.out.symm, box1 _ _⟩
    replace r7 := Decidable.of_not_not r7
    by_cases r8 : ¬ (x.gds ≤ 9)
    · have HF := Lib.hid (rng_f hv (fun g => absurd g.2.2.2.2.2.2.2 r8))
      clear hk
      go_enter Try.func45, Try.ntmps45
      go_wp2
      go_ret
      exact ⟨ret_bool HF.out.symm, box1 _ _⟩
    replace r8 := Decidable.of_not_not r8
    have HF := Lib.hid (rng_t hv r1 r2 r3 r4 r5 r6 r7 r8)
    clear hk
    go_enter Try.func45, Try.ntmps45
    go_wp2
    go_ret
    exact ⟨ret_bool HF.out.symm, box1 _ _⟩
  · have hv : leastK k = 80 := by unfold leastK; rw [if_neg hk]
    have ek : (k == 3) = false := beq_eq_false_iff_ne.2 hk
    by_cases r1 : ¬ (80 ≤ x.len)
    · have HF := Lib.hid (rng_f hv (fun g => absurd g.1 r1))
      clear hk
      go_enter Try.func45, Try.ntmps45
      go_wp2
      go_ret
      exact ⟨ret_bool HF.out.symm, box1 _ _⟩
    replace r1 := Decidable.of_not_not r1
    by_cases r2 : ¬ (x.len ≤ 400)
    · have HF := Lib.hid (rng_f hv (fun g => absurd g.2.1 r2))
      clear hk
      go_enter Try.func45, Try.ntmps45
      go_wp2
      go_ret
      exact ⟨ret_bool HF.out.symm, box1 _ _⟩
    replace r2 := Decidable.of_not_not r2
    by_cases r3 : ¬ (50 ≤ x.mas)
    · have HF := Lib.hid (rng_f hv (fun g => absurd g.2.2.1 r3))
      clear hk
      go_enter Try.func45, Try.ntmps45
      go_wp2
      go_ret
      exact ⟨ret_bool HF.out.symm, box1 _ _⟩
    replace r3 := Decidable.of_not_not r3
    by_cases r4 : ¬ (x.mas ≤ 2000)
    · have HF := Lib.hid (rng_f hv (fun g => absurd g.2.2.2.1 r4))
      clear hk
      go_enter Try.func45, Try.ntmps45
      go_wp2
      go_ret
      exact ⟨ret_bool HF.out.symm, box1 _ _⟩
    replace r4 := Decidable.of_not_not r4
    by_cases r5 : ¬ (0 ≤ x.brk)
    · have HF := Lib.hid (rng_f hv (fun g => absurd g.2.2.2.2.1 r5))
      clear hk
      go_enter Try.func45, Try.ntmps45
      go_wp2
      go_ret
      exact ⟨ret_bool HF.out.symm, box1 _ _⟩
    replace r5 := Decidable.of_not_not r5
    by_cases r6 : ¬ (x.brk ≤ x.mas)
    · have HF := Lib.hid (rng_f hv (fun g => absurd g.2.2.2.2.2.1 r6))
      clear hk
      go_enter Try.func45, Try.ntmps45
      go_wp2
      go_ret
      exact ⟨ret_bool HF.out.symm, box1 _ _⟩
    replace r6 := Decidable.of_not_not r6
    by_cases r7 : ¬ (0 ≤ x.gds)
    · have HF := Lib.hid (rng_f hv (fun g => absurd g.2.2.2.2.2.2.1 r7))
      clear hk
      go_enter Try.func45, Try.ntmps45
      go_wp2
      go_ret
      exact ⟨ret_bool HF.out.symm, box1 _ _⟩
    replace r7 := Decidable.of_not_not r7
    by_cases r8 : ¬ (x.gds ≤ 9)
    · have HF := Lib.hid (rng_f hv (fun g => absurd g.2.2.2.2.2.2.2 r8))
      clear hk
      go_enter Try.func45, Try.ntmps45
      go_wp2
      go_ret
      exact ⟨ret_bool HF.out.symm, box1 _ _⟩
    replace r8 := Decidable.of_not_not r8
    have HF := Lib.hid (rng_t hv r1 r2 r3 r4 r5 r6 r7 r8)
    clear hk
    go_enter Try.func45, Try.ntmps45
    go_wp2
    go_ret
    exact ⟨ret_bool HF.out.symm, box1 _ _⟩

theorem validW_num {x : Wag} {k e : Int} (h : kindR x.num = (k, e)) (he : e ≠ 0) : validW x = e := by
  unfold validW; rw [h]; exact if_neg he
theorem validW_kind {x : Wag} {k : Int} (h : kindR x.num = (k, 0)) : validW x = valK x k := by
  unfold validW; rw [h]; exact if_pos rfl
theorem valK_axl {x : Wag} {k : Int} (h : ¬ x.axl = axlK k) : valK x k = 1 := by unfold valK; rw [if_neg h]
theorem valK_rng {x : Wag} {k : Int} (h : x.axl = axlK k) (hr : decide (rngW x k) = false) : valK x k = 2 := by
  unfold valK; rw [if_pos h, if_neg (of_decide_eq_false hr)]
theorem valK_nam {x : Wag} {k : Int} (h : x.axl = axlK k) (hr : decide (rngW x k) = true) (hn : nameS x.dst = false) : valK x k = 7 := by
  unfold valK; rw [if_pos h, if_pos (of_decide_eq_true hr), hn]; rfl
theorem valK_ok {x : Wag} {k : Int} (h : x.axl = axlK k) (hr : decide (rngW x k) = true) (hn : nameS x.dst = true) : valK x k = 0 := by
  unfold valK; rw [if_pos h, if_pos (of_decide_eq_true hr), hn]; rfl
theorem knd_bd (c : UInt8) : knd c = 0 ∨ knd c = 1 ∨ knd c = 2 ∨ knd c = 3 := by
  unfold knd; split
  · exact Or.inr (Or.inl rfl)
  · split
    · exact Or.inr (Or.inr (Or.inl rfl))
    · split
      · exact Or.inr (Or.inr (Or.inr rfl))
      · exact Or.inl rfl
theorem kindR_bd (s : ByteArray) : (kindR s).1 = 0 ∨ (kindR s).1 = 1 ∨ (kindR s).1 = 2 ∨ (kindR s).1 = 3 := by
  unfold kindR; split
  · exact knd_bd _
  · exact Or.inl rfl
/-- The error of Valid, and what is left of the world. -/
def ValPost (x : Wag) (w : World) (e : Ending) (w' : World) : Prop := e = .returned (.int .i64 (validW x)) ∧ Below w.heap.size w w'
theorem ValPost.mk' {x : Wag} {w w' : World} {v : Int} (h : validW x = v) (b : Below w.heap.size w w') : ValPost x w (.returned (.int .i64 v)) w' := ⟨by rw [h], b⟩

set_option maxHeartbeats 1600000 in
theorem cvalid_any (x : Wag) (w : World) : Calls Try.prog 33 #[aggW x] w (ValPost x w) := by
  obtain ⟨k, e, hke⟩ : ∃ k e, kindR x.num = (k, e) := ⟨_, _, rfl⟩
  have HK := Lib.hid hke
  clear hke
  obtain ⟨c0, c1, c2, c3, c4, c5, c6, c7, lt⟩ := WBlk.of (newW w x 30 w.heap.size rfl)
  have HB := Lib.hid (box1 w (.cells #[.string x.num, .int .i64 x.len, .int .i64 x.axl, .int .i64 x.mas, .int .i64 x.brk, .int .i64 x.gds, .bool x.gen, .string x.dst] 30))
  go_enter Try.func33, Try.ntmps33
  go_wp2_with fail
  refine (pkind_any x.num _).mono ?_
  rintro e' w' ⟨rfl, rfl⟩
  rw [HK.out]
  by_cases he : e ≠ 0
  · have HV := Lib.hid (validW_num HK.out he)
    have ev : (e != 0) = true := bne_iff_ne.2 he
    clear he
    go_wp2_with fail
    go_ret
    exact ValPost.mk' HV.out HB.out
  obtain rfl := Decidable.of_not_not he
  have HV := Lib.hid (validW_kind HK.out)
  go_wp2_with fail
  have HC := Lib.hid (newW w x 30 w.heap.size rfl)
  go_quiet ((go_at_call 44; exact Calls.quiet_of_same ((axles_any _ _).mono fun _ _ h => ⟨h.1, h.2.symm⟩)))
  clear he
  by_cases ha : ¬ x.axl = axlK k
  · have HV2 := Lib.hid (HV.out.trans (valK_axl ha))
    have ev : (x.axl != axlK k) = true := bne_iff_ne.2 ha
    clear ha
    go_wp2_with fail
    go_ret
    exact ValPost.mk' HV2.out (bdn HB.out)
  replace ha := Decidable.of_not_not ha
  have HA := Lib.hid ha
  have ev : (x.axl != axlK k) = false := bne_eq_false_iff_eq.2 ha
  clear ha
  go_wp2_with fail
  refine (prange_any x k _).mono ?_
  rintro e' w2 ⟨rfl, B2⟩
  have HB2 := Lib.hid ((bdn (n := nq) HB.out).trans (B2.mono (Nat.le_of_lt (by show w.heap.size < (World.alloc w _).heap.size; simp))))
  have HC2 := Lib.hid ((HC.out.drewN nq).below B2)
  clear c0 c1 c2 c3 c4 c5 c6 c7 lt B2 ev
  cases hr : decide (rngW x k) with
  | false =>
    have HV2 := Lib.hid (HV.out.trans (valK_rng HA.out hr))
    clear hr
    go_wp2_with fail
    go_ret
    exact ValPost.mk' HV2.out HB2.out
  | true =>
    have HR := Lib.hid hr
    clear hr
    have c7 := (WBlk.of HC2.out).c7
    go_wp2_with fail
    refine (pname_any x.dst _).mono ?_
    rintro e' w' ⟨rfl, rfl⟩
    cases hn : nameS x.dst with
    | false =>
      have HV2 := Lib.hid (HV.out.trans (valK_nam HA.out HR.out hn))
      clear hn
      go_wp2_with fail
      go_ret
      exact ValPost.mk' HV2.out HB2.out
    | true =>
      have HV2 := Lib.hid (HV.out.trans (valK_ok HA.out HR.out hn))
      clear hn
      go_wp2_with fail
      go_ret
      exact ValPost.mk' HV2.out HB2.out

end Go.Proofs.Ytgiodpepjajlmaa
