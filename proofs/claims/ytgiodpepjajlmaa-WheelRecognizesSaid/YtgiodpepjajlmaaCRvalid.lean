/-
  Stage 6: the first error of a wagon: the reference. Written by tools/gen_crvalid.py.
-/
import Derived.Test.YtgiodpepjajlmaaCValid
set_option linter.unusedSimpArgs false
set_option linter.unusedVariables false
namespace Go.Proofs.Ytgiodpepjajlmaa
open Go.RowKit

set_option maxHeartbeats 3200000 in
theorem crvalid_any (x : Wag) (w : World) (hz : x.dst.size ≤ 4611686018427387904) : Calls Try.prog 36 #[aggW x] w (ValPost x w) := by
  obtain ⟨k, e, hke⟩ : ∃ k e, kindR x.num = (k, e) := ⟨_, _, rfl⟩
  have HK := Lib.hid hke
  clear hke
  obtain ⟨c0, c1, c2, c3, c4, c5, c6, c7, lt⟩ := WBlk.of (newW w x 30 w.heap.size rfl)
  have HB := Lib.hid (box1 w (.cells #[.string x.num, .int .i64 x.len, .int .i64 x.axl, .int .i64 x.mas, .int .i64 x.brk, .int .i64 x.gds, .bool x.gen, .string x.dst] 30))
  go_enter Try.func36, Try.ntmps36
  go_wp2_with fail
  have HC := Lib.hid (newW w x 30 w.heap.size rfl)
  refine (rkind_any x.num _).mono ?_
  rintro e' w' ⟨rfl, nq, rfl⟩
  rw [HK.out]
  by_cases he : e ≠ 0
  · have HV := Lib.hid (validW_num HK.out he)
    have ev : (e != 0) = true := bne_iff_ne.2 he
    clear he
    go_wp2_with fail
    go_ret
    exact ValPost.mk' HV.out (bdn HB.out)
  obtain rfl := Decidable.of_not_not he
  clear he
  have HV := Lib.hid (validW_kind HK.out)
  by_cases h2 : k = 2
  · have hv : leastK k = 80 := by rw [h2]; rfl
    have hax : axlK k = 2 := by rw [h2]; rfl
    have e2 : (k == 2) = true := beq_iff_eq.2 h2
    clear h2
    by_cases ha : ¬ x.axl = 2
    · have HV2 := Lib.hid (HV.out.trans (valK_axl (k := k) (fun e => ha (e.trans hax))))
      have ev : (x.axl != 2) = true := bne_iff_ne.2 ha
      clear ha hax hv
      go_wp2_with fail
      go_ret
      exact ValPost.mk' HV2.out (bdn HB.out)
    replace ha := Decidable.of_not_not ha
    have HA := Lib.hid (show x.axl = axlK k from ha.trans hax.symm)
    have ev : (x.axl != 2) = false := bne_eq_false_iff_eq.2 ha
    clear ha hax
    by_cases r1 : x.len < 80
    · have HV2 := Lib.hid (HV.out.trans (valK_rng HA.out (rng_f hv (fun g => absurd g.1 (by omega)))))
      go_wp2_with fail
      go_ret
      exact ValPost.mk' HV2.out (bdn HB.out)
    replace r1 : 80 ≤ x.len := by omega
    by_cases r2 : 400 < x.len
    · have HV2 := Lib.hid (HV.out.trans (valK_rng HA.out (rng_f hv (fun g => absurd g.2.1 (by omega)))))
      go_wp2_with fail
      go_ret
      exact ValPost.mk' HV2.out (bdn HB.out)
    replace r2 : x.len ≤ 400 := by omega
    by_cases r3 : x.mas < 50
    · have HV2 := Lib.hid (HV.out.trans (valK_rng HA.out (rng_f hv (fun g => absurd g.2.2.1 (by omega)))))
      go_wp2_with fail
      go_ret
      exact ValPost.mk' HV2.out (bdn HB.out)
    replace r3 : 50 ≤ x.mas := by omega
    by_cases r4 : 2000 < x.mas
    · have HV2 := Lib.hid (HV.out.trans (valK_rng HA.out (rng_f hv (fun g => absurd g.2.2.2.1 (by omega)))))
      go_wp2_with fail
      go_ret
      exact ValPost.mk' HV2.out (bdn HB.out)
    replace r4 : x.mas ≤ 2000 := by omega
    by_cases r5 : x.brk < 0
    · have HV2 := Lib.hid (HV.out.trans (valK_rng HA.out (rng_f hv (fun g => absurd g.2.2.2.2.1 (by omega)))))
      go_wp2_with fail
      go_ret
      exact ValPost.mk' HV2.out (bdn HB.out)
    replace r5 : 0 ≤ x.brk := by omega
    by_cases r6 : x.mas < x.brk
    · have HV2 := Lib.hid (HV.out.trans (valK_rng HA.out (rng_f hv (fun g => absurd g.2.2.2.2.2.1 (by omega)))))
      go_wp2_with fail
      go_ret
      exact ValPost.mk' HV2.out (bdn HB.out)
    replace r6 : x.brk ≤ x.mas := by omega
    by_cases r7 : x.gds < 0
    · have HV2 := Lib.hid (HV.out.trans (valK_rng HA.out (rng_f hv (fun g => absurd g.2.2.2.2.2.2.1 (by omega)))))
      go_wp2_with fail
      go_ret
      exact ValPost.mk' HV2.out (bdn HB.out)
    replace r7 : 0 ≤ x.gds := by omega
    by_cases r8 : 9 < x.gds
    · have HV2 := Lib.hid (HV.out.trans (valK_rng HA.out (rng_f hv (fun g => absurd g.2.2.2.2.2.2.2 (by omega)))))
      go_wp2_with fail
      go_ret
      exact ValPost.mk' HV2.out (bdn HB.out)
    replace r8 : x.gds ≤ 9 := by omega
    have HR := Lib.hid (rng_t hv r1 r2 r3 r4 r5 r6 r7 r8)
    go_wp2_with fail
    refine (rname_any x.dst _ hz).mono ?_
    rintro e' w' ⟨rfl, rfl⟩
    cases hn : nameS x.dst with
    | false =>
      have HV2 := Lib.hid (HV.out.trans (valK_nam HA.out HR.out hn))
      clear hn
      go_wp2_with fail
      go_ret
      exact ValPost.mk' HV2.out (bdn HB.out)
    | true =>
      have HV2 := Lib.hid (HV.out.trans (valK_ok HA.out HR.out hn))
      clear hn
      go_wp2_with fail
      go_ret
      exact ValPost.mk' HV2.out (bdn HB.out)
  by_cases h3 : k = 3
  · have hv : leastK k = 120 := by rw [h3]; rfl
    have hax : axlK k = 6 := by rw [h3]; rfl
    have e2 : (k == 2) = false := beq_eq_false_iff_ne.2 h2
    have e3 : (k == 3) = true := beq_iff_eq.2 h3
    clear h2 h3
    by_cases ha : ¬ x.axl = 6
    · have HV2 := Lib.hid (HV.out.trans (valK_axl (k := k) (fun e => ha (e.trans hax))))
      have ev : (x.axl != 6) = true := bne_iff_ne.2 ha
      clear ha hax hv
      go_wp2_with fail
      go_ret
      exact ValPost.mk' HV2.out (bdn HB.out)
    replace ha := Decidable.of_not_not ha
    have HA := Lib.hid (show x.axl = axlK k from ha.trans hax.symm)
    have ev : (x.axl != 6) = false := bne_eq_false_iff_eq.2 ha
    clear ha hax
    by_cases r1 : x.len < 120
    · have HV2 := Lib.hid (HV.out.trans (valK_rng HA.out (rng_f hv (fun g => absurd g.1 (by omega)))))
      go_wp2_with fail
      go_ret
      exact ValPost.mk' HV2.out (bdn HB.out)
    replace r1 : 120 ≤ x.len := by omega
    by_cases r2 : 400 < x.len
    · have HV2 := Lib.hid (HV.out.trans (valK_rng HA.out (rng_f hv (fun g => absurd g.2.1 (by omega)))))
      go_wp2_with fail
      go_ret
      exact ValPost.mk' HV2.out (bdn HB.out)
    replace r2 : x.len ≤ 400 := by omega
    by_cases r3 : x.mas < 50
    · have HV2 := Lib.hid (HV.out.trans (valK_rng HA.out (rng_f hv (fun g => absurd g.2.2.1 (by omega)))))
      go_wp2_with fail
      go_ret
      exact ValPost.mk' HV2.out (bdn HB.out)
    replace r3 : 50 ≤ x.mas := by omega
    by_cases r4 : 2000 < x.mas
    · have HV2 := Lib.hid (HV.out.trans (valK_rng HA.out (rng_f hv (fun g => absurd g.2.2.2.1 (by omega)))))
      go_wp2_with fail
      go_ret
      exact ValPost.mk' HV2.out (bdn HB.out)
    replace r4 : x.mas ≤ 2000 := by omega
    by_cases r5 : x.brk < 0
    · have HV2 := Lib.hid (HV.out.trans (valK_rng HA.out (rng_f hv (fun g => absurd g.2.2.2.2.1 (by omega)))))
      go_wp2_with fail
      go_ret
      exact ValPost.mk' HV2.out (bdn HB.out)
    replace r5 : 0 ≤ x.brk := by omega
    by_cases r6 : x.mas < x.brk
    · have HV2 := Lib.hid (HV.out.trans (valK_rng HA.out (rng_f hv (fun g => absurd g.2.2.2.2.2.1 (by omega)))))
      go_wp2_with fail
      go_ret
      exact ValPost.mk' HV2.out (bdn HB.out)
    replace r6 : x.brk ≤ x.mas := by omega
    by_cases r7 : x.gds < 0
    · have HV2 := Lib.hid (HV.out.trans (valK_rng HA.out (rng_f hv (fun g => absurd g.2.2.2.2.2.2.1 (by omega)))))
      go_wp2_with fail
      go_ret
      exact ValPost.mk' HV2.out (bdn HB.out)
    replace r7 : 0 ≤ x.gds := by omega
    by_cases r8 : 9 < x.gds
    · have HV2 := Lib.hid (HV.out.trans (valK_rng HA.out (rng_f hv (fun g => absurd g.2.2.2.2.2.2.2 (by omega)))))
      go_wp2_with fail
      go_ret
      exact ValPost.mk' HV2.out (bdn HB.out)
    replace r8 : x.gds ≤ 9 := by omega
    have HR := Lib.hid (rng_t hv r1 r2 r3 r4 r5 r6 r7 r8)
    go_wp2_with fail
    refine (rname_any x.dst _ hz).mono ?_
    rintro e' w' ⟨rfl, rfl⟩
    cases hn : nameS x.dst with
    | false =>
      have HV2 := Lib.hid (HV.out.trans (valK_nam HA.out HR.out hn))
      clear hn
      go_wp2_with fail
      go_ret
      exact ValPost.mk' HV2.out (bdn HB.out)
    | true =>
      have HV2 := Lib.hid (HV.out.trans (valK_ok HA.out HR.out hn))
      clear hn
      go_wp2_with fail
      go_ret
      exact ValPost.mk' HV2.out (bdn HB.out)
  · have hv : leastK k = 80 := by unfold leastK; rw [if_neg h3]
    have hax : axlK k = 4 := by unfold axlK; rw [if_neg h2, if_neg h3]
    have e2 : (k == 2) = false := beq_eq_false_iff_ne.2 h2
    have e3 : (k == 3) = false := beq_eq_false_iff_ne.2 h3
    clear h2 h3
    by_cases ha : ¬ x.axl = 4
    · have HV2 := Lib.hid (HV.out.trans (valK_axl (k := k) (fun e => ha (e.trans hax))))
      have ev : (x.axl != 4) = true := bne_iff_ne.2 ha
      clear ha hax hv
      go_wp2_with fail
      go_ret
      exact ValPost.mk' HV2.out (bdn HB.out)
    replace ha := Decidable.of_not_not ha
    have HA := Lib.hid (show x.axl = axlK k from ha.trans hax.symm)
    have ev : (x.axl != 4) = false := bne_eq_false_iff_eq.2 ha
    clear ha hax
    by_cases r1 : x.len < 80
    · have HV2 := Lib.hid (HV.out.trans (valK_rng HA.out (rng_f hv (fun g => absurd g.1 (by omega)))))
      go_wp2_with fail
      go_ret
      exact ValPost.mk' HV2.out (bdn HB.out)
    replace r1 : 80 ≤ x.len := by omega
    by_cases r2 : 400 < x.len
    · have HV2 := Lib.hid (HV.out.trans (valK_rng HA.out (rng_f hv (fun g => absurd g.2.1 (by omega)))))
      go_wp2_with fail
      go_ret
      exact ValPost.mk' HV2.out (bdn HB.out)
    replace r2 : x.len ≤ 400 := by omega
    by_cases r3 : x.mas < 50
    · have HV2 := Lib.hid (HV.out.trans (valK_rng HA.out (rng_f hv (fun g => absurd g.2.2.1 (by omega)))))
      go_wp2_with fail
      go_ret
      exact ValPost.mk' HV2.out (bdn HB.out)
    replace r3 : 50 ≤ x.mas := by omega
    by_cases r4 : 2000 < x.mas
    · have HV2 := Lib.hid (HV.out.trans (valK_rng HA.out (rng_f hv (fun g => absurd g.2.2.2.1 (by omega)))))
      go_wp2_with fail
      go_ret
      exact ValPost.mk' HV2.out (bdn HB.out)
    replace r4 : x.mas ≤ 2000 := by omega
    by_cases r5 : x.brk < 0
    · have HV2 := Lib.hid (HV.out.trans (valK_rng HA.out (rng_f hv (fun g => absurd g.2.2.2.2.1 (by omega)))))
      go_wp2_with fail
      go_ret
      exact ValPost.mk' HV2.out (bdn HB.out)
    replace r5 : 0 ≤ x.brk := by omega
    by_cases r6 : x.mas < x.brk
    · have HV2 := Lib.hid (HV.out.trans (valK_rng HA.out (rng_f hv (fun g => absurd g.2.2.2.2.2.1 (by omega)))))
      go_wp2_with fail
      go_ret
      exact ValPost.mk' HV2.out (bdn HB.out)
    replace r6 : x.brk ≤ x.mas := by omega
    by_cases r7 : x.gds < 0
    · have HV2 := Lib.hid (HV.out.trans (valK_rng HA.out (rng_f hv (fun g => absurd g.2.2.2.2.2.2.1 (by omega)))))
      go_wp2_with fail
      go_ret
      exact ValPost.mk' HV2.out (bdn HB.out)
    replace r7 : 0 ≤ x.gds := by omega
    by_cases r8 : 9 < x.gds
    · have HV2 := Lib.hid (HV.out.trans (valK_rng HA.out (rng_f hv (fun g => absurd g.2.2.2.2.2.2.2 (by omega)))))
      go_wp2_with fail
      go_ret
      exact ValPost.mk' HV2.out (bdn HB.out)
    replace r8 : x.gds ≤ 9 := by omega
    have HR := Lib.hid (rng_t hv r1 r2 r3 r4 r5 r6 r7 r8)
    go_wp2_with fail
    refine (rname_any x.dst _ hz).mono ?_
    rintro e' w' ⟨rfl, rfl⟩
    cases hn : nameS x.dst with
    | false =>
      have HV2 := Lib.hid (HV.out.trans (valK_nam HA.out HR.out hn))
      clear hn
      go_wp2_with fail
      go_ret
      exact ValPost.mk' HV2.out (bdn HB.out)
    | true =>
      have HV2 := Lib.hid (HV.out.trans (valK_ok HA.out HR.out hn))
      clear hn
      go_wp2_with fail
      go_ret
      exact ValPost.mk' HV2.out (bdn HB.out)
end Go.Proofs.Ytgiodpepjajlmaa
