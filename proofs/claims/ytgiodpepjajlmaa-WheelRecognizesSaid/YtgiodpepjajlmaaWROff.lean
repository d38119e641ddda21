/-
  Stage 7: the reference's Offsets.
-/
import Derived.Test.YtgiodpepjajlmaaWOff
set_option linter.unusedSimpArgs false
set_option linter.unusedVariables false
namespace Go.Proofs.Ytgiodpepjajlmaa
open Go.RowKit

theorem PairPost.laid {p : List Int × Int} {w w1 : World} {zs : List Int} (m : Nat) (hp : p = (zs, 0)) (hm : zs.length = m) (hl : m ≤ 10) (B : Below w.heap.size w w1) : PairPost p.1 p.2 w (.returned (.tuple #[.slice (some ⟨w1.heap.size, 0, none⟩) m m, .int .i64 0])) (w1.alloc (.cells (zs.map (Value.int .i64)).toArray 3)) :=
  PairPost.of hp (Own.laid w1 _ B.size zs m hm (by omega)) (B.alloc B.size _)
set_option maxHeartbeats 1600000 in
theorem roff_any (x : Wag) (w : World) (hz : x.dst.size ≤ 4611686018427387904) : Calls Try.prog 20 #[aggW x] w (OffPost x w) := by
  obtain ⟨c0, c1, c2, c3, c4, c5, c6, c7, lt⟩ := WBlk.of (newW w x 30 w.heap.size rfl)
  have HC := Lib.hid (newW w x 30 w.heap.size rfl)
  have HB := Lib.hid (box1 w (.cells #[.string x.num, .int .i64 x.len, .int .i64 x.axl, .int .i64 x.mas, .int .i64 x.brk, .int .i64 x.gds, .bool x.gen, .string x.dst] 30))
  go_enter Try.func20, Try.ntmps20
  go_wp2_with fail
  refine (crvalid_any x _ hz).mono ?_
  rintro e w1 ⟨rfl, B1⟩
  have HC1 := Lib.hid (HC.out.below B1)
  have HB1 := Lib.hid (HB.out.trans (B1.mono HB.out.size))
  clear HC HB B1 c0 c1 c2 c3 c4 c5 c6 c7 lt
  by_cases hv : validW x ≠ 0
  · have HV := Lib.hid (offR_bad hv)
    have ev : (validW x != 0) = true := bne_iff_ne.2 hv
    clear hv
    go_wp2_with fail
    go_ret2
    exact PairPost.of HV.out Own.nil HB1.out
  have hv := Decidable.of_not_not hv
  have HP := Lib.hid (offR_ok hv)
  obtain ⟨v1, v2, -, -⟩ := validW_len hv
  have HK := Lib.hid (kindR_ok hv)
  obtain ⟨c0, c1, -⟩ := WBlk.of HC1.out
  rw [hv]
  clear hv
  go_wp2_with fail
  refine (rkind_any x.num _).mono ?_
  rintro e w' ⟨rfl, nn, rfl⟩
  rw [HK.out]
  have HB2 := Lib.hid (show Below w.heap.size w (w1.drewN nn) from bdn HB1.out)
  generalize w1.drewN nn = w2 at HB2 ⊢
  obtain ⟨n, hn⟩ : ∃ n, n = 10 * x.len := ⟨_, rfl⟩
  obtain ⟨k, hk⟩ : ∃ k, k = knW x := ⟨_, rfl⟩
  have n1 : 800 ≤ n := by omega
  have n2 : n ≤ 4000 := by omega
  have HW := Lib.hid (show offW x = offK k n by rw [hk, hn]; rfl)
  rw [← hk, ← hn]
  clear hk hn v1 v2 c0 c1 HC1 HB1
  by_cases h1 : k = 1
  · have HF := Lib.hid (show offR x = ([130, 330, n - 330, n - 130], 0) by rw [HP.out, HW.out]; unfold offK; rw [if_pos h1])
    have e1 : (k == 1) = true := beq_iff_eq.2 h1
    clear h1
    go_wp2_with fail
    go_ret2
    exact PairPost.laid 4 HF.out rfl (by decide) HB2.out
  have e1 : (k == 1) = false := beq_eq_false_iff_ne.2 h1
  by_cases h2 : k = 2
  · have HF := Lib.hid (show offR x = ([n / 4, n - n / 4], 0) by rw [HP.out, HW.out]; unfold offK; rw [if_neg h1, if_pos h2])
    have e2 : (k == 2) = true := beq_iff_eq.2 h2
    clear h1 h2
    go_wp2_with fail
    go_ret2
    exact PairPost.laid 2 HF.out rfl (by decide) HB2.out
  have e2 : (k == 2) = false := beq_eq_false_iff_ne.2 h2
  by_cases h3 : k = 3
  · have HF := Lib.hid (show offR x = ([120, 280, 440, n - 440, n - 280, n - 120], 0) by rw [HP.out, HW.out]; unfold offK; rw [if_neg h1, if_neg h2, if_pos h3])
    have e3 : (k == 3) = true := beq_iff_eq.2 h3
    clear h1 h2 h3
    go_wp2_with fail
    go_ret2
    exact PairPost.laid 6 HF.out rfl (by decide) HB2.out
  · have HF := Lib.hid (show offR x = ([150, 330, n - 330, n - 150], 0) by rw [HP.out, HW.out]; unfold offK; rw [if_neg h1, if_neg h2, if_neg h3])
    have e3 : (k == 3) = false := beq_eq_false_iff_ne.2 h3
    clear h1 h2 h3
    go_wp2_with fail
    go_ret2
    exact PairPost.laid 4 HF.out rfl (by decide) HB2.out
end Go.Proofs.Ytgiodpepjajlmaa
