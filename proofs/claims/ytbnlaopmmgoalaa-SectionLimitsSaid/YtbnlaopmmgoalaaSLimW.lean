/-
  Stage 5: the walk of SectionLimits.
-/
import Derived.Test.YtbnlaopmmgoalaaSSane
import Derived.Test.YtbnlaopmmgoalaaSMk
set_option linter.unusedSimpArgs false
set_option linter.unusedVariables false
namespace Go.Proofs.Ytbnlaopmmgoalaa
open Go.RowKit

theorem heb0 {eb x : Int} (h : eb = x) (h0 : x = 0) : 0 = eb := by omega
set_option maxRecDepth 100000 in
set_option maxHeartbeats 1600000 in
theorem lim_walk (n s : Int) (w : World) (hn : -9223372036854775808 ≤ n ∧ n ≤ 9223372036854775807) (hs : -9223372036854775808 ≤ s ∧ s ≤ 9223372036854775807) :
    Calls Try.prog 3 #[.int .i64 n, .int .i64 s] w fun e w' => e = .returned (.bool true) ∧ Below w.heap.size w w' := by
  obtain ⟨i0, hi, hz0, hz1, hz2⟩ := info_parts infoBor
  have b1 := tmod_bd n 3 (by decide)
  have b2 := tmod_bd s 32 (by decide)
  go_enter Try.func3, Try.ntmps3
  go_upto_region 3 with fail
  obtain ⟨N, hN⟩ : ∃ N : Nat, 63 + n.tmod 3 % 3 = (N : Int) := ⟨(63 + n.tmod 3 % 3).toNat, by omega⟩
  obtain ⟨S, hS⟩ : ∃ S : Nat, (s.tmod 32 + 32) % 32 = (S : Int) := ⟨((s.tmod 32 + 32) % 32).toNat, by omega⟩
  have hN1 : N ≤ 65 := by omega
  have hS1 : S ≤ 31 := by omega
  rw [hN, hS]
  generalize s.tmod 32 = y1
  generalize n.tmod 3 = y2
  generalize y1 + 32 = y3
  generalize (y2 + 3) % 3 = y4
  generalize y2 + 3 = y5
  clear hN hS b1 b2 hn hs
  go_wp2_with fail
  go_loopw [6, 5] (fun iv ov wr => ∃ k : Nat, k ≤ N ∧ iv = .int .i64 (k : Int) ∧ ∃ l : List Pul, l.length = k ∧ Hid (TOwn 24 wr w.heap.size ov l) ∧ Hid (Below w.heap.size w wr)) (fun iv _ _ => N - (intOf iv).toNat)
  case atStart => exact ⟨0, by omega, rfl, [], rfl, Lib.hid TOwn.nil, Lib.hid (Below.refl _ _)⟩
  case round =>
    obtain ⟨k, hk, rfl, l, hl, O, B⟩ := hrel
    by_cases hlt : k < N
    · have hq : (k : Int) / 32 ≤ 2 ∧ 0 ≤ (k : Int) / 32 := by omega
      obtain ⟨q, hqq⟩ : ∃ q : Nat, (k : Int) / 32 = (q : Int) := ⟨((k : Int) / 32).toNat, by omega⟩
      have hq2 : q ≤ 2 := by omega
      have hm : 0 ≤ (S : Int) * (q : Int) ∧ (S : Int) * (q : Int) ≤ 64 := by
        rcases (by omega : q = 0 ∨ q = 1 ∨ q = 2) with rfl | rfl | rfl <;> omega
      have HLN := Lib.hid hl
      have HK65 := Lib.hid (show k ≤ 65 by omega)
      go_wp2_with (first | (at_builtin; refine wpList_append_lies _ rfl (.tmp 24) (.tmp 44) 22 rfl w.heap.size 24 i0 (.agg #[.int .i64 0, .int .i64 0, .int .i64 0]) 3 24 Try.underlying22 hi hz0 hz1 hz2 rfl (by decide) _ l.length ((flatP l).map (Value.int .i64)) rfl (O.out.alloc _) ⟨wr.heap.size, 0, none⟩ 1 1 ((flatP [((k : Int) % 32, ((k : Int) % 32 + (S : Int) * (q : Int) + (q : Int)) % 32, 1 - 2 * ((q : Int) % 2))]).map (Value.int .i64)) rfl rfl (news_int (W := wr) (ys := flatP [((k : Int) % 32, ((k : Int) % 32 + (S : Int) * (q : Int) + (q : Int)) % 32, 1 - 2 * ((q : Int) % 2))])) (one_cells (ys := flatP [((k : Int) % 32, ((k : Int) % 32 + (S : Int) * (q : Int) + (q : Int)) % 32, 1 - 2 * ((q : Int) % 2))])) (by decide) (by unfold maxLen; have := HLN.out; have := HK65.out; omega) (by have := HLN.out; have := HK65.out; omega) (by have := B.out.size; simp only [World.size_alloc]; omega) _ rfl ?_; intro g cap w7 hown hgr hgb hlt2))
      have AP := Lib.hid (TOwn.app (l := l) (m := [((k : Int) % 32, ((k : Int) % 32 + (S : Int) * (q : Int) + (q : Int)) % 32, 1 - 2 * ((q : Int) % 2))]) hown rfl rfl)
      rw [HLN.out] at AP
      have B2 := Lib.hid ((B.out.alloc B.out.size _).grown hgr (by have := B.out.size; simp; omega) (fun j hj => (O.out.block hj).1))
      clear hown hgr hgb hlt2
      go_roundw
      case rel => exact ⟨k + 1, by omega, by go_num, l ++ [((k : Int) % 32, ((k : Int) % 32 + (S : Int) * (q : Int) + (q : Int)) % 32, 1 - 2 * ((q : Int) % 2))], by rw [List.length_append, HLN.out]; rfl, AP, B2⟩
      case measure => simp [intOf]; omega
    · obtain rfl : k = N := by omega
      obtain ⟨A, c, rfl, R, _⟩ := O.out.full
      have HR := Lib.hid R
      rw [hl]
      have HL := Lib.hid hl
      clear hlt hk O R hl
      go_wp2_with fail
      have c1 := bvalid_any l A c wr HR.out
      rw [HL.out] at c1
      refine c1.mono ?_
      rintro e w1 ⟨rfl, B1⟩
      have HR1 := Lib.hid (HR.out.below B1)
      have HB1 := Lib.hid (B.out.trans (B1.mono B.out.size))
      clear c1 B1 HR B
      obtain ⟨eb, heb⟩ : ∃ eb, eb = bordR l := ⟨_, rfl⟩
      have HEB := Lib.hid heb
      rw [← heb]
      clear heb
      go_wp2_with fail
      have c2 := pthr_any l A c w1 HR1.out
      rw [HL.out] at c2
      refine c2.mono ?_
      rintro e w2 ⟨v, rfl, O2, B2⟩
      have HR2 := Lib.hid (HR1.out.below B2)
      have HB2 := Lib.hid (HB1.out.trans (B2.mono HB1.out.size))
      have ht2 : (thrR l).2 = eb := by
        unfold thrR
        by_cases h0 : bordR l = 0
        · rw [if_pos h0, heb0 HEB.out h0]
        · rw [if_neg h0, HEB.out]
      rw [ht2]
      obtain ⟨A3, c3, rfl, R3, _⟩ := O2.slice
      clear c2 B2 HR1 HB1 O2 ht2
      by_cases h64 : 64 < k
      · have e3 : eb = 3 := by rw [HEB.out]; unfold bordR; rw [if_pos (by rw [HL.out]; exact h64)]
        have e0 : (thrR l).1.length = 0 := by
          unfold thrR
          rw [if_neg (by rw [← HEB.out, e3]; decide)]; rfl
        subst e3
        rw [e0]
        clear e0 R3
        go_wp2_with fail
        refine (sane_any w2).mono ?_
        rintro e w4 ⟨rfl, B4⟩
        have B' := Lib.hid (HB2.out.trans (B4.mono HB2.out.size))
        clear B4
        go_wp2_with fail
        go_ret
        exact ⟨rfl, B'.out⟩
      · have c3' := rbvalid_any l A c w2 HR2.out
        rw [HL.out, ← HEB.out] at c3'
        clear R3
        go_wp2_with fail
        refine c3'.mono ?_
        rintro e w3 ⟨rfl, B3⟩
        have HB3 := Lib.hid (HB2.out.trans (B3.mono HB2.out.size))
        clear c3' B3
        go_wp2_with fail
        refine (sane_any w3).mono ?_
        rintro e w4 ⟨rfl, B4⟩
        have B' := Lib.hid (HB3.out.trans (B4.mono HB3.out.size))
        clear B4
        go_wp2_with fail
        go_ret
        exact ⟨rfl, B'.out⟩
end Go.Proofs.Ytbnlaopmmgoalaa
