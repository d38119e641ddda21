/-
  Stage 7: Offsets: the program and the reference.
-/
import Derived.Test.YtgiodpepjajlmaaWMath
import Derived.Test.YtgiodpepjajlmaaWApp
import Derived.Test.YtgiodpepjajlmaaCRvalid
set_option linter.unusedSimpArgs false
set_option linter.unusedVariables false
namespace Go.Proofs.Ytgiodpepjajlmaa
open Go.RowKit

def FrontPost (k n : Int) (w : World) (e : Ending) (w' : World) : Prop := ∃ v, e = .returned v ∧ Own .i64 3 w' w.heap.size v (frontK k n) ∧ Below w.heap.size w w'
theorem FrontPost.mk' {k n : Int} {w : World} {zs : List Int} (m : Nat) (hm : zs.length = m) (h : frontK k n = zs) (hl : m ≤ 10) : FrontPost k n w (.returned (.slice (some ⟨w.heap.size, 0, none⟩) m m)) (w.alloc (.cells (zs.map (Value.int .i64)).toArray 3)) :=
  ⟨_, rfl, by rw [h]; exact Own.laid w _ (Nat.le_refl _) zs m hm (by omega), box1W _ _⟩
set_option maxHeartbeats 800000 in
theorem front_any (k n : Int) (w : World) (h0 : 0 ≤ n) (h1 : n ≤ 1000000) :
    Calls Try.prog 35 #[.int .i64 k, .int .i64 n] w (FrontPost k n w) := by
  by_cases h1 : k = 1
  · have HF := Lib.hid (show frontK k n = [130, 330] by unfold frontK; rw [if_pos h1])
    have e1 : (k == 1) = true := beq_iff_eq.2 h1
    clear h1
    go_enter Try.func35, Try.ntmps35
    go_wp2_with fail
    go_ret
    exact FrontPost.mk' 2 rfl HF.out (by decide)
  have e1 : (k == 1) = false := beq_eq_false_iff_ne.2 h1
  by_cases h2 : k = 2
  · have HF := Lib.hid (show frontK k n = [n / 4] by unfold frontK; rw [if_neg h1, if_pos h2])
    have e2 : (k == 2) = true := beq_iff_eq.2 h2
    clear h1 h2
    go_enter Try.func35, Try.ntmps35
    go_wp2_with fail
    go_ret
    exact FrontPost.mk' 1 rfl HF.out (by decide)
  have e2 : (k == 2) = false := beq_eq_false_iff_ne.2 h2
  by_cases h3 : k = 3
  · have HF := Lib.hid (show frontK k n = [120, 280, 440] by unfold frontK; rw [if_neg h1, if_neg h2, if_pos h3])
    have e3 : (k == 3) = true := beq_iff_eq.2 h3
    clear h1 h2 h3
    go_enter Try.func35, Try.ntmps35
    go_wp2_with fail
    go_ret
    exact FrontPost.mk' 3 rfl HF.out (by decide)
  · have HF := Lib.hid (show frontK k n = [150, 330] by unfold frontK; rw [if_neg h1, if_neg h2, if_neg h3])
    have e3 : (k == 3) = false := beq_eq_false_iff_ne.2 h3
    clear h1 h2 h3
    go_enter Try.func35, Try.ntmps35
    go_wp2_with fail
    go_ret
    exact FrontPost.mk' 2 rfl HF.out (by decide)

def OffPost (x : Wag) (w : World) (e : Ending) (w' : World) : Prop := PairPost (offR x).1 (offR x).2 w e w'
theorem offR_bad {x : Wag} (h : validW x ≠ 0) : offR x = ([], validW x) := by unfold offR; rw [if_neg h]
theorem offR_ok {x : Wag} (h : validW x = 0) : offR x = (offW x, 0) := by unfold offR; rw [if_pos h]
theorem kindR_ok {x : Wag} (h : validW x = 0) : kindR x.num = (knW x, 0) := by
  obtain ⟨h0, _⟩ := validW_parts h
  show kindR x.num = ((kindR x.num).1, 0)
  unfold kindR; rw [if_pos h0]
theorem getD_rng {zs : List Int} {P : Int → Prop} (h : ∀ z ∈ zs, P z) {j : Nat} (hj : j < zs.length) : P (zs.getD j 0) := h _ (getD_mem hj)

set_option maxHeartbeats 1600000 in
theorem poff_any (x : Wag) (w : World) : Calls Try.prog 19 #[aggW x] w (OffPost x w) := by
  obtain ⟨c0, c1, c2, c3, c4, c5, c6, c7, lt⟩ := WBlk.of (newW w x 30 w.heap.size rfl)
  have HC := Lib.hid (newW w x 30 w.heap.size rfl)
  have HB := Lib.hid (box1 w (.cells #[.string x.num, .int .i64 x.len, .int .i64 x.axl, .int .i64 x.mas, .int .i64 x.brk, .int .i64 x.gds, .bool x.gen, .string x.dst] 30))
  go_enter Try.func19, Try.ntmps19
  go_wp2_with fail
  refine (cvalid_any x _).mono ?_
  rintro e w1 ⟨rfl, B1⟩
  have HC1 := Lib.hid (HC.out.below B1)
  have HB1 := Lib.hid (HB.out.trans (B1.mono HB.out.size))
  clear HC HB B1 c0 c1 c2 c3 c4 c5 c6 c7 lt
  by_cases hv : validW x ≠ 0
  · have HV := Lib.hid (offR_bad hv)
    have ev : (validW x != 0) = true := bne_iff_ne.2 hv
    clear hv
    go_wp2_with fail
    go_ret2
    exact PairPost.of HV.out Own.nil HB1.out
  have hv := Decidable.of_not_not hv
  have HV := Lib.hid hv
  obtain ⟨v1, v2, -, -⟩ := validW_len hv
  have HK := Lib.hid (kindR_ok hv)
  obtain ⟨c0, c1, _⟩ := WBlk.of HC1.out
  have hsz : w.heap.size < w1.heap.size := HC1.out.lt
  have HSZ := Lib.hid hsz
  rw [hv]
  clear hv hsz
  go_wp2_with fail
  refine (pkind_any x.num _).mono ?_
  rintro e w' ⟨rfl, rfl⟩
  rw [HK.out]
  go_wp2_with fail
  obtain ⟨n, hn⟩ : ∃ n, n = 10 * x.len := ⟨_, rfl⟩
  have HN := Lib.hid hn
  have n1 : 800 ≤ n := by omega
  have n2 : n ≤ 4000 := by omega
  refine (front_any (knW x) _ _ (by omega) (by omega)).mono ?_
  rintro e w2 ⟨v, rfl, O2, B2⟩
  rw [← hn] at O2
  have HB2 := Lib.hid (HB1.out.trans (B2.mono HB1.out.size))
  have O2 := Lib.hid (O2.base (Nat.le_of_lt HSZ.out))
  obtain ⟨k, hk⟩ : ∃ k, k = knW x := ⟨_, rfl⟩
  have HKN := Lib.hid hk
  rw [← hk] at O2
  obtain ⟨F, hF⟩ : ∃ F, F = frontK k n := ⟨_, rfl⟩
  have HF := Lib.hid hF
  have hfl := front_len k n
  rw [← hF] at hfl O2
  obtain ⟨A, c, rfl, R2, -⟩ := O2.out.slice
  clear hk hF B2 c0 c1 R2 HC1
  obtain ⟨f1, f2⟩ := hfl
  have HL := Lib.hid (show F.length = F.length from rfl)
  obtain ⟨L, hL⟩ : ∃ L, L = F.length := ⟨_, rfl⟩
  have HLN := Lib.hid hL
  rw [← hL] at f1 f2 O2 ⊢
  clear hL HL
  go_wp2_with fail
  rw [← hn]
  clear hn v1 v2
  go_loopw [8, 9] (fun v i wr => ∃ r q : Nat, q + r = L ∧ i = .int .i64 ((q : Int) - 1) ∧ Hid (Own .i64 3 wr w.heap.size v (F ++ backK k n r)) ∧ Hid (Below w.heap.size w wr)) (fun _ i _ => (intOf i + 1).toNat)
  case atStart => exact ⟨0, L, by omega, rfl, Lib.hid (by show Own _ _ _ _ _ (F ++ []); rw [List.append_nil]; exact O2.out), HB2⟩
  case round =>
    clear HB2 O2
    obtain ⟨r, q, hr, rfl, O, B⟩ := hrel
    have HR := Lib.hid hr
    have hFL : F.length = L := HLN.out.symm
    have hbl := backK_len (k := k) (n := n) (r := r) (by rw [← HF.out, hFL]; omega)
    have hal : (F ++ backK k n r).length = L + r := by rw [List.length_append, hFL, hbl]
    cases q with
    | succ q =>
      have e1 : ((q + 1 : Nat) : Int) - 1 = (q : Int) := by omega
      obtain ⟨A, c, rfl, R2, -⟩ := O.out.slice
      have hc := O.out
      obtain ⟨ad, rfl, _, cq⟩ := R2 q (by omega)
      rw [getD_app_left (by omega)] at cq
      obtain ⟨z, hz⟩ : ∃ z, z = F.getD q 0 := ⟨_, rfl⟩
      have hzb := front_bd (k := k) (n := n) (z := z) (by omega) (by rw [hz, HF.out]; exact getD_mem (by rw [← HF.out]; omega))
      have HS := Lib.hid (show F ++ backK k n (r + 1) = (F ++ backK k n r) ++ [n - z] by
        rw [backK_step (by rw [← HF.out, hFL]; omega), ← List.append_assoc, ← HF.out, hFL, hz, show L - 1 - r = q by omega])
      rw [← hz] at cq
      rw [e1]
      rw [hal] at hc ⊢
      have HAL := Lib.hid hal
      have HO := Lib.hid hc
      have HBS := Lib.hid B.out.size
      have qL : (q : Int) < ((L + r : Nat) : Int) := by omega
      clear R2 hz hal hbl hc hFL e1
      go_wp2_with (first | (at_builtin; refine wpList_appI _ rfl (.tmp 34) (.tmp 41) rfl w.heap.size _ _ rfl (HO.out.alloc _) (n - z) wr rfl _ rfl 1 rfl (by have := HAL.out; omega) (le_allocW HBS.out) ?_; intro v5 w5 A5))
      have B2 := Lib.hid (A5.below B.out HBS.out HO.out)
      have O2 := Lib.hid A5.1
      clear A5 O HO B cq
      go_roundw
      case rel => exact ⟨r + 1, q, by have := HR.out; omega, rfl, Lib.hid (by rw [HS.out]; exact O2.out), B2⟩
      case measure => simp [intOf] <;> omega
    | zero =>
      obtain rfl : r = L := by omega
      have HD := Lib.hid (show (F ++ backK k n r) = offW x by
        show _ = offK (knW x) (10 * x.len)
        rw [← HKN.out, ← HN.out, offK_two, HF.out, HLN.out, HF.out])
      have HP := Lib.hid (offR_ok HV.out)
      rw [HD.out] at O
      have e1 : ((0 : Nat) : Int) - 1 = -1 := rfl
      rw [e1]
      clear hal hbl hFL e1 hr
      go_wp2_with fail
      go_ret2
      exact PairPost.of HP.out O.out B.out
end Go.Proofs.Ytgiodpepjajlmaa
