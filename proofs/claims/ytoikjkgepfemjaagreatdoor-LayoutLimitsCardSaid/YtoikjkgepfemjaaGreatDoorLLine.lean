/-
  Stage 9: the laws' line and fan.
-/
import Derived.Test.YtoikjkgepfemjaaGreatDoorLDec
import Derived.Test.YtoikjkgepfemjaaGreatDoorLRead
set_option linter.unusedSimpArgs false
set_option linter.unusedVariables false
namespace Go.Proofs.YtoikjkgepfemjaaGreatDoor
open Go.RowKit Go.Lib

theorem heap_newR (w : World) (o : Obj) : (w.alloc o).heap[w.heap.size]? = some o := by
  show (w.heap.push _)[w.heap.size]? = _
  rw [Array.getElem?_push, if_pos rfl]
theorem ROwn.laid {α : Type} (R : Rec α) {T : TypeId} (w : World) (base : Nat) (hb : base ≤ w.heap.size) (l : List α) (n : Nat) (hn : l.length = n) (hm : n ≤ 1000) : ROwn R T (w.alloc (.cells (R.flat l).toArray T)) base (.slice (some ⟨w.heap.size, 0, none⟩) n n) l := by
  subst hn
  have hl : (R.flat l).length = l.length * R.m := flatR_len R l
  refine ⟨hl, Or.inr ⟨w.heap.size, l.length, (R.flat l).toArray, rfl, hb, heap_newR w _, Nat.le_refl _, by unfold maxLen; omega, by rw [List.size_toArray]; exact hl, ?_⟩⟩
  show List.take (l.length * R.m) (R.flat l) = R.flat l
  exact List.take_of_length_le (by omega)
theorem run_lit1E {ρ : Operand → Value} {o : Oper} {s : Operand} {x : El} (hop : o.op = .buildSlice 22 1 #[(0, s)]) (hs : ρ s = aggE x) (w : World) :
    (execOp ρ o).run Tryz.prog w = .ok (.value (.slice (some ⟨w.heap.size, 0, none⟩) 1 1)) (w.alloc (.cells #[.int .i64 x.kind, .string x.name, .int .i64 x.par, .int .i64 x.side, .int .i64 x.len, .int .i64 x.gra, .int .i64 x.cur, .int .i64 x.pow] 48)) := by
  unfold execOp
  rw [hop]
  simp only [hs]
  go_simp
theorem wpList_lit1E (w : World) {ops : Array Oper} {rest : List Oper} {o : Oper} {a : Act} {Q : Exit → Act → World → Prop} (hg : o.guard = none) (s : Operand) (ho : o.op = .buildSlice 22 1 #[(0, s)]) (x : El) (hs : a.eval s = aggE x)
    (h : wpList Tryz.prog ops Q rest (a.put o.dst (.slice (some ⟨w.heap.size, 0, none⟩) 1 1)) (w.alloc (.cells #[.int .i64 x.kind, .string x.name, .int .i64 x.par, .int .i64 x.side, .int .i64 x.len, .int .i64 x.gra, .int .i64 x.cur, .int .i64 x.pow] 48))) : wpList Tryz.prog ops Q (o :: rest) a w := by
  have hrun := run_lit1E (ρ := a.eval) ho hs w
  refine wpList_wanted (by unfold Region.wanted; rw [hg]) ?_
  intro K hK
  unfold Oper.wp
  simp only [hrun]
  exact hK _ _ h
def crestE : El := ⟨0, ⟨#[99]⟩, -1, 0, 0, 0, 0, 0⟩
def nmD (c : UInt8) (i : Nat) : ByteArray := bs [c] ++ bs (Lib.decDigits i)
def lnX (n i : Nat) : El := ⟨if i = n then 4 else 1, nmD 115 i, i, 0, 1000000, -10000, 5000, 0⟩
def lnP (n k : Nat) : List El := crestE :: (List.range k).map (lnX n)
theorem lnP_snoc (n k : Nat) : lnP n (k + 1) = lnP n k ++ [lnX n k] := by unfold lnP; rw [List.range_succ, List.map_append]; rfl
theorem lnP_len (n k : Nat) : (lnP n k).length = k + 1 := by unfold lnP; simp
theorem dec_len {i : Nat} (h : i ≤ 1000) : (Lib.decDigits i).length ≤ 20 := by rw [Lib.decDigits_length]; exact Lib.nDigits_le20 i (by omega)
set_option maxRecDepth 100000 in
set_option maxHeartbeats 3200000 in
theorem line_any (n : Nat) (w : World) (hn : n ≤ 200) :
    Calls Tryz.prog 10 #[.int .i64 (n : Int)] w fun e w' => ∃ v, e = .returned v ∧ ROwn ER 48 w' w.heap.size v (lnP n (n + 1)) ∧ Below w.heap.size w w' := by
  have S0 := Lib.hid (ROwn.laid ER (T := 48) w w.heap.size (Nat.le_refl _) [crestE] 1 rfl (by decide))
  have B0 := Lib.hid ((Below.refl _ w).alloc (Nat.le_refl _) (.cells (ER.flat [crestE]).toArray 48))
  go_enter Tryz.func10, Tryz.ntmps10
  go_wp2_with fail
  go_loopw [3, 4] (fun v i wr => ∃ k : Nat, k ≤ n + 1 ∧ i = .int .i64 (k : Int) ∧ Hid (ROwn ER 48 wr w.heap.size v (lnP n k)) ∧ Hid (Below w.heap.size w wr)) (fun _ i _ => n + 1 - (intOf i).toNat)
  case atStart => exact ⟨0, by omega, rfl, S0, B0⟩
  case round =>
    clear S0 B0
    obtain ⟨k, hk, rfl, S, B⟩ := hrel
    by_cases hlt : k < n + 1
    · have hkn : (k : Int) ≤ (n : Int) := by omega
      have HI := Lib.hid (decimal_any (k : Int) wr (by omega))
      have HE := Lib.hid (show bs [115] ++ itoB (k : Int) = nmD 115 k by unfold nmD itoB; rw [Lib.itoa_nonneg])
      have HL := Lib.hid (show (itoB (k : Int)).size ≤ 20 by unfold itoB; rw [Lib.itoa_nonneg]; exact dec_len (by omega))
      generalize itoB (k : Int) = iz at HI HE HL
      have hcc : ¬ 9223372036854775807 < (⟨#[115]⟩ : ByteArray).size + iz.size := by
        show ¬ 9223372036854775807 < 1 + iz.size
        have := HL.out
        omega
      obtain ⟨A0, c0, rfl, hA0⟩ := S.out.full
      go_wp2_with fail
      refine HI.out.mono ?_
      rintro e w1 ⟨rfl, B1⟩
      have S1 := Lib.hid (S.out.below B1)
      have HB1 := Lib.hid (B.out.trans (B1.mono B.out.size))
      clear B1 HI hA0
      have hnm : (⟨#[115]⟩ : ByteArray) ++ iz = nmD 115 k := HE.out
      obtain ⟨nm, e0⟩ : ∃ nm, nm = nmD 115 k := ⟨_, rfl⟩
      rw [← e0] at hnm
      have hnm' := Lib.hid e0.symm
      clear e0
      clear HE
      by_cases hin : k = n
      · have hb : ((k : Int) == (n : Int)) = true := beq_iff_eq.2 (by omega)
        have HX := Lib.hid (show lnX n k = ⟨4, nm, (k : Int), 0, 1000000, -10000, 5000, 0⟩ by unfold lnX; rw [if_pos hin, hnm'.out])
        have X1 := Lib.hid (EBlk.of (newE w1 ⟨4, nm, (k : Int), 0, 1000000, -10000, 5000, 0⟩ 48 w1.heap.size rfl))
        have S2 := Lib.hid (S1.out.alloc (.cells #[.int .i64 4, .string nm, .int .i64 (k : Int), .int .i64 0, .int .i64 1000000, .int .i64 (-10000), .int .i64 5000, .int .i64 0] 48))
        have B2 := Lib.hid (HB1.out.alloc HB1.out.size (.cells #[.int .i64 4, .string nm, .int .i64 (k : Int), .int .i64 0, .int .i64 1000000, .int .i64 (-10000), .int .i64 5000, .int .i64 0] 48))
        clear hnm' hin
        go_upto_region 8 with fail
        generalize w1.alloc (.cells #[.int .i64 4, .string nm, .int .i64 (k : Int), .int .i64 0, .int .i64 1000000, .int .i64 (-10000), .int .i64 5000, .int .i64 0] 48) = w2 at X1 S2 B2 ⊢
        obtain ⟨c0, c1, c2, c3, c4, c5, c6, c7, lt⟩ := X1.out
        simp only at c0 c1 c2 c3 c4 c5 c6 c7
        obtain ⟨i0, hi, hz0, hz1, hz2⟩ := info_parts infoEl
        go_wp2_with (first | (refine wpList_lit1E _ rfl (.tmp 23) rfl ⟨4, nm, (k : Int), 0, 1000000, -10000, 5000, 0⟩ rfl ?_) | (at_builtin; go_loud (refine wpList_app_src rfl (.tmp 22) (.tmp 24) 22 rfl w.heap.size 48 i0 (aggE zeroE) 8 72 Tryz.underlying22 hi hz0 hz1 hz2 rfl (by decide) _ (lnP n k).length (ER.flat (lnP n k)) rfl (S2.out.alloc _) (some ⟨w2.heap.size, 0, none⟩) 1 1 (ER.flat [⟨4, nm, (k : Int), 0, 1000000, -10000, 5000, 0⟩]) rfl (fun e => by cases e) rfl (newsF w2 ⟨4, nm, (k : Int), 0, 1000000, -10000, 5000, 0⟩ _) (flatR_one ER [⟨4, nm, (k : Int), 0, 1000000, -10000, 5000, 0⟩]) (by rw [lnP_len]; unfold maxLen; omega) (by rw [lnP_len]; omega) (by have := B2.out.size; simp; omega) ?_; intro v8 w8 hown hg8; have o8 := ROwn.app (R := ER) (l := lnP n k) (m := [⟨4, nm, (k : Int), 0, 1000000, -10000, 5000, 0⟩]) hown rfl rfl; rw [← HX.out, ← lnP_snoc] at o8; have O8 := Lib.hid o8; have B8 := Lib.hid ((B2.out.alloc B2.out.size (.cells #[.int .i64 4, .string nm, .int .i64 (k : Int), .int .i64 0, .int .i64 1000000, .int .i64 (-10000), .int .i64 5000, .int .i64 0] 48)).grown hg8 (by have := B2.out.size; simp; omega) (fun j hj => (S2.out.block hj).1)); clear hown hg8 o8)))
        clear c0 c1 c2 c3 c4 c5 c6 c7
        go_wp2_with fail
        go_roundw
        case rel => exact ⟨k + 1, by omega, by go_num, O8, B8⟩
        case measure => simp [intOf]; omega
      · have hb : ((k : Int) == (n : Int)) = false := beq_eq_false_iff_ne.2 (by omega)
        have HX := Lib.hid (show lnX n k = ⟨1, nm, (k : Int), 0, 1000000, -10000, 5000, 0⟩ by unfold lnX; rw [if_neg hin, hnm'.out])
        have X1 := Lib.hid (EBlk.of (newE w1 ⟨1, nm, (k : Int), 0, 1000000, -10000, 5000, 0⟩ 48 w1.heap.size rfl))
        have S2 := Lib.hid (S1.out.alloc (.cells #[.int .i64 1, .string nm, .int .i64 (k : Int), .int .i64 0, .int .i64 1000000, .int .i64 (-10000), .int .i64 5000, .int .i64 0] 48))
        have B2 := Lib.hid (HB1.out.alloc HB1.out.size (.cells #[.int .i64 1, .string nm, .int .i64 (k : Int), .int .i64 0, .int .i64 1000000, .int .i64 (-10000), .int .i64 5000, .int .i64 0] 48))
        clear hnm' hin
        go_upto_region 8 with fail
        generalize w1.alloc (.cells #[.int .i64 1, .string nm, .int .i64 (k : Int), .int .i64 0, .int .i64 1000000, .int .i64 (-10000), .int .i64 5000, .int .i64 0] 48) = w2 at X1 S2 B2 ⊢
        obtain ⟨c0, c1, c2, c3, c4, c5, c6, c7, lt⟩ := X1.out
        simp only at c0 c1 c2 c3 c4 c5 c6 c7
        obtain ⟨i0, hi, hz0, hz1, hz2⟩ := info_parts infoEl
        go_wp2_with (first | (refine wpList_lit1E _ rfl (.tmp 23) rfl ⟨1, nm, (k : Int), 0, 1000000, -10000, 5000, 0⟩ rfl ?_) | (at_builtin; go_loud (refine wpList_app_src rfl (.tmp 22) (.tmp 24) 22 rfl w.heap.size 48 i0 (aggE zeroE) 8 72 Tryz.underlying22 hi hz0 hz1 hz2 rfl (by decide) _ (lnP n k).length (ER.flat (lnP n k)) rfl (S2.out.alloc _) (some ⟨w2.heap.size, 0, none⟩) 1 1 (ER.flat [⟨1, nm, (k : Int), 0, 1000000, -10000, 5000, 0⟩]) rfl (fun e => by cases e) rfl (newsF w2 ⟨1, nm, (k : Int), 0, 1000000, -10000, 5000, 0⟩ _) (flatR_one ER [⟨1, nm, (k : Int), 0, 1000000, -10000, 5000, 0⟩]) (by rw [lnP_len]; unfold maxLen; omega) (by rw [lnP_len]; omega) (by have := B2.out.size; simp; omega) ?_; intro v8 w8 hown hg8; have o8 := ROwn.app (R := ER) (l := lnP n k) (m := [⟨1, nm, (k : Int), 0, 1000000, -10000, 5000, 0⟩]) hown rfl rfl; rw [← HX.out, ← lnP_snoc] at o8; have O8 := Lib.hid o8; have B8 := Lib.hid ((B2.out.alloc B2.out.size (.cells #[.int .i64 1, .string nm, .int .i64 (k : Int), .int .i64 0, .int .i64 1000000, .int .i64 (-10000), .int .i64 5000, .int .i64 0] 48)).grown hg8 (by have := B2.out.size; simp; omega) (fun j hj => (S2.out.block hj).1)); clear hown hg8 o8)))
        clear c0 c1 c2 c3 c4 c5 c6 c7
        go_wp2_with fail
        go_roundw
        case rel => exact ⟨k + 1, by omega, by go_num, O8, B8⟩
        case measure => simp [intOf]; omega
    · obtain rfl : k = n + 1 := by omega
      have hkn : ¬ ((n : Int) + 1 ≤ (n : Int)) := by omega
      go_wp2_with fail
      go_ret
      exact ⟨_, rfl, S.out, B.out⟩
def atF (k : Nat) : Int := if k = 0 then 0 else 2 * (k : Int) - 1
def sdF (k : Nat) : Int := if k = 0 then 0 else 1
def fwX (k : Nat) : El := ⟨3, nmD 119 k, atF k, sdF k, 1, 0, 0, 0⟩
def ftX (k : Nat) : El := ⟨4, nmD 116 k, 2 * (k : Int) + 1, 2, 1, 0, 0, 0⟩
def fnP (k : Nat) : List El := crestE :: (List.range k).flatMap fun i => [fwX i, ftX i]
def fnH (k : Nat) : List El := fnP k ++ [fwX k]
def lastX (k : Nat) : El := ⟨4, ⟨#[108, 97, 115, 116]⟩, atF k, sdF k, 1, 0, 0, 0⟩
def fnL (n : Nat) : List El := fnP n ++ [lastX n]
theorem fnP_snoc (k : Nat) : fnP (k + 1) = fnH k ++ [ftX k] := by
  unfold fnH fnP
  rw [List.range_succ, List.flatMap_append]
  simp
theorem fnP_len (k : Nat) : (fnP k).length = 2 * k + 1 := by
  induction k with
  | zero => rfl
  | succ k ih => rw [fnP_snoc]; unfold fnH; rw [List.length_append, List.length_append, ih]; simp; omega
theorem fnH_len (k : Nat) : (fnH k).length = 2 * k + 2 := by unfold fnH; rw [List.length_append, fnP_len]; rfl
set_option maxRecDepth 100000 in
set_option maxHeartbeats 3200000 in
theorem fan_any (n : Nat) (w : World) (hn : n ≤ 200) :
    Calls Tryz.prog 11 #[.int .i64 (n : Int)] w fun e w' => ∃ v, e = .returned v ∧ ROwn ER 48 w' w.heap.size v (fnL n) ∧ Below w.heap.size w w' := by
  have S0 := Lib.hid (ROwn.laid ER (T := 48) w w.heap.size (Nat.le_refl _) [crestE] 1 rfl (by decide))
  have B0 := Lib.hid ((Below.refl _ w).alloc (Nat.le_refl _) (.cells (ER.flat [crestE]).toArray 48))
  go_enter Tryz.func11, Tryz.ntmps11
  go_wp2_with fail
  go_loopw [3, 4, 5, 6] (fun v av sv i wr => ∃ (k : Nat) (a sd : Int), k ≤ n ∧ i = .int .i64 (k : Int) ∧ av = .int .i64 a ∧ sv = .int .i64 sd ∧ Hid (a = atF k) ∧ Hid (sd = sdF k) ∧ Hid (ROwn ER 48 wr w.heap.size v (fnP k)) ∧ Hid (Below w.heap.size w wr)) (fun _ _ _ i _ => n - (intOf i).toNat)
  case atStart => exact ⟨0, 0, 0, by omega, rfl, rfl, rfl, Lib.hid rfl, Lib.hid rfl, S0, B0⟩
  case round =>
    clear S0 B0
    obtain ⟨k, a, sd, hk, rfl, rfl, rfl, HA, HS, S, B⟩ := hrel
    obtain ⟨i0, hi, hz0, hz1, hz2⟩ := info_parts infoEl
    obtain ⟨A0, c0, rfl, _⟩ := S.out.full
    by_cases hlt : k < n
    · have hkn : (k : Int) < (n : Int) := by omega
      have HI := Lib.hid (fun W => decimal_any (k : Int) W (by omega))
      have HE := Lib.hid (show bs [119] ++ itoB (k : Int) = nmD 119 k by unfold nmD itoB; rw [Lib.itoa_nonneg])
      have HE2 := Lib.hid (show bs [116] ++ itoB (k : Int) = nmD 116 k by unfold nmD itoB; rw [Lib.itoa_nonneg])
      have HL := Lib.hid (show (itoB (k : Int)).size ≤ 20 by unfold itoB; rw [Lib.itoa_nonneg]; exact dec_len (by omega))
      generalize itoB (k : Int) = iz at HI HE HE2 HL
      have hcc : ¬ 9223372036854775807 < (⟨#[119]⟩ : ByteArray).size + iz.size := by
        show ¬ 9223372036854775807 < 1 + iz.size
        have := HL.out
        omega
      have hcc2 : ¬ 9223372036854775807 < (⟨#[116]⟩ : ByteArray).size + iz.size := hcc
      obtain ⟨nm, e0⟩ : ∃ nm, nm = nmD 119 k := ⟨_, rfl⟩
      obtain ⟨nm2, e2⟩ : ∃ nm, nm = nmD 116 k := ⟨_, rfl⟩
      have hnm : (⟨#[119]⟩ : ByteArray) ++ iz = nm := HE.out.trans e0.symm
      have hnm2 : (⟨#[116]⟩ : ByteArray) ++ iz = nm2 := HE2.out.trans e2.symm
      have HX := Lib.hid (show fwX k = ⟨3, nm, a, sd, 1, 0, 0, 0⟩ by unfold fwX; rw [e0, HA.out, HS.out])
      have HE2' := Lib.hid e2
      clear e0 e2 HE HE2
      go_wp2_with fail
      refine (HI.out _).mono ?_
      rintro e w1 ⟨rfl, B1⟩
      have S1 := Lib.hid (S.out.below B1)
      have HB1 := Lib.hid (B.out.trans (B1.mono B.out.size))
      clear B1
      go_wp2_with (first | (refine wpList_lit1E _ rfl (.tmp 20) rfl ⟨3, nm, a, sd, 1, 0, 0, 0⟩ rfl ?_) | (at_builtin; refine wpList_app_src rfl (.tmp 14) (.tmp 21) 22 rfl w.heap.size 48 i0 (aggE zeroE) 8 72 Tryz.underlying22 hi hz0 hz1 hz2 rfl (by decide) _ (fnP k).length (ER.flat (fnP k)) rfl (S1.out.alloc _) (some ⟨w1.heap.size, 0, none⟩) 1 1 (ER.flat [⟨3, nm, a, sd, 1, 0, 0, 0⟩]) rfl (fun e => by cases e) rfl (newsF w1 ⟨3, nm, a, sd, 1, 0, 0, 0⟩ _) (flatR_one ER [⟨3, nm, a, sd, 1, 0, 0, 0⟩]) (by rw [fnP_len]; unfold maxLen; omega) (by rw [fnP_len]; omega) (by have := HB1.out.size; simp; omega) ?_; intro v8 w8 hown hg8; have o8 := ROwn.app (R := ER) (l := fnP k) (m := [⟨3, nm, a, sd, 1, 0, 0, 0⟩]) hown rfl rfl; have e9 : fnP k ++ [(⟨3, nm, a, sd, 1, 0, 0, 0⟩ : El)] = fnH k := (by unfold fnH; rw [HX.out]); rw [e9] at o8; have hl8 := fnH_len k; obtain ⟨A8, c8, hv8, _, _, _, _, _⟩ := o8.full; rw [hl8] at hv8; subst hv8; have O8 := Lib.hid o8; clear o8 e9; have B8 := Lib.hid ((HB1.out.alloc HB1.out.size (.cells #[.int .i64 3, .string nm, .int .i64 a, .int .i64 sd, .int .i64 1, .int .i64 0, .int .i64 0, .int .i64 0] 48)).grown hg8 (by have := HB1.out.size; simp; omega) (fun j hj => (S1.out.block hj).1)); clear hown hg8; clear hl8))
      have HX2 := Lib.hid (show ftX k = ⟨4, nm2, 2 * (k : Int) + 2 - 1, 2, 1, 0, 0, 0⟩ by
        unfold ftX
        rw [HE2'.out]
        congr 1
        omega)
      refine (HI.out _).mono ?_
      rintro e w2 ⟨rfl, B2⟩
      have S2 := Lib.hid (O8.out.below B2)
      have HB2 := Lib.hid (B8.out.trans (B2.mono B8.out.size))
      have hl8 : (fnH k).length = 2 * k + 2 := fnH_len k
      clear B2 O8 B8 HI S1 HB1 S B hnm
      go_wp2_with (first | (refine wpList_lit1E _ rfl (.tmp 31) rfl ⟨4, nm2, 2 * (k : Int) + 2 - 1, 2, 1, 0, 0, 0⟩ rfl ?_) | (at_builtin; refine wpList_app_src rfl (.tmp 26) (.tmp 32) 22 rfl w.heap.size 48 i0 (aggE zeroE) 8 72 Tryz.underlying22 hi hz0 hz1 hz2 rfl (by decide) _ (fnH k).length (ER.flat (fnH k)) rfl (S2.out.alloc _) (some ⟨w2.heap.size, 0, none⟩) 1 1 (ER.flat [⟨4, nm2, 2 * (k : Int) + 2 - 1, 2, 1, 0, 0, 0⟩]) rfl (fun e => by cases e) rfl (newsF w2 ⟨4, nm2, 2 * (k : Int) + 2 - 1, 2, 1, 0, 0, 0⟩ _) (flatR_one ER [⟨4, nm2, 2 * (k : Int) + 2 - 1, 2, 1, 0, 0, 0⟩]) (by rw [fnH_len]; unfold maxLen; omega) (by rw [fnH_len]; omega) (by have := HB2.out.size; simp; omega) ?_; intro v8 w9 hown hg8; have o8 := ROwn.app (R := ER) (l := fnH k) (m := [⟨4, nm2, 2 * (k : Int) + 2 - 1, 2, 1, 0, 0, 0⟩]) hown rfl rfl; have e9 : fnH k ++ [(⟨4, nm2, 2 * (k : Int) + 2 - 1, 2, 1, 0, 0, 0⟩ : El)] = fnP (k + 1) := (by rw [fnP_snoc, HX2.out]); rw [e9] at o8; have O9 := Lib.hid o8; have B9 := Lib.hid ((HB2.out.alloc HB2.out.size (.cells #[.int .i64 (4), .string nm2, .int .i64 (2 * (k : Int) + 2 - 1), .int .i64 (2), .int .i64 1, .int .i64 0, .int .i64 0, .int .i64 0] 48)).grown hg8 (by have := HB2.out.size; simp; omega) (fun j hj => (S2.out.block hj).1)); clear hown hg8 o8; clear e9))
      go_roundw
      case rel =>
        exact ⟨k + 1, 2 * (k : Int) + 2 - 1, 1, by omega, by go_num, rfl, rfl, Lib.hid (by unfold atF; rw [if_neg (by omega)]; omega), Lib.hid (by unfold sdF; rw [if_neg (by omega)]), O9, B9⟩
      case measure => simp [intOf]; omega
    · obtain rfl : k = n := by omega
      clear hlt
      go_wp2_with (first | (refine wpList_lit1E _ rfl (.tmp 37) rfl ⟨4, ⟨#[108, 97, 115, 116]⟩, a, sd, 1, 0, 0, 0⟩ rfl ?_) | (at_builtin; refine wpList_app_src rfl (.tmp 34) (.tmp 38) 22 rfl w.heap.size 48 i0 (aggE zeroE) 8 72 Tryz.underlying22 hi hz0 hz1 hz2 rfl (by decide) _ (fnP k).length (ER.flat (fnP k)) rfl (S.out.alloc _) (some ⟨wr.heap.size, 0, none⟩) 1 1 (ER.flat [⟨4, ⟨#[108, 97, 115, 116]⟩, a, sd, 1, 0, 0, 0⟩]) rfl (fun e => by cases e) rfl (newsF wr ⟨4, ⟨#[108, 97, 115, 116]⟩, a, sd, 1, 0, 0, 0⟩ _) (flatR_one ER [⟨4, ⟨#[108, 97, 115, 116]⟩, a, sd, 1, 0, 0, 0⟩]) (by rw [fnP_len]; unfold maxLen; omega) (by rw [fnP_len]; omega) (by have := B.out.size; simp; omega) ?_; intro v8 w8 hown hg8; have o8 := ROwn.app (R := ER) (l := fnP k) (m := [⟨4, ⟨#[108, 97, 115, 116]⟩, a, sd, 1, 0, 0, 0⟩]) hown rfl rfl; have e9 : fnP k ++ [(⟨4, ⟨#[108, 97, 115, 116]⟩, a, sd, 1, 0, 0, 0⟩ : El)] = fnL k := (by unfold fnL lastX; rw [HA.out, HS.out]); rw [e9] at o8; have O8 := Lib.hid o8; have B8 := Lib.hid ((B.out.alloc B.out.size (.cells #[.int .i64 4, .string ⟨#[108, 97, 115, 116]⟩, .int .i64 a, .int .i64 sd, .int .i64 1, .int .i64 0, .int .i64 0, .int .i64 0] 48)).grown hg8 (by have := B.out.size; simp; omega) (fun j hj => (S.out.block hj).1)); clear hown hg8 o8; clear e9))
      go_ret
      exact ⟨_, rfl, O8.out, B8.out⟩
end Go.Proofs.YtoikjkgepfemjaaGreatDoor
