/-
  Stage 16: the examples of the chapter; the search for too few tracks; the search through all assignments.
-/
import Derived.Test.YtknkgcphamhjlaaAHal
import Derived.Test.YtknkgcphamhjlaaSame
set_option linter.unusedSimpArgs false
set_option linter.unusedVariables false
namespace Go.Proofs.Ytknkgcphamhjlaa
open Go.RowKit Go.Lib

theorem lit_row (w : World) (zs : List Int) (hm : zs.length ≤ 1000) : Row .i64 (w.alloc (.cells (zs.map (Value.int .i64)).toArray 3)) (w.alloc (.cells (zs.map (Value.int .i64)).toArray 3)).heap.size (some ⟨w.heap.size, 0, none⟩) zs := fun j hj =>
  ⟨_, rfl, by simp, by rw [add_own, cell_new]; simp [hj]⟩
theorem match_n (a b : List Int) (n m : Nat) (hn : n = a.length) (hm : m = b.length) (A Bb : Option Addr) (ca cb : Nat) (w : World) (ha : Row .i64 w w.heap.size A a) (hla : n ≤ maxLen) (hb : Row .i64 w w.heap.size Bb b) (hlb : m ≤ maxLen) :
    Calls Try.prog 8 #[.slice A n ca, .slice Bb m cb] w (MatPost a b w) := by
  subst hn; subst hm
  exact match_any a b A Bb ca cb w ha hla hb hlb
set_option maxRecDepth 100000 in
set_option maxHeartbeats 6400000 in
theorem sane_any (w : World) : Calls Try.prog 9 #[] w fun e w' => e = .returned (.bool true) ∧ Below w.heap.size w w' := by
  have hm3 : (3 : Nat) ≤ maxLen := by decide
  have hm2 : (2 : Nat) ≤ maxLen := by decide
  -- the first Match
  have R1 := lit_row w [5, 9, 0] (by decide)
  have R2 := lit_row (w.alloc (.cells (([5, 9, 0] : List Int).map (Value.int .i64)).toArray 3)) [10, 6, 9] (by decide)
  have R1' := R1.below (box1W _ (.cells (([10, 6, 9] : List Int).map (Value.int .i64)).toArray 3))
  have C1 := Lib.hid (match_n [5, 9, 0] [10, 6, 9] 3 3 rfl rfl _ _ 3 3 _ R1' hm3 R2 hm3)
  have B0 := Lib.hid ((box1W w (.cells (([5, 9, 0] : List Int).map (Value.int .i64)).toArray 3)).alloc (by simp) (.cells (([10, 6, 9] : List Int).map (Value.int .i64)).toArray 3))
  have e1 : (w.alloc (.cells (([5, 9, 0] : List Int).map (Value.int .i64)).toArray 3)).heap.size = w.heap.size + 1 := by simp
  rw [e1] at C1
  clear R1 R2 R1' e1
  go_enter Try.func9, Try.ntmps9
  go_wp2_with fail
  refine C1.out.mono ?_
  rintro e w1 ⟨os, v1, v2, l, r, er, rfl, O, MO, o1, o2, b1⟩
  obtain ⟨rfl, rfl, rfl⟩ := ex1 O MO
  obtain ⟨A1, c1, rfl, r1, -⟩ := o1.slice
  obtain ⟨A2, c2, rfl, -⟩ := o2.slice
  have HB1 := Lib.hid (B0.out.trans (b1.mono B0.out.size))
  have HR1 := Lib.hid r1
  clear C1 B0 O MO o1 o2 b1 r1
  -- the second Match
  have R1 := lit_row w1 [7, 8] (by decide)
  have R2 := lit_row (w1.alloc (.cells (([7, 8] : List Int).map (Value.int .i64)).toArray 3)) [9, 6] (by decide)
  have R1' := R1.below (box1W _ (.cells (([9, 6] : List Int).map (Value.int .i64)).toArray 3))
  have C1 := Lib.hid (match_n [7, 8] [9, 6] 2 2 rfl rfl _ _ 2 2 _ R1' hm2 R2 hm2)
  have B0 := Lib.hid ((box1W w1 (.cells (([7, 8] : List Int).map (Value.int .i64)).toArray 3)).alloc (by simp) (.cells (([9, 6] : List Int).map (Value.int .i64)).toArray 3))
  have e1 : (w1.alloc (.cells (([7, 8] : List Int).map (Value.int .i64)).toArray 3)).heap.size = w1.heap.size + 1 := by simp
  rw [e1] at C1
  clear R1 R2 R1' e1
  go_wp2_with fail
  refine C1.out.mono ?_
  rintro e w2 ⟨os, v1, v2, l, r, er, rfl, O, MO, o1, o2, b1⟩
  obtain ⟨rfl, rfl, rfl⟩ := ex2 O MO
  obtain ⟨A3, c3, rfl, -⟩ := o1.slice
  obtain ⟨A4, c4, rfl, r4, -⟩ := o2.slice
  have b2 := B0.out.trans (b1.mono B0.out.size)
  have HB2 := Lib.hid (HB1.out.trans (b2.mono HB1.out.size))
  have HR1 := Lib.hid (HR1.out.below b2)
  have HR4 := Lib.hid r4
  clear C1 B0 O MO o1 o2 b1 r4 b2 HB1
  -- the first comparison
  have R1 := lit_row w2 [1, 2, -1] (by decide)
  have bb := box1W w2 (.cells (([1, 2, -1] : List Int).map (Value.int .i64)).toArray 3)
  have C1 := Lib.hid (ints_same [1, 2, -1] A1 (some ⟨w2.heap.size, 0, none⟩) c1 3 _ (HR1.out.below bb) R1 hm3)
  have BB := Lib.hid bb
  clear R1 bb
  go_wp2_with fail
  refine C1.out.mono ?_
  rintro e w3 ⟨rfl, q, hw⟩
  have b3 : Below w2.heap.size w2 w3 := by rw [hw]; exact bdn BB.out
  have HB3 := Lib.hid (HB2.out.trans (b3.mono HB2.out.size))
  have HR4 := Lib.hid (HR4.out.below b3)
  clear C1 BB hw b3 HB2 HR1
  -- the second
  have R1 := lit_row w3 [0, 1] (by decide)
  have bb := box1W w3 (.cells (([0, 1] : List Int).map (Value.int .i64)).toArray 3)
  have C1 := Lib.hid (ints_same [0, 1] A4 (some ⟨w3.heap.size, 0, none⟩) c4 2 _ (HR4.out.below bb) R1 hm2)
  have BB := Lib.hid bb
  clear R1 bb
  go_wp2_with fail
  refine C1.out.mono ?_
  rintro e w4 ⟨rfl, q2, hw⟩
  have b4 : Below w3.heap.size w3 w4 := by rw [hw]; exact bdn BB.out
  have HB4 := Lib.hid (HB3.out.trans (b4.mono HB3.out.size))
  clear C1 BB hw b4 HB3 HR4
  -- Refuses
  have R1 := lit_row w4 [7, 8] (by decide)
  have R2 := lit_row (w4.alloc (.cells (([7, 8] : List Int).map (Value.int .i64)).toArray 3)) [9, 6] (by decide)
  have R3 := lit_row ((w4.alloc (.cells (([7, 8] : List Int).map (Value.int .i64)).toArray 3)).alloc (.cells (([9, 6] : List Int).map (Value.int .i64)).toArray 3)) [0, 1] (by decide)
  have R1' := (R1.below (box1W _ (.cells (([9, 6] : List Int).map (Value.int .i64)).toArray 3))).below (box1W _ (.cells (([0, 1] : List Int).map (Value.int .i64)).toArray 3))
  have R2' := R2.below (box1W _ (.cells (([0, 1] : List Int).map (Value.int .i64)).toArray 3))
  have C1 := Lib.hid (refuses_any [7, 8] [9, 6] [0, 1] _ _ _ 2 2 2 _ R1' hm2 R2' hm2 R3 hm2)
  have B0 := Lib.hid (((box1W w4 (.cells (([7, 8] : List Int).map (Value.int .i64)).toArray 3)).alloc (by simp) (.cells (([9, 6] : List Int).map (Value.int .i64)).toArray 3)).alloc (by simp; omega) (.cells (([0, 1] : List Int).map (Value.int .i64)).toArray 3))
  have e1 : (w4.alloc (.cells (([7, 8] : List Int).map (Value.int .i64)).toArray 3)).heap.size = w4.heap.size + 1 := by simp
  have e2 : ((w4.alloc (.cells (([7, 8] : List Int).map (Value.int .i64)).toArray 3)).alloc (.cells (([9, 6] : List Int).map (Value.int .i64)).toArray 3)).heap.size = w4.heap.size + 1 + 1 := by simp
  rw [e1, e2, ex3] at C1
  clear R1 R2 R3 R1' R2' e1 e2
  go_wp2_with fail
  refine C1.out.mono ?_
  rintro e w5 ⟨rfl, b5⟩
  have HB5 := Lib.hid (HB4.out.trans ((B0.out.trans (b5.mono B0.out.size)).mono HB4.out.size))
  clear C1 B0 b5 HB4
  -- Fits
  have R1 := lit_row w5 [5, 9, 0] (by decide)
  have R2 := lit_row (w5.alloc (.cells (([5, 9, 0] : List Int).map (Value.int .i64)).toArray 3)) [10, 6, 9] (by decide)
  have R3 := lit_row ((w5.alloc (.cells (([5, 9, 0] : List Int).map (Value.int .i64)).toArray 3)).alloc (.cells (([10, 6, 9] : List Int).map (Value.int .i64)).toArray 3)) [0, 2, -1] (by decide)
  have R1' := (R1.below (box1W _ (.cells (([10, 6, 9] : List Int).map (Value.int .i64)).toArray 3))).below (box1W _ (.cells (([0, 2, -1] : List Int).map (Value.int .i64)).toArray 3))
  have R2' := R2.below (box1W _ (.cells (([0, 2, -1] : List Int).map (Value.int .i64)).toArray 3))
  have C1 := Lib.hid (fits_any [5, 9, 0] [10, 6, 9] [0, 2, -1] _ _ _ 3 3 3 _ R1' hm3 R2' hm3 R3 hm3)
  have B0 := Lib.hid (((box1W w5 (.cells (([5, 9, 0] : List Int).map (Value.int .i64)).toArray 3)).alloc (by simp) (.cells (([10, 6, 9] : List Int).map (Value.int .i64)).toArray 3)).alloc (by simp; omega) (.cells (([0, 2, -1] : List Int).map (Value.int .i64)).toArray 3))
  have e1 : (w5.alloc (.cells (([5, 9, 0] : List Int).map (Value.int .i64)).toArray 3)).heap.size = w5.heap.size + 1 := by simp
  have e2 : ((w5.alloc (.cells (([5, 9, 0] : List Int).map (Value.int .i64)).toArray 3)).alloc (.cells (([10, 6, 9] : List Int).map (Value.int .i64)).toArray 3)).heap.size = w5.heap.size + 1 + 1 := by simp
  rw [e1, e2, ex4] at C1
  clear R1 R2 R3 R1' R2' e1 e2
  go_wp2_with fail
  refine C1.out.mono ?_
  rintro e w6 ⟨rfl, b6⟩
  have HB6 := Lib.hid (HB5.out.trans ((B0.out.trans (b6.mono B0.out.size)).mono HB5.out.size))
  clear C1 B0 b6 HB5
  go_wp2_with fail
  go_ret
  exact ⟨rfl, HB6.out⟩
set_option maxHeartbeats 3200000 in
theorem refused_any (a b : List Int) (A Bb : Option Addr) (ca cb : Nat) (w : World) (ha : Row .i64 w w.heap.size A a) (hla : a.length ≤ maxLen) (hb : Row .i64 w w.heap.size Bb b) (hlb : b.length ≤ maxLen) :
    Calls Try.prog 19 #[.slice A a.length ca, .slice Bb b.length cb] w fun e w' => e = .returned (.bool (refdK a b a.length)) ∧ w = w' := by
  have HA := Lib.hid ha
  have HB := Lib.hid hb
  unfold maxLen at hla hlb
  obtain ⟨L, hL⟩ : ∃ n, n = a.length := ⟨_, rfl⟩
  obtain ⟨M, hM⟩ : ∃ n, n = b.length := ⟨_, rfl⟩
  have HL := Lib.hid hL
  have HM := Lib.hid hM
  rw [← hL] at hla ⊢
  rw [← hM] at hlb ⊢
  clear ha hb hL hM
  go_enter Try.func19, Try.ntmps19
  go_wp2_with fail
  go_loop [15] (fun i => ∃ k : Nat, k ≤ L ∧ i = .int .i64 k ∧ Hid (refdK a b k = false)) (fun i => L - (intOf i).toNat)
  case atStart => exact ⟨0, by omega, rfl, Lib.hid rfl⟩
  case round =>
    obtain ⟨k, hk, rfl, G⟩ := hrel
    by_cases hlt : k < L
    · obtain ⟨aa, rfl, -, c1⟩ := HA.out k (by rw [← HL.out]; exact hlt)
      obtain ⟨x, hx⟩ : ∃ z, z = ld a k := ⟨_, rfl⟩
      change w.cell? _ = some (Value.int .i64 (ld a k)) at c1
      rw [← hx] at c1
      have HX := Lib.hid hx
      have HS := Lib.hid (show refdK a b (k + 1) = decide (0 < x ∧ cF b x < cF a x) by rw [refdK_succ, G.out, Bool.false_or, hx])
      have HK1 := Lib.hid (show k + 1 ≤ a.length by rw [← HL.out]; exact hlt)
      clear hx
      go_wp2_with fail
      clear c1
      go_loop [7, 21] (fun cv i => ∃ (j C : Nat), j ≤ L ∧ C ≤ j ∧ i = .int .i64 j ∧ cv = .int .i64 (C : Int) ∧ Hid (cK a x j = C)) (fun _ i => L - (intOf i).toNat)
      case atStart => exact ⟨0, 0, by omega, Nat.le_refl _, rfl, rfl, Lib.hid rfl⟩
      case round =>
        obtain ⟨j, C, hj, hC, rfl, rfl, GJ⟩ := hrel
        by_cases hlj : j < L
        · obtain ⟨ad2, e2, -, c2⟩ := HA.out j (by rw [← HL.out]; exact hlj)
          injection e2 with e2
          subst e2
          have hs := cK_succ a x j
          obtain ⟨z, hz⟩ : ∃ z, z = ld a j := ⟨_, rfl⟩
          change w.cell? _ = some (Value.int .i64 (ld a j)) at c2
          rw [← hz] at c2 hs
          have HSJ := Lib.hid hs
          clear hz hs
          by_cases t1 : x ≤ z
          · have HF := Lib.hid (show cK a x (j + 1) = C + 1 by rw [HSJ.out, if_pos t1, GJ.out])
            go_wp2_with fail
            go_round
            case rel => exact ⟨j + 1, C + 1, by omega, by omega, by go_num, by go_num, HF⟩
            case measure => simp [intOf] <;> omega
          · have HF := Lib.hid (show cK a x (j + 1) = C by rw [HSJ.out, if_neg t1, GJ.out]; rfl)
            go_wp2_with fail
            go_round
            case rel => exact ⟨j + 1, C, by omega, by omega, by go_num, rfl, HF⟩
            case measure => simp [intOf] <;> omega
        · have HC1 := Lib.hid (show cF a x = C by have := GJ.out; rw [show j = a.length by rw [← HL.out]; omega] at this; exact this)
          have hCL : C ≤ L := by omega
          clear GJ
          go_wp2_with fail
          go_loop [8, 33] (fun cv i => ∃ (j D : Nat), j ≤ M ∧ D ≤ j ∧ i = .int .i64 j ∧ cv = .int .i64 (D : Int) ∧ Hid (cK b x j = D)) (fun _ i => M - (intOf i).toNat)
          case atStart => exact ⟨0, 0, by omega, Nat.le_refl _, rfl, rfl, Lib.hid rfl⟩
          case round =>
            clear hlj hj hC
            obtain ⟨j2, D, hj2, hD, rfl, rfl, GD⟩ := hrel
            by_cases hlj2 : j2 < M
            · obtain ⟨ba, rfl, -, c2⟩ := HB.out j2 (by rw [← HM.out]; exact hlj2)
              have hs := cK_succ b x j2
              obtain ⟨z, hz⟩ : ∃ z, z = ld b j2 := ⟨_, rfl⟩
              change w.cell? _ = some (Value.int .i64 (ld b j2)) at c2
              rw [← hz] at c2 hs
              have HSJ := Lib.hid hs
              clear hz hs
              by_cases t1 : x ≤ z
              · have HF := Lib.hid (show cK b x (j2 + 1) = D + 1 by rw [HSJ.out, if_pos t1, GD.out])
                go_wp2_with fail
                go_round
                case rel => exact ⟨j2 + 1, D + 1, by omega, by omega, by go_num, by go_num, HF⟩
                case measure => simp [intOf] <;> omega
              · have HF := Lib.hid (show cK b x (j2 + 1) = D by rw [HSJ.out, if_neg t1, GD.out]; rfl)
                go_wp2_with fail
                go_round
                case rel => exact ⟨j2 + 1, D, by omega, by omega, by go_num, rfl, HF⟩
                case measure => simp [intOf] <;> omega
            · have HD1 := Lib.hid (show cF b x = D by have := GD.out; rw [show j2 = b.length by rw [← HM.out]; omega] at this; exact this)
              have hDM : D ≤ M := by omega
              clear GD
              by_cases t1 : 0 < x
              · by_cases t2 : D < C
                · have t2z : (D : Int) < (C : Int) := by omega
                  have HF := Lib.hid (show refdK a b L = true from by rw [HL.out]; exact refdK_at (by have := HK1.out; omega : k < a.length) (by rw [← HX.out, HD1.out, HC1.out]; exact ⟨t1, t2⟩))
                  go_wp2_with fail
                  go_ret
                  exact ⟨ret_bool HF.out.symm, rfl⟩
                · have t2z : ¬ (D : Int) < (C : Int) := by omega
                  have HF := Lib.hid (show refdK a b (k + 1) = false by rw [HS.out, HD1.out, HC1.out]; exact decide_eq_false (by omega))
                  go_wp2_with fail
                  go_round
                  case rel => exact ⟨k + 1, by omega, by go_num, HF⟩
                  case measure => simp [intOf] <;> omega
              · have HF := Lib.hid (show refdK a b (k + 1) = false by rw [HS.out]; exact decide_eq_false (by omega))
                go_wp2_with fail
                go_round
                case rel => exact ⟨k + 1, by omega, by go_num, HF⟩
                case measure => simp [intOf] <;> omega
    · obtain rfl : k = L := by omega
      go_wp2_with fail
      go_ret
      exact ⟨ret_bool G.out.symm, rfl⟩
end Go.Proofs.Ytknkgcphamhjlaa
