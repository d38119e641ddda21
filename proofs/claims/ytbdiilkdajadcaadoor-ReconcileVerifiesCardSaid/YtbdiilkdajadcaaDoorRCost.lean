/-
  Stage 8: the program's Cost.
-/
import Derived.Test.YtbdiilkdajadcaaDoorRAli
set_option linter.unusedSimpArgs false
set_option linter.unusedVariables false
namespace Go.Proofs.YtbdiilkdajadcaaDoor
open Go.RowKit

theorem results_tmp2R {P : Program} {fn : Func} {a b : Tmp} (hf : fn.results = #[.tmp a, .tmp b]) (tmps : Array Value) (w : World) (u v : Value) (h1 : tmps.getD a undef = u) (h2 : tmps.getD b undef = v) : (results fn tmps).run P w = .ok (.tuple #[u, v]) w := by
  subst h1; subst h2; simp [results, hf]
theorem okI_in {a b : List Int} {i j : Nat} {e : Int} (h : okI a b i j e = true) : ∃ n : Nat, e = (n : Int) ∧ n < 5 ∧ okP a b i j n = true := by
  unfold okI at h
  rw [Bool.and_eq_true] at h
  have := of_decide_eq_true h.1
  exact ⟨e.toNat, by omega, by omega, h.2⟩
theorem stp_none {a b : List Int} {i j : Nat} {c : Int} {e : Int} (h : okI a b i j e = false) : stpR a b (some (i, j, c)) e = none := by
  show (if okI a b i j e = true then _ else _) = _
  rw [h]; rfl
theorem cos_bad {a b es : List Int} {k : Nat} (hl : ¬ lngP a b) (h : wlk a b (some (0, 0, 0)) (es.take k) = none) : cosR a b es = (0, 1) := by
  unfold cosR; rw [if_neg hl, wlk_cut h]; rfl
theorem cos_end {a b es : List Int} {k i j : Nat} {c : Int} (hl : ¬ lngP a b) (hk : es.length ≤ k) (h : wlk a b (some (0, 0, 0)) (es.take k) = some (i, j, c)) : cosR a b es = if i = a.length ∧ j = b.length then (c, 0) else (0, 1) := by
  rw [List.take_of_length_le hk] at h
  unfold cosR; rw [if_neg hl, h]; rfl
set_option maxRecDepth 100000 in
set_option maxHeartbeats 6400000 in
theorem cos_any (a b es : List Int) (A B E : Option Addr) (ca cb ce : Nat) (w : World) (hK : Knd w) (la : a.length ≤ 1000000000) (lb : b.length ≤ 1000000000) (le : es.length ≤ maxLen) (ha : Row .i64 w w.heap.size A a) (hb : Row .i64 w w.heap.size B b) (he : Row .i64 w w.heap.size E es) (hca : a.length ≤ ca) (hcb : b.length ≤ cb) :
    Calls Tryd.prog 21 #[.slice A a.length ca, .slice B b.length cb, .slice E es.length ce] w fun e w' => e = .returned (R2 (cosR a b es)) ∧ Below w.heap.size w w' := by
  have HL := Lib.hid (long_any A B a.length ca b.length cb w la lb)
  by_cases hl : lngP a b
  · have HR := Lib.hid (show cosR a b es = (0, 3) from if_pos hl)
    rw [decide_eq_true (show 96 < a.length ∨ 96 < b.length from hl)] at HL
    go_enter Tryd.func21, Tryd.ntmps21
    go_wp2_with (first | (go_at_call 24; refine HL.out.mono ?_; rintro e w' ⟨rfl, rfl⟩))
    refine bodyPost_ret (results_tmp2R rfl _ _ _ _ rfl rfl) rfl ?_
    rw [HR.out]
    exact ⟨rfl, Below.refl _ _⟩
  rw [decide_eq_false (show ¬ (96 < a.length ∨ 96 < b.length) from hl)] at HL
  have l1 : a.length ≤ 96 := by unfold lngP at hl; omega
  have l2 : b.length ≤ 96 := by unfold lngP at hl; omega
  have HLN := Lib.hid hl
  have HK := Lib.hid hK
  have HE := Lib.hid he
  have HA := Lib.hid ha
  have HB := Lib.hid hb
  unfold maxLen at le
  obtain ⟨N, hN⟩ : ∃ N, N = es.length := ⟨_, rfl⟩
  have HN := Lib.hid hN
  rw [← hN] at le ⊢
  clear ha hb he hK hl la lb hN
  go_enter Tryd.func21, Tryd.ntmps21
  go_wp2_with (first | (go_at_call 24; refine HL.out.mono ?_; rintro e w' ⟨rfl, rfl⟩))
  clear HL
  have HCA := Lib.hid hca
  have HCB := Lib.hid hcb
  clear hca hcb
  go_loopw [0, 1, 8, 17] (fun va vb vc vk wr => ∃ (i j k : Nat) (c : Int) (Ai Bj : Option Addr), k ≤ N ∧ i ≤ a.length ∧ j ≤ b.length ∧ va = .slice Ai (a.length - i) (ca - i) ∧ vb = .slice Bj (b.length - j) (cb - j) ∧ vc = .int .i64 c ∧ vk = .int .i64 (k : Int) ∧ 0 ≤ c ∧ c ≤ 4 * (i : Int) + 4 * (j : Int) ∧ Hid (wlk a b (some (0, 0, 0)) (es.take k) = some (i, j, c)) ∧ Hid (Row .i64 wr w.heap.size Ai (a.drop i)) ∧ Hid (Row .i64 wr w.heap.size Bj (b.drop j)) ∧ Hid (Below w.heap.size w wr)) (fun _ _ _ vk _ => N - (intOf vk).toNat)
  case atStart => exact ⟨0, 0, 0, 0, A, B, by omega, by omega, by omega, rfl, rfl, rfl, rfl, by omega, by omega, Lib.hid rfl, HA, HB, Lib.hid (Below.refl _ _)⟩
  case round =>
    obtain ⟨i, j, k, c, Ai, Bj, hk, hi, hj, rfl, rfl, rfl, rfl, c0, c4, HW, HAi, HBj, HBL⟩ := hrel
    by_cases hlt : k < N
    · have hlt' : (k : Int) < (N : Int) := by omega
      have hst := wlk_take (a := a) (b := b) (s := some (0, 0, 0)) (k := k) (es := es) (by rw [← HN.out]; exact hlt)
      rw [HW.out] at hst
      obtain ⟨ad, rfl, -, ce⟩ := HE.out.under HBL.out k (by rw [← HN.out]; exact hlt)
      have ISP := isp_any (es.getD k 0) (a.drop i) (b.drop j) Ai Bj (ca - i) (cb - j) wr (HK.out.below HBL.out HK.out.lt) (HAi.out.more HBL.out.size) (HBj.out.more HBL.out.size) (by rw [List.length_drop]; omega) (by rw [List.length_drop]; omega)
      rw [List.length_drop, List.length_drop, okI_drop] at ISP
      obtain ⟨e, hee⟩ : ∃ e, e = es.getD k 0 := ⟨_, rfl⟩
      rw [← hee] at ISP hst ce
      clear hee
      by_cases hok : okI a b i j e = true
      · rw [hok] at ISP
        obtain ⟨n, rfl, h5, hop⟩ := okI_in hok
        obtain ⟨-, hia, hjb, -, d0, d4, d44⟩ := okP_in hi hj hop
        have HS := Lib.hid (hst.trans (stp_ok (c := c) hop))
        have HKN := Lib.hid (fun (W : World) (b : Below w.heap.size w W) => (HK.out.below b HK.out.lt).at h5)
        have n0 : (0 : Int) ≤ (n : Int) := by omega
        have n5 : (n : Int) < 5 := by omega
        have wc : IntKind.i64.wrap (c + dC n) = c + dC n := IntWalk.i64_in _ (by omega)
        have hslA : ∀ W, (Instr.slice 22 (.slice Ai (a.length - i) (ca - i)) (some (.int .i64 (dA n : Int))) none none).run Tryd.prog W = .ok (.slice (if ca - i = dA n then Ai else Ai.map (·.add (dA n * 1))) (a.length - i - dA n) (ca - i - dA n)) W := fun W => slice_ints Ai _ _ _ W (by omega) (by have := HCA.out; omega)
        have hslB : ∀ W, (Instr.slice 22 (.slice Bj (b.length - j) (cb - j)) (some (.int .i64 (dB n : Int))) none none).run Tryd.prog W = .ok (.slice (if cb - j = dB n then Bj else Bj.map (·.add (dB n * 1))) (b.length - j - dB n) (cb - j - dB n)) W := fun W => slice_ints Bj _ _ _ W (by omega) (by have := HCB.out; omega)
        have HA2 := Lib.hid (HAi.out.cutI (dA n) (ca - i) (by rw [List.length_drop]; have := HCA.out; omega))
        have HB2 := Lib.hid (HBj.out.cutI (dB n) (cb - j) (by rw [List.length_drop]; have := HCB.out; omega))
        generalize (if ca - i = dA n then Ai else Ai.map (·.add (dA n * 1))) = Ai2 at hslA HA2
        generalize (if cb - j = dB n then Bj else Bj.map (·.add (dB n * 1))) = Bj2 at hslB HB2
        rw [List.drop_drop] at HA2 HB2
        rw [Nat.sub_sub, Nat.sub_sub] at hslA hslB
        clear hst hop hok
        go_wp2_with (first | (go_at_call 34; refine ISP.mono ?_; rintro e w' ⟨rfl, nd, rfl⟩; have HB3 := Lib.hid (bdn (n := nd) HBL.out); obtain ⟨k0, k1, k2⟩ := HKN.out _ HB3.out; have HA4 := Lib.hid (HA2.out.drewN nd); have HB4 := Lib.hid (HB2.out.drewN nd); generalize wr.drewN nd = w4 at *))
        obtain ⟨w5, hw5⟩ : ∃ w5, w5 = w4.alloc (.cells #[.int .i64 (dA n : Int), .int .i64 (dB n : Int), .int .i64 (dC n)] 54) := ⟨_, rfl⟩
        rw [← hw5]
        have q0 : w5.cell? ⟨w4.heap.size, 0, none⟩ = some (.int .i64 (dA n : Int)) := by rw [hw5, cell_new]; rfl
        have q1 : w5.cell? ⟨w4.heap.size, 1, none⟩ = some (.int .i64 (dB n : Int)) := by rw [hw5, cell_new]; rfl
        have q2 : w5.cell? ⟨w4.heap.size, 2, none⟩ = some (.int .i64 (dC n)) := by rw [hw5, cell_new]; rfl
        have HB5 := Lib.hid (show Below w.heap.size w w5 from by rw [hw5]; exact HB3.out.alloc HB3.out.size _)
        have HA5 := Lib.hid (HA4.out.keep (w' := w5) (fun p hp => by rw [hw5]; exact ((Below.refl _ w4).alloc (Nat.le_refl _) _).cell (Nat.lt_of_lt_of_le hp HB3.out.size)) (Nat.le_refl _))
        have HBB5 := Lib.hid (HB4.out.keep (w' := w5) (fun p hp => by rw [hw5]; exact ((Below.refl _ w4).alloc (Nat.le_refl _) _).cell (Nat.lt_of_lt_of_le hp HB3.out.size)) (Nat.le_refl _))
        clear hw5 k0 k1 k2 HA4 HB4 HA2 HB2 HB3 HKN HAi HBj
        go_quiet (fail)
        have q2' : (w5.drewN nq).cell? ⟨w4.heap.size, 2, none⟩ = some (.int .i64 (dC n)) := q2
        have HB6 := Lib.hid (bdn (n := nq) HB5.out)
        have HA6 := Lib.hid (HA5.out.drewN nq)
        have HBB6 := Lib.hid (HBB5.out.drewN nq)
        generalize w5.drewN nq = w6 at *
        clear hslA hslB q0 q1 q2
        go_wp2_with fail
        go_roundw
        case rel => exact ⟨i + dA n, j + dB n, k + 1, c + dC n, Ai2, Bj2, by omega, hia, hjb, rfl, rfl, by congr 1, by go_num, by omega, by omega, HS, HA6, HBB6, HB6⟩
        case measure => simp [intOf] <;> omega
      · have hf : okI a b i j e = false := by cases h : okI a b i j e <;> simp_all
        rw [hf] at ISP
        have HR := Lib.hid (cos_bad HLN.out (hst.trans (stp_none hf)))
        clear hst
        go_wp2_with (first | (go_at_call 34; refine ISP.mono ?_; rintro e w' ⟨rfl, nd, rfl⟩; have HB3 := Lib.hid (bdn (n := nd) HBL.out); generalize wr.drewN nd = w4 at *))
        refine bodyPost_ret (results_tmp2R rfl _ _ _ _ rfl rfl) rfl ?_
        rw [HR.out]
        exact ⟨rfl, HB3.out⟩
    · obtain rfl : k = N := by omega
      have HR := Lib.hid (cos_end (es := es) HLN.out (by rw [HN.out]; exact Nat.le_refl _) HW.out)
      by_cases h1 : i = a.length
      · subst h1
        by_cases h2 : j = b.length
        · subst h2
          have g1 : a.length - a.length = 0 := Nat.sub_self _
          have g2 : b.length - b.length = 0 := Nat.sub_self _
          rw [g1, g2]
          go_wp2_with fail
          refine bodyPost_ret (results_tmp2R rfl _ _ _ _ rfl rfl) rfl ?_
          rw [HR.out, if_pos (by simp)]
          exact ⟨rfl, HBL.out⟩
        · have g1 : a.length - a.length = 0 := Nat.sub_self _
          have g2 : (0 : Int) < ((b.length - j : Nat) : Int) := by omega
          rw [g1]
          rw [if_neg (fun h => h2 h.2)] at HR
          obtain ⟨z, hz⟩ : ∃ z, z = b.length - j := ⟨_, rfl⟩
          rw [← hz] at g2 ⊢
          go_wp2_with fail
          refine bodyPost_ret (results_tmp2R rfl _ _ _ _ rfl rfl) rfl ?_
          rw [HR.out]
          exact ⟨rfl, HBL.out⟩
      · have g1 : (0 : Int) < ((a.length - i : Nat) : Int) := by omega
        rw [if_neg (fun h => h1 h.1)] at HR
        obtain ⟨z, hz⟩ : ∃ z, z = a.length - i := ⟨_, rfl⟩
        rw [← hz] at g1 ⊢
        go_wp2_with fail
        refine bodyPost_ret (results_tmp2R rfl _ _ _ _ rfl rfl) rfl ?_
        rw [HR.out]
        exact ⟨rfl, HBL.out⟩
end Go.Proofs.YtbdiilkdajadcaaDoor
