/-
  Stage 16: the program's small functions: valid lists, the shortest track, counting, ascending lists.
-/
import Derived.Test.YtknkgcphamhjlaaAPln
import Derived.Test.YtknkgcphamhjlaaABl
set_option linter.unusedSimpArgs false
set_option linter.unusedVariables false
namespace Go.Proofs.Ytknkgcphamhjlaa
open Go.RowKit Go.Lib

theorem okF_snoc (lo : Int) (l : List Int) (k : Nat) (h : k < l.length) : okF lo (l.take (k + 1)) = (okF lo (l.take k) && decide (lo ≤ ld l k ∧ ld l k ≤ 38400)) := by
  unfold okF
  rw [List.take_succ_eq_append_getElem h, List.all_append]
  have : ld l k = l[k] := by unfold ld; simp [List.getD_eq_getElem?_getD, h]
  rw [this]; simp
theorem okF_part {lo : Int} {l : List Int} {k : Nat} (h : okF lo (l.take k) = false) : okF lo l = false := by
  have : okF lo l = (okF lo (l.take k) && okF lo (l.drop k)) := by unfold okF; rw [← List.all_append, List.take_append_drop]
  rw [this, h]; rfl
set_option maxHeartbeats 1600000 in
theorem isFrom_any (lo : Int) (l : List Int) (A : Option Addr) (c : Nat) (w : World) (h : Row .i64 w w.heap.size A l) (hl : l.length ≤ maxLen) :
    Calls Try.prog 33 #[.int .i64 lo, .slice A l.length c] w fun e w' => e = .returned (.bool (okF lo l)) ∧ w = w' := by
  unfold maxLen at hl
  have H := Lib.hid h
  obtain ⟨L, hL⟩ : ∃ n, n = l.length := ⟨_, rfl⟩
  have HL := Lib.hid hL
  rw [← hL] at hl ⊢
  clear h hL
  go_enter Try.func33, Try.ntmps33
  go_wp2_with fail
  go_loop [9] (fun i => ∃ k : Nat, k ≤ L ∧ i = .int .i64 k ∧ Hid (okF lo (l.take k) = true)) (fun i => L - (intOf i).toNat)
  case atStart => exact ⟨0, by omega, rfl, Lib.hid rfl⟩
  case round =>
    obtain ⟨k, hk, rfl, G⟩ := hrel
    by_cases hlt : k < L
    · obtain ⟨ad, rfl, -, c1⟩ := H.out k (by rw [← HL.out]; exact hlt)
      have hs := okF_snoc lo l k (by rw [← HL.out]; exact hlt)
      obtain ⟨x, hx⟩ : ∃ x, x = l.getD k 0 := ⟨_, rfl⟩
      unfold ld at hs
      rw [← hx] at c1 hs
      have HS := Lib.hid hs
      clear hx hs
      by_cases t1 : x < lo
      · have HF := Lib.hid (show okF lo l = false from okF_part (k := k + 1) (by rw [HS.out, decide_eq_false (by omega), Bool.and_false]))
        go_wp2_with fail
        go_ret
        exact ⟨ret_bool HF.out.symm, rfl⟩
      by_cases t2 : 38400 < x
      · have HF := Lib.hid (show okF lo l = false from okF_part (k := k + 1) (by rw [HS.out, decide_eq_false (by omega), Bool.and_false]))
        go_wp2_with fail
        go_ret
        exact ⟨ret_bool HF.out.symm, rfl⟩
      · have HF := Lib.hid (show okF lo (l.take (k + 1)) = true by rw [HS.out, G.out, decide_eq_true (by omega)]; rfl)
        go_wp2_with fail
        go_round
        case rel => exact ⟨k + 1, by omega, by go_num, HF⟩
        case measure => simp [intOf] <;> omega
    · obtain rfl : k = L := by omega
      have HF := Lib.hid (show okF lo l = true by have := G.out; rwa [HL.out, List.take_length] at this)
      go_wp2_with fail
      go_ret
      exact ⟨ret_bool HF.out.symm, rfl⟩
theorem valR_big {a b : List Int} (h : 32 < a.length ∨ 32 < b.length) : valR a b = 3 := by unfold valR; rw [if_pos h]
theorem valR_yes {a b : List Int} (h : ¬ (32 < a.length ∨ 32 < b.length)) (h1 : okF 0 a = true) (h2 : okF 1 b = true) : valR a b = 0 := by unfold valR; rw [if_neg h, if_pos ⟨h1, h2⟩]
theorem valR_no {a b : List Int} (h : ¬ (32 < a.length ∨ 32 < b.length)) (h1 : okF 0 a = false ∨ okF 1 b = false) : valR a b = 2 := by
  unfold valR; rw [if_neg h, if_neg (fun g => by rcases h1 with h1 | h1; rw [g.1] at h1; cases h1; rw [g.2] at h1; cases h1)]
set_option maxHeartbeats 1600000 in
theorem valid_any (a b : List Int) (A B : Option Addr) (ca cb : Nat) (w : World) (ha : Row .i64 w w.heap.size A a) (hla : a.length ≤ maxLen) (hb : Row .i64 w w.heap.size B b) (hlb : b.length ≤ maxLen) :
    Calls Try.prog 21 #[.slice A a.length ca, .slice B b.length cb] w fun e w' => e = .returned (.int .i64 (valR a b)) ∧ w = w' := by
  have H0 := Lib.hid (isFrom_any 0 a A ca w ha hla)
  have H1 := Lib.hid (isFrom_any 1 b B cb w hb hlb)
  unfold maxLen at hla hlb
  obtain ⟨L, hL⟩ : ∃ n, n = a.length := ⟨_, rfl⟩
  have HL := Lib.hid hL
  obtain ⟨M, hM⟩ : ∃ n, n = b.length := ⟨_, rfl⟩
  have HM := Lib.hid hM
  rw [← hL] at hla H0 ⊢
  rw [← hM] at hlb H1 ⊢
  clear ha hb hL hM
  by_cases t1 : 32 < L
  · have HF := Lib.hid (valR_big (a := a) (b := b) (Or.inl (by rw [← HL.out]; exact t1)))
    have g1 : (32 : Int) < (L : Int) := by omega
    go_enter Try.func21, Try.ntmps21
    go_wp2_with fail
    go_ret
    exact ⟨ret_int HF.out.symm, rfl⟩
  have g1 : ¬ (32 : Int) < (L : Int) := by omega
  by_cases t2 : 32 < M
  · have HF := Lib.hid (valR_big (a := a) (b := b) (Or.inr (by rw [← HM.out]; exact t2)))
    have g2 : (32 : Int) < (M : Int) := by omega
    go_enter Try.func21, Try.ntmps21
    go_wp2_with fail
    go_ret
    exact ⟨ret_int HF.out.symm, rfl⟩
  have g2 : ¬ (32 : Int) < (M : Int) := by omega
  have HN := Lib.hid (show ¬ (32 < a.length ∨ 32 < b.length) by have := HL.out; have := HM.out; omega)
  cases h0 : okF 0 a with
  | false =>
    rw [h0] at H0
    have HF := Lib.hid (valR_no HN.out (Or.inl h0))
    clear h0
    go_enter Try.func21, Try.ntmps21
    go_wp2_with fail
    refine H0.out.mono ?_
    rintro e w1 ⟨rfl, rfl⟩
    go_wp2_with fail
    go_ret
    exact ⟨ret_int HF.out.symm, rfl⟩
  | true =>
    rw [h0] at H0
    cases h1 : okF 1 b with
    | false =>
      rw [h1] at H1
      have HF := Lib.hid (valR_no HN.out (Or.inr h1))
      clear h0 h1
      go_enter Try.func21, Try.ntmps21
      go_wp2_with fail
      refine H0.out.mono ?_
      rintro e w1 ⟨rfl, rfl⟩
      go_wp2_with fail
      refine H1.out.mono ?_
      rintro e w1 ⟨rfl, rfl⟩
      go_wp2_with fail
      go_ret
      exact ⟨ret_int HF.out.symm, rfl⟩
    | true =>
      rw [h1] at H1
      have HF := Lib.hid (valR_yes HN.out h0 h1)
      clear h0 h1
      go_enter Try.func21, Try.ntmps21
      go_wp2_with fail
      refine H0.out.mono ?_
      rintro e w1 ⟨rfl, rfl⟩
      go_wp2_with fail
      refine H1.out.mono ?_
      rintro e w1 ⟨rfl, rfl⟩
      go_wp2_with fail
      go_ret
      exact ⟨ret_int HF.out.symm, rfl⟩
theorem bestZ_skip {b : List Int} {tk : List Bool} {x : Int} {k : Nat} (h : ld b k < x ∨ tk.getD k false = true) : bestZ b tk x (k + 1) = bestZ b tk x k := by
  conv => lhs; unfold bestZ
  rw [if_pos h]
theorem bestZ_new {b : List Int} {tk : List Bool} {x : Int} {k : Nat} (h : ¬ ld b k < x) (h1 : tk.getD k false = false) (h2 : bestZ b tk x k = -1 ∨ ld b k < ld b (bestZ b tk x k).toNat) : bestZ b tk x (k + 1) = (k : Int) := by
  conv => lhs; unfold bestZ
  rw [if_neg (by rw [h1]; simpa using h), if_pos h2]
theorem bestZ_old {b : List Int} {tk : List Bool} {x : Int} {k y : Nat} (h : ¬ ld b k < x) (h1 : tk.getD k false = false) (hy : bestZ b tk x k = (y : Int)) (h2 : ¬ ld b k < ld b y) : bestZ b tk x (k + 1) = (y : Int) := by
  conv => lhs; unfold bestZ
  rw [if_neg (by rw [h1]; simpa using h), if_neg (by rw [hy, Int.toNat_natCast]; rintro (g | g); omega; exact h2 g), hy]
set_option maxHeartbeats 3200000 in
theorem shortest_any (b : List Int) (tk : List Bool) (x : Int) (B : Option Addr) (cb t ct : Nat) (w : World) (hb : Row .i64 w w.heap.size B b) (hlb : b.length ≤ maxLen) (ht : BSet w t tk) (htl : tk.length = b.length) :
    Calls Try.prog 24 #[.slice B b.length cb, .slice (some ⟨t, 0, none⟩) tk.length ct, .int .i64 x] w fun e w' => e = .returned (.int .i64 (bestZ b tk x b.length)) ∧ w = w' := by
  unfold maxLen at hlb
  have H := Lib.hid hb
  have HT := Lib.hid ht
  have HTL := Lib.hid htl
  obtain ⟨M, hM⟩ : ∃ n, n = b.length := ⟨_, rfl⟩
  have HM := Lib.hid hM
  rw [htl]
  rw [← hM] at hlb ⊢
  clear hb ht htl hM
  go_enter Try.func24, Try.ntmps24
  go_wp2_with fail
  go_loop [7, 12] (fun bv i => ∃ (k : Nat) (B0 : Int), k ≤ M ∧ i = .int .i64 k ∧ bv = .int .i64 B0 ∧ Hid (bestZ b tk x k = B0)) (fun _ i => M - (intOf i).toNat)
  case atStart => exact ⟨0, -1, by omega, rfl, rfl, Lib.hid rfl⟩
  case round =>
    obtain ⟨k, B0, hk, rfl, rfl, G⟩ := hrel
    by_cases hlt : k < M
    · have HLT := Lib.hid (show k < b.length by rw [← HM.out]; exact hlt)
      obtain ⟨ad, rfl, -, c1⟩ := H.out k HLT.out
      have ck := HT.out.cell k (by rw [HTL.out]; exact HLT.out)
      obtain ⟨z, hz⟩ : ∃ z, z = ld b k := ⟨_, rfl⟩
      have HZ := Lib.hid hz
      unfold ld at hz
      rw [← hz] at c1
      clear hz
      by_cases t1 : z < x
      · have HF := Lib.hid (show bestZ b tk x (k + 1) = B0 from (bestZ_skip (Or.inl (by rw [← HZ.out]; exact t1))).trans G.out)
        clear ck
        go_wp2_with fail
        go_round
        case rel => exact ⟨k + 1, B0, by omega, by go_num, rfl, HF⟩
        case measure => simp [intOf] <;> omega
      · cases h1 : tk.getD k false with
        | true =>
          rw [h1] at ck
          have HF := Lib.hid (show bestZ b tk x (k + 1) = B0 from (bestZ_skip (Or.inr h1)).trans G.out)
          clear h1
          go_wp2_with fail
          go_round
          case rel => exact ⟨k + 1, B0, by omega, by go_num, rfl, HF⟩
          case measure => simp [intOf] <;> omega
        | false =>
          rw [h1] at ck
          have HH := Lib.hid h1
          have HT1 := Lib.hid (show ¬ ld b k < x by rw [← HZ.out]; exact t1)
          clear h1
          rcases bestZ_spec b tk x k with ⟨hb0, -⟩ | ⟨y, hb0, hy, -, -⟩
          · rw [G.out] at hb0
            subst hb0
            have HF := Lib.hid (show bestZ b tk x (k + 1) = (k : Int) from bestZ_new HT1.out HH.out (Or.inl G.out))
            go_wp2_with fail
            go_round
            case rel => exact ⟨k + 1, _, by omega, by go_num, rfl, HF⟩
            case measure => simp [intOf] <;> omega
          · rw [G.out] at hb0
            subst hb0
            obtain ⟨ad2, e2, -, c2⟩ := H.out y (by have := HLT.out; omega)
            injection e2 with e2
            subst e2
            obtain ⟨v, hv⟩ : ∃ z, z = ld b y := ⟨_, rfl⟩
            have HV := Lib.hid hv
            unfold ld at hv
            rw [← hv] at c2
            clear hv
            have hyM : (y : Int) < (M : Int) := by omega
            have hy1 : ((y : Int) == -1) = false := by first | (simp; done) | (simp; omega)
            by_cases t2 : z < v
            · have HF := Lib.hid (show bestZ b tk x (k + 1) = (k : Int) from bestZ_new HT1.out HH.out (Or.inr (by rw [G.out, Int.toNat_natCast, ← HZ.out, ← HV.out]; exact t2)))
              go_wp2_with fail
              go_round
              case rel => exact ⟨k + 1, _, by omega, by go_num, rfl, HF⟩
              case measure => simp [intOf] <;> omega
            · have HF := Lib.hid (show bestZ b tk x (k + 1) = (y : Int) from bestZ_old HT1.out HH.out G.out (by rw [← HZ.out, ← HV.out]; exact t2))
              go_wp2_with fail
              go_round
              case rel => exact ⟨k + 1, _, by omega, by go_num, rfl, HF⟩
              case measure => simp [intOf] <;> omega
    · obtain rfl : k = M := by omega
      go_wp2_with fail
      go_ret
      exact ⟨ret_int G.out.symm, rfl⟩
set_option maxHeartbeats 1600000 in
theorem countFrom_any (b : List Int) (x : Int) (B : Option Addr) (cb : Nat) (w : World) (hb : Row .i64 w w.heap.size B b) (hlb : b.length ≤ maxLen) :
    Calls Try.prog 29 #[.slice B b.length cb, .int .i64 x] w fun e w' => e = .returned (.int .i64 (cF b x : Nat)) ∧ w = w' := by
  unfold maxLen at hlb
  have H := Lib.hid hb
  obtain ⟨M, hM⟩ : ∃ n, n = b.length := ⟨_, rfl⟩
  have HM := Lib.hid hM
  rw [← hM] at hlb ⊢
  clear hb hM
  go_enter Try.func29, Try.ntmps29
  go_wp2_with fail
  go_loop [5, 10] (fun cv i => ∃ (k C : Nat), k ≤ M ∧ C ≤ k ∧ i = .int .i64 k ∧ cv = .int .i64 (C : Int) ∧ Hid (cK b x k = C)) (fun _ i => M - (intOf i).toNat)
  case atStart => exact ⟨0, 0, by omega, Nat.le_refl _, rfl, rfl, Lib.hid rfl⟩
  case round =>
    obtain ⟨k, C, hk, hC, rfl, rfl, G⟩ := hrel
    by_cases hlt : k < M
    · obtain ⟨ad, rfl, -, c1⟩ := H.out k (by rw [← HM.out]; exact hlt)
      have hs := cK_succ b x k
      obtain ⟨z, hz⟩ : ∃ z, z = b.getD k 0 := ⟨_, rfl⟩
      unfold ld at hs
      rw [← hz] at c1 hs
      have HS := Lib.hid hs
      clear hz hs
      by_cases t1 : x ≤ z
      · have HF := Lib.hid (show cK b x (k + 1) = C + 1 by rw [HS.out, if_pos t1, G.out])
        go_wp2_with fail
        go_round
        case rel => exact ⟨k + 1, C + 1, by omega, by omega, by go_num, by go_num, HF⟩
        case measure => simp [intOf] <;> omega
      · have HF := Lib.hid (show cK b x (k + 1) = C by rw [HS.out, if_neg t1, G.out]; rfl)
        go_wp2_with fail
        go_round
        case rel => exact ⟨k + 1, C, by omega, by omega, by go_num, rfl, HF⟩
        case measure => simp [intOf] <;> omega
    · obtain rfl : k = M := by omega
      have HF := Lib.hid (show (C : Int) = (cF b x : Nat) by have := G.out; rw [HM.out] at this; rw [← this]; rfl)
      go_wp2_with fail
      go_ret
      exact ⟨ret_int HF.out, rfl⟩
/-- The first k are ascending. -/
def risK (r : List Int) (k : Nat) : Bool := (List.range k).all fun i => decide (i = 0 ∨ ld r (i - 1) < ld r i)
theorem risK_succ (r : List Int) (k : Nat) : risK r (k + 1) = (risK r k && decide (k = 0 ∨ ld r (k - 1) < ld r k)) := by
  unfold risK; rw [List.range_succ, List.all_append]; simp
theorem risK_part {r : List Int} {k n : Nat} (h : risK r k = false) (hk : k ≤ n) : risK r n = false := by
  obtain ⟨m, rfl⟩ : ∃ m, n = k + m := ⟨n - k, by omega⟩
  unfold risK at *
  rw [List.range_add, List.all_append, h]; rfl
set_option maxHeartbeats 1600000 in
theorem isRising_any (r : List Int) (A : Option Addr) (c : Nat) (w : World) (h : Row .i64 w w.heap.size A r) (hl : r.length ≤ maxLen) :
    Calls Try.prog 28 #[.slice A r.length c] w fun e w' => e = .returned (.bool (risK r r.length)) ∧ ∃ n, w' = w.drewN n := by
  unfold maxLen at hl
  have H := Lib.hid h
  obtain ⟨L, hL⟩ : ∃ n, n = r.length := ⟨_, rfl⟩
  have HL := Lib.hid hL
  rw [← hL] at hl ⊢
  clear h hL
  go_enter Try.func28, Try.ntmps28
  go_wp2_with fail
  go_loopw [3] (fun i wr => (∃ n, wr = w.drewN n) ∧ ∃ k : Nat, i = .int .i64 (k : Int) ∧ 1 ≤ k ∧ (k ≤ L ∨ k = 1) ∧ Hid (risK r k = true)) (fun i _ => L - (intOf i).toNat)
  case atStart => exact ⟨⟨0, rfl⟩, 1, rfl, Nat.le_refl _, Or.inr rfl, Lib.hid rfl⟩
  case round =>
    obtain ⟨⟨n, hw⟩, k, rfl, h1, hk, G⟩ := hrel
    have HW := Lib.hid (show ∃ n, wr = w.drewN n from ⟨n, hw⟩)
    by_cases hlt : k < L
    · obtain ⟨j, rfl⟩ : ∃ j, k = j + 1 := ⟨k - 1, by omega⟩
      obtain ⟨ad, rfl, -, c1⟩ := H.out (j + 1) (by rw [← HL.out]; exact hlt)
      obtain ⟨ad2, e2, -, c2⟩ := H.out j (by rw [← HL.out]; omega)
      injection e2 with e2
      subst e2
      obtain ⟨u, hu⟩ : ∃ z, z = r.getD j 0 := ⟨_, rfl⟩
      obtain ⟨v, hv⟩ : ∃ z, z = r.getD (j + 1) 0 := ⟨_, rfl⟩
      rw [← hu] at c2
      rw [← hv] at c1
      have HU := Lib.hid (show risK r (j + 1 + 1) = decide (u < v) by
        rw [risK_succ, G.out, Bool.true_and]
        have : (j + 1 = 0 ∨ ld r (j + 1 - 1) < ld r (j + 1)) ↔ u < v := by
          unfold ld; rw [Nat.add_sub_cancel, ← hu, ← hv]
          constructor
          · rintro (g | g)
            · omega
            · exact g
          · exact fun g => Or.inr g
        exact decide_eq_decide.2 this)
      have d1 : wr.cell? ⟨ad.block, ad.off + (j + 1), none⟩ = some (.int .i64 v) := by rw [hw]; exact c1
      have d2 : wr.cell? (ad.add j) = some (.int .i64 u) := by rw [hw]; exact c2
      have hj1 : ((j : Int) + 1) < (L : Int) := by omega
      have hj0 : (j : Int) < (L : Int) := by omega
      have hjL : j < L := by omega
      have wj : IntKind.i64.wrap (j : Int) = (j : Int) := IntWalk.i64_in _ (by omega)
      have wj1 : IntKind.i64.wrap ((j : Int) + 1 - 1) = (j : Int) := by rw [Int.add_sub_cancel]; exact wj
      have j0 : (0 : Int) ≤ (j : Int) + 1 := by omega
      have jt : ((j : Int) + 1).toNat = j + 1 := by omega
      clear hu hv c1 c2 hw
      go_upto_region 4 with fail
      go_quiet (fail)
      clear d1 d2
      by_cases t1 : u < v
      · have HF := Lib.hid (show risK r (j + 1 + 1) = true by rw [HU.out, decide_eq_true t1])
        have t1' : ¬ v ≤ u := by omega
        go_wp2_with fail
        go_roundw
        case rel => exact ⟨by obtain ⟨n, rfl⟩ := HW.out; exact ⟨n + nq, by rw [World.drewN_drewN]⟩, j + 1 + 1, by go_num, by omega, Or.inl (by omega), HF⟩
        case measure => simp [intOf]; omega
      · have HF := Lib.hid (show risK r L = false from risK_part (k := j + 1 + 1) (by rw [HU.out, decide_eq_false t1]) (by omega))
        have t1' : v ≤ u := by omega
        go_wp2_with fail
        go_ret
        exact ⟨ret_bool HF.out.symm, by obtain ⟨n, rfl⟩ := HW.out; exact ⟨n + nq, by rw [World.drewN_drewN]⟩⟩
    · have HF := Lib.hid (show risK r L = true from by
        rw [HL.out]
        rcases hk with g | g
        · have : k = r.length := by rw [← HL.out]; omega
          rw [← this]; exact G.out
        · subst g
          have hz : r.length = 0 ∨ r.length = 1 := by rw [← HL.out]; omega
          rcases hz with hz | hz <;> rw [hz] <;> rfl)
      clear hw
      go_wp2_with fail
      go_ret
      exact ⟨ret_bool HF.out.symm, HW.out⟩
end Go.Proofs.Ytknkgcphamhjlaa
