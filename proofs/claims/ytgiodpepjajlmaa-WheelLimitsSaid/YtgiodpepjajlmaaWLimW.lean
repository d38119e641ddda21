/-
  Stage 7: the walk of WheelLimits.
-/
import Derived.Test.YtgiodpepjajlmaaWLim
set_option linter.unusedSimpArgs false
set_option linter.unusedVariables false
namespace Go.Proofs.Ytgiodpepjajlmaa
open Go.RowKit

theorem own_rowL {w : World} {base : Nat} {A : Option Addr} {n c : Nat} {zs : List Int} (h : Own .i64 3 w base (.slice A n c) zs) : Row .i64 w w.heap.size A zs := by
  obtain ⟨A', c', e, R, _⟩ := h.slice
  injection e with e _ _; subst e; exact R
theorem tmod3 {y : Int} (h : ∃ x : Int, y = x.tmod 3 + 3) : ∃ N : Nat, y.tmod 3 = (N : Int) ∧ N ≤ 2 := by
  obtain ⟨x, rfl⟩ := h
  have h1 := tmod_bd x 3 (by decide)
  have h2 := tmod_bd (x.tmod 3 + 3) 3 (by decide)
  have h3 : 0 ≤ (x.tmod 3 + 3).tmod 3 := Int.tmod_nonneg _ (by omega)
  exact ⟨((x.tmod 3 + 3).tmod 3).toNat, by omega, by omega⟩
theorem tmod5 {y : Int} (h : ∃ x : Int, y = x.tmod 5 + 5) : ∃ N : Nat, y.tmod 5 = (N : Int) ∧ N ≤ 4 := by
  obtain ⟨x, rfl⟩ := h
  have h1 := tmod_bd x 5 (by decide)
  have h2 := tmod_bd (x.tmod 5 + 5) 5 (by decide)
  have h3 : 0 ≤ (x.tmod 5 + 5).tmod 5 := Int.tmod_nonneg _ (by omega)
  exact ⟨((x.tmod 5 + 5).tmod 5).toNat, by omega, by omega⟩
abbrev five : List Int := [10000, 10000, 10000, 10000, 10000]
abbrev ps0 : List (List Int) := (List.replicate 16 []).set 15 five
theorem recR_bad' {d : List Int} {ps : List (List Int)} {tol e : Int} (h : recErr d ps tol = e) (he : e ≠ 0) : recR d ps tol = ([], 0, e) := by
  subst h; exact recR_bad he
theorem okD_bad {l : List Int} {z : Int} (h : z ∈ l) (hz : ¬ (1 ≤ z ∧ z ≤ 10000)) : okD l = false := by
  cases e : okD l with
  | false => rfl
  | true => exact absurd (okD_mem e z h) hz
theorem PR.vals {w : World} {base g n c : Nat} {ds : List Dsc} (h : ROwn PR 22 w base (.slice (some ⟨g, 0, none⟩) n c) ds) {j : Nat} {v : Value} (hj : (PR.flat ds)[j]? = some v) : w.cell? ⟨g, j, none⟩ = some v := by
  have hl : (PR.flat ds).length = ds.length * 1 := flatR_len PR ds
  have hjl := (List.getElem?_eq_some_iff.1 hj).1
  have hjd : j < ds.length := by omega
  have hk : ds[j]? = some ds[j] := List.getElem?_eq_getElem hjd
  have h1 := flatR_at PR hk (j := 0) (u := dscV ds[j]) rfl
  have h1 : (PR.flat ds)[j * 1 + 0]? = some (dscV ds[j]) := h1
  rw [Nat.mul_one, Nat.add_zero, hj] at h1
  rw [PR.cell h hk, Option.some.inj h1]
theorem zeros_one (v : Value) (n : Nat) : Builtin.zeroCells #[v] n = (List.replicate n v).toArray := by
  have := made_one v n
  unfold madeCells at this
  unfold Builtin.zeroCells
  rw [← this]
  have e : n * (#[v] : Array Value).size = n := Nat.mul_one n
  rw [e]
theorem app_zero (a : Option Addr) (w : World) : (Builtin.append_ #[23, 3] 23 #[.slice a 16 16, .int .i64 0]).run Try.prog w = .ok (.slice a 16 16) w := by
  obtain ⟨i0, hi, hz0, hz1, hz2⟩ := info_parts infoSl
  have hw0 : IntKind.i64.wrap 0 = 0 := IntWalk.i64_in _ (by decide)
  cases a <;> simp [Builtin.append_, run_underlying Try.underlying23, run_underlying Try.underlying3, sizeOf, typeInfo, hi, hw0, asInt, asIntOf, storeCells]
theorem grown_pp {w : World} {base h f : Nat} {T : TypeId} (O : ROwn PR 22 w base (.slice (some ⟨h, 0, none⟩) 16 16) ((List.replicate 16 nilD).set 15 (some ⟨f, 0, none⟩, 5, 5))) (F : Row .i64 w w.heap.size (some ⟨f, 0, none⟩) five) (N : Nat) (rest : Array Value) :
    PP (w.drew.alloc (.cells ((PR.flat ((List.replicate 16 nilD).set 15 (some ⟨f, 0, none⟩, 5, 5))).toArray ++ Builtin.zeroCells (Value.slice none 0 0).cells N ++ rest) T)) (some ⟨w.heap.size, 0, none⟩) (ps0 ++ List.replicate N []) := fun k p hk => by
  have hf16 : (PR.flat ((List.replicate 16 nilD).set 15 (some ⟨f, 0, none⟩, 5, 5))).length = 16 := rfl
  have hz : Builtin.zeroCells (Value.slice none 0 0).cells N = (List.replicate N (.slice none 0 0)).toArray := zeros_one _ N
  have hcell : ∀ (d : Dsc), ((PR.flat ((List.replicate 16 nilD).set 15 (some ⟨f, 0, none⟩, 5, 5)) ++ List.replicate N (.slice none 0 0))[k]? = some (dscV d)) → (w.drew.alloc (.cells ((PR.flat ((List.replicate 16 nilD).set 15 (some ⟨f, 0, none⟩, 5, 5))).toArray ++ Builtin.zeroCells (Value.slice none 0 0).cells N ++ rest) T)).cell? ⟨w.heap.size, k, none⟩ = some (dscV d) := fun d hd => by
    have := cell_new w.drew ((PR.flat ((List.replicate 16 nilD).set 15 (some ⟨f, 0, none⟩, 5, 5))).toArray ++ Builtin.zeroCells (Value.slice none 0 0).cells N ++ rest) T k
    refine this.trans ?_
    rw [hz]
    have hkl := (List.getElem?_eq_some_iff.1 hd).1
    have e : (PR.flat ((List.replicate 16 nilD).set 15 (some ⟨f, 0, none⟩, 5, 5))).toArray ++ (List.replicate N (Value.slice none 0 0)).toArray = (PR.flat ((List.replicate 16 nilD).set 15 (some ⟨f, 0, none⟩, 5, 5)) ++ List.replicate N (Value.slice none 0 0)).toArray := by simp
    rw [e, Array.getElem?_append_left (by rw [List.size_toArray]; exact hkl), List.getElem?_toArray]
    exact hd
  have hlt : (⟨w.heap.size, 0, none⟩ : Addr).block < (w.drew.alloc (.cells ((PR.flat ((List.replicate 16 nilD).set 15 (some ⟨f, 0, none⟩, 5, 5))).toArray ++ Builtin.zeroCells (Value.slice none 0 0).cells N ++ rest) T)).heap.size := by simp
  by_cases e : k = 15
  · subst e
    rw [List.getElem?_append_left (by decide)] at hk
    injection hk with hk
    subst hk
    exact ⟨_, rfl, hlt, _, _, by rw [add_own]; exact hcell (some ⟨f, 0, none⟩, 5, 5) (by rw [List.getElem?_append_left (by rw [hf16]; decide)]; rfl), (F.drewN 1).al _, by show 5 ≤ maxLen; decide⟩
  · have hp : p = [] := by
      by_cases h16 : k < 16
      · rw [List.getElem?_append_left (show k < ps0.length from h16), List.getElem?_set, if_neg (by omega), List.getElem?_replicate, if_pos h16] at hk
        exact (Option.some.inj hk).symm
      · rw [List.getElem?_append_right (show ps0.length ≤ k by show 16 ≤ k; omega), List.getElem?_replicate] at hk
        split at hk
        · exact (Option.some.inj hk).symm
        · cases hk
    subst hp
    have hkl : k < 16 + N := by
      have := (List.getElem?_eq_some_iff.1 hk).1
      rw [List.length_append, List.length_replicate] at this
      exact this
    have hv : (PR.flat ((List.replicate 16 nilD).set 15 (some ⟨f, 0, none⟩, 5, 5)) ++ List.replicate N (.slice none 0 0))[k]? = some (dscV nilD) := by
      by_cases h16 : k < 16
      · rw [List.getElem?_append_left (by rw [hf16]; exact h16)]
        have h1 := flatR_at PR (l := (List.replicate 16 nilD).set 15 (some ⟨f, 0, none⟩, 5, 5)) (k := k) (x := nilD) (by rw [List.getElem?_set, if_neg (by omega), List.getElem?_replicate, if_pos h16]) (j := 0) (u := dscV nilD) rfl
        have h1 : (PR.flat ((List.replicate 16 nilD).set 15 (some ⟨f, 0, none⟩, 5, 5)))[k * 1 + 0]? = some (dscV nilD) := h1
        rwa [Nat.mul_one, Nat.add_zero] at h1
      · rw [List.getElem?_append_right (by rw [hf16]; omega), hf16, List.getElem?_replicate, if_pos (by omega)]
    refine ⟨_, rfl, hlt, none, 0, (by rw [add_own]; exact hcell nilD hv), Row.nil, by decide⟩
theorem wpList_run {P : Program} {w w' : World} {ops : Array Oper} {rest : List Oper} {o : Oper} {a : Act} {Q : Exit → Act → World → Prop} (hgn : o.guard = none) (s x : Operand) (ts : Array TypeId)
    (ho : o.op = .call { callee := .builtin .append, args := #[s, x], argTypes := ts }) (v u r : Value) (hs : a.eval s = v) (hx : a.eval x = u) (hrun : (Builtin.append_ ts o.type #[v, u]).run P w = .ok r w')
    (h : wpList P ops Q rest (a.put o.dst r) w') : wpList P ops Q (o :: rest) a w := by
  refine wpList_plain hgn fun K hK => ?_
  unfold Oper.wp
  simp [execOp, ho, resolve, invoke, builtin, hs, hx, hrun, Result.andThen]
  exact hK _ _ h
theorem wrap_tmod3 (n : Int) : wrap64 (n.tmod 3 + 3) = n.tmod 3 + 3 := by
  have h1 := tmod_bd n 3 (by decide)
  exact IntWalk.wrap64_in _ (by omega)
theorem wrap_tmod5 (n : Int) : wrap64 (n.tmod 5 + 5) = n.tmod 5 + 5 := by
  have h1 := tmod_bd n 5 (by decide)
  exact IntWalk.wrap64_in _ (by omega)
set_option maxRecDepth 100000 in
set_option maxHeartbeats 12800000 in
theorem lim_walk (n kd : Int) (w : World) :
    Calls Try.prog 3 #[.int .i64 n, .int .i64 kd] w fun e w' => e = .returned (.bool true) ∧ Below w.heap.size w w' := by
  go_enter Try.func3, Try.ntmps3
  go_upto_region 2 with fail
  obtain ⟨N, hN, hN2⟩ := tmod3 ⟨n, rfl⟩
  rw [wrap_tmod3, hN]
  generalize n.tmod 3 + 3 = y1 at *
  generalize n.tmod 3 = y2
  obtain ⟨X, hX⟩ : ∃ X, X = 767 + N := ⟨_, rfl⟩
  have hXi : (767 : Int) + (N : Int) = (X : Int) := by omega
  have hX9 : X ≤ 769 := by omega
  have hX7 : 767 ≤ X := by omega
  have HXN := Lib.hid hX
  have hmk := make_intsW w X (by omega)
  have HO := Lib.hid (Own.laid (k := .i64) (T := 3) w w.heap.size (Nat.le_refl _) (List.replicate X 0) X (by simp) (by omega))
  have HB := Lib.hid (box1W w (.cells ((List.replicate X 0).map (Value.int .i64)).toArray 3))
  obtain ⟨g, hg⟩ : ∃ g, g = w.heap.size := ⟨_, rfl⟩
  have HG := Lib.hid hg
  obtain ⟨w1, hw1⟩ : ∃ w1, w1 = w.alloc (.cells ((List.replicate X 0).map (Value.int .i64)).toArray 3) := ⟨_, rfl⟩
  rw [← hw1] at hmk HO HB
  rw [← hg] at hmk HO
  rw [← partW_zero 10000 X] at HO
  clear hw1 hN hX hg
  go_wp2_with fail
  clear hmk hXi
  go_loopw [25] (fun i wr => ∃ k : Nat, k ≤ X ∧ i = .int .i64 (k : Int) ∧ Hid (Own .i64 3 wr g (.slice (some ⟨g, 0, none⟩) X X) (partW 10000 X k)) ∧ Hid (Below g w wr)) (fun i _ => X - (intOf i).toNat)
  case atStart => exact ⟨0, by omega, rfl, HO, Lib.hid (by rw [HG.out]; exact HB.out)⟩
  case round =>
    clear HO HB
    obtain ⟨k, hk, rfl, O, B⟩ := hrel
    have hpl := partW_len 10000 X k hk
    by_cases hlt : k < X
    · have HPL := Lib.hid hpl
      have c0 := O.out.cell hpl.symm k (by omega)
      have f0 := O.out.frozen hpl.symm k
      have HST := Lib.hid (partW_set 10000 X k hlt)
      clear hpl
      go_wp2_with fail
      go_roundw
      case rel => exact ⟨k + 1, by omega, by go_num, Lib.hid (by rw [← HST.out]; exact O.out.store HPL.out.symm k 10000), Lib.hid (B.out.setCell (p := ⟨g, k, none⟩) (Nat.le_refl _) _)⟩
      case measure => simp [intOf] <;> omega
    · obtain rfl : k = X := by omega
      have OD : Hid (Own .i64 3 wr g (.slice (some ⟨g, 0, none⟩) k k) (List.replicate k 10000)) := Lib.hid (by rw [← partW_full]; exact O.out)
      obtain ⟨X, hXX⟩ : ∃ X, X = k := ⟨_, rfl⟩
      subst hXX
      generalize wr = wo at *
      have hmk := make_lists wo
      have HP := Lib.hid (PR.laid wo wo.heap.size (Nat.le_refl _) (List.replicate 16 nilD) 16 rfl (by decide))
      have OD2 := Lib.hid (OD.out.alloc (.cells (PR.flat (List.replicate 16 nilD)).toArray 22))
      have hgo : g ≤ wo.heap.size := by have := (own_block OD.out (g := g) rfl).2; omega
      have B2 := Lib.hid (B.out.alloc hgo (.cells (PR.flat (List.replicate 16 nilD)).toArray 22))
      obtain ⟨h, hh⟩ : ∃ h, h = wo.heap.size := ⟨_, rfl⟩
      have hgh : g < h := by have := (own_block OD.out (g := g) rfl).2; omega
      have HH := Lib.hid hh
      obtain ⟨w2, hw2⟩ : ∃ w2, w2 = wo.alloc (.cells (PR.flat (List.replicate 16 nilD)).toArray 22) := ⟨_, rfl⟩
      have hsz2 : h < w2.heap.size := by rw [hw2]; simp; omega
      rw [← hw2] at hmk HP OD2 B2
      rw [← hh] at hmk HP
      have HPA := Lib.hid (HP.out.alloc (.cells #[.int .i64 10000, .int .i64 10000, .int .i64 10000, .int .i64 10000, .int .i64 10000] 3))
      have c15 := PR.cell HPA.out (k := 15) (d := nilD) rfl
      have f15 := ROwn.frozen HPA.out rfl 15
      replace c15 : (w2.alloc (.cells #[.int .i64 10000, .int .i64 10000, .int .i64 10000, .int .i64 10000, .int .i64 10000] 3)).cell? ⟨h, 15, none⟩ = some (.slice none 0 0) := c15
      clear hw2 hh hlt hk hpl O OD B
      go_upto_region 11 with fail
      have PP3 := Lib.hid ((PR.store HP.out rfl 15 (some ⟨w2.heap.size, 0, none⟩, 5, 5)).alloc (.cells (five.map (Value.int .i64)).toArray 3))
      have hss : (w2.setCell ⟨h, 15, none⟩ (dscV (some ⟨w2.heap.size, 0, none⟩, 5, 5))).heap.size = w2.heap.size := World.size_setCell _ _ _
      have hF5 := Own.laid (k := .i64) (T := 3) (w2.setCell ⟨h, 15, none⟩ (dscV (some ⟨w2.heap.size, 0, none⟩, 5, 5))) h (by rw [hss]; omega) five 5 rfl (by decide)
      rw [hss] at hF5
      have F5 := Lib.hid hF5
      have B3 := Lib.hid ((B2.out.setCell (p := ⟨h, 15, none⟩) (by show g ≤ h; omega) (dscV (some ⟨w2.heap.size, 0, none⟩, 5, 5))).alloc (by rw [hss]; omega) (.cells (five.map (Value.int .i64)).toArray 3))
      have OD3 : Hid (Own .i64 3 (w2.setCell ⟨h, 15, none⟩ (dscV (some ⟨w2.heap.size, 0, none⟩, 5, 5))) g (.slice (some ⟨g, 0, none⟩) X X) (List.replicate X 10000)) := Lib.hid (OD2.out.kept (World.ownsRow.stored HP.out 15 (dscV (some ⟨w2.heap.size, 0, none⟩, 5, 5))).2 (Or.inr (by
        intro e
        have e : g = h := by simpa [Value.ownBlock] using e
        omega)))
      have OD4 := Lib.hid (OD3.out.alloc (.cells (five.map (Value.int .i64)).toArray 3))
      obtain ⟨f, hf⟩ : ∃ f, f = w2.heap.size := ⟨_, rfl⟩
      obtain ⟨w4, hw4⟩ : ∃ w4, w4 = (w2.setCell ⟨h, 15, none⟩ (dscV (some ⟨w2.heap.size, 0, none⟩, 5, 5))).alloc (.cells (five.map (Value.int .i64)).toArray 3) := ⟨_, rfl⟩
      have e4 : (w2.setCell ⟨h, 15, none⟩ (.slice (some ⟨w2.heap.size, 0, none⟩) 5 5)).alloc (.cells #[.int .i64 10000, .int .i64 10000, .int .i64 10000, .int .i64 10000, .int .i64 10000] 3) = w4 := hw4.symm
      rw [e4]
      rw [← hw4] at PP3 F5 B3 OD4
      rw [← hf] at PP3 F5 ⊢
      have hfh : h < f := by omega
      clear hw4 e4 hF5 hss hf c15 f15 HPA HP OD2 B2 OD3 hmk hsz2
      go_upto_region 15 with fail
      obtain ⟨K, hK, hK4⟩ := tmod5 ⟨kd, rfl⟩
      rw [wrap_tmod5, hK]
      generalize kd.tmod 5 + 5 = z1 at *
      generalize kd.tmod 5 = z2
      clear hK
      have HPB := Lib.hid (show PP w4 (some ⟨h, 0, none⟩) ps0 from PR.pp PP3.out (fun k p hk => by
        by_cases e : k = 15
        · subst e
          injection hk with hk
          subst hk
          exact ⟨_, rfl, rfl, own_rowL F5.out, by show 5 ≤ maxLen; decide⟩
        · have hk16 : k < 16 := (List.getElem?_eq_some_iff.1 hk).1
          rw [List.getElem?_set, if_neg (by omega), List.getElem?_replicate, if_pos hk16] at hk
          injection hk with hk
          subst hk
          exact ⟨nilD, by rw [List.getElem?_set, if_neg (by omega), List.getElem?_replicate, if_pos hk16], rfl, Row.nil, by decide⟩))
      rcases (by omega : K = 0 ∨ K = 1 ∨ K = 2 ∨ K = 3 ∨ K = 4) with rfl | rfl | rfl | rfl | rfl
      · by_cases h2 : N = 2
        · subst h2
          have HR := Lib.hid (show recR (List.replicate X 10000) ps0 5 = ([], 0, 3) from recR_bad' (recErr_big (Or.inl (by rw [List.length_replicate, HXN.out]; decide))) (by decide))
          have p1 := prec_is (d := (List.replicate X 10000)) (ps := ps0) (tol := 5) HR.out (some ⟨g, 0, none⟩) (some ⟨h, 0, none⟩) X X 16 16 w4 (by simp) rfl (own_rowL OD4.out) (by simp; unfold maxLen; omega) (by simp; try omega) HPB.out (by first | decide | (rw [List.length_set]; decide))
          go_wp2_with fail
          refine p1.mono ?_
          rintro e w5 ⟨⟨v5, rfl, O5⟩, B5⟩
          have HB5 := Lib.hid (B3.out.trans (B5.mono (Nat.le_trans (Nat.le_of_eq HG.out) B3.out.size)))
          obtain ⟨RA, rc, rfl, -⟩ := OwnI.read O5
          clear p1 O5 B5
          go_wp2_with fail
          refine (sane_any _).mono ?_
          rintro e w6 ⟨rfl, B6⟩
          go_wp2_with fail
          go_ret
          exact ⟨rfl, by rw [← HG.out]; exact HB5.out.trans (B6.mono (Nat.le_trans (Nat.le_of_eq HG.out) HB5.out.size))⟩
        · have h2i : ¬ (1 : Int) < (N : Int) := by omega
          have he := lim_err (d := List.replicate X 10000) (ps := ps0) (tol := 5) (by rw [List.length_replicate, HXN.out]; omega) (by decide) (fun p hp => by
            rcases List.mem_or_eq_of_mem_set hp with hp | rfl
            · obtain rfl := (List.mem_replicate.1 hp).2
              exact ⟨by decide, rfl⟩
            · exact ⟨by decide, by decide⟩) (okD_rep _ _ (by decide)) (by decide)
          obtain ⟨P, hR, hPl⟩ := lim_ok rfl (by decide) he
          rw [List.length_replicate] at hPl
          have HR := Lib.hid hR
          have ev : (((X + 1 : Nat) : Int) == (X : Int) + 1) = true := beq_iff_eq.2 rfl
          clear hR he
          have p1 := prec_is (d := (List.replicate X 10000)) (ps := ps0) (tol := 5) HR.out (some ⟨g, 0, none⟩) (some ⟨h, 0, none⟩) X X 16 16 w4 (by simp) rfl (own_rowL OD4.out) (by simp; unfold maxLen; omega) (by simp; try omega) HPB.out (by first | decide | (rw [List.length_set]; decide))
          go_wp2_with fail
          refine p1.mono ?_
          rintro e w5 ⟨⟨v5, rfl, O5⟩, B5⟩
          have HB5 := Lib.hid (B3.out.trans (B5.mono (Nat.le_trans (Nat.le_of_eq HG.out) B3.out.size)))
          obtain ⟨RA, rc, rfl, -⟩ := OwnI.read O5
          rw [hPl]
          clear p1 O5 B5
          go_wp2_with fail
          refine (sane_any _).mono ?_
          rintro e w6 ⟨rfl, B6⟩
          go_wp2_with fail
          go_ret
          exact ⟨rfl, by rw [← HG.out]; exact HB5.out.trans (B6.mono (Nat.le_trans (Nat.le_of_eq HG.out) HB5.out.size))⟩
      · have HD10 := Lib.hid (show Row .i64 w4 w4.heap.size (some ⟨g, 0, none⟩) (List.replicate 10 10000) from by
          have := (own_rowL OD4.out).take 10
          rwa [List.take_replicate, show min 10 X = 10 by omega] at this)
        have hx10 : (10 : Int) ≤ (X : Int) := by omega
        have hx10' : ¬ X = 0 := by omega
        by_cases h0 : N = 0
        · subst h0
          have he := lim_err (d := List.replicate 10 10000) (ps := ps0) (tol := 5) (by decide) (by decide) (fun p hp => by
            rcases List.mem_or_eq_of_mem_set hp with hp | rfl
            · obtain rfl := (List.mem_replicate.1 hp).2
              exact ⟨by decide, rfl⟩
            · exact ⟨by decide, by decide⟩) (okD_rep _ _ (by decide)) (by decide)
          obtain ⟨P, hR, hPl⟩ := lim_ok rfl (by decide) he
          have HR := Lib.hid hR
          clear hR he
          have ez : ((0 : Nat) : Int) = 0 := rfl
          have hap0 := app_zero (some ⟨h, 0, none⟩) w4
          rw [ez]
          clear ez
          have p1 := prec_is (d := (List.replicate 10 10000)) (ps := ps0) (tol := 5) HR.out (some ⟨g, 0, none⟩) (some ⟨h, 0, none⟩) 10 X 16 16 w4 (by simp) rfl HD10.out (by simp; unfold maxLen; omega) (by simp; try omega) HPB.out (by first | decide | (rw [List.length_set]; decide))
          go_wp2_with fail
          refine p1.mono ?_
          rintro e w5 ⟨⟨v5, rfl, O5⟩, B5⟩
          have HB5 := Lib.hid (B3.out.trans (B5.mono (Nat.le_trans (Nat.le_of_eq HG.out) B3.out.size)))
          obtain ⟨RA, rc, rfl, -⟩ := OwnI.read O5
          rw [hPl]
          clear p1 O5 B5
          go_wp2_with fail
          refine (sane_any _).mono ?_
          rintro e w6 ⟨rfl, B6⟩
          go_wp2_with fail
          go_ret
          exact ⟨rfl, by rw [← HG.out]; exact HB5.out.trans (B6.mono (Nat.le_trans (Nat.le_of_eq HG.out) HB5.out.size))⟩
        · obtain ⟨i0, hi, hz0, hz1, hz2⟩ := info_parts infoSl
          have hcap : Builtin.nextslicecap (16 + N) 16 ≤ 2 * (16 + N) := nextslicecap_le (by omega)
          have hap := Lib.run_append_grow_zeros (P := Try.prog) w4 23 3 23 22 i0 (.slice none 0 0) .i64 .i64 Try.underlying23 Try.underlying3 hi hz0 (some ⟨h, 0, none⟩) 16 16 (PR.flat ((List.replicate 16 nilD).set 15 (some ⟨f, 0, none⟩, 5, 5)))
            (by rw [hz1]; exact run_firstCells_some (P := Try.prog) w4.drew 1 16 ⟨h, 0, none⟩ 16 16 _ rfl (fun j v hj => by
              have hc := PR.vals (PP3.out.drewN 1) (j := j) (v := v) hj
              rw [add_own]; exact hc)) N (by omega) (by rw [hz1]; decide) (by omega) (by omega) (by rw [hz2]; omega) (by rw [hz2]; omega)
          obtain ⟨CAP, hCAP⟩ : ∃ c, c = grownCap w4 (16 + N) 16 22 := ⟨_, rfl⟩
          rw [← hCAP] at hap
          obtain ⟨w6, hw6⟩ : ∃ w6, w6 = w4.drew.alloc (.cells ((PR.flat ((List.replicate 16 nilD).set 15 (some ⟨f, 0, none⟩, 5, 5))).toArray ++ Builtin.zeroCells (Value.slice none 0 0).cells N ++ Builtin.zeroCells (Value.slice none 0 0).cells (CAP - (16 + N))) 22) := ⟨_, rfl⟩
          have HPD := Lib.hid (show PP w6 (some ⟨w4.heap.size, 0, none⟩) (ps0 ++ List.replicate N []) from by
            rw [hw6]
            exact grown_pp PP3.out (own_rowL F5.out) N _)
          have BQ := Lib.hid (show Below g w w6 from by rw [hw6]; exact (bdn (n := 1) B3.out).alloc (Nat.le_trans (Nat.le_of_eq HG.out) B3.out.size) _)
          have HD6 := Lib.hid (show Row .i64 w6 w6.heap.size (some ⟨g, 0, none⟩) (List.replicate 10 10000) from by rw [hw6]; exact (HD10.out.drewN 1).al _)
          rw [← hw6] at hap
          obtain ⟨h2, hh2⟩ : ∃ h2, h2 = w4.heap.size := ⟨_, rfl⟩
          rw [← hh2] at hap HPD
          have hn0 : (0 : Int) < (N : Int) := by omega
          have HR := Lib.hid (show recR (List.replicate 10 10000) (ps0 ++ List.replicate N []) 5 = ([], 0, 3) from recR_bad' (recErr_big (Or.inr (Or.inl (by rw [List.length_append, List.length_replicate]; show 16 < 16 + N; omega)))) (by decide))
          clear hw6 hh2 hCAP hcap hi hz0 hz1 hz2
          have p1 := prec_is (d := (List.replicate 10 10000)) (ps := (ps0 ++ List.replicate N [])) (tol := 5) HR.out (some ⟨g, 0, none⟩) (some ⟨h2, 0, none⟩) 10 X (16 + N) CAP w6 (by simp) (by rw [List.length_append, List.length_replicate]; rfl) HD6.out (by simp; unfold maxLen; omega) (by simp; try omega) HPD.out (by rw [List.length_append, List.length_replicate]; show 16 + N ≤ maxLen; unfold maxLen; omega)
          go_wp2_with (first | (at_builtin; refine wpList_run rfl (.tmp 75) (.tmp 76) #[23, 3] rfl _ _ _ rfl rfl hap ?_))
          refine p1.mono ?_
          rintro e w5 ⟨⟨v5, rfl, O5⟩, B5⟩
          have HB5 := Lib.hid (BQ.out.trans (B5.mono (Nat.le_trans (Nat.le_of_eq HG.out) BQ.out.size)))
          obtain ⟨RA, rc, rfl, -⟩ := OwnI.read O5
          clear p1 O5 B5
          go_wp2_with fail
          refine (sane_any _).mono ?_
          rintro e w6 ⟨rfl, B6⟩
          go_wp2_with fail
          go_ret
          exact ⟨rfl, by rw [← HG.out]; exact HB5.out.trans (B6.mono (Nat.le_trans (Nat.le_of_eq HG.out) HB5.out.size))⟩
      · obtain ⟨Y, hY⟩ : ∃ Y, Y = 4 + N := ⟨_, rfl⟩
        have hYi : (4 : Int) + (N : Int) = (Y : Int) := by omega
        have hmk3 := make_intsW w4 Y (by omega)
        have HO5 := Lib.hid (Own.laid (k := .i64) (T := 3) w4 w4.heap.size (Nat.le_refl _) (List.replicate Y 0) Y (by simp) (by omega))
        have PP5 := Lib.hid (PP3.out.alloc (.cells ((List.replicate Y 0).map (Value.int .i64)).toArray 3))
        have F55 := Lib.hid (F5.out.alloc (.cells ((List.replicate Y 0).map (Value.int .i64)).toArray 3))
        have OD5 := Lib.hid (OD4.out.alloc (.cells ((List.replicate Y 0).map (Value.int .i64)).toArray 3))
        have hgw4 : g ≤ w4.heap.size := Nat.le_trans (Nat.le_of_eq HG.out) B3.out.size
        have HYN := Lib.hid hY
        have hY8 : Y ≤ 6 := by omega
        have hfw4 : f < w4.heap.size := (own_block F5.out (g := f) rfl).2
        have B5 := Lib.hid (B3.out.alloc hgw4 (.cells ((List.replicate Y 0).map (Value.int .i64)).toArray 3))
        obtain ⟨f2, hf2⟩ : ∃ f2, f2 = w4.heap.size := ⟨_, rfl⟩
        obtain ⟨w5, hw5⟩ : ∃ w5, w5 = w4.alloc (.cells ((List.replicate Y 0).map (Value.int .i64)).toArray 3) := ⟨_, rfl⟩
        rw [← hw5] at hmk3 HO5 PP5 F55 OD5 B5
        rw [← hf2] at hmk3 HO5 hfw4
        rw [← partW_zero 1 Y] at HO5
        have c3 := PR.cell PP5.out (k := 3) (d := nilD) rfl
        have f3 := ROwn.frozen PP5.out rfl 3
        replace c3 : w5.cell? ⟨h, 3, none⟩ = some (.slice none 0 0) := c3
        have hx10 : (10 : Int) ≤ (X : Int) := by omega
        have hx10' : ¬ X = 0 := by omega
        have PP6 := Lib.hid (PR.store PP5.out rfl 3 (some ⟨f2, 0, none⟩, Y, Y))
        have hst := (World.ownsRow.stored PP5.out 3 (dscV (some ⟨f2, 0, none⟩, Y, Y))).2
        have OD6 := Lib.hid (OD5.out.kept hst (Or.inr (by intro e; have e : g = h := (by simpa [Value.ownBlock] using e); omega)))
        have F6 := Lib.hid (F55.out.kept hst (Or.inr (by intro e; have e : f = h := (by simpa [Value.ownBlock] using e); omega)))
        have O6 := Lib.hid (HO5.out.kept hst (Or.inr (by intro e; have e : f2 = h := (by simpa [Value.ownBlock] using e); omega)))
        have B6 := Lib.hid (B5.out.setCell (p := ⟨h, 3, none⟩) (by show g ≤ h; omega) (dscV (some ⟨f2, 0, none⟩, Y, Y)))
        have HHF := Lib.hid (And.intro hgh (And.intro hfh hfw4))
        clear hw5 hf2 hst hY
        go_wp2_with fail
        clear hmk3 c3 f3
        go_loopw [93] (fun i wr => ∃ k : Nat, k ≤ Y ∧ i = .int .i64 (k : Int) ∧ Hid (ROwn PR 22 wr h (.slice (some ⟨h, 0, none⟩) 16 16) (((List.replicate 16 nilD).set 15 (some ⟨f, 0, none⟩, 5, 5)).set 3 (some ⟨f2, 0, none⟩, Y, Y))) ∧ Hid (Own .i64 3 wr f2 (.slice (some ⟨f2, 0, none⟩) Y Y) (partW 1 Y k)) ∧ Hid (Own .i64 3 wr g (.slice (some ⟨g, 0, none⟩) X X) (List.replicate X 10000)) ∧ Hid (Own .i64 3 wr h (.slice (some ⟨f, 0, none⟩) 5 5) five) ∧ Hid (Below g w wr)) (fun i _ => Y - (intOf i).toNat)
        case atStart => exact ⟨0, by omega, rfl, PP6, O6, OD6, F6, B6⟩
        case round =>
          clear PP6 O6 OD6 F6 B6 PP5 HO5 F55 OD5 B5
          obtain ⟨k, hk, rfl, PQ, O, OD, F, B⟩ := hrel
          have hpl := partW_len 1 Y k hk
          have c3 := PR.cell PQ.out (k := 3) (d := (some ⟨f2, 0, none⟩, Y, Y)) rfl
          replace c3 : wr.cell? ⟨h, 3, none⟩ = some (.slice (some ⟨f2, 0, none⟩) Y Y) := c3
          by_cases hlt : k < Y
          · have HPL := Lib.hid hpl
            have c0 := O.out.cell hpl.symm k (by omega)
            have f0 := O.out.frozen hpl.symm k
            have HST := Lib.hid (partW_set 1 Y k hlt)
            have hst := (World.ownsRow.stored (show wr.ownsRow f2 3 1 (.slice (some ⟨f2, 0, none⟩) (partW 1 Y k).length Y) (partW 1 Y k).length ((partW 1 Y k).map (Value.int .i64)) by have := O.out; unfold Own at this; rw [hpl] at this ⊢; exact this) k (.int .i64 1)).2
            have PQ2 := Lib.hid (PQ.out.kept hst (Or.inr (by intro e; have e : h = f2 := (by simpa [Value.ownBlock] using e); have := HHF.out; omega)))
            have OD2 := Lib.hid (OD.out.kept hst (Or.inr (by intro e; have e : g = f2 := (by simpa [Value.ownBlock] using e); have := HHF.out; omega)))
            have F2 := Lib.hid (F.out.kept hst (Or.inr (by intro e; have e : f = f2 := (by simpa [Value.ownBlock] using e); have := HHF.out; omega)))
            have B2 := Lib.hid (B.out.setCell (p := ⟨f2, k, none⟩) (by show g ≤ f2; have := HHF.out; omega) (.int .i64 1))
            have kY : (k : Int) < (Y : Int) := by omega
            clear hpl hst
            go_wp2_with fail
            go_roundw
            case rel => exact ⟨k + 1, by omega, by go_num, PQ2, Lib.hid (by rw [← HST.out]; exact O.out.store HPL.out.symm k 1), OD2, F2, B2⟩
            case measure => simp [intOf] <;> omega
          · obtain rfl : k = Y := by omega
            have OY : Hid (Own .i64 3 wr f2 (.slice (some ⟨f2, 0, none⟩) k k) (List.replicate k 1)) := Lib.hid (by rw [← partW_full]; exact O.out)
            have HPQ := Lib.hid (show PP wr (some ⟨h, 0, none⟩) (ps0.set 3 (List.replicate k 1)) from PR.pp PQ.out (fun j p hj => by
              by_cases e3 : j = 3
              · subst e3
                injection hj with hj
                subst hj
                exact ⟨_, rfl, by rw [List.length_replicate], own_rowL OY.out, by rw [List.length_replicate]; unfold maxLen; omega⟩
              · rw [List.getElem?_set, if_neg (by omega)] at hj
                by_cases e : j = 15
                · subst e
                  injection hj with hj
                  subst hj
                  exact ⟨_, rfl, rfl, own_rowL F.out, by show 5 ≤ maxLen; decide⟩
                · have hk16 : j < 16 := (List.getElem?_eq_some_iff.1 hj).1
                  rw [List.getElem?_set, if_neg (by omega), List.getElem?_replicate, if_pos hk16] at hj
                  injection hj with hj
                  subst hj
                  exact ⟨nilD, by rw [List.getElem?_set, if_neg (by omega), List.getElem?_set, if_neg (by omega), List.getElem?_replicate, if_pos hk16], rfl, Row.nil, by decide⟩))
            have HD10 := Lib.hid (show Row .i64 wr wr.heap.size (some ⟨g, 0, none⟩) (List.replicate 10 10000) from by
              have := (own_rowL OD.out).take 10
              rwa [List.take_replicate, show min 10 X = 10 by omega] at this)
            clear hlt hk hpl c3 PQ O F OY OD hYi
            by_cases h2 : N = 2
            · subst h2
              have HR := Lib.hid (show recR (List.replicate 10 10000) (ps0.set 3 (List.replicate k 1)) 5 = ([], 0, 3) from recR_bad' (recErr_big (Or.inr (Or.inr (List.any_eq_true.2 ⟨List.replicate k 1, List.mem_of_getElem? (show (ps0.set 3 (List.replicate k 1))[3]? = some _ from rfl), decide_eq_true (by rw [List.length_replicate, HYN.out]; decide)⟩)))) (by decide))
              have p1 := prec_is (d := (List.replicate 10 10000)) (ps := (ps0.set 3 (List.replicate k 1))) (tol := 5) HR.out (some ⟨g, 0, none⟩) (some ⟨h, 0, none⟩) 10 X 16 16 wr (by simp) rfl HD10.out (by simp; unfold maxLen; omega) (by simp; try omega) HPQ.out (by first | decide | (rw [List.length_set]; decide))
              go_wp2_with fail
              refine p1.mono ?_
              rintro e w5 ⟨⟨v5, rfl, O5⟩, B5⟩
              have HB5 := Lib.hid (B.out.trans (B5.mono (Nat.le_trans (Nat.le_of_eq HG.out) B.out.size)))
              obtain ⟨RA, rc, rfl, -⟩ := OwnI.read O5
              clear p1 O5 B5
              go_wp2_with fail
              refine (sane_any _).mono ?_
              rintro e w6 ⟨rfl, B6⟩
              go_wp2_with fail
              go_ret
              exact ⟨rfl, by rw [← HG.out]; exact HB5.out.trans (B6.mono (Nat.le_trans (Nat.le_of_eq HG.out) HB5.out.size))⟩
            · have h2i : ¬ (1 : Int) < (N : Int) := by omega
              have he := lim_err (d := List.replicate 10 10000) (ps := ps0.set 3 (List.replicate k 1)) (tol := 5) (by decide) (by rw [List.length_set]; decide) (fun p hp => by
            rcases List.mem_or_eq_of_mem_set hp with hp | rfl
            · rcases List.mem_or_eq_of_mem_set hp with hp | rfl
              · obtain rfl := (List.mem_replicate.1 hp).2
                exact ⟨by decide, rfl⟩
              · exact ⟨by decide, by decide⟩
            · exact ⟨by rw [List.length_replicate, HYN.out]; omega, okD_rep _ _ (by decide)⟩) (okD_rep _ _ (by decide)) (by decide)
              obtain ⟨P, hR, hPl⟩ := lim_ok rfl (by rw [List.length_set]; decide) he
              have HR := Lib.hid hR
              clear hR he
              have p1 := prec_is (d := (List.replicate 10 10000)) (ps := (ps0.set 3 (List.replicate k 1))) (tol := 5) HR.out (some ⟨g, 0, none⟩) (some ⟨h, 0, none⟩) 10 X 16 16 wr (by simp) rfl HD10.out (by simp; unfold maxLen; omega) (by simp; try omega) HPQ.out (by first | decide | (rw [List.length_set]; decide))
              go_wp2_with fail
              refine p1.mono ?_
              rintro e w5 ⟨⟨v5, rfl, O5⟩, B5⟩
              have HB5 := Lib.hid (B.out.trans (B5.mono (Nat.le_trans (Nat.le_of_eq HG.out) B.out.size)))
              obtain ⟨RA, rc, rfl, -⟩ := OwnI.read O5
              rw [hPl]
              clear p1 O5 B5
              go_wp2_with fail
              refine (sane_any _).mono ?_
              rintro e w6 ⟨rfl, B6⟩
              go_wp2_with fail
              go_ret
              exact ⟨rfl, by rw [← HG.out]; exact HB5.out.trans (B6.mono (Nat.le_trans (Nat.le_of_eq HG.out) HB5.out.size))⟩
      · have hx10 : (10 : Int) ≤ (X : Int) := by omega
        have hx10' : ¬ X = 0 := by omega
        have hXl : (List.replicate X (10000 : Int)).length = X := List.length_replicate
        have c5 := OD4.out.cell hXl.symm 5 (by omega)
        have f5 := OD4.out.frozen hXl.symm 5
        have e5 : (List.replicate X (10000 : Int)).getD 5 0 = 10000 := by rw [List.getD_eq_getElem?_getD, List.getElem?_replicate, if_pos (by omega)]; rfl
        rw [e5] at c5
        have hst := fun v => (World.ownsRow.stored (show w4.ownsRow g 3 1 (.slice (some ⟨g, 0, none⟩) (List.replicate X (10000 : Int)).length X) (List.replicate X (10000 : Int)).length ((List.replicate X (10000 : Int)).map (Value.int .i64)) by have := OD4.out; unfold Own at this; rw [hXl] at this ⊢; exact this) 5 v).2
        have HST := Lib.hid hst
        have HXL := Lib.hid hXl
        clear hst hXl e5
        by_cases h0 : N = 0
        · subst h0
          have P5 := Lib.hid (PP3.out.kept (HST.out (.int .i64 10000)) (Or.inr (by intro e; have e : h = g := (by simpa [Value.ownBlock] using e); omega)))
          have F55 := Lib.hid (F5.out.kept (HST.out (.int .i64 10000)) (Or.inr (by intro e; have e : f = g := (by simpa [Value.ownBlock] using e); omega)))
          have HPC := Lib.hid (show PP (w4.setCell ⟨g, 5, none⟩ (.int .i64 10000)) (some ⟨h, 0, none⟩) ps0 from PR.pp P5.out (fun k p hk => by
            by_cases e : k = 15
            · subst e
              injection hk with hk
              subst hk
              exact ⟨_, rfl, rfl, own_rowL F55.out, by show 5 ≤ maxLen; decide⟩
            · have hk16 : k < 16 := (List.getElem?_eq_some_iff.1 hk).1
              rw [List.getElem?_set, if_neg (by omega), List.getElem?_replicate, if_pos hk16] at hk
              injection hk with hk
              subst hk
              exact ⟨nilD, by rw [List.getElem?_set, if_neg (by omega), List.getElem?_replicate, if_pos hk16], rfl, Row.nil, by decide⟩))
          have HD10 := Lib.hid (show Row .i64 (w4.setCell ⟨g, 5, none⟩ (.int .i64 10000)) (w4.setCell ⟨g, 5, none⟩ (.int .i64 10000)).heap.size (some ⟨g, 0, none⟩) (List.replicate 10 10000) from by
            have := (own_rowL (OD4.out.store HXL.out.symm 5 10000)).take 10
            rwa [List.take_set, List.take_replicate, show min 10 X = 10 by omega] at this)
          have BQ := Lib.hid (B3.out.setCell (p := ⟨g, 5, none⟩) (Nat.le_refl g) (.int .i64 10000))
          have he := lim_err (d := List.replicate 10 10000) (ps := ps0) (tol := 5) (by decide) (by decide) (fun p hp => by
            rcases List.mem_or_eq_of_mem_set hp with hp | rfl
            · obtain rfl := (List.mem_replicate.1 hp).2
              exact ⟨by decide, rfl⟩
            · exact ⟨by decide, by decide⟩) (okD_rep _ _ (by decide)) (by decide)
          obtain ⟨P, hR, hPl⟩ := lim_ok rfl (by decide) he
          have HR := Lib.hid hR
          clear hR he
          have p1 := prec_is (d := (List.replicate 10 10000)) (ps := ps0) (tol := 5) HR.out (some ⟨g, 0, none⟩) (some ⟨h, 0, none⟩) 10 X 16 16 (w4.setCell ⟨g, 5, none⟩ (.int .i64 10000)) (by simp) rfl HD10.out (by simp; unfold maxLen; omega) (by simp; try omega) HPC.out (by first | decide | (rw [List.length_set]; decide))
          go_wp2_with fail
          refine p1.mono ?_
          rintro e w5 ⟨⟨v5, rfl, O5⟩, B5⟩
          have HB5 := Lib.hid (BQ.out.trans (B5.mono (Nat.le_trans (Nat.le_of_eq HG.out) BQ.out.size)))
          obtain ⟨RA, rc, rfl, -⟩ := OwnI.read O5
          rw [hPl]
          clear p1 O5 B5
          go_wp2_with fail
          refine (sane_any _).mono ?_
          rintro e w6 ⟨rfl, B6⟩
          go_wp2_with fail
          go_ret
          exact ⟨rfl, by rw [← HG.out]; exact HB5.out.trans (B6.mono (Nat.le_trans (Nat.le_of_eq HG.out) HB5.out.size))⟩
        · obtain ⟨V, hV⟩ : ∃ V : Int, V = 10000 + (N : Int) := ⟨_, rfl⟩
          have P5 := Lib.hid (PP3.out.kept (HST.out (.int .i64 V)) (Or.inr (by intro e; have e : h = g := (by simpa [Value.ownBlock] using e); omega)))
          have F55 := Lib.hid (F5.out.kept (HST.out (.int .i64 V)) (Or.inr (by intro e; have e : f = g := (by simpa [Value.ownBlock] using e); omega)))
          have HPC := Lib.hid (show PP (w4.setCell ⟨g, 5, none⟩ (.int .i64 V)) (some ⟨h, 0, none⟩) ps0 from PR.pp P5.out (fun k p hk => by
            by_cases e : k = 15
            · subst e
              injection hk with hk
              subst hk
              exact ⟨_, rfl, rfl, own_rowL F55.out, by show 5 ≤ maxLen; decide⟩
            · have hk16 : k < 16 := (List.getElem?_eq_some_iff.1 hk).1
              rw [List.getElem?_set, if_neg (by omega), List.getElem?_replicate, if_pos hk16] at hk
              injection hk with hk
              subst hk
              exact ⟨nilD, by rw [List.getElem?_set, if_neg (by omega), List.getElem?_replicate, if_pos hk16], rfl, Row.nil, by decide⟩))
          have HD10 := Lib.hid (show Row .i64 (w4.setCell ⟨g, 5, none⟩ (.int .i64 V)) (w4.setCell ⟨g, 5, none⟩ (.int .i64 V)).heap.size (some ⟨g, 0, none⟩) ((List.replicate 10 10000).set 5 V) from by
            have := (own_rowL (OD4.out.store HXL.out.symm 5 V)).take 10
            rwa [List.take_set, List.take_replicate, show min 10 X = 10 by omega] at this)
          have BQ := Lib.hid (B3.out.setCell (p := ⟨g, 5, none⟩) (Nat.le_refl g) (.int .i64 V))
          have hn0 : (0 : Int) < (N : Int) := by omega
          have HR := Lib.hid (show recR ((List.replicate 10 10000).set 5 V) ps0 5 = ([], 0, 2) from recR_bad' (lim_rng (by rw [List.length_set]; decide) (by decide) (fun p hp => by
            rcases List.mem_or_eq_of_mem_set hp with hp | rfl
            · obtain rfl := (List.mem_replicate.1 hp).2
              decide
            · decide) (Or.inl (okD_bad (z := V) (List.mem_of_getElem? (show ((List.replicate 10 (10000 : Int)).set 5 V)[5]? = some V from rfl)) (by omega)))) (by decide))
          rw [hV] at P5 F55 HPC HD10 BQ HR
          clear hV
          have p1 := prec_is (d := ((List.replicate 10 10000).set 5 (10000 + (N : Int)))) (ps := ps0) (tol := 5) HR.out (some ⟨g, 0, none⟩) (some ⟨h, 0, none⟩) 10 X 16 16 (w4.setCell ⟨g, 5, none⟩ (.int .i64 (10000 + (N : Int)))) (by simp) rfl HD10.out (by simp; unfold maxLen; omega) (by simp; try omega) HPC.out (by first | decide | (rw [List.length_set]; decide))
          go_wp2_with fail
          refine p1.mono ?_
          rintro e w5 ⟨⟨v5, rfl, O5⟩, B5⟩
          have HB5 := Lib.hid (BQ.out.trans (B5.mono (Nat.le_trans (Nat.le_of_eq HG.out) BQ.out.size)))
          obtain ⟨RA, rc, rfl, -⟩ := OwnI.read O5
          clear p1 O5 B5
          go_wp2_with fail
          refine (sane_any _).mono ?_
          rintro e w6 ⟨rfl, B6⟩
          go_wp2_with fail
          go_ret
          exact ⟨rfl, by rw [← HG.out]; exact HB5.out.trans (B6.mono (Nat.le_trans (Nat.le_of_eq HG.out) HB5.out.size))⟩
      · have HD10 := Lib.hid (show Row .i64 w4 w4.heap.size (some ⟨g, 0, none⟩) (List.replicate 10 10000) from by
          have := (own_rowL OD4.out).take 10
          rwa [List.take_replicate, show min 10 X = 10 by omega] at this)
        have hx10 : (10 : Int) ≤ (X : Int) := by omega
        have hx10' : ¬ X = 0 := by omega
        by_cases h0 : N = 0
        · subst h0
          have he := lim_err (d := List.replicate 10 10000) (ps := ps0) (tol := 10000) (by decide) (by decide) (fun p hp => by
            rcases List.mem_or_eq_of_mem_set hp with hp | rfl
            · obtain rfl := (List.mem_replicate.1 hp).2
              exact ⟨by decide, rfl⟩
            · exact ⟨by decide, by decide⟩) (okD_rep _ _ (by decide)) (by decide)
          obtain ⟨P, hR, hPl⟩ := lim_ok rfl (by decide) he
          have HR := Lib.hid hR
          clear hR he
          have p1 := prec_is (d := (List.replicate 10 10000)) (ps := ps0) (tol := 10000) HR.out (some ⟨g, 0, none⟩) (some ⟨h, 0, none⟩) 10 X 16 16 w4 (by simp) rfl HD10.out (by simp; unfold maxLen; omega) (by simp; try omega) HPB.out (by first | decide | (rw [List.length_set]; decide))
          go_wp2_with fail
          refine p1.mono ?_
          rintro e w5 ⟨⟨v5, rfl, O5⟩, B5⟩
          have HB5 := Lib.hid (B3.out.trans (B5.mono (Nat.le_trans (Nat.le_of_eq HG.out) B3.out.size)))
          obtain ⟨RA, rc, rfl, -⟩ := OwnI.read O5
          rw [hPl]
          clear p1 O5 B5
          go_wp2_with fail
          refine (sane_any _).mono ?_
          rintro e w6 ⟨rfl, B6⟩
          go_wp2_with fail
          go_ret
          exact ⟨rfl, by rw [← HG.out]; exact HB5.out.trans (B6.mono (Nat.le_trans (Nat.le_of_eq HG.out) HB5.out.size))⟩
        · have HR := Lib.hid (show recR (List.replicate 10 10000) ps0 (10000 + (N : Int)) = ([], 0, 2) from recR_bad' (lim_rng (by decide) (by decide) (fun p hp => by
            rcases List.mem_or_eq_of_mem_set hp with hp | rfl
            · obtain rfl := (List.mem_replicate.1 hp).2
              decide
            · decide) (Or.inr (by omega))) (by decide))
          have hn0 : ((N : Int) == 0) = false := beq_eq_false_iff_ne.2 (by omega)
          have p1 := prec_is (d := (List.replicate 10 10000)) (ps := ps0) (tol := (10000 + (N : Int))) HR.out (some ⟨g, 0, none⟩) (some ⟨h, 0, none⟩) 10 X 16 16 w4 (by simp) rfl HD10.out (by simp; unfold maxLen; omega) (by simp; try omega) HPB.out (by first | decide | (rw [List.length_set]; decide))
          go_wp2_with fail
          refine p1.mono ?_
          rintro e w5 ⟨⟨v5, rfl, O5⟩, B5⟩
          have HB5 := Lib.hid (B3.out.trans (B5.mono (Nat.le_trans (Nat.le_of_eq HG.out) B3.out.size)))
          obtain ⟨RA, rc, rfl, -⟩ := OwnI.read O5
          clear p1 O5 B5
          go_wp2_with fail
          refine (sane_any _).mono ?_
          rintro e w6 ⟨rfl, B6⟩
          go_wp2_with fail
          go_ret
          exact ⟨rfl, by rw [← HG.out]; exact HB5.out.trans (B6.mono (Nat.le_trans (Nat.le_of_eq HG.out) HB5.out.size))⟩
end Go.Proofs.Ytgiodpepjajlmaa
