/-
  Stage 8: the program's Potential.
-/
import Derived.Test.YtbdiilkdajadcaaDoorRBest
import Derived.Test.YtbdiilkdajadcaaDoorRCwp
import Derived.Test.YtbdiilkdajadcaaDoorRTail
import Derived.Test.YtbdiilkdajadcaaDoorRCost
import Derived.Test.YtbdiilkdajadcaaDoorRMarks
set_option linter.unusedSimpArgs false
set_option linter.unusedVariables false
namespace Go.Proofs.YtbdiilkdajadcaaDoor
open Go.RowKit Go.Shelf
attribute [local go_sem] Oper.semAt_some

theorem PInv.congrD {a b : List Int} {i j : Nat} {D D' : Nat → Prop} {T : Nat → Nat → Int} (h : PInv a b i j D T) (hD : ∀ m, D m ↔ D' m) : PInv a b i j D' T := by
  obtain rfl : D = D' := funext fun m => propext (hD m)
  exact h
/-- What the loops keep. -/
structure PSt (a b : List Int) (w : World) (PB : Nat) (rb rc : Nat → Nat) (i j : Nat) (D : Nat → Prop) (wr : World) : Prop where
  bel : Below w.heap.size w wr
  pb : wr.cell? ⟨PB, 0, none⟩ = some (.slice (some ⟨w.heap.size, 0, none⟩) (a.length + 1) (a.length + 1))
  tab : ∃ T, Tab IR 3 wr w.heap.size w.heap.size (a.length + 1) (b.length + 1) (a.length + 1) rb rc T ∧ PInv a b i j D T
theorem PSt.under {a b : List Int} {w : World} {PB : Nat} {rb rc : Nat → Nat} {i j : Nat} {D : Nat → Prop} {wr wr' : World} (h : PSt a b w PB rb rc i j D wr) {B : Nat} (k : Below B wr wr') (hs : wr.heap.size ≤ wr'.heap.size) (hB : PB < B) (hw : w.heap.size < B) (hr : ∀ i, i < a.length + 1 → rb i < PB) : PSt a b w PB rb rc i j D wr' :=
  ⟨h.bel.trans (k.mono (by omega)), (k.cell (p := ⟨PB, 0, none⟩) hB).trans h.pb, by
    obtain ⟨T, t1, t2⟩ := h.tab
    exact ⟨T, t1.under k hs hw (fun i hi => Nat.lt_trans (hr i hi) hB), t2⟩⟩
theorem PSt.below {a b : List Int} {w : World} {PB : Nat} {rb rc : Nat → Nat} {i j : Nat} {D : Nat → Prop} {wr wr' : World} (h : PSt a b w PB rb rc i j D wr) (k : Below wr.heap.size wr wr') : PSt a b w PB rb rc i j D wr' :=
  ⟨h.bel.trans (k.mono h.bel.size), (k.cell (p := ⟨PB, 0, none⟩) (lt_of_cell h.pb)).trans h.pb, by
    obtain ⟨T, t1, t2⟩ := h.tab
    exact ⟨T, t1.below k, t2⟩⟩
theorem keeps_below {w w' : World} (k : Below w.heap.size w w') : KeepsFrom 0 w w' := ⟨k.size, fun i o _ hi _ => (k.block i (Array.getElem?_eq_some_iff.1 hi).1).trans hi⟩
set_option maxRecDepth 100000 in
set_option maxHeartbeats 6400000 in
theorem pot_any (a b : List Int) (A B : Option Addr) (ca cb : Nat) (w : World) (hK : Knd w) (la : a.length ≤ 1000000000) (lb : b.length ≤ 1000000000) (ha : Row .i64 w w.heap.size A a) (hb : Row .i64 w w.heap.size B b) (hca : a.length ≤ ca) (hcb : b.length ≤ cb) :
    Calls Tryd.prog 10 #[.slice A a.length ca, .slice B b.length cb] w (PotPost a b w) := by
  have HL := Lib.hid (long_any A B a.length ca b.length cb w la lb)
  by_cases hl : lngP a b
  · rw [decide_eq_true (show 96 < a.length ∨ 96 < b.length from hl)] at HL
    have HF := Lib.hid (show PotPost a b w (.returned (.tuple #[.slice none 0 0, .int .i64 3])) w from ⟨by rw [if_pos hl], Below.refl _ _⟩)
    clear hl
    go_enter Tryd.func10, Tryd.ntmps10
    go_wp2_with (first | (go_at_call 24; refine HL.out.mono ?_; rintro e w' ⟨rfl, rfl⟩))
    refine bodyPost_ret (results_tmp2R rfl _ _ _ _ rfl rfl) rfl ?_
    exact HF.out
  rw [decide_eq_false (show ¬ (96 < a.length ∨ 96 < b.length) from hl)] at HL
  have l1 : a.length ≤ 96 := by unfold lngP at hl; omega
  have l2 : b.length ≤ 96 := by unfold lngP at hl; omega
  have HNL := Lib.hid hl
  have HC := Lib.hid (cwp_any A B a.length ca b.length cb w hK l1 l2)
  have HK := Lib.hid hK
  have HA := Lib.hid ha
  have HB := Lib.hid hb
  clear ha hb hK hl la lb
  refine (callsIn_wide (n := 9)).1 ?_
  refine callsIn_of_wp_marks Tryd.func10 rfl trivial ?_ rfl
  simp only [Tryd.ntmps10, List.size_toArray, List.length_cons, List.length_nil, Nat.reduceAdd, Nat.reduceSub, Array.replicate_succ, Array.replicate_zero, List.push_toArray, List.append_toArray, List.nil_append, List.cons_append]
  gi_wp2_with (first | (refine ⟨trivial, ?_⟩; gi_at_call 24; refine (callsIn_wide.2 HL.out).mono ?_; rintro e w' ⟨rfl, rfl⟩) | (refine ⟨trivial, ?_⟩; gi_at_call 27; refine (callsIn_wide.2 HC.out).mono ?_; rintro e w1 ⟨rfl, ⟨rb, rc, HT1⟩, HB1⟩))
  obtain ⟨PB, hPB⟩ : ∃ PB, PB = w1.heap.size := ⟨_, rfl⟩
  have HRB := Lib.hid (show ∀ i, i < a.length + 1 → rb i < PB from fun i hi => by rw [hPB]; exact (HT1.rlt hi).2)
  have HWP := Lib.hid (show w.heap.size < PB from by rw [hPB]; exact HT1.glt)
  have HP0 := Lib.hid (show PSt a b w PB rb rc 0 0 (fun _ => False) (w1.alloc (.cells #[.slice (some ⟨w.heap.size, 0, none⟩) (a.length + 1) (a.length + 1)] 26)) from
    ⟨HB1.alloc HB1.size _, by rw [hPB, cell_new]; rfl, _, HT1.below ((Below.refl _ w1).alloc (Nat.le_refl _) _), PInv.start⟩)
  rw [← hPB]
  clear HT1 HB1 hPB HC HL
  generalize w1.alloc (.cells #[.slice (some ⟨w.heap.size, 0, none⟩) (a.length + 1) (a.length + 1)] 26) = w2 at *
  refine wpIn_loop (fun ac wr => ∃ (i : Nat) (u7 u8 u10 u11 u21 u22 u23 u24 u25 u26 u27 u28 u29 u30 u31 u32 u33 u34 u35 u36 u37 u38 u39 u40 u41 u42 u43 u44 u45 u46 u47 u48 u49 u50 u51 u52 u53 u54 u55 u56 u57 u58 u59 u60 u61 u62 u63 u64 u65 u66 u67 u68 u69 : Value) (ds : List Deferred), ac = { tmps := #[.slice A a.length ca, .slice B b.length cb, undef, undef, .slice none 0 0, .int .i64 0, .pointer (some ⟨PB, 0, none⟩), u7, u8, undef, u10, u11, .slice A a.length ca, .slice B b.length cb, .bool false, .slice A a.length ca, .slice B b.length cb, .slice (some ⟨w.heap.size, 0, none⟩) (a.length + 1) (a.length + 1), .slice (some ⟨w.heap.size, 0, none⟩) (a.length + 1) (a.length + 1), .int .i64 ((a.length : Int) + 1), .int .i64 (i : Int), u21, u22, u23, u24, u25, u26, u27, u28, u29, u30, u31, u32, u33, u34, u35, u36, u37, u38, u39, u40, u41, u42, u43, u44, u45, u46, u47, u48, u49, u50, u51, u52, u53, u54, u55, u56, u57, u58, u59, u60, u61, u62, u63, u64, u65, u66, u67, u68, u69, undef], defers := ds } ∧ i ≤ a.length + 1 ∧ Hid (PSt a b w PB rb rc i 0 (fun _ => False) wr) ∧ Hid (Mks w.heap.size wr ds)) (fun ac _ => (a.length + 1) - (intOf (ac.tmps.getD 20 undef)).toNat) ?start1 ?round1
  case start1 => exact ⟨0, _, _, _, _, _, _, _, _, _, _, _, _, _, _, _, _, _, _, _, _, _, _, _, _, _, _, _, _, _, _, _, _, _, _, _, _, _, _, _, _, _, _, _, _, _, _, _, _, _, _, _, _, _, [], rfl, by omega, HP0, Lib.hid trivial⟩
  case round1 =>
    clear HP0
    rintro ac wr ⟨i, u7, u8, u10, u11, u21, u22, u23, u24, u25, u26, u27, u28, u29, u30, u31, u32, u33, u34, u35, u36, u37, u38, u39, u40, u41, u42, u43, u44, u45, u46, u47, u48, u49, u50, u51, u52, u53, u54, u55, u56, u57, u58, u59, u60, u61, u62, u63, u64, u65, u66, u67, u68, u69, ds, rfl, hi, HP, HM⟩
    by_cases hlt : i < a.length + 1
    · have i1 : (i : Int) < (a.length : Int) + 1 := by omega
      have i0 : (0 : Int) ≤ (i : Int) := by omega
      obtain ⟨w3, hw3⟩ : ∃ w3, w3 = wr.alloc (.cells #[.int .i64 (i : Int)] 3) := ⟨_, rfl⟩
      have b3 : Below wr.heap.size wr w3 := by rw [hw3]; exact (Below.refl _ _).alloc (Nat.le_refl _) _
      have HP3 := Lib.hid (HP.out.below b3)
      have HM3 := Lib.hid (HM.out.keeps (keeps_below b3))
      obtain ⟨Bi, hBi⟩ : ∃ Bi, Bi = wr.heap.size := ⟨_, rfl⟩
      have HBL := Lib.hid (show PB < Bi ∧ Bi < w3.heap.size from by rw [hBi, hw3]; exact ⟨lt_of_cell HP.out.pb, by simp⟩)
      have c7 : w3.cell? ⟨Bi, 0, none⟩ = some (.int .i64 (i : Int)) := by rw [hw3, hBi, cell_new]; rfl
      have c6 := HP3.out.pb
      obtain ⟨T3, t3, -⟩ := HP3.out.tab
      have oc := t3.out i hlt
      rw [hw3, hBi] at c7
      rw [hw3] at c6 oc
      clear t3 b3 HP HM
      gi_wp2
      rw [← hBi]
      rw [← hw3] at c7 c6 oc ⊢
      rw [← hBi] at c7
      have C7 := Lib.hid c7
      clear oc c6 c7 hw3 hBi
      refine wpIn_loop (fun ac wr => ∃ (j : Nat) (v8 v10 v11 v29 v30 v31 v32 v33 v34 v35 v36 v37 v38 v39 v40 v41 v42 v43 v44 v45 v46 v47 v48 v49 v50 v51 v52 v53 v54 v55 v56 v57 v58 v59 v60 v61 v62 v63 v64 v65 v66 v67 v68 : Value) (ds : List Deferred), ac = { tmps := #[.slice A a.length ca, .slice B b.length cb, undef, undef, .slice none 0 0, .int .i64 0, .pointer (some ⟨PB, 0, none⟩), .pointer (some ⟨Bi, 0, none⟩), v8, undef, v10, v11, .slice A a.length ca, .slice B b.length cb, .bool false, .slice A a.length ca, .slice B b.length cb, .slice (some ⟨w.heap.size, 0, none⟩) (a.length + 1) (a.length + 1), .slice (some ⟨w.heap.size, 0, none⟩) (a.length + 1) (a.length + 1), .int .i64 ((a.length : Int) + 1), .int .i64 (i : Int), .bool true, .int .i64 (i : Int), .slice (some ⟨w.heap.size, 0, none⟩) (a.length + 1) (a.length + 1), .int .i64 (i : Int), .pointer (some ⟨w.heap.size, i, none⟩), .slice (some ⟨rb i, 0, none⟩) (b.length + 1) (rc i), .int .i64 ((b.length : Int) + 1), .int .i64 (j : Int), v29, v30, v31, v32, v33, v34, v35, v36, v37, v38, v39, v40, v41, v42, v43, v44, v45, v46, v47, v48, v49, v50, v51, v52, v53, v54, v55, v56, v57, v58, v59, v60, v61, v62, v63, v64, v65, v66, v67, v68, u69, undef], defers := ds } ∧ j ≤ b.length + 1 ∧ Hid (PSt a b w PB rb rc i j (fun _ => False) wr) ∧ Hid (wr.cell? ⟨Bi, 0, none⟩ = some (.int .i64 (i : Int))) ∧ Hid (Mks w.heap.size wr ds)) (fun ac _ => (b.length + 1) - (intOf (ac.tmps.getD 28 undef)).toNat) ?start2 ?round2
      case start2 => exact ⟨0, _, _, _, _, _, _, _, _, _, _, _, _, _, _, _, _, _, _, _, _, _, _, _, _, _, _, _, _, _, _, _, _, _, _, _, _, _, _, _, _, _, _, _, ds, rfl, by omega, HP3, C7, HM3⟩
      case round2 =>
        clear HP3 C7 HM3
        rintro ac wr2 ⟨j, v8, v10, v11, v29, v30, v31, v32, v33, v34, v35, v36, v37, v38, v39, v40, v41, v42, v43, v44, v45, v46, v47, v48, v49, v50, v51, v52, v53, v54, v55, v56, v57, v58, v59, v60, v61, v62, v63, v64, v65, v66, v67, v68, ds2, rfl, hj, HP, C7, HM⟩
        by_cases hltj : j < b.length + 1
        · have j1 : (j : Int) < (b.length : Int) + 1 := by omega
          have j0 : (0 : Int) ≤ (j : Int) := by omega
          have hi' : i ≤ a.length := by omega
          have hj' : j ≤ b.length := by omega
          obtain ⟨w5, hw5⟩ : ∃ w5, w5 = wr2.alloc (.cells #[.int .i64 (j : Int)] 3) := ⟨_, rfl⟩
          have b5 : Below wr2.heap.size wr2 w5 := by rw [hw5]; exact (Below.refl _ _).alloc (Nat.le_refl _) _
          have HP5 := Lib.hid (HP.out.below b5)
          have HM5 := Lib.hid (HM.out.keeps (keeps_below b5))
          obtain ⟨Bj, hBj⟩ : ∃ Bj, Bj = wr2.heap.size := ⟨_, rfl⟩
          have HBJ := Lib.hid (show Bi < Bj ∧ w5.heap.size = Bj + 1 from by rw [hBj, hw5]; exact ⟨lt_of_cell C7.out, by simp⟩)
          have c8 : w5.cell? ⟨Bj, 0, none⟩ = some (.int .i64 (j : Int)) := by rw [hw5, hBj, cell_new]; rfl
          have c7 : w5.cell? ⟨Bi, 0, none⟩ = some (.int .i64 (i : Int)) := (b5.cell (p := ⟨Bi, 0, none⟩) (lt_of_cell C7.out)).trans C7.out
          have hslA : ∀ W, (Instr.slice 22 (.slice A a.length ca) (some (.int .i64 (i : Int))) none none).run Tryd.prog W = .ok (.slice (if ca = i then A else A.map (·.add (i * 1))) (a.length - i) (ca - i)) W := fun W => slice_ints A _ _ i W hi' hca
          have hslB : ∀ W, (Instr.slice 22 (.slice B b.length cb) (some (.int .i64 (j : Int))) none none).run Tryd.prog W = .ok (.slice (if cb = j then B else B.map (·.add (j * 1))) (b.length - j) (cb - j)) W := fun W => slice_ints B _ _ j W hj' hcb
          have HAi := Lib.hid (HA.out.cutI i ca hca)
          have HBj := Lib.hid (HB.out.cutI j cb hcb)
          generalize (if ca = i then A else A.map (·.add (i * 1))) = Ai at hslA HAi
          generalize (if cb = j then B else B.map (·.add (j * 1))) = Bs at hslB HBj
          have PA := possible_any Ai Bs (a.length - i) (ca - i) (b.length - j) (cb - j) w5.drew
          rw [show w5.drew.heap.size = w5.heap.size from rfl] at PA
          clear HP C7 HM b5
          gi_wp2
          rw [← hBj]
          rw [← hw5]
          clear hw5 hBj
          refine wpIn_wide.2 ?_
          go_still_tail 6, (by kernel_rfl)
          change wpList _ _ _ _ _ w5.drew
          go_wp2_with (first | (go_at_call 28; refine PA.mono ?_; rintro e w' ⟨rfl, rfl⟩))
          clear PA hslA hslB
          gi_wp2
          obtain ⟨W0, hW0⟩ : ∃ W0, W0 = posW w5.drew Ai (a.length - i) (ca - i) Bs (b.length - j) (cb - j) := ⟨_, rfl⟩
          have b50 : Below w5.heap.size w5 W0 := by rw [hW0]; exact (((⟨rfl, rfl, rfl, Nat.le_refl _, fun _ _ => rfl⟩ : Below w5.heap.size w5 w5.drew)).alloc (Nat.le_refl _) _).alloc (by simp) _
          have s0 : W0.heap.size = w5.heap.size + 2 := by rw [hW0]; simp
          have pA : W0.heap[w5.heap.size]? = some (.cells #[.slice Ai (a.length - i) (ca - i)] 22) := by rw [hW0]; exact al_old (World.alloc_heap_new w5.drew _)
          have pB : W0.heap[w5.heap.size + 1]? = some (.cells #[.slice Bs (b.length - j) (cb - j)] 22) := by
            rw [hW0]
            have := World.alloc_heap_new (w5.drew.alloc (.cells #[.slice Ai (a.length - i) (ca - i)] 22)) (.cells #[.slice Bs (b.length - j) (cb - j)] 22)
            rwa [World.size_alloc] at this
          have HP0 := HP5.out.below b50
          have HM0 := HM5.out.keeps (keeps_below b50)
          have cA0 := cellOf pA 0
          have cB0 := cellOf pB 0
          have c70 := (b50.cell (p := ⟨Bi, 0, none⟩) (lt_of_cell c7)).trans c7
          have c80 := (b50.cell (p := ⟨Bj, 0, none⟩) (lt_of_cell c8)).trans c8
          have HA0 := HAi.out.under HP0.bel
          have HB0 := HBj.out.under HP0.bel
          have e1 : a.length - i = (a.drop i).length := by rw [List.length_drop]
          have e2 : b.length - j = (b.drop j).length := by rw [List.length_drop]
          have hK0 : Knd W0 := HK.out.below' HP0.bel
          have hWP := HWP.out
          have hRB := HRB.out
          have hBL := HBL.out
          have hBJ := HBJ.out
          rw [← hW0]
          clear hW0 pA pB c7 c8 HP5 HM5 b50 HAi HBj
          obtain ⟨Z, hZ⟩ : ∃ Z, Z = w5.heap.size := ⟨_, rfl⟩
          have hPW : w.heap.size < Bj := by omega
          refine wpIn_rangeFunc_ownH rfl (by decide) (gf := 37) (lb := #[.pointer (some ⟨w5.heap.size, 0, none⟩), .pointer (some ⟨w5.heap.size + 1, 0, none⟩)]) rfl trivial (enters_of Tryd.func37 (by kernel_rfl) rfl)
            (poss_stops 8 (by decide) (a.drop i) (b.drop j) Ai Bs (ca - i) (cb - j) w5.heap.size (w5.heap.size + 1) w.heap.size (by rw [← e1]; omega) (by rw [← e2]; omega) W0 (by rw [← e1]; exact cA0) (by rw [← e2]; exact cB0) hK0 HK.out.lt (by omega) HA0 HB0)
            (fun h k => h.t k) (KpP.put (by omega) (by omega) (by omega)) (Below.refl _ _) (fun _ => rfl)
            (fun pre W => PSt a b w PB rb rc i j (fun m => ∃ z ∈ pre, z.1 = m) W ∧ W.cell? ⟨Bi, 0, none⟩ = some (.int .i64 (i : Int)) ∧ W.cell? ⟨Bj, 0, none⟩ = some (.int .i64 (j : Int)) ∧ KeepsFrom 0 W0 W)
            (fun _ _ _ => False)
            (ownFrom_stable (fun _ _ h => h.2.2.2.size) (fun _ _ _ h k => ⟨h.1.under k k.size (by omega) (by omega) hRB, (k.cell (p := ⟨Bi, 0, none⟩) (by show Bi < _; omega)).trans h.2.1, (k.cell (p := ⟨Bj, 0, none⟩) (by show Bj < _; omega)).trans h.2.2.1, ⟨Nat.le_trans h.2.2.2.size k.size, fun q o hB hq ho => (k.block q (Array.getElem?_eq_some_iff.1 hq).1).trans (h.2.2.2.same q o hB hq ho)⟩⟩))
            (fun _ _ _ _ _ hs _ _ => hs)
            ⟨by
              obtain ⟨T0, t1, t2⟩ := HP0.tab
              exact ⟨HP0.bel, HP0.pb, T0, t1, t2.congrD (fun m => ⟨fun h => h.elim, fun ⟨z, hz, _⟩ => by cases hz⟩)⟩, c70, c80, KeepsFrom.refl _ _⟩
            (fun x a' W => ∃ Bx, W0.heap.size ≤ Bx ∧ W.heap[Bx]? = some (.cells #[.int .i64 (dA x.1 : Int), .int .i64 (dB x.1 : Int), .int .i64 (dC x.1)] 54) ∧ a' = { tmps := #[.slice A a.length ca, .slice B b.length cb, undef, undef, .slice none 0 0, .int .i64 0, .pointer (some ⟨PB, 0, none⟩), .pointer (some ⟨Bi, 0, none⟩), .pointer (some ⟨Bj, 0, none⟩), undef, .pointer (some ⟨Bx, 0, none⟩), v11, .slice A a.length ca, .slice B b.length cb, .bool false, .slice A a.length ca, .slice B b.length cb, .slice (some ⟨w.heap.size, 0, none⟩) (a.length + 1) (a.length + 1), .slice (some ⟨w.heap.size, 0, none⟩) (a.length + 1) (a.length + 1), .int .i64 ((a.length : Int) + 1), .int .i64 (i : Int), .bool true, .int .i64 (i : Int), .slice (some ⟨w.heap.size, 0, none⟩) (a.length + 1) (a.length + 1), .int .i64 (i : Int), .pointer (some ⟨w.heap.size, i, none⟩), .slice (some ⟨rb i, 0, none⟩) (b.length + 1) (rc i), .int .i64 ((b.length : Int) + 1), .int .i64 (j : Int), .bool true, .int .i64 (j : Int), .slice A a.length ca, .int .i64 (i : Int), .slice Ai (a.length - i) (ca - i), .slice B b.length cb, .int .i64 (j : Int), .slice Bs (b.length - j) (cb - j), .func (.func 37) #[] #[.pointer (some ⟨w5.heap.size, 0, none⟩), .pointer (some ⟨w5.heap.size + 1, 0, none⟩)], .int .i64 (x.1 : Int), kV x.1, v40, v41, v42, v43, v44, v45, v46, v47, v48, v49, v50, v51, v52, v53, v54, v55, v56, v57, v58, v59, v60, v61, v62, v63, v64, v65, v66, v67, v68, u69, undef], defers := [] })
            (fun x a' _ X Y row hs hg hr => by obtain ⟨Bx, h1, h2, h3⟩ := hs; exact ⟨Bx, h1, (hg.block Bx (Array.getElem?_eq_some_iff.1 h2).1 (fun e => by obtain ⟨-, o, ho, hc⟩ := hr Bx e.symm; rw [h2] at ho; cases ho; cases hc)).trans h2, h3⟩)
            ?assign ?body ?done ?stop
          case assign =>
            rintro l pre x W K ⟨hP, hci, hcj, hks⟩ hK
            rw [assign2]
            simp only [List.setIfInBounds_toArray, List.set_cons_succ, List.set_cons_zero]
            gi_wp2
            have hsz := hks.size
            have ba := (Below.refl W.heap.size W).alloc (Nat.le_refl _) (.cells #[.int .i64 (dA x.1 : Int), .int .i64 (dB x.1 : Int), .int .i64 (dC x.1)] 54)
            exact hK _ _ ((KeepsOthers.alloc _ _).from _) (KpP.of_below ba (by omega) (by omega) (by omega)) ⟨hP.below ba, (ba.cell (p := ⟨Bi, 0, none⟩) (by show Bi < _; omega)).trans hci, (ba.cell (p := ⟨Bj, 0, none⟩) (by show Bj < _; omega)).trans hcj, hks.trans (keeps_below ba)⟩ ⟨W.heap.size, hsz, World.alloc_heap_new _ _, rfl⟩
          case body =>
            rintro l pre ⟨xn, hx⟩ a' W hl - ⟨hP, c7, c8, hks⟩ ⟨Bx, hBx, hbx, rfl⟩ hlt'
            have hok : okP a b i j xn = true := by rw [← okP_drop]; exact hx
            have hin := okP_in hi' hj' hok
            obtain ⟨T, tab, inv⟩ := hP.tab
            have HREL := Lib.hid (inv.relax hi' hj' hok)
            obtain ⟨h5, hiA, hjB, hd1, hc0, hc4, -⟩ := hin
            have q0 : W.cell? ⟨Bx, 0, none⟩ = some (.int .i64 (dA xn : Int)) := cellOf hbx 0
            have q1 : W.cell? ⟨Bx, 1, none⟩ = some (.int .i64 (dB xn : Int)) := cellOf hbx 1
            have q2 : W.cell? ⟨Bx, 2, none⟩ = some (.int .i64 (dC xn)) := cellOf hbx 2
            have c6 := hP.pb
            have w1 : IntKind.i64.wrap ((i : Int) + (dA xn : Int)) = ((i + dA xn : Nat) : Int) := by rw [IntWalk.i64_in _ (by omega)]; omega
            have w2 : IntKind.i64.wrap ((j : Int) + (dB xn : Int)) = ((j + dB xn : Nat) : Int) := by rw [IntWalk.i64_in _ (by omega)]; omega
            have bI := inv.bd (i + dA xn) (j + dB xn) hiA hjB
            have bi := inv.bd i j hi' hj'
            obtain ⟨I, eI⟩ : ∃ I, I = i + dA xn := ⟨_, rfl⟩
            obtain ⟨J, eJ⟩ : ∃ J, J = j + dB xn := ⟨_, rfl⟩
            rw [← eI] at w1 hiA HREL bI
            rw [← eJ] at w2 hjB HREL bI
            have t1 := tab.out I (by omega)
            have t2 := tab.cellI (i := I) (j := J) (by omega) (by omega)
            have f2 := tab.frozen (i := I) (by omega) J
            have t3 := tab.out i (by omega)
            have t4 := tab.cellI (i := i) (j := j) (by omega) (by omega)
            have w3 : IntKind.i64.wrap (T i j + dC xn) = T i j + dC xn := by rw [IntWalk.i64_in _ (by omega)]
            have HRI := Lib.hid (tab.rlt (i := I) (by omega)).1
            have HRP := Lib.hid (hRB I (by omega))
            have HT := Lib.hid tab
            have HPP := Lib.hid hP
            have HC7 := Lib.hid c7
            have HC8 := Lib.hid c8
            have HKS := Lib.hid hks
            have I0 : (0 : Int) ≤ (I : Int) := by omega
            have J0 : (0 : Int) ≤ (J : Int) := by omega
            have I1 : (I : Int) < (a.length : Int) + 1 := by omega
            have J1 : (J : Int) < (b.length : Int) + 1 := by omega
            have HSZ := Lib.hid hks.size
            have HQ2 := Lib.hid q2
            have HIA := Lib.hid (show I < a.length + 1 ∧ J < b.length + 1 ∧ i < a.length + 1 ∧ j < b.length + 1 from by omega)
            have HNE := Lib.hid (show rb I ≠ PB ∧ rb I ≠ Bi ∧ rb I ≠ Bj ∧ rb I ≠ w5.heap.size ∧ rb I ≠ w5.heap.size + 1 from by have := HRP.out; omega)
            have hmin := fun W => run_min2 Tryd.prog W #[3, 3] 3 (T I J) (T i j + dC xn)
            clear e1 e2 eI eJ tab inv hP hks hok hd1 hbx HP0 HM0 cA0 cB0 HA0 HB0 hK0 c70 c80 s0 bI bi hiA hjB
            gi_wp2
            try dsimp only
            refine wpIn_region_quiet_round l rfl (by kernel_rfl) (by kernel_rfl) (by kernel_rfl) ?_
            repeat (gi_big_quiet_step (fail))
            refine wpQuietIn_nil ?_
            intro _ hw'
            obtain ⟨nq, hw''⟩ := hw'
            subst hw''
            obtain ⟨W1, hW1⟩ : ∃ W1, W1 = W.drewN nq := ⟨_, rfl⟩
            have bW1 : Below W.heap.size W W1 := by rw [hW1]; exact ⟨rfl, rfl, rfl, Nat.le_refl _, fun _ _ => rfl⟩
            have sW1 : W1.heap = W.heap := by rw [hW1]; rfl
            have t1 : W1.cell? _ = _ := (bW1.cell (lt_of_cell t1)).trans t1
            have t2 : W1.cell? _ = _ := (bW1.cell (lt_of_cell t2)).trans t2
            have t3 : W1.cell? _ = _ := (bW1.cell (lt_of_cell t3)).trans t3
            have t4 : W1.cell? _ = _ := (bW1.cell (lt_of_cell t4)).trans t4
            have c6 : W1.cell? _ = _ := (bW1.cell (lt_of_cell c6)).trans c6
            have c7 : W1.cell? _ = _ := (bW1.cell (lt_of_cell c7)).trans c7
            have c8 : W1.cell? _ = _ := (bW1.cell (lt_of_cell c8)).trans c8
            have q2 : W1.cell? _ = _ := (bW1.cell (lt_of_cell q2)).trans q2
            have f2 : W1.frozen? ⟨rb I, J, none⟩ = false := (World.frozen?_of_block (w := W) (by rw [sW1])).trans f2
            have HW := Lib.hid (show KeepsFrom W0.heap.size W W1.drew ∧ KpP w.heap.size w5.heap.size (w5.heap.size + 1) W W1.drew from by
              subst hW1; exact ⟨⟨Nat.le_refl _, fun _ _ _ h _ => h⟩, ⟨⟨rfl, rfl, rfl, Nat.le_refl _, fun _ _ => rfl⟩, rfl, rfl, Nat.le_refl _⟩⟩)
            have bWd : Below W.heap.size W W1.drew := by rw [hW1]; exact ⟨rfl, rfl, rfl, Nat.le_refl _, fun _ _ => rfl⟩
            have FIN := Lib.hid (show ∀ v, KeepsFrom W0.heap.size W (W1.drew.setCell ⟨rb I, J, none⟩ v) ∧ KpP w.heap.size w5.heap.size (w5.heap.size + 1) W (W1.drew.setCell ⟨rb I, J, none⟩ v) from fun v =>
              ⟨HW.out.1.trans ((KeepsOthers.setCell _ _ _).from _), HW.out.2.set HRI.out HNE.out.2.2.2.1 HNE.out.2.2.2.2 _⟩)
            have FIN2 := Lib.hid (show PSt a b w PB rb rc i j (fun m => ∃ z ∈ pre ++ [⟨xn, hx⟩], z.1 = m) (W1.drew.setCell ⟨rb I, J, none⟩ (.int .i64 (min2 (T I J) (T i j + dC xn)))) ∧ (W1.drew.setCell ⟨rb I, J, none⟩ (.int .i64 (min2 (T I J) (T i j + dC xn)))).cell? ⟨Bi, 0, none⟩ = some (.int .i64 (i : Int)) ∧ (W1.drew.setCell ⟨rb I, J, none⟩ (.int .i64 (min2 (T I J) (T i j + dC xn)))).cell? ⟨Bj, 0, none⟩ = some (.int .i64 (j : Int)) ∧ KeepsFrom 0 W0 (W1.drew.setCell ⟨rb I, J, none⟩ (.int .i64 (min2 (T I J) (T i j + dC xn)))) from by
              have ne : ∀ {p o q : Nat}, rb I ≠ p → (⟨rb I, q, none⟩ : Addr) ≠ ⟨p, o, none⟩ := fun h e => h (congrArg Addr.block e)
              refine ⟨⟨(HPP.out.bel.trans (bWd.mono HPP.out.bel.size)).setCell (p := ⟨rb I, J, none⟩) HRI.out _, ?_, _, (HT.out.below bWd).setI (i := I) HIA.out.1 J _, HREL.out.congrD fun m => ⟨?_, ?_⟩⟩, ?_, ?_, ?_⟩
              · rw [World.cell?_setCell_other _ _ _ _ (ne HNE.out.1)]; exact (bWd.cell (lt_of_cell HPP.out.pb)).trans HPP.out.pb
              · rintro (⟨z, hz, e⟩ | e)
                · exact ⟨z, List.mem_append_left _ hz, e⟩
                · exact ⟨⟨xn, hx⟩, List.mem_append_right _ (List.mem_singleton.2 rfl), e.symm⟩
              · rintro ⟨z, hz, e⟩
                rcases List.mem_append.1 hz with hz | hz
                · exact Or.inl ⟨z, hz, e⟩
                · rw [List.mem_singleton.1 hz] at e; exact Or.inr e.symm
              · rw [World.cell?_setCell_other _ _ _ _ (ne HNE.out.2.1)]; exact (bWd.cell (lt_of_cell HC7.out)).trans HC7.out
              · rw [World.cell?_setCell_other _ _ _ _ (ne HNE.out.2.2.1)]; exact (bWd.cell (lt_of_cell HC8.out)).trans HC8.out
              · exact (HKS.out.trans (keeps_below bWd)).trans ((KeepsOthers.setCell _ _ _).from _))
            rw [← hW1]
            clear hW1 bW1 sW1 bWd HW HT HPP HC7 HC8 HKS HREL q0 q1 w1 w2
            generalize T I J = tv at *
            generalize T i j = ti at *
            gi_wp2
            refine wpIn_region_still_tail_round 16 (by kernel_rfl) (by kernel_rfl) (by kernel_rfl) ?_
            simp only [List.take_succ_cons, List.take_zero, List.drop_succ_cons, List.drop_zero]
            intro Lq hLq
            have HLQ := Lib.hid hLq
            clear hLq
            have t1 : W1.drew.cell? _ = _ := t1
            have t2 : W1.drew.cell? _ = _ := t2
            have t3 : W1.drew.cell? _ = _ := t3
            have t4 : W1.drew.cell? _ = _ := t4
            have c6 : W1.drew.cell? _ = _ := c6
            have c7 : W1.drew.cell? _ = _ := c7
            have c8 : W1.drew.cell? _ = _ := c8
            have q2 : W1.drew.cell? _ = _ := q2
            have f2 : W1.drew.frozen? _ = _ := f2
            generalize W1.drew = W2 at *
            repeat (refine wpStill_plain rfl (fun K hK => ?_); go_simp; refine hK _ ?_; clear hK K)
            refine wpStill_nil ?_
            refine HLQ.out _ ?_
            clear t1 t3 t4 c6 c7 c8 q2 hmin w3
            gi_wp2
            exact ⟨(FIN.out _).1, (FIN.out _).2, FIN2.out⟩
          case done =>
            rintro D zs W hD rfl ⟨hP, c7, c8, hks⟩ hK
            have HP9 := Lib.hid (show PSt a b w PB rb rc i (j + 1) (fun _ => False) W from by
              obtain ⟨T, t1, t2⟩ := hP.tab
              exact ⟨hP.bel, hP.pb, T, t1, t2.next (fun m hm => ⟨⟨m, by rw [okP_drop]; exact hm⟩, poss_mem _ 5 (okP_lt hm), rfl⟩)⟩)
            have HM9 := Lib.hid (HM0.more hks hD (by omega) hK)
            have C79 := Lib.hid c7
            clear hP c7 c8 hks hK HP0 HM0 cA0 cB0 HA0 HB0 hK0 c70 c80
            gi_wp2
            exact ⟨⟨j + 1, _, _, _, _, _, _, _, _, _, _, _, _, _, _, _, _, _, _, _, _, _, _, _, _, _, _, _, _, _, _, _, _, _, _, _, _, _, _, _, _, _, _, _, _, rfl, by omega, HP9, C79, HM9⟩, by simp [intOf]; omega⟩
          case stop =>
            rintro D c pre W _ _ h _
            exact h.elim
        · obtain rfl : j = b.length + 1 := by omega
          have HP9 := Lib.hid (show PSt a b w PB rb rc (i + 1) 0 (fun _ => False) wr2 from by
            obtain ⟨T, t1, t2⟩ := HP.out.tab
            exact ⟨HP.out.bel, HP.out.pb, T, t1, t2.row⟩)
          clear HP
          gi_wp2
          exact ⟨⟨i + 1, _, _, _, _, _, _, _, _, _, _, _, _, _, _, _, _, _, _, _, _, _, _, _, _, _, _, _, _, _, _, _, _, _, _, _, _, _, _, _, _, _, _, _, _, _, _, _, _, _, _, _, _, _, ds2, rfl, by omega, HP9, HM⟩, by simp [intOf]; omega⟩
    · obtain rfl : i = a.length + 1 := by omega
      have c6 := HP.out.pb
      gi_wp2
      obtain ⟨T, t1, t2⟩ := HP.out.tab
      refine leaves_marks (B := w.heap.size) (J := fun W => Below w.heap.size w W ∧ Tab IR 3 W w.heap.size w.heap.size (a.length + 1) (b.length + 1) (a.length + 1) rb rc T) ?_ ?_ ds wr HM.out ⟨HP.out.bel, t1⟩
      · rintro W D o o' ⟨k1, k2⟩ hD ho hc
        exact ⟨k1.grown (grownBy_putObj' W D o') k1.size (fun k e => by cases e; exact hD), k2.putObj (Nat.succ_pos _) o' ho hc⟩
      · rintro W ⟨k1, k2⟩
        refine ⟨_, results_tmp2R rfl _ _ _ _ rfl rfl, ?_, k1⟩
        rw [if_neg HNL.out]
        exact ⟨_, _, rb, rc, T, rfl, Nat.le_refl _, k2, t2.isPot⟩
end Go.Proofs.YtbdiilkdajadcaaDoor
