/-
  Stage 8: the program's Verify.
-/
import Derived.Test.YtbdiilkdajadcaaDoorRBest
import Derived.Test.YtbdiilkdajadcaaDoorRNew
import Derived.Test.YtbdiilkdajadcaaDoorRTail
import Derived.Test.YtbdiilkdajadcaaDoorRMarks
import Derived.Test.YtbdiilkdajadcaaDoorRRver
import Derived.Sort.QuietTacIn
set_option linter.unusedSimpArgs false
set_option linter.unusedVariables false
namespace Go.Proofs.YtbdiilkdajadcaaDoor
open Go.RowKit Go.Shelf
attribute [local go_sem] Oper.semAt_some

theorem keeps_belowV {w w' : World} (k : Below w.heap.size w w') : KeepsFrom 0 w w' := ⟨k.size, fun i o _ hi _ => (k.block i (Array.getElem?_eq_some_iff.1 hi).1).trans hi⟩
/-- What the loops keep. -/
structure VSt (a b : List Int) (ps : List (List Int)) (w : World) (B7 : Nat) (P : Value) (i j : Nat) (D : Nat → Prop) (wr : World) : Prop where
  bel : Below w.heap.size w wr
  c7 : wr.cell? ⟨B7, 0, none⟩ = some P
  c8 : wr.cell? ⟨B7 + 1, 0, none⟩ = some (.bool false)
  f8 : wr.frozen? ⟨B7 + 1, 0, none⟩ = false
  chk : Chk a b ps i j D
theorem VSt.under {a b : List Int} {ps : List (List Int)} {w : World} {B7 : Nat} {P : Value} {i j : Nat} {D : Nat → Prop} {wr wr' : World} (h : VSt a b ps w B7 P i j D wr) {B : Nat} (k : Below B wr wr') (hB : B7 + 1 < B) (hw : w.heap.size ≤ B) : VSt a b ps w B7 P i j D wr' :=
  ⟨h.bel.trans (k.mono hw), (k.cell (p := ⟨B7, 0, none⟩) (by show B7 < B; omega)).trans h.c7, (k.cell (p := ⟨B7 + 1, 0, none⟩) hB).trans h.c8, (k.frozen (p := ⟨B7 + 1, 0, none⟩) hB).trans h.f8, h.chk⟩
theorem VSt.below {a b : List Int} {ps : List (List Int)} {w : World} {B7 : Nat} {P : Value} {i j : Nat} {D : Nat → Prop} {wr wr' : World} (h : VSt a b ps w B7 P i j D wr) (k : Below wr.heap.size wr wr') : VSt a b ps w B7 P i j D wr' := h.under k (lt_of_cell h.c8) h.bel.size
theorem VSt.chk' {a b : List Int} {ps : List (List Int)} {w : World} {B7 : Nat} {P : Value} {i j i' j' : Nat} {D D' : Nat → Prop} {wr : World} (h : VSt a b ps w B7 P i j D wr) (k : Chk a b ps i' j' D') : VSt a b ps w B7 P i' j' D' wr := ⟨h.bel, h.c7, h.c8, h.f8, k⟩
theorem results_cell8 {fn : Func} (hf : fn.results = #[ResultVar.cell 8 4]) (tmps : Array Value) (w : World) (ad : Addr) (v : Bool) (h1 : tmps.getD 8 undef = .pointer (some ad)) (h2 : w.cell? ad = some (.bool v)) : (results fn tmps).run Tryd.prog w = .ok (.bool v) w := by
  have h1' : tmps[8]?.getD undef = .pointer (some ad) := by rw [← Array.getD_eq_getD_getElem?]; exact h1
  simp [results, hf, go_sem, h1', h2]
set_option maxRecDepth 100000 in
set_option maxHeartbeats 6400000 in
theorem ver_any (a b : List Int) (cost : Int) (ps : List (List Int)) (A B P : Option Addr) (ca cb cp : Nat) (w : World) (hK : Knd w) (la : a.length ≤ 1000000000) (lb : b.length ≤ 1000000000) (lp : ps.length ≤ maxLen) (ha : Row .i64 w w.heap.size A a) (hb : Row .i64 w w.heap.size B b) (hp : PP w P ps) (hwd : Wid ps) (hca : a.length ≤ ca) (hcb : b.length ≤ cb) :
    Calls Tryd.prog 12 #[.slice A a.length ca, .slice B b.length cb, .int .i64 cost, .slice P ps.length cp] w (VerPost a b cost ps w) := by
  have hL := fun W => long_any A B a.length ca b.length cb W la lb
  have HA := Lib.hid ha
  have HB := Lib.hid hb
  have HP := Lib.hid hp
  have HWD := Lib.hid hwd
  have HK := Lib.hid hK
  have HCC := Lib.hid (And.intro hca hcb)
  have b2 : Below w.heap.size w ((w.alloc (.cells #[.slice P ps.length cp] 26)).alloc (.cells #[.bool false] 4)) := ((Below.refl _ w).alloc (Nat.le_refl _) _).alloc (by simp) _
  obtain ⟨w2, hw2⟩ : ∃ w2, w2 = (w.alloc (.cells #[.slice P ps.length cp] 26)).alloc (.cells #[.bool false] 4) := ⟨_, rfl⟩
  have o7 : w2.heap[w.heap.size]? = some (.cells #[.slice P ps.length cp] 26) := by rw [hw2]; exact al_old (World.alloc_heap_new w _)
  have o8 : w2.heap[w.heap.size + 1]? = some (.cells #[.bool false] 4) := by rw [hw2]; have := World.alloc_heap_new (w.alloc (.cells #[.slice P ps.length cp] 26)) (.cells #[.bool false] 4); rwa [World.size_alloc] at this
  rw [← hw2] at b2
  have c7 : w2.cell? ⟨w.heap.size, 0, none⟩ = some (.slice P ps.length cp) := cellOf o7 0
  have c8 : w2.cell? ⟨w.heap.size + 1, 0, none⟩ = some (.bool false) := cellOf o8 0
  have f8 : w2.frozen? ⟨w.heap.size + 1, 0, none⟩ = false := frozenOf o8 0
  have HL := Lib.hid (hL w2)
  have HO := Lib.hid (And.intro b2 (And.intro c7 (And.intro c8 f8)))
  have HLP := Lib.hid lp
  unfold maxLen at lp
  clear hL ha hb hp hwd hK hca hcb b2 o7 o8
  refine (callsIn_wide (n := 9)).1 ?_
  refine callsIn_of_wp_marks Tryd.func12 rfl trivial ?_ rfl
  simp only [Tryd.ntmps12, List.size_toArray, List.length_cons, List.length_nil, Nat.reduceAdd, Nat.reduceSub, Array.replicate_succ, Array.replicate_zero, List.push_toArray, List.append_toArray, List.nil_append, List.cons_append]
  have CNO := Lib.hid (show ∀ (fn : Func) (tmps : Array Value) (W : World), (results fn tmps).run Tryd.prog W = .ok (.bool false) W → Below w.heap.size w W → ¬ Ver a b cost ps → LeavesIn Fence.wide 9 Tryd.prog fn tmps (VerPost a b cost ps w) [] .returning W from fun fn tmps W h1 h2 h3 => ⟨_, h1, VerPost.no h3 h2⟩)
  have HNO := Lib.hid (show ∀ fn tmps, fn.results = #[ResultVar.cell 8 4] → tmps.getD 8 undef = .pointer (some ⟨w.heap.size + 1, 0, none⟩) → ¬ Ver a b cost ps → LeavesIn Fence.wide 9 Tryd.prog fn tmps (VerPost a b cost ps w) [] .returning w2 from fun fn tmps h1 h2 h3 =>
    CNO.out fn tmps _ (results_cell8 h1 tmps _ _ _ h2 HO.out.2.2.1) HO.out.1 h3)
  clear CNO
  by_cases hl : lngP a b
  · rw [decide_eq_true (show 96 < a.length ∨ 96 < b.length from hl)] at HL
    have HF := Lib.hid (show ¬ Ver a b cost ps from fun h => h.sml hl)
    clear hl
    rw [hw2] at c7 c8 f8 HL
    gi_wp2_with (first | (refine ⟨trivial, ?_⟩; gi_at_call 24; refine (callsIn_wide.2 HL.out).mono ?_; rintro e w' ⟨rfl, rfl⟩) | (refine ⟨trivial, ?_⟩))
    rw [← hw2]
    refine HNO.out _ _ ?_ ?_ HF.out <;> rfl
  have l1 : a.length ≤ 96 := by unfold lngP at hl; omega
  have l2 : b.length ≤ 96 := by unfold lngP at hl; omega
  have HNL := Lib.hid hl
  rw [decide_eq_false (show ¬ (96 < a.length ∨ 96 < b.length) from hl)] at HL
  have HSH := Lib.hid (shape_any ps A P B a.length ca b.length cb cp w2 (HP.out.below HO.out.1) l1 l2 HLP.out)
  clear hl la lb
  by_cases hsh : Shp ps (a.length + 1) (b.length + 1)
  · have HSH := Lib.hid (show Calls Tryd.prog 29 #[.slice P ps.length cp, .slice A a.length ca, .slice B b.length cb] w2 (fun e w' => e = .returned (.bool true) ∧ w2 = w') from HSH.out.mono (by
      rintro e w' ⟨⟨r, rfl, hr⟩, rfl⟩
      exact ⟨by rw [hr.2 hsh], rfl⟩))
    have HS := Lib.hid hsh
    have hN := hsh.len
    clear hsh
    rw [hN] at c7 HSH hw2 ⊢
    obtain ⟨ad, rfl, -⟩ := HP.out.at_ (k := 0) (by omega)
    obtain ⟨az, cz, z1, z2⟩ := HP.out.cells HS.out (x := 0) (y := 0) (by omega) (by omega)
    obtain ⟨at_, ct, y1, y2⟩ := HP.out.cells HS.out (x := a.length) (y := b.length) (by omega) (by omega)
    have z1 := (HO.out.1.cell (lt_of_cell z1)).trans z1
    have z2 := (HO.out.1.cell (lt_of_cell z2)).trans z2
    have y1 := (HO.out.1.cell (lt_of_cell y1)).trans y1
    have y2 := (HO.out.1.cell (lt_of_cell y2)).trans y2
    rw [show ad.add 0 = ad from rfl] at z1
    rw [show az.add 0 = az from rfl] at z2
    have n0 : (0 : Int) < (a.length : Int) + 1 := by omega
    have m0 : (0 : Int) < (b.length : Int) + 1 := by omega
    have n1 : (a.length : Int) < (a.length : Int) + 1 := by omega
    have m1 : (b.length : Int) < (b.length : Int) + 1 := by omega
    by_cases hz : at2 ps 0 0 = 0
    · have HZ := Lib.hid hz
      rw [hz] at z2
      clear hz
      by_cases ht : cost ≤ at2 ps a.length b.length
      · have HT := Lib.hid ht
        have HV0 := Lib.hid (show VSt a b ps w w.heap.size (.slice (some ad) (a.length + 1) cp) 0 0 (fun _ => False) w2 from ⟨HO.out.1, by rw [← hN]; exact HO.out.2.1, HO.out.2.2.1, HO.out.2.2.2, Chk.start⟩)
        have ht' : ¬ at2 ps a.length b.length < cost := by omega
        have HW2 := Lib.hid hw2
        clear ht
        rw [hw2] at c7 c8 f8 z1 z2 y1 y2 HL HSH
        gi_wp2_with (first | (refine ⟨trivial, ?_⟩; gi_at_call 24; refine (callsIn_wide.2 HL.out).mono ?_; rintro e w' ⟨rfl, rfl⟩) | (refine ⟨trivial, ?_⟩; gi_at_call 29; refine (callsIn_wide.2 HSH.out).mono ?_; rintro e w' ⟨rfl, rfl⟩))
        rw [← hw2]
        clear c7 c8 f8 z1 z2 y1 y2 HL HSH hw2 HW2 ht' HNO n0 m0 n1 m1
        have HCC2 := HCC.out
        generalize w2 = w2x at *
        refine wpIn_loop (fun ac wr => ∃ (i : Nat) (u9 u10 u12 u13 u14 u15 u16 u17 u18 u19 u20 u21 u22 u23 u24 u25 u26 u27 u28 u29 u30 u31 u32 u33 u34 u35 u36 u37 u38 u39 u40 u41 u42 u43 u44 u47 u48 u49 u50 u51 u52 u53 u54 u55 u56 u57 u58 u59 u60 u61 u62 u63 u64 u65 u66 u67 u68 u69 u70 u71 u72 u73 u74 u75 u76 u77 u78 u79 u80 u81 u82 u83 u84 u85 u86 u87 u88 u89 u90 u91 : Value) (ds : List Deferred), ac = { tmps := #[.slice A a.length ca, .slice B b.length cb, .int .i64 cost, .slice (some ad) (a.length + 1) cp, undef, undef, undef, .pointer (some ⟨w.heap.size, 0, none⟩), .pointer (some ⟨w.heap.size + 1, 0, none⟩), u9, u10, undef, u12, u13, u14, u15, u16, u17, u18, u19, u20, u21, u22, u23, u24, u25, u26, u27, u28, u29, u30, u31, u32, u33, u34, u35, u36, u37, u38, u39, u40, u41, u42, u43, u44, .int .i64 ((a.length : Int) + 1), .int .i64 (i : Int), u47, u48, u49, u50, u51, u52, u53, u54, u55, u56, u57, u58, u59, u60, u61, u62, u63, u64, u65, u66, u67, u68, u69, u70, u71, u72, u73, u74, u75, u76, u77, u78, u79, u80, u81, u82, u83, u84, u85, u86, u87, u88, u89, u90, u91], defers := ds } ∧ i ≤ a.length + 1 ∧ Hid (VSt a b ps w w.heap.size (.slice (some ad) (a.length + 1) cp) i 0 (fun _ => False) wr) ∧ Hid (Mks w.heap.size wr ds)) (fun ac _ => (a.length + 1) - (intOf (ac.tmps.getD 46 undef)).toNat) ?start1 ?round1
        case start1 => exact ⟨0, _, _, _, _, _, _, _, _, _, _, _, _, _, _, _, _, _, _, _, _, _, _, _, _, _, _, _, _, _, _, _, _, _, _, _, _, _, _, _, _, _, _, _, _, _, _, _, _, _, _, _, _, _, _, _, _, _, _, _, _, _, _, _, _, _, _, _, _, _, _, _, _, _, _, _, _, _, _, _, _, [], rfl, by omega, HV0, Lib.hid trivial⟩
        case round1 =>
          clear HV0 HO
          rintro ac wr ⟨i, u9, u10, u12, u13, u14, u15, u16, u17, u18, u19, u20, u21, u22, u23, u24, u25, u26, u27, u28, u29, u30, u31, u32, u33, u34, u35, u36, u37, u38, u39, u40, u41, u42, u43, u44, u47, u48, u49, u50, u51, u52, u53, u54, u55, u56, u57, u58, u59, u60, u61, u62, u63, u64, u65, u66, u67, u68, u69, u70, u71, u72, u73, u74, u75, u76, u77, u78, u79, u80, u81, u82, u83, u84, u85, u86, u87, u88, u89, u90, u91, ds, rfl, hi, HVS, HM⟩
          by_cases hlt : i < a.length + 1
          · have i1 : (i : Int) < (a.length : Int) + 1 := by omega
            have i0 : (0 : Int) ≤ (i : Int) := by omega
            obtain ⟨w3, hw3⟩ : ∃ w3, w3 = wr.alloc (.cells #[.int .i64 (i : Int)] 3) := ⟨_, rfl⟩
            have b3 : Below wr.heap.size wr w3 := by rw [hw3]; exact (Below.refl _ _).alloc (Nat.le_refl _) _
            have HP3 := Lib.hid (HVS.out.below b3)
            have HM3 := Lib.hid (HM.out.keeps (keeps_belowV b3))
            obtain ⟨Bi, hBi⟩ : ∃ Bi, Bi = wr.heap.size := ⟨_, rfl⟩
            have HBL := Lib.hid (show w.heap.size + 1 < Bi ∧ Bi < w3.heap.size from by rw [hBi, hw3]; exact ⟨lt_of_cell HVS.out.c8, by simp⟩)
            have c9 : w3.cell? ⟨Bi, 0, none⟩ = some (.int .i64 (i : Int)) := by rw [hw3, hBi, cell_new]; rfl
            have c7 := HP3.out.c7
            obtain ⟨ar, cr, r1, -⟩ := HP.out.cells HS.out (x := i) (y := 0) (by omega) (by omega)
            have r1 := (HP3.out.bel.cell (lt_of_cell r1)).trans r1
            have C9 := Lib.hid c9
            rw [hw3, hBi] at c9
            rw [hw3] at c7 r1
            clear b3 HVS HM
            gi_wp2
            rw [← hBi]
            rw [← hw3]
            clear r1 c9 c7 hw3 hBi
            refine wpIn_loop (fun ac wr => ∃ (j : Nat) (v10 v12 v47 v48 v49 v50 v51 v52 v55 v56 v57 v58 v59 v60 v61 v62 v63 v64 v65 v66 v67 v68 v69 v70 v71 v72 v73 v74 v75 v76 v77 v78 v79 v80 v81 v82 v83 v84 v85 v86 v87 v88 v89 v90 : Value) (ds : List Deferred), ac = { tmps := #[.slice A a.length ca, .slice B b.length cb, .int .i64 cost, .slice (some ad) (a.length + 1) cp, undef, undef, undef, .pointer (some ⟨w.heap.size, 0, none⟩), .pointer (some ⟨w.heap.size + 1, 0, none⟩), .pointer (some ⟨Bi, 0, none⟩), v10, undef, v12, u13, u14, u15, u16, u17, u18, u19, u20, u21, u22, u23, u24, u25, u26, u27, u28, u29, u30, u31, u32, u33, u34, u35, u36, u37, u38, u39, u40, u41, u42, u43, u44, .int .i64 ((a.length : Int) + 1), .int .i64 (i : Int), v47, v48, v49, v50, v51, v52, .int .i64 ((b.length : Int) + 1), .int .i64 (j : Int), v55, v56, v57, v58, v59, v60, v61, v62, v63, v64, v65, v66, v67, v68, v69, v70, v71, v72, v73, v74, v75, v76, v77, v78, v79, v80, v81, v82, v83, v84, v85, v86, v87, v88, v89, v90, u91], defers := ds } ∧ j ≤ b.length + 1 ∧ Hid (VSt a b ps w w.heap.size (.slice (some ad) (a.length + 1) cp) i j (fun _ => False) wr) ∧ Hid (wr.cell? ⟨Bi, 0, none⟩ = some (.int .i64 (i : Int))) ∧ Hid (Mks w.heap.size wr ds)) (fun ac _ => (b.length + 1) - (intOf (ac.tmps.getD 54 undef)).toNat) ?start2 ?round2
            case start2 => exact ⟨0, _, _, _, _, _, _, _, _, _, _, _, _, _, _, _, _, _, _, _, _, _, _, _, _, _, _, _, _, _, _, _, _, _, _, _, _, _, _, _, _, _, _, _, _, ds, rfl, by omega, HP3, C9, HM3⟩
            case round2 =>
              clear HP3 C9 HM3
              rintro ac wr2 ⟨j, v10, v12, v47, v48, v49, v50, v51, v52, v55, v56, v57, v58, v59, v60, v61, v62, v63, v64, v65, v66, v67, v68, v69, v70, v71, v72, v73, v74, v75, v76, v77, v78, v79, v80, v81, v82, v83, v84, v85, v86, v87, v88, v89, v90, ds2, rfl, hj, HVS, C9, HM⟩
              by_cases hltj : j < b.length + 1
              · have j1 : (j : Int) < (b.length : Int) + 1 := by omega
                have j0 : (0 : Int) ≤ (j : Int) := by omega
                have hi' : i ≤ a.length := by omega
                have hj' : j ≤ b.length := by omega
                obtain ⟨w5, hw5⟩ : ∃ w5, w5 = wr2.alloc (.cells #[.int .i64 (j : Int)] 3) := ⟨_, rfl⟩
                have b5 : Below wr2.heap.size wr2 w5 := by rw [hw5]; exact (Below.refl _ _).alloc (Nat.le_refl _) _
                have HP5 := Lib.hid (HVS.out.below b5)
                have HM5 := Lib.hid (HM.out.keeps (keeps_belowV b5))
                obtain ⟨Bj, hBj⟩ : ∃ Bj, Bj = wr2.heap.size := ⟨_, rfl⟩
                have HBJ := Lib.hid (show Bi < Bj ∧ w5.heap.size = Bj + 1 from by rw [hBj, hw5]; exact ⟨lt_of_cell C9.out, by simp⟩)
                have c10 : w5.cell? ⟨Bj, 0, none⟩ = some (.int .i64 (j : Int)) := by rw [hw5, hBj, cell_new]; rfl
                have c9 : w5.cell? ⟨Bi, 0, none⟩ = some (.int .i64 (i : Int)) := (b5.cell (p := ⟨Bi, 0, none⟩) (lt_of_cell C9.out)).trans C9.out
                have hslA : ∀ W, (Instr.slice 22 (.slice A a.length ca) (some (.int .i64 (i : Int))) none none).run Tryd.prog W = .ok (.slice (if ca = i then A else A.map (·.add (i * 1))) (a.length - i) (ca - i)) W := fun W => slice_ints A _ _ i W hi' HCC2.1
                have hslB : ∀ W, (Instr.slice 22 (.slice B b.length cb) (some (.int .i64 (j : Int))) none none).run Tryd.prog W = .ok (.slice (if cb = j then B else B.map (·.add (j * 1))) (b.length - j) (cb - j)) W := fun W => slice_ints B _ _ j W hj' HCC2.2
                have HAi := Lib.hid (HA.out.cutI i ca HCC2.1)
                have HBj := Lib.hid (HB.out.cutI j cb HCC2.2)
                generalize (if ca = i then A else A.map (·.add (i * 1))) = Ai at hslA HAi
                generalize (if cb = j then B else B.map (·.add (j * 1))) = Bs at hslB HBj
                have PA := possible_any Ai Bs (a.length - i) (ca - i) (b.length - j) (cb - j) w5.drew
                rw [show w5.drew.heap.size = w5.heap.size from rfl] at PA
                clear HVS C9 HM b5
                gi_wp2
                rw [← hBj]
                rw [← hw5]
                clear hw5 hBj
                refine wpIn_wide.2 ?_
                go_still_tail 6, (by kernel_rfl)
                change wpList _ _ _ _ _ w5.drew
                go_wp2_with (first | (go_at_call 28; refine PA.mono ?_; rintro e w' ⟨rfl, rfl⟩))
                clear PA hslA hslB
                gi_wp2
                obtain ⟨W0, hW0⟩ : ∃ W0, W0 = posW w5.drew Ai (a.length - i) (ca - i) Bs (b.length - j) (cb - j) := ⟨_, rfl⟩
                have b50 : Below w5.heap.size w5 W0 := by rw [hW0]; exact (((⟨rfl, rfl, rfl, Nat.le_refl _, fun _ _ => rfl⟩ : Below w5.heap.size w5 w5.drew)).alloc (Nat.le_refl _) _).alloc (by simp) _
                have s0 : W0.heap.size = w5.heap.size + 2 := by rw [hW0]; simp
                have pA : W0.heap[w5.heap.size]? = some (.cells #[.slice Ai (a.length - i) (ca - i)] 22) := by rw [hW0]; exact al_old (World.alloc_heap_new w5.drew _)
                have pB : W0.heap[w5.heap.size + 1]? = some (.cells #[.slice Bs (b.length - j) (cb - j)] 22) := by
                  rw [hW0]
                  have := World.alloc_heap_new (w5.drew.alloc (.cells #[.slice Ai (a.length - i) (ca - i)] 22)) (.cells #[.slice Bs (b.length - j) (cb - j)] 22)
                  rwa [World.size_alloc] at this
                have HP0 := HP5.out.below b50
                have HM0 := HM5.out.keeps (keeps_belowV b50)
                have cA0 := cellOf pA 0
                have cB0 := cellOf pB 0
                have c90 := (b50.cell (p := ⟨Bi, 0, none⟩) (lt_of_cell c9)).trans c9
                have c100 := (b50.cell (p := ⟨Bj, 0, none⟩) (lt_of_cell c10)).trans c10
                have HA0 := HAi.out.under HP0.bel
                have HB0 := HBj.out.under HP0.bel
                have e1 : a.length - i = (a.drop i).length := by rw [List.length_drop]
                have e2 : b.length - j = (b.drop j).length := by rw [List.length_drop]
                have hK0 : Knd W0 := HK.out.below' HP0.bel
                have hBL := HBL.out
                have hBJ := HBJ.out
                rw [← hW0]
                clear hW0 pA pB c9 c10 HP5 HM5 b50 HAi HBj
                refine wpIn_rangeFunc_ownH rfl (by decide) (gf := 37) (lb := #[.pointer (some ⟨w5.heap.size, 0, none⟩), .pointer (some ⟨w5.heap.size + 1, 0, none⟩)]) rfl trivial (enters_of Tryd.func37 (by kernel_rfl) rfl)
                  (poss_stops 8 (by decide) (a.drop i) (b.drop j) Ai Bs (ca - i) (cb - j) w5.heap.size (w5.heap.size + 1) w.heap.size (by rw [← e1]; omega) (by rw [← e2]; omega) W0 (by rw [← e1]; exact cA0) (by rw [← e2]; exact cB0) hK0 HK.out.lt (by omega) HA0 HB0)
                  (fun h k => h.t k) (KpP.put (by omega) (by omega) (by omega)) (Below.refl _ _) (fun _ => rfl)
                  (fun pre W => VSt a b ps w w.heap.size (.slice (some ad) (a.length + 1) cp) i j (fun m => ∃ z ∈ pre, z.1 = m) W ∧ W.cell? ⟨Bi, 0, none⟩ = some (.int .i64 (i : Int)) ∧ W.cell? ⟨Bj, 0, none⟩ = some (.int .i64 (j : Int)) ∧ KeepsFrom 0 W0 W)
                  (fun c _ W => c = .ret ∧ ¬ Ver a b cost ps ∧ Below w.heap.size w W ∧ W.cell? ⟨w.heap.size + 1, 0, none⟩ = some (.bool false) ∧ KeepsFrom 0 W0 W)
                  (ownFrom_stable (fun _ _ h => h.2.2.2.size) (fun _ _ _ h k => ⟨h.1.under k (by omega) (by omega), (k.cell (p := ⟨Bi, 0, none⟩) (by show Bi < _; omega)).trans h.2.1, (k.cell (p := ⟨Bj, 0, none⟩) (by show Bj < _; omega)).trans h.2.2.1, ⟨Nat.le_trans h.2.2.2.size k.size, fun q o hB hq ho => (k.block q (Array.getElem?_eq_some_iff.1 hq).1).trans (h.2.2.2.same q o hB hq ho)⟩⟩))
                  (fun c => ownFrom_stable (fun _ _ h => h.2.2.2.2.size) (fun _ _ _ h k => ⟨h.1, h.2.1, h.2.2.1.trans (k.mono (by omega)), (k.cell (p := ⟨w.heap.size + 1, 0, none⟩) (by show w.heap.size + 1 < _; omega)).trans h.2.2.2.1, ⟨Nat.le_trans h.2.2.2.2.size k.size, fun q o hB hq ho => (k.block q (Array.getElem?_eq_some_iff.1 hq).1).trans (h.2.2.2.2.same q o hB hq ho)⟩⟩))
                  ⟨HP0.chk' (HP0.chk.step (n := 9) (fun m _ ⟨z, hz, _⟩ => by cases hz) (fun h => by have := okP_lt h; omega)), c90, c100, KeepsFrom.refl _ _⟩
                  (fun x a' W => ∃ Bx, W0.heap.size ≤ Bx ∧ W.heap[Bx]? = some (.cells #[.int .i64 (dA x.1 : Int), .int .i64 (dB x.1 : Int), .int .i64 (dC x.1)] 54) ∧ a' = { tmps := #[.slice A a.length ca, .slice B b.length cb, .int .i64 cost, .slice (some ad) (a.length + 1) cp, undef, undef, undef, .pointer (some ⟨w.heap.size, 0, none⟩), .pointer (some ⟨w.heap.size + 1, 0, none⟩), .pointer (some ⟨Bi, 0, none⟩), .pointer (some ⟨Bj, 0, none⟩), undef, .pointer (some ⟨Bx, 0, none⟩), u13, u14, u15, u16, u17, u18, u19, u20, u21, u22, u23, u24, u25, u26, u27, u28, u29, u30, u31, u32, u33, u34, u35, u36, u37, u38, u39, u40, u41, u42, u43, u44, .int .i64 ((a.length : Int) + 1), .int .i64 (i : Int), v47, v48, v49, v50, v51, v52, .int .i64 ((b.length : Int) + 1), .int .i64 (j : Int), .bool true, .int .i64 (j : Int), .slice A a.length ca, .int .i64 (i : Int), .slice Ai (a.length - i) (ca - i), .slice B b.length cb, .int .i64 (j : Int), .slice Bs (b.length - j) (cb - j), .func (.func 37) #[] #[.pointer (some ⟨w5.heap.size, 0, none⟩), .pointer (some ⟨w5.heap.size + 1, 0, none⟩)], .int .i64 (x.1 : Int), kV x.1, v66, v67, v68, v69, v70, v71, v72, v73, v74, v75, v76, v77, v78, v79, v80, v81, v82, v83, v84, v85, v86, v87, v88, v89, v90, u91], defers := [] })
                  (fun x a' _ X Y row hs hg hr => by obtain ⟨Bx, h1, h2, h3⟩ := hs; exact ⟨Bx, h1, (hg.block Bx (Array.getElem?_eq_some_iff.1 h2).1 (fun e => by obtain ⟨-, o, ho, hc⟩ := hr Bx e.symm; rw [h2] at ho; cases ho; cases hc)).trans h2, h3⟩)
                  ?assign ?body ?done ?stop
                case assign =>
                  rintro l pre x W K ⟨hP, hci, hcj, hks⟩ hK
                  rw [assign2]
                  simp only [List.setIfInBounds_toArray, List.set_cons_succ, List.set_cons_zero]
                  gi_wp2
                  have hsz := hks.size
                  have ba := (Below.refl W.heap.size W).alloc (Nat.le_refl _) (.cells #[.int .i64 (dA x.1 : Int), .int .i64 (dB x.1 : Int), .int .i64 (dC x.1)] 54)
                  exact hK _ _ ((KeepsOthers.alloc _ _).from _) (KpP.of_below ba (by omega) (by omega) (by omega)) ⟨hP.below ba, (ba.cell (p := ⟨Bi, 0, none⟩) (by show Bi < _; omega)).trans hci, (ba.cell (p := ⟨Bj, 0, none⟩) (by show Bj < _; omega)).trans hcj, hks.trans (keeps_belowV ba)⟩ ⟨W.heap.size, hsz, World.alloc_heap_new _ _, rfl⟩
                case body =>
                  rintro l pre ⟨xn, hx⟩ a' W hl - ⟨hP, c9, c10, hks⟩ ⟨Bx, hBx, hbx, rfl⟩ hlt'
                  have hok : okP a b i j xn = true := by rw [← okP_drop]; exact hx
                  obtain ⟨h5, hiA, hjB, hd1, hc0, hc4, -⟩ := okP_in hi' hj' hok
                  have q0 : W.cell? ⟨Bx, 0, none⟩ = some (.int .i64 (dA xn : Int)) := cellOf hbx 0
                  have q1 : W.cell? ⟨Bx, 1, none⟩ = some (.int .i64 (dB xn : Int)) := cellOf hbx 1
                  have q2 : W.cell? ⟨Bx, 2, none⟩ = some (.int .i64 (dC xn)) := cellOf hbx 2
                  have c7 := hP.c7
                  have w1 : IntKind.i64.wrap ((i : Int) + (dA xn : Int)) = ((i + dA xn : Nat) : Int) := by rw [IntWalk.i64_in _ (by omega)]; omega
                  have w2 : IntKind.i64.wrap ((j : Int) + (dB xn : Int)) = ((j + dB xn : Nat) : Int) := by rw [IntWalk.i64_in _ (by omega)]; omega
                  have HSTP := Lib.hid (show at2 ps (i + dA xn) (j + dB xn) ≤ at2 ps i j + dC xn → Chk a b ps i j (fun m => ∃ z ∈ pre ++ [(⟨xn, hx⟩ : Pos (a.drop i) (b.drop j))], z.1 = m) from fun h => hP.chk.step (n := xn) (fun m _ ⟨z, hz, e⟩ => by
                    rcases List.mem_append.1 hz with hz | hz
                    · exact Or.inl ⟨z, hz, e⟩
                    · rw [List.mem_singleton.1 hz] at e; exact Or.inr e.symm) (fun _ => h))
                  have HBAD := Lib.hid (show ¬ at2 ps (i + dA xn) (j + dB xn) ≤ at2 ps i j + dC xn → ¬ Ver a b cost ps from fun h k => h (k.le i j xn hi' hj' hok))
                  have HN1 := Lib.hid (fun W => within_any (at2 ps (i + dA xn) (j + dB xn)) (at2 ps i j) (dC xn) W (HWD.out _ _) (HWD.out _ _) ⟨hc0, hc4⟩)
                  obtain ⟨I, eI⟩ : ∃ I, I = i + dA xn := ⟨_, rfl⟩
                  obtain ⟨J, eJ⟩ : ∃ J, J = j + dB xn := ⟨_, rfl⟩
                  rw [← eI] at w1 hiA
                  rw [← eJ] at w2 hjB
                  rw [← eI, ← eJ] at HSTP HBAD HN1
                  obtain ⟨x1, d1, X1, X2⟩ := HP.out.cells HS.out (x := I) (y := J) (by omega) (by omega)
                  obtain ⟨x2, d2, X3, X4⟩ := HP.out.cells HS.out (x := i) (y := j) (by omega) (by omega)
                  have X1 := (hP.bel.cell (lt_of_cell X1)).trans X1
                  have X2 := (hP.bel.cell (lt_of_cell X2)).trans X2
                  have X3 := (hP.bel.cell (lt_of_cell X3)).trans X3
                  have X4 := (hP.bel.cell (lt_of_cell X4)).trans X4
                  have I0 : (0 : Int) ≤ (I : Int) := by omega
                  have J0 : (0 : Int) ≤ (J : Int) := by omega
                  have I1 : (I : Int) < (a.length : Int) + 1 := by omega
                  have J1 : (J : Int) < (b.length : Int) + 1 := by omega
                  have HST := Lib.hid hP
                  have HC9 := Lib.hid c9
                  have HC10 := Lib.hid c10
                  have HKS := Lib.hid hks
                  clear e1 e2 eI eJ hP hks hok hd1 hbx HP0 HM0 cA0 cB0 HA0 HB0 hK0 c90 c100 hiA hjB
                  generalize at2 ps I J = tv at *
                  generalize at2 ps i j = ti at *
                  have HBLX := Lib.hid (show ∀ k, Below W.heap.size W (W.drewN k) from fun k => ⟨rfl, rfl, rfl, Nat.le_refl _, fun _ _ => rfl⟩)
                  by_cases hle : tv ≤ ti + dC xn
                  · have HC2 := Lib.hid (HSTP.out hle)
                    have NR := Lib.hid (fun W => (HN1.out W).mono (R' := fun e w' => e = .returned (.bool true) ∧ W = w') (by rintro e w' ⟨h1, h2⟩; rw [decide_eq_true hle] at h1; exact ⟨h1, h2⟩))
                    clear HBAD HSTP hle HN1
                    gi_wp2
                    try dsimp only
                    refine wpIn_region_quiet_round l rfl (by kernel_rfl) (by kernel_rfl) (by kernel_rfl) ?_
                    repeat (gi_big_quiet_step (fail))
                    refine Go.BigFrame.wpQuietIn_want (fun _ _ _ _ => trivial) (Eq.refl true) ?_
                    intro K hK
                    gi_big_quiet_op
                    gi_big_quiet_call ((gi_at_call 30; exact CallsIn.quiet_of_same (callsIn_wide.2 ((NR.out _).mono fun _ _ h => ⟨h.1, h.2.symm⟩))))
                    repeat (gi_big_quiet_step (fail))
                    refine wpQuietIn_nil ?_
                    intro _ hw'
                    obtain ⟨nq, hw''⟩ := hw'
                    subst hw''
                    clear c7 c9 c10 q0 q1 q2 X1 X2 X3 X4 w1 w2
                    gi_wp2
                    exact ⟨⟨Nat.le_refl _, fun _ _ _ h _ => h⟩, ⟨⟨rfl, rfl, rfl, Nat.le_refl _, fun _ _ => rfl⟩, rfl, rfl, Nat.le_refl _⟩, (HST.out.below (HBLX.out nq)).chk' HC2.out, HC9.out, HC10.out, HKS.out.trans (keeps_belowV (HBLX.out nq))⟩
                  · have HF := Lib.hid (HBAD.out hle)
                    have NR := Lib.hid (fun W => (HN1.out W).mono (R' := fun e w' => e = .returned (.bool false) ∧ W = w') (by rintro e w' ⟨h1, h2⟩; rw [decide_eq_false hle] at h1; exact ⟨h1, h2⟩))
                    clear HBAD HSTP hle HN1
                    gi_wp2
                    try dsimp only
                    refine wpIn_region_quiet_round l rfl (by kernel_rfl) (by kernel_rfl) (by kernel_rfl) ?_
                    repeat (gi_big_quiet_step (fail))
                    refine Go.BigFrame.wpQuietIn_want (fun _ _ _ _ => trivial) (Eq.refl true) ?_
                    intro K hK
                    gi_big_quiet_op
                    gi_big_quiet_call ((gi_at_call 30; exact CallsIn.quiet_of_same (callsIn_wide.2 ((NR.out _).mono fun _ _ h => ⟨h.1, h.2.symm⟩))))
                    repeat (gi_big_quiet_step (fail))
                    refine wpQuietIn_nil ?_
                    intro _ hw'
                    obtain ⟨nq, hw''⟩ := hw'
                    subst hw''
                    clear c7 c9 c10 q0 q1 q2 X1 X2 X3 X4 w1 w2
                    have c8 : (W.drewN nq).cell? ⟨w.heap.size + 1, 0, none⟩ = some (.bool false) := HST.out.c8
                    have f8 : (W.drewN nq).frozen? ⟨w.heap.size + 1, 0, none⟩ = false := HST.out.f8
                    have FIN := Lib.hid (show KeepsFrom 0 W ((W.drewN nq).setCell ⟨w.heap.size + 1, 0, none⟩ (.bool false)) ∧ ((Code.ret = Code.ret) ∧ ¬ Ver a b cost ps ∧ Below w.heap.size w ((W.drewN nq).setCell ⟨w.heap.size + 1, 0, none⟩ (.bool false)) ∧ ((W.drewN nq).setCell ⟨w.heap.size + 1, 0, none⟩ (.bool false)).cell? ⟨w.heap.size + 1, 0, none⟩ = some (.bool false) ∧ KeepsFrom 0 W0 ((W.drewN nq).setCell ⟨w.heap.size + 1, 0, none⟩ (.bool false))) from
                      ⟨(KeepsFrom.trans (⟨Nat.le_refl _, fun _ _ _ h _ => h⟩ : KeepsFrom 0 W (W.drewN nq)) ((KeepsOthers.setCell _ _ _).from _)), rfl, HF.out, (HST.out.bel.trans ((HBLX.out nq).mono HST.out.bel.size)).setCell (p := ⟨w.heap.size + 1, 0, none⟩) (Nat.le_succ _) _, World.cell?_setCell_same _ _ _ c8, (HKS.out.trans (keeps_belowV (HBLX.out nq))).trans ((KeepsOthers.setCell _ _ _).from _)⟩)
                    gi_wp2
                    exact ⟨⟨FIN.out.1.size, fun i o _ hi hc => FIN.out.1.same i o (Nat.zero_le _) hi hc⟩, rfl, FIN.out.2.2⟩
                case done =>
                  rintro D zs W hD rfl ⟨hP, c9, c10, hks⟩ hK
                  have HP9 := Lib.hid (hP.chk' (hP.chk.next (fun m hm => ⟨⟨m, by rw [okP_drop]; exact hm⟩, poss_mem _ 5 (okP_lt hm), rfl⟩)))
                  have HM9 := Lib.hid (HM0.more hks hD (by omega) hK)
                  have C99 := Lib.hid c9
                  clear hP c9 c10 hks hK HP0 HM0 cA0 cB0 HA0 HB0 hK0 c90 c100 e1 e2
                  gi_wp2
                  exact ⟨⟨j + 1, _, _, _, _, _, _, _, _, _, _, _, _, _, _, _, _, _, _, _, _, _, _, _, _, _, _, _, _, _, _, _, _, _, _, _, _, _, _, _, _, _, _, _, _, _, rfl, by omega, HP9, C99, HM9⟩, by simp [intOf]; omega⟩
                case stop =>
                  rintro D c pre W hD - ⟨rfl, hF, hbel, hc8, hks⟩ hK
                  have HM9 := Lib.hid (HM0.more hks hD (by omega) hK)
                  clear hks hK HP0 HM0 cA0 cB0 HA0 HB0 hK0 c90 c100 e1 e2
                  have HF := Lib.hid (And.intro hF (And.intro hbel hc8))
                  clear hF hbel hc8
                  gi_wp2
                  refine leaves_marks (B := w.heap.size) (J := fun W => Below w.heap.size w W ∧ W.cell? ⟨w.heap.size + 1, 0, none⟩ = some (.bool false)) ?_ ?_ _ W HM9.out HF.out.2
                  · rintro W D o o' ⟨k1, k2⟩ hD ho hc
                    exact ⟨k1.grown (grownBy_putObj' W D o') k1.size (fun k e => by cases e; exact hD), cell_kept k2 (grownBy_putObj' W D o') (fun r e => by cases e; exact ⟨_, ho, hc⟩)⟩
                  · rintro W ⟨k1, k2⟩
                    exact ⟨_, results_cell8 rfl _ _ _ _ rfl k2, VerPost.no HF.out.1 k1⟩
              · obtain rfl : j = b.length + 1 := by omega
                have HP9 := Lib.hid (HVS.out.chk' HVS.out.chk.row)
                clear HVS
                gi_wp2
                exact ⟨⟨i + 1, _, _, _, _, _, _, _, _, _, _, _, _, _, _, _, _, _, _, _, _, _, _, _, _, _, _, _, _, _, _, _, _, _, _, _, _, _, _, _, _, _, _, _, _, _, _, _, _, _, _, _, _, _, _, _, _, _, _, _, _, _, _, _, _, _, _, _, _, _, _, _, _, _, _, _, _, _, _, _, _, ds2, rfl, by omega, HP9, HM⟩, by simp [intOf]; omega⟩
          · obtain rfl : i = a.length + 1 := by omega
            have HV := Lib.hid (HVS.out.chk.ver HNL.out HS.out HZ.out HT.out)
            have c8 := HVS.out.c8
            have f8 := HVS.out.f8
            gi_wp2
            have c8' : (wr.setCell ⟨w.heap.size + 1, 0, none⟩ (.bool true)).cell? ⟨w.heap.size + 1, 0, none⟩ = some (.bool true) := World.cell?_setCell_same _ _ _ c8
            refine leaves_marks (B := w.heap.size) (J := fun W => Below w.heap.size w W ∧ W.cell? ⟨w.heap.size + 1, 0, none⟩ = some (.bool true)) ?_ ?_ ds _ (HM.out.keeps ((KeepsOthers.setCell _ _ _).from _)) ⟨HVS.out.bel.setCell (p := ⟨w.heap.size + 1, 0, none⟩) (Nat.le_succ _) _, c8'⟩
            · rintro W D o o' ⟨k1, k2⟩ hD ho hc
              exact ⟨k1.grown (grownBy_putObj' W D o') k1.size (fun k e => by cases e; exact hD), cell_kept k2 (grownBy_putObj' W D o') (fun r e => by cases e; exact ⟨_, ho, hc⟩)⟩
            · rintro W ⟨k1, k2⟩
              exact ⟨_, results_cell8 rfl _ _ _ _ rfl k2, VerPost.yes HV.out k1⟩
      · have HF := Lib.hid (show ¬ Ver a b cost ps from fun h => ht h.top)
        have ht' : at2 ps a.length b.length < cost := by omega
        clear ht
        rw [hw2] at c7 c8 f8 z1 z2 y1 y2 HL HSH
        gi_wp2_with (first | (refine ⟨trivial, ?_⟩; gi_at_call 24; refine (callsIn_wide.2 HL.out).mono ?_; rintro e w' ⟨rfl, rfl⟩) | (refine ⟨trivial, ?_⟩; gi_at_call 29; refine (callsIn_wide.2 HSH.out).mono ?_; rintro e w' ⟨rfl, rfl⟩))
        rw [← hw2]
        refine HNO.out _ _ ?_ ?_ HF.out <;> rfl
    · have HF := Lib.hid (show ¬ Ver a b cost ps from fun h => hz h.z)
      have f1 : (at2 ps 0 0 == 0) = false := beq_eq_false_iff_ne.2 hz
      have f2 : (at2 ps 0 0 != 0) = true := by simp [bne, f1]
      rw [hw2] at c7 c8 f8 z1 z2 y1 y2 HL HSH
      gi_wp2_with (first | (refine ⟨trivial, ?_⟩; gi_at_call 24; refine (callsIn_wide.2 HL.out).mono ?_; rintro e w' ⟨rfl, rfl⟩) | (refine ⟨trivial, ?_⟩; gi_at_call 29; refine (callsIn_wide.2 HSH.out).mono ?_; rintro e w' ⟨rfl, rfl⟩))
      rw [← hw2]
      refine HNO.out _ _ ?_ ?_ HF.out <;> rfl
  · have HSH := Lib.hid (show Calls Tryd.prog 29 #[.slice P ps.length cp, .slice A a.length ca, .slice B b.length cb] w2 (fun e w' => e = .returned (.bool false) ∧ w2 = w') from HSH.out.mono (by
      rintro e w' ⟨⟨r, rfl, hr⟩, rfl⟩
      cases r with
      | false => exact ⟨rfl, rfl⟩
      | true => exact absurd (hr.1 rfl) hsh))
    have HF := Lib.hid (show ¬ Ver a b cost ps from fun h => hsh h.shp)
    clear hsh
    rw [hw2] at c7 c8 f8 HL HSH
    gi_wp2_with (first | (refine ⟨trivial, ?_⟩; gi_at_call 24; refine (callsIn_wide.2 HL.out).mono ?_; rintro e w' ⟨rfl, rfl⟩) | (refine ⟨trivial, ?_⟩; gi_at_call 29; refine (callsIn_wide.2 HSH.out).mono ?_; rintro e w' ⟨rfl, rfl⟩) | (refine ⟨trivial, ?_⟩))
    rw [← hw2]
    refine HNO.out _ _ ?_ ?_ HF.out <;> rfl
end Go.Proofs.YtbdiilkdajadcaaDoor
