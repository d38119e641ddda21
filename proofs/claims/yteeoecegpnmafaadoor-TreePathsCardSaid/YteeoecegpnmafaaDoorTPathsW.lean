/-
  Stage 10: the walk of TreePaths.
-/
import Derived.Test.YteeoecegpnmafaaDoorTLawK
set_option linter.unusedSimpArgs false
set_option linter.unusedVariables false
namespace Go.Proofs.YteeoecegpnmafaaDoor
open Go.RowKit Go.Lib

set_option maxRecDepth 100000 in
set_option maxHeartbeats 3200000 in
theorem paths_walk (A : Option Addr) (c : Nat) (zs : List Int) (w : World) (D : Dor w) (hr : Row .i64 w w.heap.size A zs) (hm : zs.length ≤ maxLen) (hw : ∀ n ∈ zs, (Lit.int .i64 n).wf = true) :
    Calls Tryd.prog 4 #[.slice A zs.length c] w (BoolPost true w) := by
  have K := Lib.hid (mk_row (c := c) (T := 49) hr hm hw)
  have B := Lib.hid ((Below.refl w.heap.size w).alloc (Nat.le_refl _) (.cells #[.slice A zs.length c, .int .i64 0] 49))
  obtain ⟨m, hmm⟩ : ∃ m, m = w.heap.size := ⟨_, rfl⟩
  have HMM := Lib.hid hmm
  have DD := Lib.hid D
  clear hr hw D
  go_enter Tryd.func4, Tryd.ntmps4
  go_wp2_with fail
  refine (new_any A zs.length c w).mono ?_
  rintro e w1 ⟨rfl, hw1⟩
  rw [← hw1] at K B
  rw [← hmm] at K ⊢
  clear hmm hw1 hm
  go_wp2_with fail
  refine (law_layout m 8 0 w w1 DD.out HMM.out K.out B.out (by omega) (by omega)).mono ?_
  rintro e w2 ⟨lA, lc, l, rfl, ⟨base, Y⟩, hl1, hl2⟩
  have Y2 := Lib.hid Y
  clear Y K B DD HMM
  go_wp2_with fail
  refine (next_any m _ (l.length : Int) _ Y2.out.kk (by omega) (by omega) (by omega)).mono ?_
  rintro e w3 ⟨i, rfl, i1, i2, k1, k2⟩
  have Y3 := Lib.hid (Y2.out.moves k2 k1)
  clear k1 k2 Y2
  have hch : chkZ l [i] = 0 := chk_of Y3.out.ok (fun z hz => by rw [List.mem_singleton.1 hz]; omega)
  have hp := path_any l lA lc i w3 Y3.out.row
  rw [hch, show pairE 0 (wayZ l i) = wayZ l i from rfl] at hp
  have HP := Lib.hid hp
  have hiL : i < l.length := by omega
  have hm3 := Y3.out.kk.lt
  have hlast := way_last Y3.out.par i1 hiL
  have hhead := way_head Y3.out.par i1 hiL
  have HWN := Lib.hid (fun (m : Nat) (x : Int) (h : (wayZ l i)[m + 1]? = some x) => way_next Y3.out.par hiL h)
  have HWT := Lib.hid (fun (m : Nat) (x : Int) (h : (wayZ l i)[m]? = some x) => way_take Y3.out.par hiL h)
  have HWB := Lib.hid (way_bd Y3.out.par hiL)
  have hwl := way_len Y3.out.par hiL
  clear hch hp
  go_wp2_with fail
  refine HP.out.mono ?_
  obtain ⟨ps, hps⟩ : ∃ ps, ps = wayZ l i := ⟨_, rfl⟩
  rw [← hps] at HWN HWT HWB hwl hlast hhead ⊢
  rintro e w4 ⟨v, rfl, O, B4⟩
  obtain ⟨g, c2, rfl, hc2, hg1, hg2, hcells⟩ := own_some O hlast.1
  have Y4 := Lib.hid (Y3.out.below B4)
  have OO := Lib.hid O
  have HC := Lib.hid hcells
  clear O B4 hcells HP Y3
  obtain ⟨L, hL⟩ : ∃ n, n = ps.length := ⟨_, rfl⟩
  have HLL := Lib.hid hL
  have hL0 : L ≠ 0 := by rw [hL]; exact hlast.1
  obtain ⟨K, rfl⟩ : ∃ K, L = K + 1 := ⟨L - 1, by omega⟩
  have c0 := HC.out 0 (by omega)
  have cK := HC.out K (by omega)
  have e0 : ps.getD 0 0 = 0 := by rw [List.getD_eq_getElem?_getD, hhead]; rfl
  have eK : ps.getD K 0 = i := by rw [← hL, Nat.add_sub_cancel] at hlast; rw [List.getD_eq_getElem?_getD, hlast.2]; rfl
  rw [e0] at c0
  rw [eK] at cK
  rw [← hL] at hc2 hwl ⊢
  clear hL hps hlast hhead e0 eK hL0
  go_upto_region 7 with fail
  clear c0 cK
  go_wp2_with fail
  go_loopw [8] (fun iv wr => (∃ n, wr = w4.drewN n) ∧ ∃ j : Nat, j ≤ K ∧ iv = .int .i64 ((j : Int) + 1)) (fun iv _ => K + 1 - (intOf iv).toNat)
  case atStart => exact ⟨⟨0, rfl⟩, 0, by omega, rfl⟩
  case round =>
    obtain ⟨⟨n, hwn⟩, j, hj, rfl⟩ := hrel
    have HW := Lib.hid hwn
    by_cases hlt : j < K
    · have hx : ps[j + 1]? = some (ps.getD (j + 1) 0) := by
        rw [List.getD_eq_getElem?_getD, List.getElem?_eq_getElem (by have := HLL.out; omega)]; rfl
      obtain ⟨h1, h2, h3, h4⟩ := HWN.out j _ hx
      have c1 := HC.out (j + 1) (by have := HLL.out; omega)
      have c0 := HC.out j (by have := HLL.out; omega)
      have ej : ps.getD j 0 = parA l (ps.getD (j + 1) 0) := by rw [List.getD_eq_getElem?_getD, h1]; rfl
      rw [ej] at c0
      generalize ps.getD (j + 1) 0 = x at *
      obtain ⟨q, rfl⟩ := Int.eq_ofNat_of_zero_le (show 0 ≤ x by omega)
      obtain ⟨y, hy, e1, _, _⟩ := el_at (l := l) (k := q) (by omega)
      obtain ⟨ad, hA, C⟩ := Y4.out.row.row.at_ hy
      have c2 := (ESpelt.of C).c2
      rw [← e1] at c2
      generalize parA l (q : Int) = p at *
      have d0 : wr.cell? ⟨g, j, none⟩ = some (.int .i64 p) := by rw [hwn]; exact c0
      have d1 : wr.cell? ⟨g, j + 1, none⟩ = some (.int .i64 (q : Int)) := by rw [hwn]; exact c1
      have d2 : wr.cell? ⟨(ad.add (q * 8)).block, (ad.add (q * 8)).off + 2, none⟩ = some (.int .i64 p) := by rw [hwn]; exact c2
      subst hA
      have g1 : decide ((q : Int) ≤ p) = false := decide_eq_false (by omega)
      have g2 : decide ((l.length : Int) ≤ (q : Int)) = false := decide_eq_false (by omega)
      have g3 : decide (l.length ≤ q) = false := decide_eq_false (by omega)
      have hj1 : (j : Int) + 1 < (K : Int) + 1 := by omega
      clear hwn hx h1 ej c0 c1 c2 C hy e1
      go_upto_region 10 with fail
      go_quiet (fail)
      clear d0 d1 d2 g1 g2 g3
      go_wp2_with fail
      go_roundw
      case rel => exact ⟨by obtain ⟨n, rfl⟩ : ∃ n, wr = w4.drewN n := ⟨_, HW.out⟩; exact ⟨n + nq, by rw [World.drewN_drewN]⟩, j + 1, by omega, by congr 1⟩
      case measure => simp [intOf]; omega
    · obtain rfl : j = K := by omega
      have Y5 := Lib.hid (show Ly w wr m base _ lA lc l by rw [hwn]; exact Y4.out.drewN n)
      have O5 := Lib.hid (show Own .i64 3 wr w3.heap.size (.slice (some ⟨g, 0, none⟩) ps.length c2) ps by rw [hwn]; exact OO.out.drewN n)
      clear hwn HW HC OO Y4
      go_wp2_with fail
      refine (next_any m _ ((j : Int) + 1) _ Y5.out.kk (by omega) (by omega) (by omega)).mono ?_
      rintro e w5 ⟨v, rfl, v1, v2, k1, k2⟩
      obtain ⟨b, rfl⟩ := Int.eq_ofNat_of_zero_le v1
      have Y6 := Lib.hid (Y5.out.moves k2 k1)
      have O6 := Lib.hid (O5.out.moves k2 hm3)
      obtain ⟨gx, cx, ex, _, _, _, hcx⟩ := own_some O6.out (by rw [← HLL.out]; omega)
      injection ex with ex1 ex2 ex3
      injection ex1 with ex1
      injection ex1 with ex1
      subst ex1
      have hbj : b < ps.length := by have := HLL.out; omega
      have cb := hcx b hbj
      have hx : ps[b]? = some (ps.getD b 0) := by rw [List.getD_eq_getElem?_getD, List.getElem?_eq_getElem hbj]; rfl
      have ht := HWT.out b _ hx
      have hbd := HWB.out _ (List.mem_of_getElem? hx)
      have HT := Lib.hid ht
      have hch : chkZ l [ps.getD b 0] = 0 := chk_of Y6.out.ok (fun z hz => by rw [List.mem_singleton.1 hz]; omega)
      have hp := path_any l lA lc (ps.getD b 0) w5 Y6.out.row
      rw [hch, show pairE 0 (wayZ l (ps.getD b 0)) = wayZ l (ps.getD b 0) from rfl] at hp
      have HP := Lib.hid hp
      have hb1 : (b : Int) < (j : Int) + 1 := by omega
      have hb2 : b + 1 ≤ c2 := by omega
      clear hp hch hx ht hbd hcx k1 k2 ex2 ex3 O5 Y5
      generalize ps.getD b 0 = x at *
      go_wp2_with fail
      refine HP.out.mono ?_
      rintro e w6 ⟨v, rfl, Q, B7⟩
      obtain ⟨qA, qc, rfl, RQ, _⟩ := Q.slice
      obtain ⟨_, _, eo, RO, _⟩ := (O6.out.below B7).slice
      injection eo with eo1 eo2 eo3
      subst eo1
      have RT := RO.take (b + 1)
      rw [HT.out] at RT
      have hlw : (wayZ l x).length = b + 1 := by rw [← HT.out, List.length_take]; omega
      have HI := Lib.hid (ints_same (wayZ l x) qA (some ⟨g, 0, none⟩) qc c2 w6 RQ RT (by rw [hlw]; unfold maxLen; omega))
      rw [hlw] at HI ⊢
      have Y7 := Lib.hid (Y6.out.below B7)
      have hsl := fun W => slice_intsT (some ⟨g, 0, none⟩) (j + 1) c2 (b + 1) W hb2
      clear RQ RO RT Q B7 cb O6 Y6 HP eo2 eo3
      go_wp2_with fail
      refine HI.out.mono ?_
      rintro e _ ⟨rfl, n7, rfl⟩
      have Y8 := Lib.hid (Y7.out.drewN n7)
      clear HI Y7
      go_wp2_with fail
      refine (sane_any _ Y8.out.dor).mono ?_
      rintro e w8 ⟨rfl, B8⟩
      have Y9 := Lib.hid (Y8.out.below B8).bel
      clear B8 Y8
      go_wp2_with fail
      go_ret
      exact ⟨rfl, Y9.out⟩
end Go.Proofs.YteeoecegpnmafaaDoor
