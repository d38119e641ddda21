/-
  Stage 4: the walk of DetectorLimits.
-/
import Derived.Test.YtbpgbdnfoofnaaaDoorDSrc
set_option linter.unusedSimpArgs false
set_option linter.unusedVariables false
namespace Go.Proofs.YtbpgbdnfoofnaaaDoor
open Go.RowKit

theorem enc_over {l : List Pul} (h : 4096 < l.length) : encL l = ([], 3) := by
  have e : validR l = 3 := by unfold validR; rw [if_pos h]
  rw [enc_bad (by rw [e]; decide), e]
theorem valid_at {l : List Pul} {er : Int} (h : validR l = er) (A : Option Addr) (c L : Nat) (hL : L = l.length) (w : World) (R : PRow w A l) :
    Calls Tryd.prog 12 #[.slice A L c] w fun e w' => e = .returned (.int .i64 er) ∧ Below w.heap.size w w' := by subst hL; rw [← h]; exact valid_any l A c w R
theorem lim_nat (v : Int) : ∃ n : Nat, 4095 ≤ n ∧ n ≤ 4097 ∧ 4095 + (v.tmod 3 + 3) % 3 = (n : Int) ∧ 4095 + v.tmod 3 % 3 = (n : Int) := by
  have h := tmod_bd v 3 (by decide)
  exact ⟨(4095 + (v.tmod 3 + 3) % 3).toNat, by omega, by omega, by omega, by omega⟩
set_option maxRecDepth 100000 in
set_option maxHeartbeats 3200000 in
theorem limits_walk (l : List Int) (A : Option Addr) (c : Nat) (n0 : Int) (w : World) (R : RowB .i64 w A l) (hw : ∀ n ∈ l, (Lit.int .i64 n).wf = true) (D : Dat w) :
    Calls Tryd.prog 3 #[.slice A l.length c, .int .i64 n0] w fun e w' => e = .returned (.bool true) ∧ Below w.heap.size w w' := by
  obtain ⟨i0, hi, hz0, hz1, hz2⟩ := info_parts infoU8
  obtain ⟨j0, hj, hy0, hy1, hy2⟩ := info_parts infoPul
  have K0 := Lib.hid (mk_row (c := c) (T := 56) R hw)
  have HD := Lib.hid D
  obtain ⟨n, n1, n2, e1', e2'⟩ := lim_nat n0
  have E1 := Lib.hid e1'
  have E2 := Lib.hid e2'
  have tb := tmod_bd n0 3 (by decide)
  clear R hw D e1' e2'
  go_enter Tryd.func3, Tryd.ntmps3
  go_wp2_with fail
  refine (new_any A l.length c w).mono ?_
  rintro e w1 ⟨rfl, e1⟩
  have B1 : Below w.heap.size w w1 := by rw [e1]; exact (Below.refl _ _).alloc (Nat.le_refl _) _
  have K1 := Lib.hid (show IsMk w1 w.heap.size 0 by rw [e1]; exact K0.out)
  have HB1 := Lib.hid B1
  have hm := K1.out.lt
  clear e1 B1 K0
  go_upto_region 3 with fail
  simp only [E1.out, E2.out]
  clear tb
  go_wp2_with fail
  refine (pick_any w.heap.size 0 (fun v => 0 ≤ v ∧ v ≤ 3000000) _ 3 3 _ (K1.out.alloc _) (by omega) (by omega) (by omega) (by omega) (by simp) (by exact new_pick _ _ _ [0, 1000, 3000000] (by decide) _ rfl)).mono ?_
  rintro e w2 ⟨x0, rfl, ⟨b1, b2⟩, k1, k2⟩
  have HK := Lib.hid k1
  have HM := Lib.hid (((Moves.refl w.heap.size w1).alloc _).trans k2)
  clear k1 k2
  have hwx : IntKind.i64.wrap (1000000000 - x0) = 1000000000 - x0 := IntWalk.i64_in _ (by omega)
  go_wp2_with fail
  go_loopw [6, 7, 8] (fun ov tv iv wr => ∃ (ps : List Pul) (k M : Nat) (T : Int), iv = .int .i64 (k : Int) ∧ k ≤ n ∧ tv = .int .i64 T ∧ (0 ≤ T ∧ T ≤ 1000000000) ∧ M ≤ 1 + 3 * k ∧ Hid (POwn wr w1.heap.size ov ps ∧ ps.length = k) ∧ Hid (run 0 ps ∧ ∀ q ∈ ps, q.2.1 ≤ T) ∧ Hid (IsMk wr w.heap.size M) ∧ Hid (Moves w.heap.size w1 wr)) (fun _ _ iv _ => n - (intOf iv).toNat)
  case atStart => exact ⟨[], 0, 1, 1000000000 - x0, rfl, by omega, rfl, ⟨by omega, by omega⟩, by omega, Lib.hid ⟨POwn.nil, rfl⟩, Lib.hid ⟨trivial, fun q hq => (by cases hq)⟩, HK, HM⟩
  case round =>
    clear HK HM
    obtain ⟨ps, k, M, T, rfl, hk, rfl, hT, hM, O, R, K, V⟩ := hrel
    by_cases hlt : k < n
    · have hkp : (k : Int) < (n : Int) := by omega
      have OP := Lib.hid O.out.1
      have OL := Lib.hid O.out.2
      clear O
      go_wp2_with fail
      refine (pick_any w.heap.size M (fun v => 0 ≤ v ∧ v ≤ 1024) _ 5 5 _ (K.out.alloc _) (by omega) (by omega) (by omega) (by have := K.out.lt; omega) (by simp) (by exact new_pick _ _ _ [0, 0, 1, 1023, 1024] (by decide) _ rfl)).mono ?_
      rintro e w3 ⟨x, rfl, ⟨x1, x2⟩, k5, k6⟩
      have M3 := Lib.hid ((V.out.alloc _).trans k6)
      have O3 := Lib.hid ((OP.out.alloc _).moves k6 hm)
      have K3 := Lib.hid k5
      clear k5 k6 K V OP
      obtain ⟨T2, hT2⟩ : ∃ t, t = min2 1000000000 (T + x) := ⟨_, rfl⟩
      have hmn : ∀ w ts t, (Builtin.min_ ts t #[.int .i64 1000000000, .int .i64 (T + x)]).run Tryd.prog w = .ok (.int .i64 T2) w := fun w ts t => by rw [run_min2, hT2]
      have bT : T ≤ T2 ∧ T2 ≤ 1000000000 := by
        rw [hT2]; unfold min2; split <;> omega
      clear hT2
      go_wp2_with fail
      refine (pick_any w.heap.size (M + 1) (fun v => v = 0 ∨ v = 31) _ 2 2 _ (K3.out.alloc _) (by omega) (by omega) (by omega) (by have := K3.out.lt; omega) (by simp) (by exact new_pick _ _ _ [0, 31] (by decide) _ rfl)).mono ?_
      rintro e w4 ⟨d, rfl, hd, k7, k8⟩
      have M4 := Lib.hid ((M3.out.alloc _).trans k8)
      have O4 := Lib.hid ((O3.out.alloc _).moves k8 hm)
      have K4 := Lib.hid k7
      clear k7 k8 M3 O3 K3 hmn
      go_wp2_with fail
      refine (pick_any w.heap.size (M + 1 + 1) (fun v => v = 1 ∨ v = -1) _ 2 2 _ (K4.out.alloc _) (by omega) (by omega) (by omega) (by have := K4.out.lt; omega) (by simp) (by exact new_pick _ _ _ [1, -1] (by decide) _ rfl)).mono ?_
      rintro e w5 ⟨s, rfl, hs, k9, k10⟩
      have M5 := Lib.hid ((M4.out.alloc _).trans k10)
      have O5 := Lib.hid ((O4.out.alloc _).moves k10 hm)
      have K5 := Lib.hid k9
      have HLN := Lib.hid (show ps.length ≤ 4097 by have := OL.out; omega)
      clear k9 k10 M4 O4 K4
      go_wp2_with (first | (at_builtin; refine wpList_append_lies _ rfl (.tmp 36) (.tmp 45) 25 rfl w1.heap.size 28 j0 (.agg #[.int .i64 0, .int .i64 0, .int .i64 0]) 3 24 Tryd.underlying25 hj hy0 hy1 hy2 rfl (by decide) _ ps.length ((flatP ps).map (Value.int .i64)) rfl (O5.out.alloc _) ⟨w5.heap.size, 0, none⟩ 1 1 ((flatP [(d, T2, s)]).map (Value.int .i64)) rfl rfl (news_int (W := w5) (ys := flatP [(d, T2, s)])) (one_cells (ys := flatP [(d, T2, s)])) (by decide) (by unfold maxLen; have := HLN.out; omega) (by have := HLN.out; omega) (by have := M5.out.size; simp only [World.size_alloc]; omega) _ rfl ?_; intro g cap w6 hown hgr hgb hlt2))
      have AP := Lib.hid (POwn.app (l := ps) (m := [(d, T2, s)]) hown rfl rfl)
      have M6 := Lib.hid ((M5.out.alloc (.cells #[.int .i64 d, .int .i64 T2, .int .i64 s] 28)).grown hgr (fun j hj => (O5.out.block hj).1))
      have K6 := Lib.hid ((K5.out.alloc (.cells #[.int .i64 d, .int .i64 T2, .int .i64 s] 28)).grown hgr (fun j hj => by have := (O5.out.block hj).1; omega))
      clear hown hgr hgb hlt2
      go_roundw
      case rel =>
        refine ⟨ps ++ [(d, T2, s)], k + 1, M + 1 + 1 + 1, T2, by go_num, by omega, rfl, ⟨by omega, bT.2⟩, by omega, Lib.hid ⟨AP.out, by rw [List.length_append, OL.out]; rfl⟩, Lib.hid ⟨run_snoc R.out.1 ⟨⟨by show 0 ≤ d; omega, by show d ≤ 31; omega⟩, ⟨by show 0 ≤ T2; omega, bT.2⟩, hs⟩ (by show 0 ≤ T2; omega) (fun q hq => by have := R.out.2 q hq; show q.2.1 ≤ T2; omega), fun q hq => ?_⟩, K6, M6⟩
        rcases List.mem_append.1 hq with hq | hq
        · have := R.out.2 q hq; omega
        · rw [List.mem_singleton] at hq; subst hq; exact Int.le_refl _
      case measure => simp [intOf]; omega
    · obtain rfl : k = n := by omega
      have HB2 := Lib.hid (V.out.below HB1.out (Nat.le_refl _) HB1.out.size)
      have hrun := R.out.1
      have hpl := O.out.2
      obtain ⟨A2, c2, rfl, R2, h1, h2, _⟩ := O.out.1.full
      have HR2 := Lib.hid R2
      have H1 := Lib.hid h1
      have H2 := Lib.hid h2
      have HPL := Lib.hid hpl
      have HRUN := Lib.hid hrun
      rw [hpl]
      clear R2 h1 h2 hpl hrun O K V R hlt hk
      by_cases hbig : 4096 < k
      · have HE := Lib.hid (enc_over (l := ps) (by rw [HPL.out]; exact hbig))
        have HV := Lib.hid (show validR ps = 3 by unfold validR; rw [if_pos (by rw [HPL.out]; exact hbig)])
        have hbi : (4096 : Int) < (k : Int) := by omega
        go_wp2_with fail
        refine (enc_at HE.out A2 c2 k HPL.out.symm wr HR2.out H1.out H2.out (HD.out.below' HB2.out)).mono ?_
        rintro e w3 ⟨v3, rfl, O3, B3⟩
        have HB3 := Lib.hid (HB2.out.trans (B3.mono HB2.out.size))
        have HR3 := Lib.hid (HR2.out.below B3)
        clear O3 B3
        go_wp2_with fail
        refine (valid_at HV.out A2 c2 k HPL.out.symm w3 HR3.out).mono ?_
        rintro e w4 ⟨rfl, B4⟩
        have HB4 := Lib.hid (HB3.out.trans (B4.mono HB3.out.size))
        clear B4
        go_wp2_with fail
        refine (sane_any _ (HD.out.below' HB4.out)).mono ?_
        rintro e w5 ⟨rfl, B5⟩
        have HB5 := Lib.hid (HB4.out.trans (B5.mono HB4.out.size))
        clear B5
        go_wp2_with fail
        go_ret
        exact ⟨rfl, HB5.out⟩
      · have HE := Lib.hid (enc_run HRUN.out (by rw [HPL.out]; omega))
        have HG := Lib.hid (dec_good HRUN.out (by rw [HPL.out]; omega) (Good.all (values_okV _ ps (Nat.le_refl _) 0 HRUN.out)))
        have HT := Lib.hid (dec_twice HRUN.out (by rw [HPL.out]; omega) (by rw [HPL.out]; omega))
        have BY := Lib.hid (two_bytR ps HRUN.out)
        have hvl := (values_len ps.length ps (Nat.le_refl _)).1
        have tl := two_len (valuesR ps)
        obtain ⟨xs, hxs⟩ : ∃ xs, xs = (valuesR ps).flatMap two := ⟨_, rfl⟩
        rw [← hxs] at HE HG HT BY tl
        have HLX := Lib.hid (show xs.length ≤ 50000 by have := HPL.out; omega)
        have hbi : ¬ (4096 : Int) < (k : Int) := by omega
        clear hxs tl hvl
        go_wp2_with fail
        refine (enc_at HE.out A2 c2 k HPL.out.symm wr HR2.out H1.out H2.out (HD.out.below' HB2.out)).mono ?_
        rintro e w3 ⟨v3, rfl, O3, B3⟩
        obtain ⟨A3, c3, rfl, Q3, a3⟩ := O3.src
        have HB3 := Lib.hid (HB2.out.trans (B3.mono HB2.out.size))
        have HR3 := Lib.hid (HR2.out.below B3)
        have X3 := Lib.hid Q3
        have X3a := Lib.hid a3
        clear O3 B3 Q3 a3
        go_wp2_with fail
        refine (dec_at HG.out A3 c3 _ rfl w3 X3.out BY.out (HD.out.below' HB3.out)).mono ?_
        rintro e w4 ⟨A4, c4, A5, c5, rfl, Q4, _, B4⟩
        have HB4 := Lib.hid (HB3.out.trans (B4.mono HB3.out.size))
        have X4 := Lib.hid Q4
        have HR4 := Lib.hid (HR3.out.below B4)
        have X4b := Lib.hid (X3.out.below B4)
        rw [HPL.out]
        clear Q4 B4
        go_wp2_with fail
        refine (psame_at A4 A2 c4 c2 _ _ HPL.out.symm HPL.out.symm _ X4.out HR4.out).mono ?_
        rintro e w' ⟨rfl, q1, rfl⟩
        have X5 := Lib.hid (X4b.out.drewN q1)
        have HB5 := Lib.hid (bdn (n := q1) HB4.out)
        obtain ⟨w5, e5⟩ : ∃ x, x = w4.drewN q1 := ⟨_, rfl⟩
        rw [← e5] at X5 HB5 ⊢
        clear e5 X4b
        go_wp2_with (first
          | (at_builtin; refine wpList_app_src rfl (.tmp 88) (.tmp 89) 29 rfl w5.heap.size 5 i0 (.int .u8 0) 1 1 Tryd.underlying29 hi hz0 hz1 hz2 rfl (by decide) _ 0 [] rfl (own_empty (Nat.le_refl _)) A3 xs.length c3 (xs.map (Value.int .u8)) rfl X3a.out (by simp) (Row.newsO (X5.out.below ((Below.refl _ _).alloc (Nat.le_refl _) _)).1) one_cells (by unfold maxLen; have := HLX.out; omega) (by have := HLX.out; omega) (by simp) ?_; intro v6 w6 hown6 hg6; have S6 := Lib.hid (show Below w5.heap.size w5 w6 from ((Below.refl _ _).alloc (Nat.le_refl _) _).grown hg6 (by simp) (fun g hg => Nat.le_of_eq (Option.some.inj (show some w5.heap.size = some g from hg)))); have W6 := Lib.hid hown6; clear hown6 hg6)
          | (at_builtin; refine wpList_app_src rfl (.tmp 90) (.tmp 91) 29 rfl w5.heap.size 5 i0 (.int .u8 0) 1 1 Tryd.underlying29 hi hz0 hz1 hz2 rfl (by decide) _ (0 + xs.length) ([] ++ xs.map (Value.int .u8)) rfl W6.out A3 xs.length c3 (xs.map (Value.int .u8)) rfl X3a.out (by simp) (Row.newsO (X5.out.below S6.out).1) one_cells (by unfold maxLen; have := HLX.out; omega) (by have := HLX.out; omega) S6.out.size ?_; intro v7 w7 hown7 hg7; have S7 := Lib.hid (show Below w5.heap.size w5 w7 from S6.out.grown hg7 S6.out.size (fun g hg => rows_block W6.out hg)); have W7 := Lib.hid hown7; clear hown7 hg7))
        have O7 : Own .u8 5 w7 w5.heap.size v7 (xs ++ xs) := by
          have := W7.out
          unfold Own
          rw [List.length_append, List.map_append]
          simpa using this
        obtain ⟨A7, c7, rfl, Q7, _⟩ := O7.src
        have HB7 := Lib.hid (HB5.out.trans (S7.out.mono HB5.out.size))
        have X7 := Lib.hid Q7
        clear O7 Q7 W7 W6 S6 S7 X5
        refine (dec_at HT.out A7 c7 _ rfl w7 X7.out (fun z hz => by rcases List.mem_append.1 hz with h | h <;> exact BY.out z h) (HD.out.below' HB7.out)).mono ?_
        rintro e w8 ⟨A8, c8, A9, c9, rfl, _, _, B8⟩
        have HB8 := Lib.hid (HB7.out.trans (B8.mono HB7.out.size))
        clear B8
        go_wp2_with fail
        refine (sane_any _ (HD.out.below' HB8.out)).mono ?_
        rintro e w9 ⟨rfl, B9⟩
        have HB9 := Lib.hid (HB8.out.trans (B9.mono HB8.out.size))
        clear B9
        go_wp2_with fail
        go_ret
        exact ⟨rfl, HB9.out⟩
end Go.Proofs.YtbpgbdnfoofnaaaDoor
