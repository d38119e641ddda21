/-
  Stage 4: the walk of DetectorJoins.
-/
import Derived.Test.YtbpgbdnfoofnaaaDoorDSrc
set_option linter.unusedSimpArgs false
set_option linter.unusedVariables false
namespace Go.Proofs.YtbpgbdnfoofnaaaDoor
open Go.RowKit

set_option maxRecDepth 100000 in
set_option maxHeartbeats 3200000 in
theorem joins_walk (l : List Int) (A : Option Addr) (c : Nat) (w : World) (R : RowB .i64 w A l) (hw : ∀ n ∈ l, (Lit.int .i64 n).wf = true) (D : Dat w) :
    Calls Tryd.prog 7 #[.slice A l.length c] w fun e w' => e = .returned (.bool true) ∧ Below w.heap.size w w' := by
  obtain ⟨i0, hi, hz0, hz1, hz2⟩ := info_parts infoU8
  obtain ⟨j0, hj, hy0, hy1, hy2⟩ := info_parts infoPul
  have K0 := Lib.hid (mk_row (c := c) (T := 56) R hw)
  have HD := Lib.hid D
  clear R hw D
  go_enter Tryd.func7, Tryd.ntmps7
  go_wp2_with fail
  refine (new_any A l.length c w).mono ?_
  rintro e w1 ⟨rfl, e1⟩
  have B1 : Below w.heap.size w w1 := by rw [e1]; exact (Below.refl _ _).alloc (Nat.le_refl _) _
  have K1 := Lib.hid (show IsMk w1 w.heap.size 0 by rw [e1]; exact K0.out)
  have HB1 := Lib.hid B1
  clear e1 B1 K0
  go_wp2_with fail
  refine (mpulses_any w.heap.size 0 15 w1 K1.out (by decide) (by decide)).mono ?_
  rintro e w2 ⟨v2, ps, rfl, O2, hps, hrun, K2, M2⟩
  have HB2 := Lib.hid (M2.below HB1.out (Nat.le_refl _) HB1.out.size)
  have HK2 := Lib.hid K2
  have HO2 := Lib.hid O2
  have HRP := Lib.hid hrun
  have hm1 := Lib.hid (show w.heap.size < w1.heap.size from K1.out.lt)
  clear O2 K2 M2 hrun
  go_wp2_with fail
  refine (mpulses_any w.heap.size (0 + 2 + 3 * 15) 15 w2 HK2.out (by decide) (by decide)).mono ?_
  rintro e w3 ⟨v3, qs, rfl, O3, hqs, hrun3, K3, M3⟩
  have HB3 := Lib.hid (M3.below HB2.out (Nat.le_refl _) HB2.out.size)
  have HO2' := Lib.hid (HO2.out.moves M3 hm1.out)
  obtain ⟨A2, c2, rfl, R2, h1, h2, h3⟩ := HO2'.out.src
  obtain ⟨A3, c3, rfl, R3, g1, g2, g3⟩ := O3.src
  have HO3 := Lib.hid O3
  have HRQ := Lib.hid hrun3
  have HR2 := Lib.hid R2
  have HR3 := Lib.hid R3
  have HE2 := Lib.hid (enc_run HRP.out (by omega))
  have HE3 := Lib.hid (enc_run hrun3 (by omega))
  have HJ := Lib.hid (dec_join HRP.out hrun3 (by omega))
  have BY2 := Lib.hid (two_bytR ps HRP.out)
  have BY3 := Lib.hid (two_bytR qs hrun3)
  have vl2 := (values_len ps.length ps (Nat.le_refl _)).1
  have vl3 := (values_len qs.length qs (Nat.le_refl _)).1
  have t2 := two_len (valuesR ps)
  have t3 := two_len (valuesR qs)
  obtain ⟨xs, hxs⟩ : ∃ xs, xs = (valuesR ps).flatMap two := ⟨_, rfl⟩
  obtain ⟨ys, hys⟩ : ∃ xs, xs = (valuesR qs).flatMap two := ⟨_, rfl⟩
  rw [← hxs] at HE2 HJ t2 BY2
  rw [← hys] at HE3 HJ t3 BY3
  have HLX := Lib.hid (show xs.length ≤ 1000 by omega)
  have HLY := Lib.hid (show ys.length ≤ 1000 by omega)
  have HPS := Lib.hid hps
  have HQS := Lib.hid hqs
  have H1 := Lib.hid h1
  have H2 := Lib.hid h2
  have H3 := Lib.hid h3
  have G1 := Lib.hid g1
  have G2 := Lib.hid g2
  have G3 := Lib.hid g3
  clear hxs hys t2 t3 vl2 vl3 R2 R3 O3 K3 M3 hrun3 h1 h2 h3 g1 g2 g3 hps hqs HO2
  go_wp2_with fail
  refine (enc_at HE2.out A2 c2 _ rfl w3 HR2.out H1.out H2.out (HD.out.below' HB3.out)).mono ?_
  rintro e w4 ⟨v4, rfl, O4, B4⟩
  have HB4 := Lib.hid (HB3.out.trans (B4.mono HB3.out.size))
  have HR2' := Lib.hid (HR2.out.below B4)
  have HR3' := Lib.hid (HR3.out.below B4)
  have HO4 := Lib.hid O4
  clear O4 B4
  go_wp2_with fail
  refine (enc_at HE3.out A3 c3 _ rfl w4 HR3'.out G1.out G2.out (HD.out.below' HB4.out)).mono ?_
  rintro e w5 ⟨v5, rfl, O5, B5⟩
  have HB5 := Lib.hid (HB4.out.trans (B5.mono HB4.out.size))
  have P2 := Lib.hid (HR2'.out.below B5)
  have P3 := Lib.hid (HR3'.out.below B5)
  obtain ⟨A5, c5, rfl, Q5, a5⟩ := O5.src
  obtain ⟨A4, c4, rfl, Q4, a4⟩ := (HO4.out.below B5).src
  have X4 := Lib.hid Q4
  have X5 := Lib.hid Q5
  have X4a := Lib.hid a4
  have X5a := Lib.hid a5
  clear O5 B5 Q4 Q5 a4 a5 HO4
  go_wp2_with (first
    | (at_builtin; refine wpList_app_src rfl (.tmp 30) (.tmp 31) 29 rfl w5.heap.size 5 i0 (.int .u8 0) 1 1 Tryd.underlying29 hi hz0 hz1 hz2 rfl (by decide) _ 0 [] rfl (own_empty (Nat.le_refl _)) A4 xs.length c4 (xs.map (Value.int .u8)) rfl X4a.out (by simp) (Row.newsO (X4.out.below ((Below.refl _ _).alloc (Nat.le_refl _) _)).1) one_cells (by unfold maxLen; have := HLX.out; omega) (by have := HLX.out; omega) (by simp) ?_; intro v6 w6 hown6 hg6; have S6 := Lib.hid (show Below w5.heap.size w5 w6 from ((Below.refl _ _).alloc (Nat.le_refl _) _).grown hg6 (by simp) (fun g hg => Nat.le_of_eq (Option.some.inj (show some w5.heap.size = some g from hg)))); have W6 := Lib.hid hown6; clear hown6 hg6)
    | (at_builtin; refine wpList_app_src rfl (.tmp 32) (.tmp 33) 29 rfl w5.heap.size 5 i0 (.int .u8 0) 1 1 Tryd.underlying29 hi hz0 hz1 hz2 rfl (by decide) _ (0 + xs.length) ([] ++ xs.map (Value.int .u8)) rfl W6.out A5 ys.length c5 (ys.map (Value.int .u8)) rfl X5a.out (by simp) (Row.newsO (X5.out.below S6.out).1) one_cells (by unfold maxLen; have := HLX.out; have := HLY.out; omega) (by have := HLX.out; have := HLY.out; omega) S6.out.size ?_; intro v7 w7 hown7 hg7; have S7 := Lib.hid (show Below w5.heap.size w5 w7 from S6.out.grown hg7 S6.out.size (fun g hg => rows_block W6.out hg)); have W7 := Lib.hid hown7; clear hown7 hg7))
  have O7 : Own .u8 5 w7 w5.heap.size v7 (xs ++ ys) := by
    have := W7.out
    unfold Own
    rw [List.length_append, List.map_append]
    simpa using this
  obtain ⟨A7, c7, rfl, Q7, _⟩ := O7.src
  have HB7 := Lib.hid (HB5.out.trans (S7.out.mono HB5.out.size))
  have X7 := Lib.hid Q7
  have P2' := Lib.hid (P2.out.below S7.out)
  have P3' := Lib.hid (P3.out.below S7.out)
  clear O7 Q7 W7 W6 S6 S7 X4 X5 X4a X5a
  refine (dec_at HJ.out A7 c7 _ rfl w7 X7.out (fun z hz => by rcases List.mem_append.1 hz with h | h; exact BY2.out z h; exact BY3.out z h) (HD.out.below' HB7.out)).mono ?_
  rintro e w8 ⟨A8, c8, A9, c9, rfl, Q8, _, B8⟩
  have HB8 := Lib.hid (HB7.out.trans (B8.mono HB7.out.size))
  have X8 := Lib.hid Q8
  have Y2 := Lib.hid (P2'.out.below B8)
  have Y3 := Lib.hid (P3'.out.below B8)
  clear Q8 B8 P2' P3' P2 P3
  go_wp2_with (first
    | (at_builtin; (refine wpList_app_srcG (by rfl) (.tmp 56) (.tmp 57) 25 rfl w8.heap.size 28 j0 (.agg #[.int .i64 0, .int .i64 0, .int .i64 0]) 3 24 Tryd.underlying25 hj hy0 hy1 hy2 rfl (by decide) _ 0 [] rfl (own_empty (Nat.le_refl _)) A2 ps.length c2 ((flatP ps).map (Value.int .i64)) rfl H3.out (by rw [List.length_map, flatP_len]) (Row.newsO (Y2.out.below ((Below.refl _ _).alloc (Nat.le_refl _) _)).row) one_cells (by unfold maxLen; have := HPS.out; omega) (by have := HPS.out; omega) (by simp) ?_; intro v10 w10 hown hg; have S10 := Lib.hid (show Below w8.heap.size w8 w10 from ((Below.refl _ _).alloc (Nat.le_refl _) _).grown hg (by simp) (fun g hg => Nat.le_of_eq (Option.some.inj (show some w8.heap.size = some g from hg)))); have W10 := Lib.hid hown; clear hown hg))
    | (at_builtin; refine wpList_app_srcG (by rfl) (.tmp 58) (.tmp 59) 25 rfl w8.heap.size 28 j0 (.agg #[.int .i64 0, .int .i64 0, .int .i64 0]) 3 24 Tryd.underlying25 hj hy0 hy1 hy2 rfl (by decide) _ (0 + ps.length) ([] ++ (flatP ps).map (Value.int .i64)) rfl W10.out A3 qs.length c3 ((flatP qs).map (Value.int .i64)) rfl G3.out (by rw [List.length_map, flatP_len]) (Row.newsO (Y3.out.below S10.out).row) one_cells (by unfold maxLen; have := HPS.out; have := HQS.out; omega) (by have := HPS.out; have := HQS.out; omega) S10.out.size ?_; intro v11 w11 hown hg; have S11 := Lib.hid (show Below w8.heap.size w8 w11 from S10.out.grown hg S10.out.size (fun g hg => rows_block W10.out hg)); have W11 := Lib.hid hown; clear hown hg))
  have O11 : POwn w11 w8.heap.size v11 (ps ++ qs) := POwn.app (l := ps) (m := qs) (by have := W11.out; rw [List.nil_append] at this; exact this) (by simp) rfl
  obtain ⟨A11, c11, rfl, Q11, _⟩ := O11.src
  have HB11 := Lib.hid (HB8.out.trans (S11.out.mono HB8.out.size))
  have X11 := Lib.hid Q11
  have X8' := Lib.hid (X8.out.below S11.out)
  clear O11 Q11 W11 W10 S10 S11
  refine (psame_at A8 A11 c8 c11 _ _ (by rw [List.length_append]) rfl _ X8'.out X11.out).mono ?_
  rintro e w' ⟨rfl, n1, rfl⟩
  go_wp2_with fail
  refine (sane_any _ ((HD.out.below' HB11.out).drewN n1)).mono ?_
  rintro e w12 ⟨rfl, B12⟩
  have HB12 := Lib.hid ((bdn (n := n1) HB11.out).trans (B12.mono HB11.out.size))
  clear B12
  go_wp2_with fail
  go_ret
  exact ⟨rfl, HB12.out⟩
end Go.Proofs.YtbpgbdnfoofnaaaDoor
