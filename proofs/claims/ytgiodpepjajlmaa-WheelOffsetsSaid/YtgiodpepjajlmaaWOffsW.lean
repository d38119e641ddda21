/-
  Stage 7: the walk of WheelOffsets.
-/
import Derived.Test.YtgiodpepjajlmaaWRDist
import Derived.Test.YtgiodpepjajlmaaWSane
import Derived.Test.YtgiodpepjajlmaaCSpl
import Derived.Deep.CutBlock
set_option linter.unusedSimpArgs false
set_option linter.unusedVariables false
namespace Go.Proofs.Ytgiodpepjajlmaa
open Go.RowKit

theorem own_rowO {w : World} {base : Nat} {A : Option Addr} {n c : Nat} {zs : List Int} (h : Own .i64 3 w base (.slice A n c) zs) : Row .i64 w w.heap.size A zs := by
  obtain ⟨A', c', e, R, _⟩ := h.slice
  injection e with e _ _; subst e; exact R
theorem own_lenO {w : World} {base : Nat} {v : Value} {zs : List Int} (h : Own .i64 3 w base v zs) : zs.length ≤ maxLen := by
  obtain ⟨A', c', e, R, _, h, _⟩ := h.slice; exact h
abbrev Sz7 (l : List Wag) : Prop := ∀ x ∈ l, x.dst.size ≤ 4611686018427387904
theorem dst_le7 {x : Wag} (h : validW x = 0) : x.dst.size ≤ 12 := by
  have h3 := (validW_parts h).2.2.2
  unfold nameS at h3
  rw [Bool.and_eq_true] at h3
  have := of_decide_eq_true h3.1
  omega
theorem made_sz {l : List Wag} (h : Made l) : Sz7 l := fun x hx => by
  obtain ⟨k, hk⟩ := List.mem_iff_getElem?.1 hx
  have := dst_le7 (h k x hk).1
  omega
theorem hmd0 {l : List Wag} (h : Made l) {k : Nat} {x : Wag} (hk : l[k]? = some x) : validW x = 0 := (h k x hk).1
theorem row_ge {Z k B n c : Nat} (h : B ≤ Z) (e : (Value.slice (some ⟨Z, 0, none⟩) n c).ownBlock = some k) : B ≤ k := by
  have e : Z = k := by simpa [Value.ownBlock] using e
  omega
theorem row_ne {Z b n c : Nat} (h : b < Z) : (Value.slice (some ⟨Z, 0, none⟩) n c).ownBlock ≠ some b := fun e => by
  have e : Z = b := by simpa [Value.ownBlock] using e
  omega
theorem row_ne2 {Z b n c : Nat} (h : Z ≠ b) : (Value.slice (some ⟨Z, 0, none⟩) n c).ownBlock ≠ some b := fun e => by
  have e : Z = b := by simpa [Value.ownBlock] using e
  exact h e
theorem own_emptyN {w : World} {e : TypeId} {m base : Nat} (n : Nat) (hn : n = w.heap.size) (hb : base ≤ w.heap.size) : (w.alloc (.cells #[] e)).ownsRow base e m (.slice (some ⟨n, 0, none⟩) 0 0) 0 [] := by
  subst hn; exact own_empty hb
theorem xnews {w : World} {b : Nat} {x : Wag} (h : RBlk WR w b x) : ∀ j u, (WR.flat [x])[j]? = some u → w.cell? ((⟨b, 0, none⟩ : Addr).add j) = some u := fun j u hj => by
  rw [add_own]
  have e : WR.flat [x] = WR.cells x := List.append_nil _
  rw [e] at hj
  exact h.cs j u hj
/-- The list of a round. -/
def XO (m N base n : Nat) (w0 wx : World) (v : Value) : Prop := ∃ (l : List Wag), l.length ≤ n ∧ Sz7 l ∧ ROwn WR 30 wx base v l ∧ IsMk wx m N ∧ Moves m w0 wx
set_option maxRecDepth 100000 in
set_option maxHeartbeats 12800000 in
theorem offs_walk (t : Option Addr) (len cap : Nat) (zs : List Int) (x0 : Wag) (AL : Option Addr) (cl : Nat) (l : List Wag) (w : World) (h : IsRow .i64 w t len cap zs) (hx0 : x0.dst.size ≤ 4611686018427387904) (hl : RRow WR w AL l) (hz : Sz7 l) (hA : AL = none → l.length = 0 ∧ cl = 0) :
    Calls Try.prog 4 #[.slice t len cap, aggW x0, .slice AL l.length cl] w fun e w' => e = .returned (.bool true) ∧ Below w.heap.size w w' := by
  have HXB := Lib.hid (newW w x0 30 w.heap.size rfl)
  have HB0 := Lib.hid (box1W w (.cells (cellsW x0).toArray 30))
  obtain ⟨tl, rfl, rtl, mtl, wtl⟩ := h.row
  have K0 := Lib.hid (mk_row (T := 59) (c := cap) (rtl.below HB0.out) mtl wtl)
  have HRL := Lib.hid hl
  have HSZ := Lib.hid hz
  have HSX := Lib.hid hx0
  have HAN := Lib.hid hA
  have ln1 : l.length ≤ 9223372036854775807 := hl.len
  obtain ⟨LL, hLL⟩ : ∃ n, n = l.length := ⟨_, rfl⟩
  have HLL := Lib.hid hLL
  rw [← hLL] at ln1 ⊢
  clear h hl hz hA hLL rtl mtl wtl hx0
  go_enter Try.func4, Try.ntmps4
  go_wp2_with fail
  refine (new_any t tl.length cap _).mono ?_
  rintro e w1 ⟨rfl, e1⟩
  obtain ⟨m, hm⟩ : ∃ m, m = (w.alloc (.cells (cellsW x0).toArray 30)).heap.size := ⟨_, rfl⟩
  have hmw : m = w.heap.size + 1 := by rw [hm]; simp
  have HMW := Lib.hid hmw
  have K1 := Lib.hid (show IsMk w1 m 0 by rw [e1, hm]; exact K0.out)
  have HB1 := Lib.hid (show Below w.heap.size w w1 by rw [e1]; exact HB0.out.alloc HB0.out.size _)
  have HXC := Lib.hid (show RBlk WR w1 w.heap.size x0 by rw [e1]; exact HXB.out.alloc _)
  have em : (w.alloc (.cells #[.string x0.num, .int .i64 x0.len, .int .i64 x0.axl, .int .i64 x0.mas, .int .i64 x0.brk, .int .i64 x0.gds, .bool x0.gen, .string x0.dst] 30)).heap.size = m := hm.symm
  rw [em]
  clear e1 K0 HXB HB0 hm em hmw
  go_wp2_with fail
  go_loopw [8] (fun iv wr => ∃ (I M : Nat), iv = .int .i64 (I : Int) ∧ I ≤ 5 ∧ M ≤ 200 * I ∧ Hid (IsMk wr m M) ∧ Hid (Below w.heap.size w wr) ∧ Hid (RBlk WR wr w.heap.size x0)) (fun iv _ => 5 - (intOf iv).toNat)
  case atStart => exact ⟨0, 0, rfl, by omega, by omega, K1, HB1, HXC⟩
  case round =>
    clear K1 HB1 HXC
    obtain ⟨I, M, rfl, hI, hM, K, B, XC⟩ := hrel
    by_cases hlt : I < 5
    · have HIL := Lib.hid (And.intro hlt hM)
      have hM8 : M ≤ 1000 := by omega
      have hlti : (I : Int) < 5 := by omega
      go_wp2_with fail
      refine (mwagons_any m M 6 wr K.out (by omega) (by decide)).mono ?_
      rintro e w2 ⟨v2, lw, rfl, O2, hlw, hmade, K2, M2⟩
      have HO2 := Lib.hid O2
      have HK2 := Lib.hid K2
      have HM2 := Lib.hid M2
      have HMD := Lib.hid hmade
      have HLW := Lib.hid hlw
      have hmr : m < wr.heap.size := K.out.lt
      obtain ⟨A, c, rfl, _, hlc, hcm, hblk⟩ := O2.full
      have HBLK := Lib.hid hblk
      obtain ⟨L, hL⟩ : ∃ n, n = lw.length := ⟨_, rfl⟩
      have HL := Lib.hid hL
      rw [← hL] at HO2 HBLK HLW hlw ⊢
      clear O2 K2 M2 hmade hblk hlc hcm hL
      go_upto_block 2 with fail
      go_cut [8, 9] (fun i8 v wx => i8 = .int .i64 (I : Int) ∧ Hid (XO m (M + 120) wr.heap.size 21 wr wx v))
      case first =>
        by_cases h3 : I = 3
        · have h3i : (I : Int) = 3 := by omega
          have h4i : ¬ (I : Int) = 4 := by omega
          by_cases h0 : 0 < L
          · have h0i : (0 : Int) < (L : Int) := by omega
            obtain ⟨g, rfl, hg1, hg2⟩ := HBLK.out.1 h0
            have hmg : m < g := by omega
            obtain ⟨y0, hy0⟩ : ∃ y, lw[0]? = some y := ⟨_, List.getElem?_eq_getElem (by rw [← HL.out]; exact h0)⟩
            have HY0 := Lib.hid hy0
            have HV0 := Lib.hid (hmd0 HMD.out hy0)
            have hK : IsMk w2.drew m (M + 1 + 17 * 6) := HK2.out.drewN (n := 1)
            have hO : ROwn WR 30 w2.drew wr.heap.size (.slice (some ⟨g, 0, none⟩) L c) lw := HO2.out.drewN 1
            have hM0 : Moves m wr w2.drew := HM2.out.drewN (n := 1)
            obtain ⟨⟨a0, a1, a2, a3, a4, a5, a6, a7⟩, -⟩ := hO.atW HL.out hy0
            replace a0 : w2.drew.cell? ⟨g, 0, none⟩ = _ := a0
            replace a1 : w2.drew.cell? ⟨g, 1, none⟩ = _ := a1
            replace a2 : w2.drew.cell? ⟨g, 2, none⟩ = _ := a2
            replace a3 : w2.drew.cell? ⟨g, 3, none⟩ = _ := a3
            replace a4 : w2.drew.cell? ⟨g, 4, none⟩ = _ := a4
            replace a5 : w2.drew.cell? ⟨g, 5, none⟩ = _ := a5
            replace a6 : w2.drew.cell? ⟨g, 6, none⟩ = _ := a6
            replace a7 : w2.drew.cell? ⟨g, 7, none⟩ = _ := a7
            have HLL6 := Lib.hid (show lw.length ≤ 6 by rw [← HL.out]; exact HLW.out)
            clear hg2 hy0
            go_upto_region 7 with fail
            go_region_law (first
              | (go_simp; go_at_call 15; refine (next_any m _ (L : Int) _ (by assumption) (by omega) (by omega) (by omega)).mono ?_; rintro e wn ⟨xi, rfl, xi1, xi2, hKn, mn⟩; have hOn : ROwn WR 30 wn wr.heap.size (.slice (some ⟨g, 0, none⟩) L c) lw := ROwn.moves (by assumption) mn hmr; have hMn : Moves m wr wn := Moves.trans (by assumption) mn; obtain ⟨X0, rfl⟩ := Int.eq_ofNat_of_zero_le xi1; obtain ⟨yX, hyX⟩ : ∃ y, lw[X0]? = some y := ⟨_, List.getElem?_eq_getElem (by have := HL.out; omega)⟩; have HYX := Lib.hid hyX; have hX0L : (X0 : Int) < (L : Int) := (by omega); obtain ⟨⟨b0, b1, b2, b3, b4, b5, b6, b7⟩, fz⟩ := hOn.atW HL.out hyX; obtain ⟨⟨d0, d1, d2, d3, d4, d5, d6, d7⟩, -⟩ := hOn.atW HL.out HY0.out; replace d0 : wn.cell? ⟨g, 0, none⟩ = _ := d0; replace d1 : wn.cell? ⟨g, 1, none⟩ = _ := d1; replace d2 : wn.cell? ⟨g, 2, none⟩ = _ := d2; replace d3 : wn.cell? ⟨g, 3, none⟩ = _ := d3; replace d4 : wn.cell? ⟨g, 4, none⟩ = _ := d4; replace d5 : wn.cell? ⟨g, 5, none⟩ = _ := d5; replace d6 : wn.cell? ⟨g, 6, none⟩ = _ := d6; replace d7 : wn.cell? ⟨g, 7, none⟩ = _ := d7; clear hyX mn)
              | (go_simp; go_at_call 14; refine (mspoilw_any m _ y0 _ (by assumption) (by omega) HV0.out).mono ?_; rintro e wn ⟨z, rfl, hz, hKn, mn⟩; have hOn : ROwn WR 30 wn wr.heap.size (.slice (some ⟨g, 0, none⟩) L c) lw := ROwn.moves (by assumption) mn hmr; have hMn : Moves m wr wn := Moves.trans (by assumption) mn; obtain ⟨⟨b0, b1, b2, b3, b4, b5, b6, b7⟩, fz⟩ := hOn.atW HL.out HYX.out; clear mn)
              | (go_simp; go_at_call 14; refine (mspoilw_any m _ y0 _ (by assumption) (by omega) HV0.out).mono ?_; rintro e wn ⟨z, rfl, hz, hKn, mn⟩; have hOn : ROwn WR 30 wn wr.heap.size (.slice (some ⟨g, 0, none⟩) L c) lw := ROwn.moves (by assumption) mn hmr; have hMn : Moves m wr wn := Moves.trans (by assumption) mn; clear mn))
            all_goals
              have OF := Lib.hid (hOn.putW HL.out X0 z)
              have KF := Lib.hid (((((((((hKn.setCell (p := ⟨g, X0 * 8, none⟩) hmg (.string z.num)).setCell (p := ⟨g, X0 * 8 + 1, none⟩) hmg (.int .i64 z.len)).setCell (p := ⟨g, X0 * 8 + 2, none⟩) hmg (.int .i64 z.axl)).setCell (p := ⟨g, X0 * 8 + 3, none⟩) hmg (.int .i64 z.mas)).setCell (p := ⟨g, X0 * 8 + 4, none⟩) hmg (.int .i64 z.brk)).setCell (p := ⟨g, X0 * 8 + 5, none⟩) hmg (.int .i64 z.gds)).setCell (p := ⟨g, X0 * 8 + 6, none⟩) hmg (.bool z.gen)).setCell (p := ⟨g, X0 * 8 + 7, none⟩) hmg (.string z.dst)))
              have MF := Lib.hid (hMn.putW hg1 X0 z)
              have SF := Lib.hid (show Sz7 (lw.set X0 z) from fun y hy => by
                rcases List.mem_or_eq_of_mem_set hy with hy | rfl
                · exact made_sz HMD.out y hy
                · omega)
              clear hOn hKn hMn fz b0 b1 b2 b3 b4 b5 b6 b7 a0 a1 a2 a3 a4 a5 a6 a7 hO hK hM0
              go_wp2_with fail
              go_meet
              case rel => exact ⟨by simp [h3], Lib.hid ⟨lw.set X0 z, by rw [List.length_set]; have := HLL6.out; omega, SF.out, OF.out, KF.out.more (by omega), MF.out⟩⟩
          · have h0i : ¬ (0 : Int) < (L : Int) := by omega
            go_wp2_with fail
            go_meet
            case rel => exact ⟨by simp [h3], Lib.hid ⟨lw, by have := HLW.out; have := HL.out; omega, made_sz HMD.out, HO2.out, HK2.out.more (by omega), HM2.out⟩⟩
        · have h3i : ¬ (I : Int) = 3 := by omega
          have h3j : ((I : Int) == 3) = false := by simpa using h3i
          by_cases h4 : I = 4
          · have h4i : (I : Int) = 4 := by omega
            by_cases h0 : LL ≤ 20
            · have h0i : (LL : Int) ≤ 20 := by omega
              obtain ⟨i0, hi, hz0, hz1, hz2⟩ := info_parts infoWag
              have HBW := Lib.hid (Moves.below B.out HM2.out (by have := HMW.out; omega) B.out.size)
              have HRD := Lib.hid ((HRL.out.below HBW.out).drewN 1)
              have HXD := Lib.hid ((XC.out.moves HM2.out (by have := HMW.out; omega)).drewN 1)
              have hMd : Moves m wr w2.drew := HM2.out.drewN (n := 1)
              have hKd : IsMk w2.drew m (M + 1 + 17 * 6) := HK2.out.drewN (n := 1)
              have hzz : wr.heap.size ≤ w2.drew.heap.size := HM2.out.size
              have hwr : w.heap.size < wr.heap.size := by have := HMW.out; omega
              obtain ⟨a0, a1, a2, a3, a4, a5, a6, a7, -⟩ := WBlk.of (XC.out.moves HM2.out (show w.heap.size ≠ m by have := HMW.out; omega))
              obtain ⟨b0, b1, b2, b3, b4, b5, b6, b7, -⟩ := WBlk.of (show RBlk WR (w2.alloc (.cells #[] 30)).drew w.heap.size x0 from HXD.out.alloc (.cells #[] 30))
              have HHZ := Lib.hid hzz
              have HWR2 := Lib.hid hwr
              have hLLn := flatR_len WR l
              have HFL := Lib.hid (show (WR.flat l).length = LL * 8 by rw [hLLn, HLL.out]; rfl)
              have HAN2 := Lib.hid (show AL = none → LL = 0 ∧ cl = 0 by rw [HLL.out]; exact HAN.out)
              clear hLLn hwr
              go_upto_region 9 with fail
              go_region_law (first
                | (refine step_app_src rfl (.tmp 54) (.tmp 55) 31 rfl wr.heap.size 30 i0 (aggW wag0) 8 80 Try.underlying31 hi hz0 hz1 hz2 rfl (by decide) _ 0 [] rfl (own_empty HHZ.out) AL LL cl (WR.flat l) rfl HAN2.out HFL.out (HRD.out.alloc _).row.news_of (flatR_one WR l) (by unfold maxLen; omega) (by omega) (le_allocW HHZ.out) ?_; intro v3 w3 O3 G3; have hM3 : Moves m wr w3 := Moves.grown (hMd.alloc _) G3 (fun k e => row_ge HHZ.out e); have hK3 : IsMk w3 m (M + 1 + 17 * 6) := IsMk.grown (hKd.alloc _) G3 (fun k e => Nat.lt_of_lt_of_le hmr (row_ge HHZ.out e)); have hX3 : RBlk WR w3 w.heap.size x0 := RBlk.grown (HXD.out.alloc _) G3 (row_ne (Nat.lt_of_lt_of_le HWR2.out HHZ.out)); obtain ⟨d0, d1, d2, d3, d4, d5, d6, d7, -⟩ := WBlk.of hX3; have HO3 := Lib.hid O3; clear O3)
                | (refine step_app_src rfl (.tmp 54) (.tmp 55) 31 rfl wr.heap.size 30 i0 (aggW wag0) 8 80 Try.underlying31 hi hz0 hz1 hz2 rfl (by decide) _ 0 [] rfl (World.ownsRow.alloc (own_empty HHZ.out) _) AL LL cl (WR.flat l) rfl HAN2.out HFL.out ((HRD.out.alloc _).alloc _).row.news_of (flatR_one WR l) (by unfold maxLen; omega) (by omega) (le_allocW (le_allocW HHZ.out)) ?_; intro v3 w3 O3 G3; have hM3 : Moves m wr w3 := Moves.grown ((hMd.alloc _).alloc _) G3 (fun k e => row_ge HHZ.out e); have hK3 : IsMk w3 m (M + 1 + 17 * 6) := IsMk.grown ((hKd.alloc _).alloc _) G3 (fun k e => Nat.lt_of_lt_of_le hmr (row_ge HHZ.out e)); have hX3 : RBlk WR w3 w.heap.size x0 := RBlk.grown ((HXD.out.alloc _).alloc _) G3 (row_ne (Nat.lt_of_lt_of_le HWR2.out HHZ.out)); have hXX : RBlk WR w3 (w2.heap.size + 1) x0 := RBlk.grown (newW (w2.drew.alloc (.cells #[] 30)) x0 30 (w2.heap.size + 1) (by simp)) G3 (row_ne2 (by show w2.heap.size ≠ w2.heap.size + 1; omega)); obtain ⟨d0, d1, d2, d3, d4, d5, d6, d7, -⟩ := WBlk.of hX3; have HO3 := Lib.hid O3; clear O3)
                | (refine step_app_src rfl (.tmp 54) (.tmp 55) 31 rfl wr.heap.size 30 i0 (aggW wag0) 8 80 Try.underlying31 hi hz0 hz1 hz2 rfl (by decide) _ 0 [] rfl (own_emptyN (w := w2.drew.alloc (.cells #[.string x0.num, .int .i64 x0.len, .int .i64 x0.axl, .int .i64 x0.mas, .int .i64 x0.brk, .int .i64 x0.gds, .bool x0.gen, .string x0.dst] 30)) (w2.heap.size + 1) (by simp) (le_allocW HHZ.out)) AL LL cl (WR.flat l) rfl HAN2.out HFL.out ((HRD.out.alloc _).alloc _).row.news_of (flatR_one WR l) (by unfold maxLen; omega) (by omega) (le_allocW (le_allocW HHZ.out)) ?_; intro v3 w3 O3 G3; have hM3 : Moves m wr w3 := Moves.grown ((hMd.alloc _).alloc _) G3 (fun k e => row_ge (Nat.le_succ_of_le HHZ.out) e); have hK3 : IsMk w3 m (M + 1 + 17 * 6) := IsMk.grown ((hKd.alloc _).alloc _) G3 (fun k e => Nat.lt_of_lt_of_le hmr (row_ge (Nat.le_succ_of_le HHZ.out) e)); have hX3 : RBlk WR w3 w.heap.size x0 := RBlk.grown ((HXD.out.alloc _).alloc _) G3 (row_ne (Nat.lt_of_lt_of_le HWR2.out (Nat.le_succ_of_le HHZ.out))); have hXX : RBlk WR w3 w2.heap.size x0 := RBlk.grown ((newW w2.drew x0 30 w2.heap.size rfl).alloc _) G3 (row_ne2 (by show w2.heap.size + 1 ≠ w2.heap.size; omega)); obtain ⟨d0, d1, d2, d3, d4, d5, d6, d7, -⟩ := WBlk.of hX3; have HO3 := Lib.hid O3; clear O3)
                | (refine step_append_lies _ rfl (.tmp 56) (.tmp 58) 31 rfl wr.heap.size 30 i0 (aggW wag0) 8 80 Try.underlying31 hi hz0 hz1 hz2 rfl (by decide) v3 (0 + LL) ([] ++ WR.flat l) rfl (World.ownsRow.alloc HO3.out _) _ 1 1 (WR.flat [x0]) rfl rfl (newR (R := WR) (l := [x0])) (flatR_one WR [x0]) (by decide) (by unfold maxLen; omega) (by omega) (le_allocW hM3.size) _ rfl ?_; intro g4 c4 w4 O4 G4 hat4 hlt4; have hM4 : Moves m wr w4 := Moves.grown (hM3.alloc _) G4 (fun k e => rows_block HO3.out e); have hK4 : IsMk w4 m (M + 1 + 17 * 6) := IsMk.grown (hK3.alloc _) G4 (fun k e => Nat.lt_of_lt_of_le hmr (rows_block HO3.out e)); have HO4 := Lib.hid O4; clear O4 hat4)
                | (refine step_append_lies _ rfl (.tmp 56) (.tmp 58) 31 rfl wr.heap.size 30 i0 (aggW wag0) 8 80 Try.underlying31 hi hz0 hz1 hz2 rfl (by decide) v3 (0 + LL) ([] ++ WR.flat l) rfl HO3.out _ 1 1 (WR.flat [x0]) rfl rfl (xnews hXX) (flatR_one WR [x0]) (by decide) (by unfold maxLen; omega) (by omega) hM3.size _ rfl ?_; intro g4 c4 w4 O4 G4 hat4 hlt4; have hM4 : Moves m wr w4 := Moves.grown hM3 G4 (fun k e => rows_block HO3.out e); have hK4 : IsMk w4 m (M + 1 + 17 * 6) := IsMk.grown hK3 G4 (fun k e => Nat.lt_of_lt_of_le hmr (rows_block HO3.out e)); have HO4 := Lib.hid O4; clear O4 hat4))
              all_goals
                have OF : Go.RowKit.Hid (ROwn WR 30 w4 wr.heap.size (.slice (some ⟨g4, 0, none⟩) (LL + 1) c4) (l ++ [x0])) := Lib.hid (by
                  have h := ROwn.app (R := WR) (l := l) (m := [x0]) (n := 0 + LL) (k := 1) HO4.out (by have := HLL.out; omega) rfl
                  rwa [Nat.zero_add] at h)
                have KF := Lib.hid hK4
                have MF := Lib.hid hM4
                have SF := Lib.hid (show Sz7 (l ++ [x0]) from fun y hy => by
                  rcases List.mem_append.1 hy with hy | hy
                  · exact HSZ.out y hy
                  · obtain rfl := List.mem_singleton.1 hy; exact HSX.out)
                have HLE := Lib.hid (show (l ++ [x0]).length ≤ 21 by rw [List.length_append, ← HLL.out]; show LL + 1 ≤ 21; omega)
                clear a0 a1 a2 a3 a4 a5 a6 a7 b0 b1 b2 b3 b4 b5 b6 b7 d0 d1 d2 d3 d4 d5 d6 d7 hM3 hK3 hX3 hMd hKd hM4 hK4 HO4 HO3
                go_wp2_with fail
                go_meet
                case rel => exact ⟨by simp [h4], Lib.hid ⟨l ++ [x0], HLE.out, SF.out, OF.out, KF.out.more (by omega), MF.out⟩⟩
            · have h0i : ¬ (LL : Int) ≤ 20 := by omega
              go_wp2_with fail
              go_meet
              case rel => exact ⟨by simp [h4], Lib.hid ⟨lw, by have := HLW.out; have := HL.out; omega, made_sz HMD.out, HO2.out, HK2.out.more (by omega), HM2.out⟩⟩
          · have h4i : ¬ (I : Int) = 4 := by omega
            have h4j : ((I : Int) == 4) = false := by simpa using h4i
            go_wp2_with fail
            go_meet
            case rel => exact ⟨rfl, Lib.hid ⟨lw, by have := HLW.out; have := HL.out; omega, made_sz HMD.out, HO2.out, HK2.out.more (by omega), HM2.out⟩⟩
      case rest =>
        obtain ⟨rfl, HXL⟩ := hcut
        clear HO2 HK2 HM2 HMD HLW HBLK HL
        obtain ⟨lf, hf7, hfz, hfo, hfk, hfm⟩ := HXL.out
        have HFZ := Lib.hid hfz
        have HFK := Lib.hid hfk
        have HFM := Lib.hid hfm
        obtain ⟨AF, cf, rfl, RF⟩ := ROwn.slice hfo
        have HRF := Lib.hid RF
        have HBF := Lib.hid (Moves.below B.out hfm (by have := HMW.out; omega) B.out.size)
        have HXF := Lib.hid (XC.out.moves hfm (by have := HMW.out; omega))
        clear hfz hfo hfk hfm RF HXL
        go_wp2_with fail
        refine (pdist_any lf AF cf _ HRF.out).mono ?_
        rintro e w3 ⟨v3, rfl, O3, B3⟩
        have HO3 := Lib.hid O3
        have HR3 := Lib.hid (HRF.out.below B3)
        have HB3 := Lib.hid (HBF.out.trans (B3.mono HBF.out.size))
        have HK3 := Lib.hid (HFK.out.stays' B3)
        have HX3 := Lib.hid (HXF.out.below B3)
        clear O3 B3 HRF HBF HFK HXF HFM
        go_wp2_with fail
        refine (rdist_any lf AF cf _ HR3.out HFZ.out).mono ?_
        rintro e w4 ⟨v4, rfl, O4, B4⟩
        have HO4 := Lib.hid O4
        have HO3' := Lib.hid (HO3.out.below B4)
        have HR4 := Lib.hid (HR3.out.below B4)
        have HB4 := Lib.hid (HB3.out.trans (B4.mono HB3.out.size))
        have HK4 := Lib.hid (HK3.out.stays' B4)
        have HX4 := Lib.hid (HX3.out.below B4)
        clear O4 B4 HR3 HB3 HK3 HX3 HO3
        obtain ⟨X, hX⟩ : ∃ X, X = distR lf := ⟨_, rfl⟩
        rw [← hX] at HO4 HO3' ⊢
        clear hX
        obtain ⟨E1, d1, rfl, -⟩ := HO3'.out.slice
        obtain ⟨E2, d2, rfl, -⟩ := HO4.out.slice
        have q1 := ints_same X.1 E1 E2 d1 d2 w4 (own_rowO HO3'.out) (own_rowO HO4.out) (own_lenO HO4.out)
        have ev : (X.2 != X.2) = false := bne_self_eq_false _
        go_wp2_with fail
        refine q1.mono ?_
        rintro e w5 ⟨rfl, nn, rfl⟩
        have HR5 := Lib.hid (HR4.out.drewN nn)
        have HB5 := Lib.hid (bdn (n := nn) HB4.out)
        have HK5 := Lib.hid (HK4.out.drewN (n := nn))
        have HX5 := Lib.hid (HX4.out.drewN nn)
        generalize w4.drewN nn = w5 at *
        obtain ⟨LF, hLF⟩ : ∃ n, n = lf.length := ⟨_, rfl⟩
        have HLF := Lib.hid hLF
        rw [← hLF] at hf7 ⊢
        clear q1 HO4 HO3' HR4 HB4 HK4 HX4 hLF
        go_wp2_with fail
        clear ev
        generalize wr = wq at *
        go_loopw [14] (fun jv wr => ∃ j : Nat, j ≤ LF ∧ jv = .int .i64 (j : Int) ∧ Hid (Below w5.heap.size w5 wr)) (fun jv _ => LF - (intOf jv).toNat)
        case atStart => exact ⟨0, by omega, rfl, Lib.hid (Below.refl _ _)⟩
        case round =>
          obtain ⟨j, hj, rfl, BJ⟩ := hrel
          have HRJ := Lib.hid (HR5.out.below BJ.out)
          by_cases hlj : j < LF
          · obtain ⟨y, hy⟩ : ∃ y, lf[j]? = some y := ⟨_, List.getElem?_eq_getElem (by rw [← HLF.out]; exact hlj)⟩
            have hys := HFZ.out y (List.mem_of_getElem? hy)
            have HY := Lib.hid hy
            have HYS := Lib.hid hys
            obtain ⟨ad, rfl, C⟩ := HRJ.out.at_ hy
            obtain ⟨c0, c1, c2, c3, c4, c5, c6, c7⟩ := WSpelt.of C
            clear hy hys C
            go_wp2_with fail
            refine (poff_any y _).mono ?_
            rintro e w6 ⟨v6, rfl, O6, B6⟩
            clear c0 c1 c2 c3 c4 c5 c6 c7
            have HO6 := Lib.hid O6
            have HB6 := Lib.hid (BJ.out.trans (B6.mono BJ.out.size))
            obtain ⟨ad', e2, C⟩ := (HR5.out.below HB6.out).at_ HY.out
            injection e2 with e2
            subst e2
            obtain ⟨c0, c1, c2, c3, c4, c5, c6, c7⟩ := WSpelt.of C
            clear O6 B6 C
            go_wp2_with fail
            refine (roff_any y _ HYS.out).mono ?_
            rintro e w7 ⟨v7, rfl, O7, B7⟩
            have HO7 := Lib.hid O7
            have HO6' := Lib.hid (HO6.out.below B7)
            have HB7 := Lib.hid (HB6.out.trans (B7.mono HB6.out.size))
            clear O7 B7 HO6 HB6 c0 c1 c2 c3 c4 c5 c6 c7
            obtain ⟨X, hX⟩ : ∃ X, X = offR y := ⟨_, rfl⟩
            rw [← hX] at HO7 HO6' ⊢
            clear hX
            obtain ⟨E1, d1, rfl, -⟩ := HO6'.out.slice
            obtain ⟨E2, d2, rfl, -⟩ := HO7.out.slice
            have q1 := ints_same X.1 E1 E2 d1 d2 w7 (own_rowO HO6'.out) (own_rowO HO7.out) (own_lenO HO7.out)
            have ev : (X.2 != X.2) = false := bne_self_eq_false _
            go_wp2_with fail
            refine q1.mono ?_
            rintro e w8 ⟨rfl, n8, rfl⟩
            clear q1
            have HB8 := Lib.hid (bdn (n := n8) HB7.out)
            generalize w7.drewN n8 = w8 at *
            go_wp2_with fail
            go_roundw
            case rel => exact ⟨j + 1, by omega, by go_num, HB8⟩
            case measure => simp [intOf] <;> omega
          · obtain rfl : j = LF := by omega
            have HBE := Lib.hid (HB5.out.trans (BJ.out.mono HB5.out.size))
            have HKE := Lib.hid (HK5.out.stays' BJ.out)
            have HXE := Lib.hid (HX5.out.below BJ.out)
            clear hlj hj
            go_wp2_with fail
            go_roundw
            case rel => exact ⟨I + 1, M + 120, by go_num, by have := HIL.out; omega, by have := HIL.out; omega, HKE, HBE, HXE⟩
            case measure => have := HIL.out; simp [intOf] <;> omega
    · obtain rfl : I = 5 := by omega
      go_wp2_with fail
      refine (sane_any _).mono ?_
      rintro e w3 ⟨rfl, B3⟩
      go_wp2_with fail
      go_ret
      exact ⟨rfl, B.out.trans (B3.mono B.out.size)⟩
end Go.Proofs.Ytgiodpepjajlmaa
