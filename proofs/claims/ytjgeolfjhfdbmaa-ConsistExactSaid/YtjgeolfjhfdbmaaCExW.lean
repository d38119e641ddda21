/-
  Stage 6: ConsistExact answers true.
-/
import Derived.Test.YtjgeolfjhfdbmaaCWr
import Derived.Test.YtjgeolfjhfdbmaaCRds
import Derived.Test.YtjgeolfjhfdbmaaCSpl
import Derived.Test.YtjgeolfjhfdbmaaCSpb
import Derived.Test.YtjgeolfjhfdbmaaCFix
set_option linter.unusedSimpArgs false
set_option linter.unusedVariables false
namespace Go.Proofs.Ytjgeolfjhfdbmaa
open Go.RowKit

theorem encR_bd (l : List Wag) : BB (encR l).1 ∧ (encR l).1.length ≤ 3002 := by
  by_cases h : validL l = 0
  · rw [encR_ok h]; exact enc_bd h
  · rw [encR_bad rfl h]; exact ⟨BB.nil, Nat.zero_le _⟩
theorem Made.at_ {l : List Wag} (h : Made l) {k : Nat} {x : Wag} (hk : l[k]? = some x) : validW x = 0 := (h k x hk).1
theorem Made.sz {l : List Wag} (h : Made l) : Sz l := fun x hx => by
  obtain ⟨k, hk⟩ := List.mem_iff_getElem?.1 hx
  have := (dst_le (h k x hk).1).2
  omega
theorem Sz.set {l : List Wag} (h : Sz l) (i : Nat) {y : Wag} (hy : y.dst.size ≤ 100) : Sz (l.set i y) := fun x hx => by
  rcases List.mem_or_eq_of_mem_set hx with hx | rfl
  · exact h x hx
  · omega
theorem Sz.app {l : List Wag} (h : Sz l) {y : Wag} (hy : y ∈ l) : Sz (l ++ [y]) := fun x hx => by
  rcases List.mem_append.1 hx with hx | hx
  · exact h x hx
  · obtain rfl := List.mem_singleton.1 hx
    exact h x hy
theorem Row.moves_ {m : Nat} {w w' : World} {A : Option Addr} {zs : List Int} (h : Row .u8 w w.heap.size A zs) (k : Moves m w w') (hne : 0 < zs.length → ∃ ad : Addr, A = some ad ∧ ad.block ≠ m) : Row .u8 w' w'.heap.size A zs := fun j hj => by
  obtain ⟨ad, e, hb, hc⟩ := h j hj
  obtain ⟨ad', e', hm⟩ := hne (by omega)
  rw [e] at e'
  injection e' with e'
  subst e'
  exact ⟨ad, e, Nat.lt_of_lt_of_le hb k.size, (k.cell (by rw [add_block]; exact hb) (by rw [add_block]; exact hm)).trans hc⟩
/-- The list of a round. -/
def XL (m N base n : Nat) (w0 wx : World) (v : Value) : Prop := ∃ (l : List Wag), l.length ≤ n ∧ Sz l ∧ ROwn WR 30 wx base v l ∧ IsMk wx m N ∧ Moves m w0 wx
set_option maxRecDepth 100000 in
set_option maxHeartbeats 6400000 in
theorem exact_walk (t : Option Addr) (len cap : Nat) (zs : List Int) (AL : Option Addr) (cl : Nat) (l : List Wag) (AB : Option Addr) (cb : Nat) (bs : List Int) (w : World) (h : IsRow .i64 w t len cap zs) (hl : RRow WR w AL l) (hz : Sz l) (hb : BRow w AB bs) (hcb : bs.length ≤ cb ∧ cb ≤ maxLen) :
    Calls Try.prog 3 #[.slice t len cap, .slice AL l.length cl, .slice AB bs.length cb] w fun e w' => e = .returned (.bool true) ∧ Below w.heap.size w w' := by
  have K0 := Lib.hid (mk_new (T := 41) h)
  have HRL := Lib.hid hl
  have HSZ := Lib.hid hz
  have HRB := Lib.hid hb
  have HCB := Lib.hid hcb
  have ln1 : l.length ≤ 9223372036854775807 := hl.len
  have ln2 := hb.len
  obtain ⟨LL, hLL⟩ : ∃ n, n = l.length := ⟨_, rfl⟩
  obtain ⟨LB, hLB⟩ : ∃ n, n = bs.length := ⟨_, rfl⟩
  have HLL := Lib.hid hLL
  have HLB := Lib.hid hLB
  rw [← hLL] at ln1 ⊢
  rw [← hLB] at ln2 ⊢
  clear h hl hz hb hcb hLL hLB
  go_enter Try.func3, Try.ntmps3
  go_wp2_with fail
  refine (new_any t len cap w).mono ?_
  rintro e w1 ⟨rfl, e1⟩
  have HB1 := Lib.hid (show Below w.heap.size w w1 by rw [e1]; exact (Below.refl _ _).alloc (Nat.le_refl _) _)
  have K1 := Lib.hid (show IsMk w1 w.heap.size 0 by rw [e1]; exact K0.out)
  clear e1 K0
  go_wp2_with fail
  obtain ⟨m, hm⟩ : ∃ m, m = w.heap.size := ⟨_, rfl⟩
  have HMM := Lib.hid hm
  rw [← hm] at K1 ⊢
  clear hm
  go_loopw [8] (fun iv wr => ∃ (I M : Nat), iv = .int .i64 (I : Int) ∧ I ≤ 5 ∧ M ≤ 200 * I ∧ Hid (IsMk wr m M ∧ Below w.heap.size w wr)) (fun iv _ => 5 - (intOf iv).toNat)
  case atStart => exact ⟨0, 0, rfl, by omega, by omega, Lib.hid ⟨K1.out, HB1.out⟩⟩
  case round =>
    clear K1 HB1
    obtain ⟨I, M, rfl, hI, hM, X⟩ := hrel
    by_cases hlt : I < 5
    · have HIL := Lib.hid (And.intro hlt hM)
      have hM8 : M ≤ 1000 := by omega
      have hlti : (I : Int) < 5 := by omega
      go_wp2_with fail
      refine (mwagons_any m M 6 wr X.out.1 (by omega) (by decide)).mono ?_
      rintro e w2 ⟨v2, lw, rfl, O2, hlw, hmade, K2, M2⟩
      have HO2 := Lib.hid O2
      have HK2 := Lib.hid K2
      have HM2 := Lib.hid M2
      have HMD := Lib.hid hmade
      have HLW := Lib.hid hlw
      obtain ⟨A, c, rfl, _, hlc, hcm, hblk⟩ := O2.full
      have HBLK := Lib.hid hblk
      obtain ⟨L, hL⟩ : ∃ n, n = lw.length := ⟨_, rfl⟩
      have HL := Lib.hid hL
      rw [← hL] at HO2 HBLK HLW hlw ⊢
      clear O2 K2 M2 hmade hblk hlc hcm hL
      go_upto_region 6 with fail
      go_cut [8, 27] (fun i8 b wx => i8 = .int .i64 (I : Int) ∧ (∃ Z : Bool, b = .bool Z ∧ Hid (Z = true → 0 < L)) ∧ wx = w2)
      case first =>
        by_cases h2 : 1 < I
        · have h2i : (1 : Int) < (I : Int) := by omega
          by_cases h0 : 0 < L
          · have h0i : (0 : Int) < (L : Int) := by omega
            go_wp2_with fail
            go_meet
            case rel => exact ⟨rfl, ⟨_, rfl, Lib.hid (fun _ => h0)⟩, rfl⟩
          · have h0i : ¬ (0 : Int) < (L : Int) := by omega
            have h0j : decide ((0 : Int) < (L : Int)) = false := decide_eq_false h0i
            go_wp2_with fail
            go_meet
            case rel => exact ⟨rfl, ⟨false, by simp [h0i], Lib.hid (fun h => by cases h)⟩, rfl⟩
        · have h2i : ¬ (1 : Int) < (I : Int) := by omega
          have h2k : decide ((1 : Int) < (I : Int)) = false := decide_eq_false h2i
          go_wp2_with fail
          go_meet
          case rel => exact ⟨rfl, ⟨false, by simp [h2i], Lib.hid (fun h => by cases h)⟩, rfl⟩
      case rest =>
        obtain ⟨rfl, ⟨Z, rfl, hZ⟩, rfl⟩ := hcut
        go_upto_if 27 with fail
        go_cut [9] (fun v wx => Hid (XL m (M + 113) wr.heap.size 6 wr wx v))
        case first =>
          cases Z
          case true =>
            have h20 := hZ.out rfl
            clear hZ
            obtain ⟨g, rfl, hg1, hg2⟩ := HBLK.out.1 h20
            have hmr := X.out.1.lt
            have hmg : m < g := by omega
            have hpl : (0 : Int) < (L : Int) := by omega
            have hll : L ≤ 6 := HLW.out
            clear hg2
            go_wp2_with fail
            refine (next_any m _ (L : Int) wc HK2.out (by omega) (by omega) (by omega)).mono ?_
            rintro e w4 ⟨x, rfl, x1, x2, k4, m4⟩
            obtain ⟨X0, rfl⟩ := Int.eq_ofNat_of_zero_le x1
            have hx3 : X0 < L := by omega
            obtain ⟨y, hy⟩ : ∃ y, lw[X0]? = some y := ⟨_, List.getElem?_eq_getElem (by rw [← HL.out]; exact hx3)⟩
            have HY := Lib.hid hy
            have HV := Lib.hid (HMD.out.at_ hy)
            have O4 := Lib.hid (HO2.out.moves m4 hmr)
            have K4 := Lib.hid k4
            have M4 := Lib.hid (HM2.out.trans m4)
            obtain ⟨⟨c0, c1, c2, c3, c4, c5, c6, c7⟩, _⟩ := O4.out.atW HL.out hy
            clear k4 m4 hy x1 HO2 HK2 HM2
            go_wp2_with fail
            refine (mspoilw_any m _ y w4 K4.out (by omega) HV.out).mono ?_
            rintro e w5 ⟨z, rfl, hz, k5, m5⟩
            have O5 := Lib.hid (O4.out.moves m5 hmr)
            have K5 := Lib.hid k5
            have M5 := Lib.hid (M4.out.trans m5)
            have HSZ2 := Lib.hid (HMD.out.sz.set X0 hz)
            clear k5 m5 hz c0 c1 c2 c3 c4 c5 c6 c7 O4 K4 M4
            obtain ⟨⟨c0, c1, c2, c3, c4, c5, c6, c7⟩, fz⟩ := O5.out.atW HL.out HY.out
            go_wp2_with fail
            have OF := Lib.hid (O5.out.putW HL.out X0 z)
            have KF := Lib.hid (((((((((K5.out.setCell (p := ⟨g, X0 * 8, none⟩) hmg (.string z.num)).setCell (p := ⟨g, X0 * 8 + 1, none⟩) hmg (.int .i64 z.len)).setCell (p := ⟨g, X0 * 8 + 2, none⟩) hmg (.int .i64 z.axl)).setCell (p := ⟨g, X0 * 8 + 3, none⟩) hmg (.int .i64 z.mas)).setCell (p := ⟨g, X0 * 8 + 4, none⟩) hmg (.int .i64 z.brk)).setCell (p := ⟨g, X0 * 8 + 5, none⟩) hmg (.int .i64 z.gds)).setCell (p := ⟨g, X0 * 8 + 6, none⟩) hmg (.bool z.gen)).setCell (p := ⟨g, X0 * 8 + 7, none⟩) hmg (.string z.dst)))
            have MF := Lib.hid (M5.out.putW hg1 X0 z)
            clear c0 c1 c2 c3 c4 c5 c6 c7 fz
            go_wp2_with fail
            go_meet
            case rel => exact Lib.hid ⟨lw.set X0 z, by rw [List.length_set, ← HL.out]; exact hll, HSZ2.out, OF.out, KF.out.more (by omega), MF.out⟩
          case false =>
            go_wp2_with fail
            go_meet
            case rel => exact Lib.hid ⟨lw, by have := HLW.out; have := HL.out; omega, HMD.out.sz, HO2.out, HK2.out.more (by omega), HM2.out⟩
        case rest =>
          have HXL := hcut
          clear hcut hZ HO2 HK2 HM2 HMD HLW HBLK HL
          obtain ⟨lq, hq6, hqz, hqo, hqk, hqm⟩ := HXL.out
          have HQZ := Lib.hid hqz
          have HQO := Lib.hid hqo
          have HQK := Lib.hid hqk
          have HQM := Lib.hid hqm
          obtain ⟨AQ, cq, rfl, _, _, _, hqb⟩ := hqo.full
          have HQB := Lib.hid hqb
          obtain ⟨Q, hQ⟩ : ∃ n, n = lq.length := ⟨_, rfl⟩
          have HQ := Lib.hid hQ
          rw [← hQ] at HQO HQB hq6 ⊢
          clear hqz hqo hqk hqm hqb hQ HXL
          go_upto_region 9 with fail
          go_cut [8, 47] (fun i8 b wx => i8 = .int .i64 (I : Int) ∧ (∃ Z : Bool, b = .bool Z ∧ Hid (Z = true → 0 < Q)) ∧ wx = wc)
          case first =>
            by_cases h2 : I = 4
            · have h2i : (I : Int) = 4 := by omega
              by_cases h0 : 0 < Q
              · have h0i : (0 : Int) < (Q : Int) := by omega
                go_wp2_with fail
                go_meet
                case rel => exact ⟨by simp [h2], ⟨_, rfl, Lib.hid (fun _ => h0)⟩, rfl⟩
              · have h0i : ¬ (0 : Int) < (Q : Int) := by omega
                have h0j : decide ((0 : Int) < (Q : Int)) = false := decide_eq_false h0i
                go_wp2_with fail
                go_meet
                case rel => exact ⟨by simp [h2], ⟨false, by simp [h0i], Lib.hid (fun h => by cases h)⟩, rfl⟩
            · have h2i : ¬ (I : Int) = 4 := by omega
              have h2j : ((I : Int) == 4) = false := by simpa using h2i
              have h2k : decide ((I : Int) = 4) = false := decide_eq_false h2i
              go_wp2_with fail
              go_meet
              case rel => exact ⟨rfl, ⟨false, by simp [h2i], Lib.hid (fun h => by cases h)⟩, rfl⟩
          case rest =>
            obtain ⟨rfl, ⟨Z2, rfl, hZ2⟩, rfl⟩ := hcut
            go_upto_if 47 with fail
            go_cut [9] (fun v wx => Hid (XL m (M + 114) wr.heap.size 7 wr wx v))
            case first =>
              cases Z2
              case true =>
                have h20 := hZ2.out rfl
                clear hZ2
                obtain ⟨g, rfl, hg1, hg2⟩ := HQB.out.1 h20
                have hmr := X.out.1.lt
                have hpl : (0 : Int) < (Q : Int) := by omega
                clear hg2
                go_wp2_with fail
                refine (next_any m _ (Q : Int) wc HQK.out (by omega) (by omega) (by omega)).mono ?_
                rintro e w4 ⟨x, rfl, x1, x2, k4, m4⟩
                obtain ⟨X0, rfl⟩ := Int.eq_ofNat_of_zero_le x1
                have hx3 : X0 < Q := by omega
                obtain ⟨⟨nu, le, ax, ma, br, gd, ge, ds⟩, hy⟩ : ∃ y, lq[X0]? = some y := ⟨_, List.getElem?_eq_getElem (by rw [← HQ.out]; exact hx3)⟩
                have HY := Lib.hid (List.mem_of_getElem? hy)
                have O4 := Lib.hid (HQO.out.moves m4 hmr)
                have K4 := Lib.hid k4
                have M4 := Lib.hid (HQM.out.trans m4)
                have HW4 := Lib.hid (show wr.heap.size ≤ w4.heap.size from M4.out.size)
                obtain ⟨⟨c0, c1, c2, c3, c4, c5, c6, c7⟩, _⟩ := O4.out.atW HQ.out hy
                simp only at c0 c1 c2 c3 c4 c5 c6 c7
                clear k4 m4 hy x1 HQO HQK HQM
                go_wp2_with (first | (at_builtin; refine wpList_appW _ rfl (.tmp 48) (.tmp 56) rfl wr.heap.size _ lq rfl (by rw [← HQ.out] at *; exact O4.out.alloc _) [⟨nu, le, ax, ma, br, gd, ge, ds⟩] w4 rfl _ rfl 1 1 rfl (by decide) rfl (by rw [← HQ.out]; omega) (le_alloc HW4.out) ?_; intro v5 w5 A5))
                clear c0 c1 c2 c3 c4 c5 c6 c7
                obtain ⟨OA, GA, g1, cA, hv1, hgA⟩ := A5
                have hob := fun j (hj : Value.ownBlock (.slice (some ⟨g, 0, none⟩) Q cq) = some j) => (ROwn.block O4.out hj).1
                have MF := Lib.hid ((M4.out.alloc (.cells #[.string nu, .int .i64 le, .int .i64 ax, .int .i64 ma, .int .i64 br, .int .i64 gd, .bool ge, .string ds] 30)).grown GA hob)
                have KF := Lib.hid (IsMk.stays (K4.out.alloc (.cells #[.string nu, .int .i64 le, .int .i64 ax, .int .i64 ma, .int .i64 br, .int .i64 gd, .bool ge, .string ds] 30)) ((Below.refl (m + 1) _).grown GA (by have := K4.out.lt; simp only [World.size_alloc]; omega) (fun j hj => Nat.lt_of_lt_of_le hmr (hob j hj))))
                have OF := Lib.hid OA
                clear OA GA hob
                go_wp2_with fail
                go_meet
                case rel => exact Lib.hid ⟨lq ++ [⟨nu, le, ax, ma, br, gd, ge, ds⟩], by rw [List.length_append, ← HQ.out]; show Q + 1 ≤ 7; omega, HQZ.out.app HY.out, OF.out, KF.out.more (by omega), MF.out⟩
              case false =>
                go_wp2_with fail
                go_meet
                case rel => exact Lib.hid ⟨lq, by rw [← HQ.out]; omega, HQZ.out, HQO.out, HQK.out.more (by omega), HQM.out⟩
            case rest =>
              have HXL := hcut
              clear hcut hZ2 HQZ HQO HQK HQM HQB HQ
              obtain ⟨lf, hf7, hfz, hfo, hfk, hfm⟩ := HXL.out
              have HFZ := Lib.hid hfz
              have HFK := Lib.hid hfk
              have HFM := Lib.hid hfm
              obtain ⟨AF, cf, rfl, RF⟩ := ROwn.slice hfo
              have HRF := Lib.hid RF
              clear hfz hfo hfk hfm RF HXL
              go_wp2_with fail
              refine (renc_any lf AF cf _ HRF.out HFZ.out).mono ?_
              rintro e w3 ⟨v3, rfl, O3, B3⟩
              obtain ⟨⟨ys, er⟩, hys⟩ : ∃ t, t = encR lf := ⟨_, rfl⟩
              have ybd := encR_bd lf
              rw [← hys] at O3 ybd ⊢
              simp only at O3 ybd ⊢
              obtain ⟨AY, cy, rfl, RY, hcy⟩ := Own.brow O3 ybd.1 (by have := ybd.2; omega)
              have HYC := Lib.hid (show ys.length ≤ cy ∧ cy ≤ maxLen from ⟨hcy, Own.cap O3⟩)
              have HRY := Lib.hid RY
              have HYNE := Lib.hid (show 0 < ys.length → ∃ ad : Addr, AY = some ad ∧ ad.block ≠ m from fun h0 => by
                obtain ⟨A', c', e', _, _, _, hg⟩ := Own.slice O3
                injection e' with e' _ _
                obtain ⟨g, hA, h1, _⟩ := hg h0
                exact ⟨_, e'.trans hA, by have := HFK.out.lt; show g ≠ m; omega⟩)
              have HRF3 := Lib.hid (HRF.out.below B3)
              have HK3 := Lib.hid (HFK.out.stays' B3)
              have HM3 := Lib.hid (HFM.out.trans (Moves.of_below B3))
              obtain ⟨Y, hY⟩ : ∃ n, n = ys.length := ⟨_, rfl⟩
              have HYL := Lib.hid hY
              have hy3002 : Y ≤ 3002 := by rw [hY]; exact ybd.2
              have hym : (Y : Int) ≤ (cy : Int) := by rw [hY]; omega
              rw [← hY]
              clear hys ybd RY O3 B3 hcy HRF HFK HFM hY
              go_wp2_with fail
              refine (writes_any lf AF cf w3 HRF3.out HFZ.out).mono ?_
              rintro e w4 ⟨rfl, B4⟩
              have HRY4 := Lib.hid (HRY.out.below B4)
              have HK4 := Lib.hid (HK3.out.stays' B4)
              have HM4 := Lib.hid (HM3.out.trans (Moves.of_below B4))
              clear B4 HRY HK3 HM3 HRF3
              have hrd := Lib.hid (show ∀ W, BRow W AY ys → Calls Try.prog 10 #[.slice AY Y cy] W fun e w' => e = .returned (.bool true) ∧ Below W.heap.size W w' from fun W hr => by rw [HYL.out]; exact reads_any AY cy ys W hr HYC.out)
              go_wp2_with fail
              refine (hrd.out _ HRY4.out).mono ?_
              rintro e w5 ⟨rfl, B5⟩
              have HRY5 := Lib.hid (HRY4.out.below B5)
              have HK5 := Lib.hid (HK4.out.stays' B5)
              have HM5 := Lib.hid (HM4.out.trans (Moves.of_below B5))
              clear B5 HRY4 HK4 HM4 hrd
              go_wp2_with fail
              refine (mspoilb_any m (M + 114) Y ys AY cy _ HK5.out (by omega) HRY5.out HYL.out (by omega)).mono ?_
              rintro e w6 ⟨A6, c6, xs6, rfl, R6, hc6, k6, m6⟩
              have HRY6 := Lib.hid (show BRow w6 AY ys from ⟨Row.moves_ HRY5.out.row m6 HYNE.out, HRY5.out.len, HRY5.out.bd⟩)
              have HR6 := Lib.hid R6
              have HC6 := Lib.hid hc6
              have HK6 := Lib.hid k6
              have HM6 := Lib.hid (HM5.out.trans m6)
              clear R6 hc6 k6 m6 HRY5 HK5 HM5
              go_wp2_with fail
              refine (reads_any A6 c6 xs6 w6 HR6.out HC6.out).mono ?_
              rintro e w7 ⟨rfl, B7⟩
              have HRY7 := Lib.hid (HRY6.out.below B7)
              have HK7 := Lib.hid (HK6.out.stays' B7)
              have HM7 := Lib.hid (HM6.out.trans (Moves.of_below B7))
              clear B7 HRY6 HK6 HM6 HR6 HC6
              go_wp2_with fail
              refine (mspoilb_any m (M + 114 + 3) Y ys AY cy _ HK7.out (by omega) HRY7.out HYL.out (by omega)).mono ?_
              rintro e w8 ⟨A8, c8, xs8, rfl, R8, hc8, k8, m8⟩
              have HRY8 := Lib.hid (show BRow w8 AY ys from ⟨Row.moves_ HRY7.out.row m8 HYNE.out, HRY7.out.len, HRY7.out.bd⟩)
              have HR8 := Lib.hid R8
              have HC8 := Lib.hid hc8
              have HK8 := Lib.hid k8
              have HM8 := Lib.hid (HM7.out.trans m8)
              clear R8 hc8 k8 m8 HRY7 HK7 HM7
              go_wp2_with fail
              refine (fixed_any A8 c8 xs8 w8 HR8.out HC8.out).mono ?_
              rintro e w9 ⟨A9, c9, xs9, rfl, R9, hc9, B9⟩
              have HRY9 := Lib.hid (HRY8.out.below B9)
              have HK9 := Lib.hid (HK8.out.stays' B9)
              have HM9 := Lib.hid (HM8.out.trans (Moves.of_below B9))
              have HR9 := Lib.hid R9
              have HC9 := Lib.hid hc9
              clear B9 R9 hc9 HRY8 HK8 HM8 HR8 HC8
              go_wp2_with fail
              refine (reads_any A9 c9 xs9 w9 HR9.out HC9.out).mono ?_
              rintro e w10 ⟨rfl, B10⟩
              have HRY10 := Lib.hid (HRY9.out.below B10)
              have HK10 := Lib.hid (HK9.out.stays' B10)
              have HM10 := Lib.hid (HM9.out.trans (Moves.of_below B10))
              clear B10 HRY9 HK9 HM9 HR9 HC9
              go_wp2_with fail
              refine (next_any m _ ((Y : Int) + 1) _ HK10.out (by omega) (by omega) (by omega)).mono ?_
              rintro e w11 ⟨u, rfl, u1, u2, k11, m11⟩
              obtain ⟨U, rfl⟩ := Int.eq_ofNat_of_zero_le u1
              have hu : U ≤ Y := by omega
              have huc : (U : Int) ≤ (cy : Int) := by omega
              have HRY11 := Lib.hid (show BRow w11 AY ys from ⟨Row.moves_ HRY10.out.row m11 HYNE.out, HRY10.out.len, HRY10.out.bd⟩)
              have HK11 := Lib.hid k11
              have HM11 := Lib.hid (HM10.out.trans m11)
              have hrd := Lib.hid (show Calls Try.prog 10 #[.slice AY U cy] w11 fun e w' => e = .returned (.bool true) ∧ Below w11.heap.size w11 w' from by
                have := reads_any AY cy (ys.take U) w11 (HRY11.out.take U) ⟨by rw [List.length_take]; have := HYC.out.1; omega, HYC.out.2⟩
                rw [List.length_take, ← HYL.out, Nat.min_eq_left hu] at this
                exact this)
              clear k11 m11 HRY10 HK10 HM10 u1 u2
              go_wp2_with fail
              refine hrd.out.mono ?_
              rintro e w12 ⟨rfl, B12⟩
              have HK12 := Lib.hid (HK11.out.stays' B12)
              have HM12 := Lib.hid (HM11.out.trans (Moves.of_below B12))
              have HB12 := Lib.hid (HM12.out.below X.out.2 (Nat.le_of_eq HMM.out.symm) X.out.2.size)
              clear B12 hrd HRY11 HK11 HM11
              go_wp2_with fail
              go_roundw
              case rel => exact ⟨I + 1, M + 200, by go_num, by omega, by have := HIL.out; omega, Lib.hid ⟨HK12.out.more (by omega), HB12.out⟩⟩
              case measure => simp [intOf]; omega
    · obtain rfl : I = 5 := by omega
      have HBX := Lib.hid X.out.2
      have HRL1 := Lib.hid (HRL.out.below X.out.2)
      have HRB1 := Lib.hid (HRB.out.below X.out.2)
      clear hlt hI X
      by_cases h20 : 20 < LL
      · have h20i : (20 : Int) < (LL : Int) := by omega
        go_wp2_with fail
        go_ret
        exact ⟨rfl, HBX.out⟩
      · by_cases h300 : 300 < LB
        · have h20i : ¬ (20 : Int) < (LL : Int) := by omega
          have h300i : (300 : Int) < (LB : Int) := by omega
          go_wp2_with fail
          go_ret
          exact ⟨rfl, HBX.out⟩
        · have h20i : ¬ (20 : Int) < (LL : Int) := by omega
          have h300i : ¬ (300 : Int) < (LB : Int) := by omega
          have c1 := Lib.hid (show ∀ W, RRow WR W AL l → Calls Try.prog 9 #[.slice AL LL cl] W fun e w' => e = .returned (.bool true) ∧ Below W.heap.size W w' from fun W hr => by rw [HLL.out]; exact writes_any l AL cl W hr HSZ.out)
          have c2 := Lib.hid (show ∀ W, BRow W AB bs → Calls Try.prog 10 #[.slice AB LB cb] W fun e w' => e = .returned (.bool true) ∧ Below W.heap.size W w' from fun W hr => by rw [HLB.out]; exact reads_any AB cb bs W hr HCB.out)
          have c3 := Lib.hid (show ∀ W, BRow W AB bs → Calls Try.prog 12 #[.slice AB LB cb] W (FixPost W) from fun W hr => by rw [HLB.out]; exact fixed_any AB cb bs W hr HCB.out)
          go_wp2_with fail
          refine (c1.out _ HRL1.out).mono ?_
          rintro e w2 ⟨rfl, B2⟩
          have HB2 := Lib.hid (HBX.out.trans (B2.mono HBX.out.size))
          have HRB2 := Lib.hid (HRB1.out.below B2)
          clear B2 HBX HRB1
          go_wp2_with fail
          refine (c2.out _ HRB2.out).mono ?_
          rintro e w3 ⟨rfl, B3⟩
          have HB3 := Lib.hid (HB2.out.trans (B3.mono HB2.out.size))
          have HRB3 := Lib.hid (HRB2.out.below B3)
          clear B3 HB2 HRB2
          go_wp2_with fail
          refine (c3.out _ HRB3.out).mono ?_
          rintro e w4 ⟨A4, c4, xs, rfl, R4, hc4, B4⟩
          have HB4 := Lib.hid (HB3.out.trans (B4.mono HB3.out.size))
          have HR4 := Lib.hid R4
          have HC4 := Lib.hid hc4
          clear B4 HB3 HRB3 R4 hc4
          go_wp2_with fail
          refine (reads_any A4 c4 xs w4 HR4.out HC4.out).mono ?_
          rintro e w5 ⟨rfl, B5⟩
          have HB5 := Lib.hid (HB4.out.trans (B5.mono HB4.out.size))
          clear B5 HB4 HR4
          go_wp2_with fail
          refine (sane_any _).mono ?_
          rintro e w6 ⟨rfl, B6⟩
          go_wp2_with fail
          go_ret
          exact ⟨rfl, HB5.out.trans (B6.mono HB5.out.size)⟩
end Go.Proofs.Ytjgeolfjhfdbmaa
