/-
  Stage 17: the walk of PlannerLimits.
-/
import Derived.Test.YtimkmieohkefiaaGreatZGLp
import Derived.BigQuiet
set_option linter.unusedSimpArgs false
set_option linter.unusedVariables false
namespace Go.Proofs.YtimkmieohkefiaaGreat
open Go.RowKit Go.Lib

def lnV : Value → Nat
  | .slice _ n _ => n
  | _ => 0
def zzB : ByteArray := ⟨#[122, 122]⟩
set_option maxRecDepth 100000 in
set_option maxHeartbeats 25600000 in
theorem plim_walk (A : Option Addr) (c : Nat) (zs : List Int) (n kd : Int) (w : World) (hr : Row .i64 w w.heap.size A zs) (hm : zs.length ≤ maxLen) (hw : ∀ n ∈ zs, (Lit.int .i64 n).wf = true) (hn1 : -9223372036854775808 ≤ n) (hn2 : n ≤ 9223372036854775807) (hb1 : -9223372036854775808 ≤ kd) (hb2 : kd ≤ 9223372036854775807) :
    Calls Tryz.prog 3 #[.slice A zs.length c, .int .i64 n, .int .i64 kd] w fun e w' => e = .returned (.bool true) ∧ Below w.heap.size w w' := by
  have K := Lib.hid (mk_row (c := c) (T := 90) hr hm hw)
  have B := Lib.hid ((Below.refl w.heap.size w).alloc (Nat.le_refl _) (.cells #[.slice A zs.length c, .int .i64 0] 90))
  have HSN := Lib.hid (fun (W : World) => sane17_any W)
  have a1 := tmod_bd n 3 (by decide)
  have a3 := tmod_bd kd 4 (by decide)
  have c1 := Int.emod_nonneg (n.tmod 3 + 3) (show (3 : Int) ≠ 0 by decide)
  have c2 := Int.emod_lt_of_pos (n.tmod 3 + 3) (show (0 : Int) < 3 by decide)
  have hz5 : (n.tmod 3 + 3).tmod 3 = (n.tmod 3 + 3) % 3 := by rw [Int.tmod_eq_emod_of_nonneg (by omega)]
  clear hr hw
  go_enter Tryz.func3, Tryz.ntmps3
  go_wp2_with fail
  refine (new_any A zs.length c w).mono ?_
  rintro e w1 ⟨rfl, hw1⟩
  rw [← hw1] at K B
  clear hw1 hm
  go_upto_region 3 with fail
  obtain ⟨m, hmm⟩ : ∃ m : Nat, n.tmod 3 % 3 = (m : Int) := ⟨(n.tmod 3 % 3).toNat, by omega⟩
  rw [hmm]
  have hm2 : m ≤ 2 := by omega
  clear hmm c1 c2 hz5 a1 hn1 hn2
  generalize n.tmod 3 + 3 = d1
  generalize n.tmod 3 = d2
  go_wp2_with fail
  refine (mwagons17_any w.heap.size 0 4 w1 K.out (by omega) (by omega)).mono ?_
  rintro e w3 ⟨v3, l, rfl, O3, hl4, hmd, k3, m3⟩
  obtain ⟨wA, wk, rfl, RW⟩ := O3.slice
  obtain ⟨wn, hwn⟩ : ∃ n, n = l.length := ⟨_, rfl⟩
  have HRW := Lib.hid RW
  have HWN := Lib.hid hwn
  have HMD := Lib.hid hmd
  have HK3 := Lib.hid k3
  have HML := Lib.hid K.out.lt
  have B3 := Lib.hid (m3.below B.out (Nat.le_refl _) B.out.size)
  rw [← hwn] at hl4 ⊢
  clear hwn RW O3 hmd k3 m3 K B
  have b1 := box1W w3 (.cells (namesL.map Value.string).toArray 9)
  have b2 := box1W (w3.alloc (.cells (namesL.map Value.string).toArray 9)) (.cells #[.slice (some ⟨w3.heap.size, 0, none⟩) 10 10] 29)
  have HOO := Lib.hid (OO.lit w3 namesL (by decide))
  have B34 := Lib.hid (b1.trans (b2.mono b1.size))
  have HS5 := Lib.hid (show w3.heap.size < ((w3.alloc (.cells (namesL.map Value.string).toArray 9)).alloc (.cells #[.slice (some ⟨w3.heap.size, 0, none⟩) 10 10] 29)).heap.size by simp; omega)
  clear b1 b2
  go_upto_region 6 with fail
  change Hid (OO ((w3.alloc (.cells #[.string { data := #[97] }, .string { data := #[98] }, .string { data := #[99] }, .string { data := #[100] }, .string { data := #[101] }, .string { data := #[110, 111, 114, 116, 104] }, .string { data := #[115, 111, 117, 116, 104] }, .string { data := #[112, 111, 114, 116, 49] }, .string { data := #[120, 57] }, .string { data := #[97, 98, 99, 100, 101, 102, 103, 104, 105, 106, 107, 108] }] 9)).alloc (.cells #[.slice (some ⟨w3.heap.size, 0, none⟩) 10 10] 29)) w3.heap.size (.slice (some ⟨w3.heap.size + 1, 0, none⟩) 1 1) [namesL]) at HOO
  change Hid (Below w3.heap.size w3 ((w3.alloc (.cells #[.string { data := #[97] }, .string { data := #[98] }, .string { data := #[99] }, .string { data := #[100] }, .string { data := #[101] }, .string { data := #[110, 111, 114, 116, 104] }, .string { data := #[115, 111, 117, 116, 104] }, .string { data := #[112, 111, 114, 116, 49] }, .string { data := #[120, 57] }, .string { data := #[97, 98, 99, 100, 101, 102, 103, 104, 105, 106, 107, 108] }] 9)).alloc (.cells #[.slice (some ⟨w3.heap.size, 0, none⟩) 10 10] 29))) at B34
  clear HS5
  obtain ⟨ob, hob⟩ : ∃ b, b = w3.heap.size + 1 := ⟨_, rfl⟩
  rw [← hob] at HOO ⊢
  clear hob
  generalize ((w3.alloc (.cells #[.string { data := #[97] }, .string { data := #[98] }, .string { data := #[99] }, .string { data := #[100] }, .string { data := #[101] }, .string { data := #[110, 111, 114, 116, 104] }, .string { data := #[115, 111, 117, 116, 104] }, .string { data := #[112, 111, 114, 116, 49] }, .string { data := #[120, 57] }, .string { data := #[97, 98, 99, 100, 101, 102, 103, 104, 105, 106, 107, 108] }] 9)).alloc (.cells #[.slice (some ⟨w3.heap.size, 0, none⟩) 10 10] 29)) = w5 at *
  obtain ⟨bb, hbb⟩ : ∃ b, b = w3.heap.size := ⟨_, rfl⟩
  have HBB := Lib.hid hbb
  rw [← hbb] at HOO B34 ⊢
  clear hbb
  go_upto_if 33 with fail
  go_cut [10] from 34 to 34 (fun bv wx => ∃ wv : Int, bv = .int .i64 wv ∧ Hid (wv = if 1 < m then 3 else 0) ∧ Hid (wx = w5))
  case first =>
    by_cases h1 : 1 < m
    · have g1 : (1 : Int) < (m : Int) := by omega
      go_wp2_with fail
      go_meet
      case rel => exact ⟨3, rfl, Lib.hid (by rw [if_pos h1]), Lib.hid rfl⟩
    · have g1 : ¬ (1 : Int) < (m : Int) := by omega
      go_wp2_with fail
      go_meet
      case rel => exact ⟨0, rfl, Lib.hid (by rw [if_neg h1]), Lib.hid rfl⟩
  case rest =>
    obtain ⟨wv, rfl, HWV, HX⟩ := hcut
    obtain rfl := HX.out
    clear HX
    have c1 := Int.emod_nonneg (kd.tmod 4 + 4) (show (4 : Int) ≠ 0 by decide)
    have c2 := Int.emod_lt_of_pos (kd.tmod 4 + 4) (show (0 : Int) < 4 by decide)
    have hz6 : (kd.tmod 4 + 4).tmod 4 = (kd.tmod 4 + 4) % 4 := by rw [Int.tmod_eq_emod_of_nonneg (by omega)]
    go_upto_region 14 with fail
    obtain ⟨k4, hk4⟩ : ∃ k : Nat, kd.tmod 4 % 4 = (k : Int) := ⟨(kd.tmod 4 % 4).toNat, by omega⟩
    rw [hk4]
    have hk44 : k4 ≤ 3 := by omega
    clear hk4 c1 c2 hz6 a3 hb1 hb2
    generalize kd.tmod 4 + 4 = d3
    generalize kd.tmod 4 = d4
    obtain rfl | rfl | rfl | rfl : k4 = 0 ∨ k4 = 1 ∨ k4 = 2 ∨ k4 = 3 := by omega
    · go_wp2_with fail
      go_loopw [9] (fun ov wr => ∃ (oA : Option Addr) (oc j : Nat), ov = .slice oA (j + 1) oc ∧ j ≤ 14 + m ∧ Hid (OO wr bb ov (namesL :: List.replicate j [])) ∧ Hid (Below bb w3 wr)) (fun ov _ => 20 - lnV ov)
      case atStart => exact ⟨_, 1, 0, rfl, Nat.zero_le _, HOO, B34⟩
      case round =>
        obtain ⟨oA, oc, j, rfl, hj, HO1, HB1⟩ := hrel
        have hbs : bb ≤ wr.heap.size := by rw [HBB.out]; exact HB1.out.size
        have HBS := Lib.hid hbs
        clear hbs
        by_cases hlt : j + 1 < 15 + m
        · have hjl := hlt
          go_wp2_with (first | (at_builtin; refine wpList_ord rfl (.tmp 82) (.tmp 84) rfl bb _ (namesL :: List.replicate j []) rfl wr HO1.out none 0 0 [] rfl ROwn.nil rfl _ rfl rfl (by rw [List.length_cons, List.length_replicate]; omega) HBS.out ?_; intro v' w' O' G' P'; have HO2 := Lib.hid O'; have HB2 := Lib.hid ((HB1.out.alloc HBS.out (.cells #[.slice none 0 0] 29)).grown G' (by rw [World.size_alloc]; have := HBS.out; omega) P'); clear O' G' P'))
          have hlen : ((namesL :: List.replicate j ([] : List ByteArray)) ++ [([] : List ByteArray)]).length = j + 1 + 1 := by simp
          have hcat : (namesL :: List.replicate j ([] : List ByteArray)) ++ [([] : List ByteArray)] = namesL :: List.replicate (j + 1) ([] : List ByteArray) := by rw [List.cons_append, ← List.replicate_succ']
          have HO3 := Lib.hid HO2.out
          obtain ⟨oA', oc', rfl, -⟩ := HO2.out.slice
          rw [hlen, hcat] at HO3
          rw [hlen]
          clear hlen hcat
          clear HO2 HO1 HB1
          go_roundw
          case rel => refine ⟨_, _, _, _, _, _, _, _, _, _, ⟨oA', oc', j + 1, rfl, by omega, HO3, HB2⟩, rfl⟩
          case measure => simp [lnV]; omega
        · obtain rfl : j = 14 + m := by omega
          obtain ⟨oA2, oc2, eo, ORX⟩ := HO1.out.slice
          obtain rfl : oA = oA2 := by injection eo
          have HO := Lib.hid ORX
          have hbw : Below w3.heap.size w3 wr := by have := HB1.out; rw [HBB.out] at this; exact this
          have HR := Lib.hid (HRW.out.below hbw)
          have HBW := Lib.hid (B3.out.trans (hbw.mono B3.out.size))
          clear hbw
          have HLIM := Lib.hid (show limB (namesL :: List.replicate (14 + m) []) l.length = decide (m ≤ 1) from by
            have h1 : okBs (namesL :: List.replicate (14 + m) []) = true := List.all_eq_true.2 fun z hz => by
              rcases List.mem_cons.1 hz with rfl | hz
              · decide
              · obtain ⟨-, rfl⟩ := List.mem_replicate.1 hz; decide
            unfold limB
            rw [h1, decide_eq_true (show l.length ≤ 96 by rw [← HWN.out]; omega), Bool.and_true, Bool.and_true, List.length_cons, List.length_replicate]
            exact decide_eq_decide.2 (by omega))
          clear ORX eo HO1 HB1 hlt
          have HIT := Lib.hid (items_any (namesL :: List.replicate (14 + m) []) l oA wA (14 + m + 1) oc wn wk (by rw [List.length_cons, List.length_replicate]) (by unfold maxLen; omega) HWN.out wr HO.out HR.out)
          have hit := itemsR_made (os := List.replicate (14 + m) []) HMD.out
          rw [HLIM.out] at hit
          have hwl : wn ≤ 9223372036854775807 := by rw [HWN.out]; exact HR.out.len
          have HHL := Lib.hid hwl
          clear hwl
          by_cases hm1 : m ≤ 1
          · rw [if_pos (decide_eq_true hm1)] at hit
            have hwv : wv = 0 := by rw [HWV.out, if_neg (by omega)]
            have HITE := Lib.hid hit
            subst hwv
            clear hit HWV
            go_wp2_with fail
            refine HIT.out.mono ?_
            rintro e wz ⟨vz, rfl, OZ, BZ⟩
            rw [HITE.out] at OZ ⊢
            obtain ⟨zA, zc, rfl, IZ, -⟩ := OZ.args
            rw [show (List.map itM l).length = wn by rw [List.length_map, HWN.out]]
            have HIZ := Lib.hid IZ
            have HRZ := Lib.hid (HR.out.below BZ)
            have HOZ := Lib.hid (HO.out.below BZ)
            have HBZ := Lib.hid (HBW.out.trans (BZ.mono HBW.out.size))
            have hwl := HHL.out
            clear OZ IZ BZ HR HO HBW HIT HITE HLIM
            go_wp2_with fail
            go_loopw [137] (fun iv wr => ∃ k : Nat, k ≤ wn ∧ iv = .int .i64 (k : Int) ∧ Hid (Below wz.heap.size wz wr)) (fun iv _ => wn - (intOf iv).toNat)
            case atStart => exact ⟨0, Nat.zero_le _, rfl, Lib.hid (Below.refl _ _)⟩
            case round =>
              obtain ⟨k, hk, rfl, HR9⟩ := hrel
              by_cases hlt : k < wn
              · obtain ⟨x, hx⟩ : ∃ x, l[k]? = some x := ⟨_, List.getElem?_eq_getElem (by rw [← HWN.out]; exact hlt)⟩
                obtain ⟨j, hj, hj2, hj3⟩ := name_idx (made_ok HMD.out x (List.mem_of_getElem? hx)).2
                obtain ⟨za, rfl, IC⟩ := (HIZ.out.below HR9.out).at_ k (by rw [List.length_map, ← HWN.out]; exact hlt)
                have D := IC.spelt
                rw [show (l.map itM).getD k it0 = (0, (j : Int), 0, x.len) by rw [List.getD_eq_getElem?_getD, List.getElem?_map, hx]; show (0, idxZ x.dst 0 namesL, 0, x.len) = _; rw [hj2]] at D
                obtain ⟨c0, c1, c2, c3⟩ := D
                simp only at c0 c1 c2 c3
                obtain ⟨oad, oa, occ, rfl, hob, oc0, osr, -⟩ := (HOZ.out.below HR9.out) 0 namesL rfl
                obtain ⟨sad, rfl, hsb, sc0⟩ := osr.cell hj3
                obtain ⟨wad, rfl, CR⟩ := (HRZ.out.below HR9.out).at_ hx
                have c7 := (WSpelt.of CR).c7
                rw [show oad.add 0 = oad by unfold Addr.add; simp, show namesL.length = 10 from rfl] at oc0
                obtain ⟨xl, hxl⟩ : ∃ z, z = x.len := ⟨_, rfl⟩
                obtain ⟨d, hd⟩ : ∃ z, z = x.dst := ⟨_, rfl⟩
                rw [← hxl] at c3
                rw [← hd] at sc0 c7
                have bx := box1W wr (.cells #[.int .i64 0, .int .i64 (j : Int), .int .i64 0, .int .i64 xl] 52)
                have Y := Lib.hid (show AB 52 (wr.alloc (.cells #[.int .i64 0, .int .i64 (j : Int), .int .i64 0, .int .i64 xl] 52)) wr.heap.size [.int .i64 0, .int .i64 (j : Int), .int .i64 0, .int .i64 xl] from AB.new wr [.int .i64 0, .int .i64 (j : Int), .int .i64 0, .int .i64 xl] 52 wr.heap.size rfl)
                have D1 := Lib.hid ((bx.cell (p := oad) hob).trans oc0)
                have D2 := Lib.hid ((bx.cell (p := sad.add j) (by rw [add_block]; exact hsb)).trans sc0)
                have D3 := Lib.hid ((bx.cell (p := ⟨(wad.add (k * 8)).block, (wad.add (k * 8)).off + 7, none⟩) (by have := CR.lt; show (wad.add (k * 8)).block < _; rw [add_block]; exact this)).trans c7)
                have B9 := Lib.hid (HR9.out.trans (bx.mono HR9.out.size))
                clear IC CR hj2 hj3 hxl hd hx oc0 sc0 c7 hob hsb osr bx
                go_upto_region 34 with fail
                obtain ⟨yb, hyb⟩ : ∃ y, y = wr.heap.size := ⟨_, rfl⟩
                rw [← hyb] at Y ⊢
                generalize wr.alloc (.cells #[.int .i64 0, .int .i64 (j : Int), .int .i64 0, .int .i64 xl] 52) = w9 at *
                have d1 := D1.out
                have d2 := D2.out
                have d3 := D3.out
                have y0 := Y.out.cell 0 (u := .int .i64 0) rfl
                have y1 := Y.out.cell 1 (u := .int .i64 (j : Int)) rfl
                have hq1 : decide ((j : Int) < 0) = false := decide_eq_false (by omega)
                have hq2 : decide ((9 : Int) < (j : Int)) = false := decide_eq_false (by omega)
                have hq3 : (j : Int) < 10 := by omega
                have hq4 : (k : Int) < (wn : Int) := by omega
                have hq5 : (0 : Int) < (((14 + m + 1 : Nat)) : Int) := by omega
                clear hyb c0 c1 c2 c3
                go_quiet (fail)
                clear d1 d2 d3 y0 y1
                go_wp2_with fail
                go_roundw
                case rel => exact ⟨k + 1, by omega, by go_num, Lib.hid (bdn B9.out)⟩
                case measure => simp [intOf]; omega
              · have HB9 := Lib.hid (HBZ.out.trans (HR9.out.mono HBZ.out.size))
                go_wp2_with fail
                refine (HSN.out _).mono ?_
                rintro e wq ⟨rfl, Bq⟩
                have HB := Lib.hid (HB9.out.trans (Bq.mono HB9.out.size))
                clear Bq
                go_wp2_with fail
                go_ret
                exact ⟨rfl, HB.out⟩
          · rw [if_neg (by rw [decide_eq_false hm1]; decide)] at hit
            have hwv : wv = 3 := by rw [HWV.out, if_pos (by omega)]
            have HITE := Lib.hid hit
            subst hwv
            clear hit HWV
            go_wp2_with fail
            refine HIT.out.mono ?_
            rintro e wz ⟨vz, rfl, OZ, BZ⟩
            rw [HITE.out] at OZ ⊢
            obtain ⟨zA, zc, rfl, -, -⟩ := OZ.args
            have HBZ := Lib.hid (HBW.out.trans (BZ.mono HBW.out.size))
            clear OZ BZ HR HO HBW HIT HITE HLIM
            rw [show ([] : List It).length = 0 from rfl]
            go_wp2_with fail
            go_loopw [137] (fun iv wr => iv = .int .i64 0 ∧ Hid (Below wz.heap.size wz wr)) (fun iv _ => 0)
            case atStart => exact ⟨rfl, Lib.hid (Below.refl _ _)⟩
            case round =>
              obtain ⟨rfl, HR9⟩ := hrel
              have HB9 := Lib.hid (HBZ.out.trans (HR9.out.mono HBZ.out.size))
              go_wp2_with fail
              refine (HSN.out _).mono ?_
              rintro e wq ⟨rfl, Bq⟩
              have HB := Lib.hid (HB9.out.trans (Bq.mono HB9.out.size))
              clear Bq
              go_wp2_with fail
              go_ret
              exact ⟨rfl, HB.out⟩
    · go_wp2_with fail
      go_loopw [11] (fun sv wr => ∃ (sA : Option Addr) (sc j : Nat), sv = .slice sA j sc ∧ j ≤ 31 + m ∧ Hid (ROwn StR 9 wr wc.heap.size sv (List.replicate j zzB)) ∧ Hid (Below wc.heap.size wc wr)) (fun sv _ => 40 - lnV sv)
      case atStart => exact ⟨none, 0, 0, rfl, Nat.zero_le _, Lib.hid ROwn.nil, Lib.hid (Below.refl _ _)⟩
      case round =>
        obtain ⟨sA, sc, j, rfl, hj, HS1, HB1⟩ := hrel
        by_cases hlt : j < 31 + m
        · have hjl := hlt
          go_wp2_with (first | (at_builtin; refine wpList_appR StR Tryz.underlying27 infoStr17 rfl (by decide) _ rfl (.tmp 93) (.tmp 94) rfl wc.heap.size _ (List.replicate j zzB) rfl (HS1.out.alloc _) [zzB] wr rfl _ rfl 1 1 rfl (by decide) rfl (by rw [List.length_replicate]; omega) (le_allocG HB1.out.size) ?_; intro v' w' AP; have HS2 := Lib.hid AP.1; have HB2 := Lib.hid ((HB1.out.alloc HB1.out.size (.cells #[.string zzB] 9)).grown AP.2.1 (le_allocG HB1.out.size) (fun g hg => by have := HS1.out.block hg; omega)); clear AP))
          have hlen : (List.replicate j zzB ++ [zzB]).length = j + 1 := by simp
          have hcat : List.replicate j zzB ++ [zzB] = List.replicate (j + 1) zzB := by rw [← List.replicate_succ']
          have HS3 := Lib.hid HS2.out
          obtain ⟨sA', sc', rfl, -⟩ := HS2.out.slice
          rw [hlen, hcat] at HS3
          rw [hlen]
          clear hlen hcat HS2 HS1 HB1
          go_roundw
          case rel => (first | exact ⟨sA', sc', j + 1, rfl, by omega, HS3, HB2⟩ | (refine ⟨_, _, _, _, _, _, _, _, _, _, ⟨sA', sc', j + 1, rfl, by omega, HS3, HB2⟩, rfl⟩) | (refine ⟨_, _, _, _, _, _, _, _, _, ⟨sA', sc', j + 1, rfl, by omega, HS3, HB2⟩, rfl⟩))
          case measure => simp [lnV]; omega
        · obtain rfl : j = 31 + m := by omega
          have HO1 := Lib.hid (HOO.out.below HB1.out)
          have hbc : bb ≤ wc.heap.size := by rw [HBB.out]; exact B34.out.size
          have HBS := Lib.hid (Nat.le_trans hbc HB1.out.size)
          have HS2 := Lib.hid (HS1.out.base hbc)
          have HB3 := Lib.hid (B34.out.trans (HB1.out.mono hbc))
          clear hbc HS1 HB1
          go_wp2_with (first | (at_builtin; refine wpList_ord rfl (.tmp 96) (.tmp 99) rfl bb _ [namesL] rfl wr HO1.out sA (31 + m) sc (List.replicate (31 + m) zzB) (by rw [List.length_replicate]) HS2.out rfl _ rfl rfl (by decide) HBS.out ?_; intro v' w' O' G' P'; have HO2 := Lib.hid O'; have HB2 := Lib.hid ((HB3.out.alloc HBS.out (.cells #[.slice sA (31 + m) sc] 29)).grown G' (by rw [World.size_alloc]; have := HBS.out; omega) P'); clear O' G' P'; obtain ⟨oA, oc, rfl, ORX⟩ := HO2.out.slice; have HO := Lib.hid ORX; clear ORX; rw [show ([namesL] ++ [List.replicate (31 + m) zzB]).length = 2 from rfl]))
          have hbw : Below w3.heap.size w3 w' := by have := HB2.out; rw [HBB.out] at this; exact this
          have HR := Lib.hid (HRW.out.below hbw)
          have HBW := Lib.hid (B3.out.trans (hbw.mono B3.out.size))
          clear hbw
          have HLIM := Lib.hid (show limB (namesL :: [List.replicate (31 + m) zzB]) l.length = decide (m ≤ 1) from by
            unfold limB okBs
            rw [decide_eq_true (show l.length ≤ 96 by rw [← HWN.out]; omega), List.all_cons, List.all_cons, List.all_nil, List.length_replicate, Bool.and_true, decide_eq_true (show namesL.length ≤ 32 by decide), Bool.true_and, Bool.true_and, decide_eq_true (show (namesL :: [List.replicate (31 + m) zzB]).length ≤ 16 from (by decide : 2 ≤ 16)), Bool.true_and]
            exact decide_eq_decide.2 (by omega))
          have HO : Hid (ORw w' oA (namesL :: [List.replicate (31 + m) zzB])) := HO
          clear HO2 HO1 HB2 HB3 hlt
          have HIT := Lib.hid (items_any (namesL :: [List.replicate (31 + m) zzB]) l oA wA (2) oc wn wk (rfl) (by unfold maxLen; omega) HWN.out w' HO.out HR.out)
          have hit := itemsR_made (os := [List.replicate (31 + m) zzB]) HMD.out
          rw [HLIM.out] at hit
          have hwl : wn ≤ 9223372036854775807 := by rw [HWN.out]; exact HR.out.len
          have HHL := Lib.hid hwl
          clear hwl
          by_cases hm1 : m ≤ 1
          · rw [if_pos (decide_eq_true hm1)] at hit
            have hwv : wv = 0 := by rw [HWV.out, if_neg (by omega)]
            have HITE := Lib.hid hit
            subst hwv
            clear hit HWV
            go_wp2_with fail
            refine HIT.out.mono ?_
            rintro e wz ⟨vz, rfl, OZ, BZ⟩
            rw [HITE.out] at OZ ⊢
            obtain ⟨zA, zc, rfl, IZ, -⟩ := OZ.args
            rw [show (List.map itM l).length = wn by rw [List.length_map, HWN.out]]
            have HIZ := Lib.hid IZ
            have HRZ := Lib.hid (HR.out.below BZ)
            have HOZ := Lib.hid (HO.out.below BZ)
            have HBZ := Lib.hid (HBW.out.trans (BZ.mono HBW.out.size))
            have hwl := HHL.out
            clear OZ IZ BZ HR HO HBW HIT HITE HLIM
            go_wp2_with fail
            go_loopw [137] (fun iv wr => ∃ k : Nat, k ≤ wn ∧ iv = .int .i64 (k : Int) ∧ Hid (Below wz.heap.size wz wr)) (fun iv _ => wn - (intOf iv).toNat)
            case atStart => exact ⟨0, Nat.zero_le _, rfl, Lib.hid (Below.refl _ _)⟩
            case round =>
              obtain ⟨k, hk, rfl, HR9⟩ := hrel
              by_cases hlt : k < wn
              · obtain ⟨x, hx⟩ : ∃ x, l[k]? = some x := ⟨_, List.getElem?_eq_getElem (by rw [← HWN.out]; exact hlt)⟩
                obtain ⟨j, hj, hj2, hj3⟩ := name_idx (made_ok HMD.out x (List.mem_of_getElem? hx)).2
                obtain ⟨za, rfl, IC⟩ := (HIZ.out.below HR9.out).at_ k (by rw [List.length_map, ← HWN.out]; exact hlt)
                have D := IC.spelt
                rw [show (l.map itM).getD k it0 = (0, (j : Int), 0, x.len) by rw [List.getD_eq_getElem?_getD, List.getElem?_map, hx]; show (0, idxZ x.dst 0 namesL, 0, x.len) = _; rw [hj2]] at D
                obtain ⟨c0, c1, c2, c3⟩ := D
                simp only at c0 c1 c2 c3
                obtain ⟨oad, oa, occ, rfl, hob, oc0, osr, -⟩ := (HOZ.out.below HR9.out) 0 namesL rfl
                obtain ⟨sad, rfl, hsb, sc0⟩ := osr.cell hj3
                obtain ⟨wad, rfl, CR⟩ := (HRZ.out.below HR9.out).at_ hx
                have c7 := (WSpelt.of CR).c7
                rw [show oad.add 0 = oad by unfold Addr.add; simp, show namesL.length = 10 from rfl] at oc0
                obtain ⟨xl, hxl⟩ : ∃ z, z = x.len := ⟨_, rfl⟩
                obtain ⟨d, hd⟩ : ∃ z, z = x.dst := ⟨_, rfl⟩
                rw [← hxl] at c3
                rw [← hd] at sc0 c7
                have bx := box1W wr (.cells #[.int .i64 0, .int .i64 (j : Int), .int .i64 0, .int .i64 xl] 52)
                have Y := Lib.hid (show AB 52 (wr.alloc (.cells #[.int .i64 0, .int .i64 (j : Int), .int .i64 0, .int .i64 xl] 52)) wr.heap.size [.int .i64 0, .int .i64 (j : Int), .int .i64 0, .int .i64 xl] from AB.new wr [.int .i64 0, .int .i64 (j : Int), .int .i64 0, .int .i64 xl] 52 wr.heap.size rfl)
                have D1 := Lib.hid ((bx.cell (p := oad) hob).trans oc0)
                have D2 := Lib.hid ((bx.cell (p := sad.add j) (by rw [add_block]; exact hsb)).trans sc0)
                have D3 := Lib.hid ((bx.cell (p := ⟨(wad.add (k * 8)).block, (wad.add (k * 8)).off + 7, none⟩) (by have := CR.lt; show (wad.add (k * 8)).block < _; rw [add_block]; exact this)).trans c7)
                have B9 := Lib.hid (HR9.out.trans (bx.mono HR9.out.size))
                clear IC CR hj2 hj3 hxl hd hx oc0 sc0 c7 hob hsb osr bx
                go_upto_region 34 with fail
                obtain ⟨yb, hyb⟩ : ∃ y, y = wr.heap.size := ⟨_, rfl⟩
                rw [← hyb] at Y ⊢
                generalize wr.alloc (.cells #[.int .i64 0, .int .i64 (j : Int), .int .i64 0, .int .i64 xl] 52) = w9 at *
                have d1 := D1.out
                have d2 := D2.out
                have d3 := D3.out
                have y0 := Y.out.cell 0 (u := .int .i64 0) rfl
                have y1 := Y.out.cell 1 (u := .int .i64 (j : Int)) rfl
                have hq1 : decide ((j : Int) < 0) = false := decide_eq_false (by omega)
                have hq2 : decide ((9 : Int) < (j : Int)) = false := decide_eq_false (by omega)
                have hq3 : (j : Int) < 10 := by omega
                have hq4 : (k : Int) < (wn : Int) := by omega
                have hq5 : (0 : Int) < (((2 : Nat)) : Int) := by omega
                clear hyb c0 c1 c2 c3
                go_quiet (fail)
                clear d1 d2 d3 y0 y1
                go_wp2_with fail
                go_roundw
                case rel => exact ⟨k + 1, by omega, by go_num, Lib.hid (bdn B9.out)⟩
                case measure => simp [intOf]; omega
              · have HB9 := Lib.hid (HBZ.out.trans (HR9.out.mono HBZ.out.size))
                go_wp2_with fail
                refine (HSN.out _).mono ?_
                rintro e wq ⟨rfl, Bq⟩
                have HB := Lib.hid (HB9.out.trans (Bq.mono HB9.out.size))
                clear Bq
                go_wp2_with fail
                go_ret
                exact ⟨rfl, HB.out⟩
          · rw [if_neg (by rw [decide_eq_false hm1]; decide)] at hit
            have hwv : wv = 3 := by rw [HWV.out, if_pos (by omega)]
            have HITE := Lib.hid hit
            subst hwv
            clear hit HWV
            go_wp2_with fail
            refine HIT.out.mono ?_
            rintro e wz ⟨vz, rfl, OZ, BZ⟩
            rw [HITE.out] at OZ ⊢
            obtain ⟨zA, zc, rfl, -, -⟩ := OZ.args
            have HBZ := Lib.hid (HBW.out.trans (BZ.mono HBW.out.size))
            clear OZ BZ HR HO HBW HIT HITE HLIM
            rw [show ([] : List It).length = 0 from rfl]
            go_wp2_with fail
            go_loopw [137] (fun iv wr => iv = .int .i64 0 ∧ Hid (Below wz.heap.size wz wr)) (fun iv _ => 0)
            case atStart => exact ⟨rfl, Lib.hid (Below.refl _ _)⟩
            case round =>
              obtain ⟨rfl, HR9⟩ := hrel
              have HB9 := Lib.hid (HBZ.out.trans (HR9.out.mono HBZ.out.size))
              go_wp2_with fail
              refine (HSN.out _).mono ?_
              rintro e wq ⟨rfl, Bq⟩
              have HB := Lib.hid (HB9.out.trans (Bq.mono HB9.out.size))
              clear Bq
              go_wp2_with fail
              go_ret
              exact ⟨rfl, HB.out⟩
    · have HKC := Lib.hid (HK3.out.stays' (show Below w3.heap.size w3 wc by have := B34.out; rw [HBB.out] at this; exact this))
      have HMC := Lib.hid (show w.heap.size < wc.heap.size by have := HK3.out.lt; have := B34.out.size; have := HBB.out; omega)
      have HMB := Lib.hid (show w.heap.size < bb by have := HK3.out.lt; have := HBB.out; omega)
      have HBC := Lib.hid (B3.out.trans ((show Below w3.heap.size w3 wc by have := B34.out; rw [HBB.out] at this; exact this).mono B3.out.size))
      go_wp2_with fail
      go_loopw [8, 12] (fun sv iv wr => ∃ (l : List Wag) (j : Nat), iv = .int .i64 (j : Int) ∧ j ≤ 95 + m ∧ Hid (j = l.length) ∧ Hid (ROwn WR 33 wr wc.heap.size sv l) ∧ Hid (Made17 l) ∧ Hid (IsMk wr w.heap.size (69 + 17 * j)) ∧ Hid (Moves w.heap.size wc wr)) (fun _ iv _ => 100 - (intOf iv).toNat)
      case atStart => exact ⟨[], 0, rfl, Nat.zero_le _, Lib.hid rfl, Lib.hid ROwn.nil, Lib.hid Made17.nil, HKC, Lib.hid (Moves.refl _ _)⟩
      case round =>
        clear HKC
        obtain ⟨l, wn, rfl, hj, HWN, HOW, HMD, HK, HMV⟩ := hrel
        obtain ⟨wA, wk, hv, RR⟩ := HOW.out.slice
        subst hv
        rw [← HWN.out] at HOW ⊢
        by_cases hlt : wn < 95 + m
        · have hjl := hlt
          clear RR
          go_wp2_with fail
          refine (mwagon17_any w.heap.size (69 + 17 * wn) (wn : Int) _ HK.out (by omega) (by omega) (by omega)).mono ?_
          rintro e w8 ⟨x, rfl, hx, k8, m8⟩
          have M8 := Lib.hid (HMV.out.trans m8)
          have O8 := Lib.hid (HOW.out.moves m8 HMC.out)
          have K8 := Lib.hid k8
          have HX := Lib.hid hx
          clear k8 m8 HK HMV HOW hx
          go_wp2_with (first | (at_builtin; refine wpList_appW _ rfl (.tmp 109) (.tmp 113) rfl wc.heap.size _ l rfl (O8.out.alloc _) [x] w8 rfl _ rfl 1 1 rfl (by decide) rfl (by have := HWN.out; omega) (le_alloc M8.out.size) ?_; rintro v9 w9 ⟨O9, G9, g9, c9, rfl, _⟩; have HO9 := Lib.hid O9; have M9 := Lib.hid ((M8.out.alloc (.cells (WR.flat [x]).toArray 33)).grown G9 (fun j hj => (O8.out.block hj).1)); have K9 := Lib.hid ((K8.out.alloc (.cells (WR.flat [x]).toArray 33)).grown G9 (fun j hj => by have := (O8.out.block hj).1; have := HMC.out; omega)); clear O9 G9))
          go_roundw
          case rel =>
            have hr : (wn + 1 = (l ++ [x]).length) := by rw [List.length_append, ← HWN.out]; rfl
            have hg : Made17 (l ++ [x]) := HMD.out.snoc (by rw [← HWN.out]; exact HX.out)
            have hk9 : IsMk w9 w.heap.size (69 + 17 * (wn + 1)) := K9.out.more (by omega)
            first
              | exact ⟨_, _, _, _, _, _, _, _, _, ⟨l ++ [x], wn + 1, by go_num, by omega, Lib.hid hr, HO9, Lib.hid hg, Lib.hid hk9, M9⟩, rfl⟩
              | exact ⟨_, _, _, _, _, _, _, _, _, _, ⟨l ++ [x], wn + 1, by go_num, by omega, Lib.hid hr, HO9, Lib.hid hg, Lib.hid hk9, M9⟩, rfl⟩
              | exact ⟨_, _, _, _, _, _, _, _, _, _, _, ⟨l ++ [x], wn + 1, by go_num, by omega, Lib.hid hr, HO9, Lib.hid hg, Lib.hid hk9, M9⟩, rfl⟩
              | exact ⟨_, _, _, _, _, _, _, _, _, _, _, _, ⟨l ++ [x], wn + 1, by go_num, by omega, Lib.hid hr, HO9, Lib.hid hg, Lib.hid hk9, M9⟩, rfl⟩
              | exact ⟨_, _, _, _, _, _, _, _, _, _, _, _, _, ⟨l ++ [x], wn + 1, by go_num, by omega, Lib.hid hr, HO9, Lib.hid hg, Lib.hid hk9, M9⟩, rfl⟩
              | exact ⟨_, _, _, _, _, _, _, _, _, _, _, _, _, _, ⟨l ++ [x], wn + 1, by go_num, by omega, Lib.hid hr, HO9, Lib.hid hg, Lib.hid hk9, M9⟩, rfl⟩
              | exact ⟨_, _, _, _, _, _, _, _, _, _, _, _, _, _, _, ⟨l ++ [x], wn + 1, by go_num, by omega, Lib.hid hr, HO9, Lib.hid hg, Lib.hid hk9, M9⟩, rfl⟩
              | exact ⟨_, _, _, _, _, _, _, _, _, _, _, _, _, _, _, _, ⟨l ++ [x], wn + 1, by go_num, by omega, Lib.hid hr, HO9, Lib.hid hg, Lib.hid hk9, M9⟩, rfl⟩
              | exact ⟨_, _, _, _, _, _, _, _, _, _, _, _, _, _, _, _, _, ⟨l ++ [x], wn + 1, by go_num, by omega, Lib.hid hr, HO9, Lib.hid hg, Lib.hid hk9, M9⟩, rfl⟩
          case measure => simp [intOf]; omega
        · have hwn95 : wn = 95 + m := by omega
          have HR := Lib.hid RR
          have HO1 := Lib.hid (HOO.out.moves HMV.out HMB.out)
          obtain ⟨oA2, oc2, eo, ORX⟩ := HO1.out.slice
          obtain rfl : oA2 = some ⟨ob, 0, none⟩ := by injection eo with e1; exact e1.symm
          obtain ⟨oA, hoA⟩ : ∃ a, a = (some ⟨ob, 0, none⟩ : Option Addr) := ⟨_, rfl⟩
          rw [← hoA] at ORX ⊢
          obtain ⟨oc, hoc⟩ : ∃ z : Nat, z = 1 := ⟨_, rfl⟩
          have HO := Lib.hid ORX
          have HBW := Lib.hid (HMV.out.below HBC.out (Nat.le_refl _) HBC.out.size)
          have HLIM := Lib.hid (show limB [namesL] l.length = decide (m ≤ 1) from by
            unfold limB okBs
            rw [← HWN.out, hwn95, List.all_cons, List.all_nil, Bool.and_true, decide_eq_true (show namesL.length ≤ 32 by decide), decide_eq_true (show [namesL].length ≤ 16 by decide), Bool.true_and, Bool.and_true]
            exact decide_eq_decide.2 (by omega))
          subst hoc
          have hge : ¬ (wn : Int) < 95 + (m : Int) := by omega
          clear ORX eo HO1 hoA HK HMV HOW hlt hwn95
          have HIT := Lib.hid (items_any ([namesL]) l oA wA (1) 1 wn wk (rfl) (by unfold maxLen; omega) HWN.out wr HO.out HR.out)
          have hit := itemsR_made (os := []) HMD.out
          rw [HLIM.out] at hit
          have hwl : wn ≤ 9223372036854775807 := by rw [HWN.out]; exact HR.out.len
          have HHL := Lib.hid hwl
          clear hwl
          by_cases hm1 : m ≤ 1
          · rw [if_pos (decide_eq_true hm1)] at hit
            have hwv : wv = 0 := by rw [HWV.out, if_neg (by omega)]
            have HITE := Lib.hid hit
            subst hwv
            clear hit HWV
            go_wp2_with fail
            refine HIT.out.mono ?_
            rintro e wz ⟨vz, rfl, OZ, BZ⟩
            rw [HITE.out] at OZ ⊢
            obtain ⟨zA, zc, rfl, IZ, -⟩ := OZ.args
            rw [show (List.map itM l).length = wn by rw [List.length_map, HWN.out]]
            have HIZ := Lib.hid IZ
            have HRZ := Lib.hid (HR.out.below BZ)
            have HOZ := Lib.hid (HO.out.below BZ)
            have HBZ := Lib.hid (HBW.out.trans (BZ.mono HBW.out.size))
            have hwl := HHL.out
            clear OZ IZ BZ HR HO HBW HIT HITE HLIM
            go_wp2_with fail
            go_loopw [137] (fun iv wr => ∃ k : Nat, k ≤ wn ∧ iv = .int .i64 (k : Int) ∧ Hid (Below wz.heap.size wz wr)) (fun iv _ => wn - (intOf iv).toNat)
            case atStart => exact ⟨0, Nat.zero_le _, rfl, Lib.hid (Below.refl _ _)⟩
            case round =>
              obtain ⟨k, hk, rfl, HR9⟩ := hrel
              by_cases hlt : k < wn
              · obtain ⟨x, hx⟩ : ∃ x, l[k]? = some x := ⟨_, List.getElem?_eq_getElem (by rw [← HWN.out]; exact hlt)⟩
                obtain ⟨j, hj, hj2, hj3⟩ := name_idx (made_ok HMD.out x (List.mem_of_getElem? hx)).2
                obtain ⟨za, rfl, IC⟩ := (HIZ.out.below HR9.out).at_ k (by rw [List.length_map, ← HWN.out]; exact hlt)
                have D := IC.spelt
                rw [show (l.map itM).getD k it0 = (0, (j : Int), 0, x.len) by rw [List.getD_eq_getElem?_getD, List.getElem?_map, hx]; show (0, idxZ x.dst 0 namesL, 0, x.len) = _; rw [hj2]] at D
                obtain ⟨c0, c1, c2, c3⟩ := D
                simp only at c0 c1 c2 c3
                obtain ⟨oad, oa, occ, rfl, hob, oc0, osr, -⟩ := (HOZ.out.below HR9.out) 0 namesL rfl
                obtain ⟨sad, rfl, hsb, sc0⟩ := osr.cell hj3
                obtain ⟨wad, rfl, CR⟩ := (HRZ.out.below HR9.out).at_ hx
                have c7 := (WSpelt.of CR).c7
                rw [show oad.add 0 = oad by unfold Addr.add; simp, show namesL.length = 10 from rfl] at oc0
                obtain ⟨xl, hxl⟩ : ∃ z, z = x.len := ⟨_, rfl⟩
                obtain ⟨d, hd⟩ : ∃ z, z = x.dst := ⟨_, rfl⟩
                rw [← hxl] at c3
                rw [← hd] at sc0 c7
                have bx := box1W wr (.cells #[.int .i64 0, .int .i64 (j : Int), .int .i64 0, .int .i64 xl] 52)
                have Y := Lib.hid (show AB 52 (wr.alloc (.cells #[.int .i64 0, .int .i64 (j : Int), .int .i64 0, .int .i64 xl] 52)) wr.heap.size [.int .i64 0, .int .i64 (j : Int), .int .i64 0, .int .i64 xl] from AB.new wr [.int .i64 0, .int .i64 (j : Int), .int .i64 0, .int .i64 xl] 52 wr.heap.size rfl)
                have D1 := Lib.hid ((bx.cell (p := oad) hob).trans oc0)
                have D2 := Lib.hid ((bx.cell (p := sad.add j) (by rw [add_block]; exact hsb)).trans sc0)
                have D3 := Lib.hid ((bx.cell (p := ⟨(wad.add (k * 8)).block, (wad.add (k * 8)).off + 7, none⟩) (by have := CR.lt; show (wad.add (k * 8)).block < _; rw [add_block]; exact this)).trans c7)
                have B9 := Lib.hid (HR9.out.trans (bx.mono HR9.out.size))
                clear IC CR hj2 hj3 hxl hd hx oc0 sc0 c7 hob hsb osr bx
                go_upto_region 34 with fail
                obtain ⟨yb, hyb⟩ : ∃ y, y = wr.heap.size := ⟨_, rfl⟩
                rw [← hyb] at Y ⊢
                generalize wr.alloc (.cells #[.int .i64 0, .int .i64 (j : Int), .int .i64 0, .int .i64 xl] 52) = w9 at *
                have d1 := D1.out
                have d2 := D2.out
                have d3 := D3.out
                have y0 := Y.out.cell 0 (u := .int .i64 0) rfl
                have y1 := Y.out.cell 1 (u := .int .i64 (j : Int)) rfl
                have hq1 : decide ((j : Int) < 0) = false := decide_eq_false (by omega)
                have hq2 : decide ((9 : Int) < (j : Int)) = false := decide_eq_false (by omega)
                have hq3 : (j : Int) < 10 := by omega
                have hq4 : (k : Int) < (wn : Int) := by omega
                have hq5 : (0 : Int) < (((1 : Nat)) : Int) := by omega
                clear hyb c0 c1 c2 c3
                go_quiet (fail)
                clear d1 d2 d3 y0 y1
                go_wp2_with fail
                go_roundw
                case rel => exact ⟨k + 1, by omega, by go_num, Lib.hid (bdn B9.out)⟩
                case measure => simp [intOf]; omega
              · have HB9 := Lib.hid (HBZ.out.trans (HR9.out.mono HBZ.out.size))
                go_wp2_with fail
                refine (HSN.out _).mono ?_
                rintro e wq ⟨rfl, Bq⟩
                have HB := Lib.hid (HB9.out.trans (Bq.mono HB9.out.size))
                clear Bq
                go_wp2_with fail
                go_ret
                exact ⟨rfl, HB.out⟩
          · rw [if_neg (by rw [decide_eq_false hm1]; decide)] at hit
            have hwv : wv = 3 := by rw [HWV.out, if_pos (by omega)]
            have HITE := Lib.hid hit
            subst hwv
            clear hit HWV
            go_wp2_with fail
            refine HIT.out.mono ?_
            rintro e wz ⟨vz, rfl, OZ, BZ⟩
            rw [HITE.out] at OZ ⊢
            obtain ⟨zA, zc, rfl, -, -⟩ := OZ.args
            have HBZ := Lib.hid (HBW.out.trans (BZ.mono HBW.out.size))
            clear OZ BZ HR HO HBW HIT HITE HLIM
            rw [show ([] : List It).length = 0 from rfl]
            go_wp2_with fail
            go_loopw [137] (fun iv wr => iv = .int .i64 0 ∧ Hid (Below wz.heap.size wz wr)) (fun iv _ => 0)
            case atStart => exact ⟨rfl, Lib.hid (Below.refl _ _)⟩
            case round =>
              obtain ⟨rfl, HR9⟩ := hrel
              have HB9 := Lib.hid (HBZ.out.trans (HR9.out.mono HBZ.out.size))
              go_wp2_with fail
              refine (HSN.out _).mono ?_
              rintro e wq ⟨rfl, Bq⟩
              have HB := Lib.hid (HB9.out.trans (Bq.mono HB9.out.size))
              clear Bq
              go_wp2_with fail
              go_ret
              exact ⟨rfl, HB.out⟩
    · go_wp2_with fail
      go_loopw [13] (fun tv wr => ∃ (tA : Option Addr) (tc j : Nat), tv = .slice tA j tc ∧ j ≤ 31 + m ∧ Hid (Own .i64 3 wr wc.heap.size tv (List.replicate j 500)) ∧ Hid (Below wc.heap.size wc wr)) (fun tv _ => 40 - lnV tv)
      case atStart => exact ⟨none, 0, 0, rfl, Nat.zero_le _, Lib.hid Own.nil, Lib.hid (Below.refl _ _)⟩
      case round =>
        obtain ⟨tA, tc, j, rfl, hj, HS1, HB1⟩ := hrel
        by_cases hlt : j < 31 + m
        · have hjl := hlt
          go_wp2_with (first | (at_builtin; refine wpList_appI _ rfl (.tmp 43) (.tmp 44) rfl wc.heap.size _ (List.replicate j 500) rfl (HS1.out.alloc _) 500 wr rfl _ rfl 1 rfl (by rw [List.length_replicate]; omega) (le_allocG HB1.out.size) ?_; intro v' w' AP; have HS2 := Lib.hid AP.1; have HB2 := Lib.hid ((HB1.out.alloc HB1.out.size (.cells #[.int .i64 500] 3)).grown AP.2.1 (le_allocG HB1.out.size) (fun g hg => (own_block HS1.out hg).1)); clear AP))
          have hlen : (List.replicate j (500 : Int) ++ [500]).length = j + 1 := by simp
          have hcat : List.replicate j (500 : Int) ++ [500] = List.replicate (j + 1) 500 := by rw [← List.replicate_succ']
          have HS3 := Lib.hid HS2.out
          obtain ⟨tA', tc', rfl, -, -, -, -⟩ := HS2.out.slice
          rw [hlen, hcat] at HS3
          rw [hlen]
          clear hlen hcat HS2 HS1 HB1
          go_roundw
          case rel => (first | exact ⟨tA', tc', j + 1, rfl, by omega, HS3, HB2⟩ | (refine ⟨_, _, _, _, _, _, _, _, _, _, ⟨tA', tc', j + 1, rfl, by omega, HS3, HB2⟩, rfl⟩) | (refine ⟨_, _, _, _, _, _, _, _, _, ⟨tA', tc', j + 1, rfl, by omega, HS3, HB2⟩, rfl⟩))
          case measure => simp [lnV]; omega
        · obtain rfl : j = 31 + m := by omega
          have hbc : w3.heap.size ≤ wc.heap.size := by have := B34.out.size; exact this
          have HBW := Lib.hid (B3.out.trans (((show Below w3.heap.size w3 wc by have := B34.out; rw [HBB.out] at this; exact this).trans (HB1.out.mono hbc)).mono B3.out.size))
          clear HB1 hbc
          obtain ⟨tn, htn⟩ : ∃ n, n = 31 + m := ⟨_, rfl⟩
          have HTN := Lib.hid htn
          have hrd := own_read HS1.out
          rw [← htn]
          have HTR := Lib.hid hrd.2.1
          have HI4 := Lib.hid (litems_any [1, 3, 0, 2] (some ⟨wr.heap.size, 0, none⟩) 4 4 rfl (by decide) (wr.alloc (.cells #[.int .i64 1, .int .i64 3, .int .i64 0, .int .i64 2] 3)) (row_new (k := .i64) (W := wr) (T := 3) [1, 3, 0, 2]))
          have Bx := Lib.hid (box1W wr (.cells #[.int .i64 1, .int .i64 3, .int .i64 0, .int .i64 2] 3))
          have hge : ¬ (tn : Int) < 31 + (m : Int) := by omega
          clear hrd HS1 hlt htn hj
          go_wp2_with fail
          refine HI4.out.mono ?_
          rintro e w8 ⟨v8, rfl, O8, B8⟩
          obtain ⟨A4, c4, rfl, R8, hA4⟩ := O8.args
          have B18 := Lib.hid (Bx.out.trans (B8.mono Bx.out.size))
          have HPC := Lib.hid (pplan_any its4 A4 c4 4 (List.replicate (31 + m) 500) tA tn tc rfl hA4 (by rw [List.length_replicate]; exact HTN.out) (by rw [List.length_replicate]; unfold maxLen; omega) w8 R8 (HTR.out.below B18.out))
          clear O8 B8 hA4 HI4 Bx
          have HR8 := Lib.hid R8
          clear R8
          go_wp2_with fail
          refine HPC.out.mono ?_
          rintro e w9 ⟨res, rf, er, sh, vr, rfl, hp, hsh, OR, B9⟩
          rcases hp with ⟨h0, _⟩ | ⟨_, q4, hq4, hpr⟩
          · exact absurd sane4E h0
          · obtain ⟨hrf, her⟩ := plan4N hm2 hq4 hpr
            subst hrf
            obtain ⟨rA, rc, rfl, -, -, -, -⟩ := OR.slice
            have HSH := Lib.hid hsh
            have HPR := Lib.hid hpr
            have HQ4 := Lib.hid hq4
            have HER := Lib.hid her
            have B29 := Lib.hid (B18.out.trans (B9.mono B18.out.size))
            have HIR9 := Lib.hid (HR8.out.below B9)
            clear hsh hpr hq4 her OR B9 HPC B18 HR8
            obtain ⟨jA, jn, jc, wt, st, vA, vn, vc, uA, un, uc, kA, kn, kc⟩ := sh
            rw [show ([] : List Int).length = 0 from rfl]
            have BS := box1W w9 (.cells #[.slice jA jn jc, .int .i64 wt, .int .i64 st, .slice vA vn vc, .slice uA un uc, .slice kA kn kc] 43)
            have Y5 := Lib.hid (show AB 43 (w9.alloc (.cells #[.slice jA jn jc, .int .i64 wt, .int .i64 st, .slice vA vn vc, .slice uA un uc, .slice kA kn kc] 43)) w9.heap.size [.slice jA jn jc, .int .i64 wt, .int .i64 st, .slice vA vn vc, .slice uA un uc, .slice kA kn kc] from AB.new w9 [.slice jA jn jc, .int .i64 wt, .int .i64 st, .slice vA vn vc, .slice uA un uc, .slice kA kn kc] 43 w9.heap.size rfl)
            have HB4 := Lib.hid BS
            have B2a := Lib.hid (B29.out.trans (BS.mono B29.out.size))
            clear BS
            go_upto_region 13 with fail
            change Hid (Below w9.heap.size w9 (w9.alloc (.cells #[.slice jA jn jc, .int .i64 wt, .int .i64 st, .slice vA vn vc, .slice uA un uc, .slice kA kn kc] 43))) at HB4
            obtain ⟨y, hy⟩ : ∃ y, y = w9.heap.size := ⟨_, rfl⟩
            rw [← hy] at Y5 ⊢
            generalize w9.alloc (.cells #[.slice jA jn jc, .int .i64 wt, .int .i64 st, .slice vA vn vc, .slice uA un uc, .slice kA kn kc] 43) = wa at *
            clear hy
            by_cases h1 : 1 < m
            · have he3 : er = 3 := by rw [HER.out, if_pos h1]
              have hw3 : wv = 3 := by rw [HWV.out, if_pos h1]
              subst he3
              subst hw3
              clear HER HWV HSH HPR h1
              go_wp2_with fail
              refine (HSN.out _).mono ?_
              rintro e wb ⟨rfl, Bb⟩
              have HB := Lib.hid (HBW.out.trans ((B2a.out.trans (Bb.mono B2a.out.size)).mono HBW.out.size))
              clear Bb
              go_wp2_with fail
              go_ret
              exact ⟨rfl, HB.out⟩
            · have he3 : er = 0 := by rw [HER.out, if_neg h1]
              have hw3 : wv = 0 := by rw [HWV.out, if_neg h1]
              have htk : trkE (List.replicate (31 + m) 500) = 0 := by rw [trkN m hm2, if_neg h1]
              subst he3
              subst hw3
              clear HER HWV h1
              rcases plan_cases HQ4.out htk HPR.out with ⟨i, s, tk, hi, hn, hsc, rfl, -, -, -, hf, -⟩ | ⟨g0, _⟩
              · have HS := Lib.hid (show ShSome its4 w9 w8.heap.size ⟨jA, jn, jc, wt, st, vA, vn, vc, uA, un, uc, kA, kn, kc⟩ s tk from HSH.out)
                obtain ⟨e1, e2, e3, r1, r2, r3, r4⟩ := HS.out
                simp only at e1 e2 e3 r1 r2 r3 r4
                have q2 := own_read (r2.below HB4.out)
                have q3 := own_read (r3.below HB4.out)
                have q4 := own_read (r4.below HB4.out)
                have HCK := Lib.hid (pcheck_any its4 s.v s.ch (List.replicate (31 + m) 500) tk ⟨jA, jn, jc, wt, st, vA, vn, vc, uA, un, uc, kA, kn, kc⟩ tA tn tc e3 q2.1 q3.1 q4.1 (by rw [List.length_replicate]; exact HTN.out) q2.2.2 q3.2.2 q4.2.2 (by rw [List.length_replicate]; unfold maxLen; omega) wa (r1.below HB4.out) q2.2.1 q3.2.1 q4.2.1 (HTR.out.below B2a.out))
                simp only at HCK
                have hck : ckE its4 wt st s.v s.ch (List.replicate (31 + m) 500) tk = 0 := by rw [e1, e2]; exact ck_ok hsc hf
                rw [hck] at HCK
                clear hck e1 e2 e3 r1 r2 r3 r4 q2 q3 q4 hi hn hsc hf HS htk HSH HPR HQ4
                have y0 := Y5.out.cell 0 (u := .slice jA jn jc) rfl
                have y1 := Y5.out.cell 1 (u := .int .i64 wt) rfl
                have y2 := Y5.out.cell 2 (u := .int .i64 st) rfl
                have y3 := Y5.out.cell 3 (u := .slice vA vn vc) rfl
                have y4 := Y5.out.cell 4 (u := .slice uA un uc) rfl
                have y5 := Y5.out.cell 5 (u := .slice kA kn kc) rfl
                go_wp2_with fail
                refine HCK.out.mono ?_
                rintro e wb ⟨rfl, Bb⟩
                have B2b := Lib.hid (B2a.out.trans (Bb.mono B2a.out.size))
                clear y0 y1 y2 y3 y4 y5 Bb
                go_wp2_with fail
                refine (HSN.out _).mono ?_
                rintro e wd ⟨rfl, Bd⟩
                have HB := Lib.hid (HBW.out.trans ((B2b.out.trans (Bd.mono B2b.out.size)).mono HBW.out.size))
                clear Bd
                go_wp2_with fail
                go_ret
                exact ⟨rfl, HB.out⟩
              · cases g0
theorem plim_law (a : Option Addr) (len cap : Nat) (zs : List Int) (n kd : Int) (w : World) (h : IsRow .i64 w a len cap zs) (hn1 : -9223372036854775808 ≤ n) (hn2 : n ≤ 9223372036854775807) (hb1 : -9223372036854775808 ≤ kd) (hb2 : kd ≤ 9223372036854775807) : Calls Tryz.prog 3 #[.slice a len cap, .int .i64 n, .int .i64 kd] w fun e w' => e = .returned (.bool true) ∧ Below w.heap.size w w' := by
  obtain ⟨l, rfl, hr, hm, hw⟩ := h.row
  exact plim_walk a cap l n kd w hr hm hw hn1 hn2 hb1 hb2
end Go.Proofs.YtimkmieohkefiaaGreat
