/-
  Stage 6: the reference's Encode.
-/
import Derived.Test.YtjgeolfjhfdbmaaCEnc
import Derived.Test.YtjgeolfjhfdbmaaCRlist
import Derived.Test.YtjgeolfjhfdbmaaCSane
set_option linter.unusedSimpArgs false
set_option linter.unusedVariables false
namespace Go.Proofs.Ytjgeolfjhfdbmaa
open Go.RowKit

theorem nine (x : Wag) (zs : List Int) (g : Int) (hg : gdsB x = g) : zs ++ dgs2 x.num 6 ++ [x.len / 256, x.len % 256, x.axl, x.mas / 256, x.mas % 256, x.brk / 256, x.brk % 256, g, (x.dst.size : Int)] ++ nums x.dst = zs ++ bytesW x := by
  subst hg
  unfold bytesW pair
  simp only [List.append_assoc]
  rfl
set_option maxRecDepth 100000 in
set_option maxHeartbeats 6400000 in
theorem renc_any (l : List Wag) (A : Option Addr) (c : Nat) (w : World) (h : RRow WR w A l) (hz : Sz l) :
    Calls Try.prog 8 #[.slice A l.length c] w (EncPost l w) := by
  have hl : l.length ≤ 9223372036854775807 := h.len
  have H := Lib.hid h
  have HSZ := Lib.hid hz
  clear h hz
  go_enter Try.func8, Try.ntmps8
  go_wp2_with fail
  refine (rlist_any l A c w H.out HSZ.out).mono ?_
  rintro e w1 ⟨rfl, B1⟩
  obtain ⟨e, he⟩ : ∃ e, e = validL l := ⟨_, rfl⟩
  have HE := Lib.hid he
  have HB1 := Lib.hid B1
  rw [← he]
  clear he B1
  by_cases h0 : e ≠ 0
  · have ev : (e != 0) = true := bne_iff_ne.2 h0
    have HR := Lib.hid (encR_bad HE.out.symm h0)
    clear h0
    go_wp2_with fail
    go_ret2
    exact EncPost.mk' HR.out Own.nil HB1.out
  · obtain rfl := Decidable.of_not_not h0
    have HV := Lib.hid (validL_zero.1 HE.out.symm)
    have HBD := Lib.hid (encB_bd HE.out.symm)
    obtain ⟨L, hL⟩ : ∃ n, n = l.length := ⟨_, rfl⟩
    have HL := Lib.hid hL
    have hl96 : L ≤ 96 := by rw [hL]; exact HV.out.1
    rw [← hL] at hl ⊢
    have hw8 : IntKind.u8.wrap (L : Int) = (L : Int) := IntWalk.u8_in _ (by omega)
    have HO1 := Lib.hid (Own.built (k := .u8) (e := 5) w1 [(L : Int)] w.heap.size 1 rfl HB1.out.size (by simp))
    clear hL h0
    go_wp2_with fail
    go_loopw [5, 6] (fun u i wr => ∃ k : Nat, k ≤ L ∧ i = .int .i64 k ∧ Hid (Own .u8 5 wr w.heap.size u ((L : Int) :: bytesL (l.take k))) ∧ Hid (Below w.heap.size w wr)) (fun _ i _ => L - (intOf i).toNat)
    case atStart => exact ⟨0, by omega, rfl, HO1, Lib.hid (HB1.out.alloc HB1.out.size _)⟩
    case round =>
      clear HO1 HB1
      obtain ⟨k, hk, rfl, O, B⟩ := hrel
      by_cases hlt : k < L
      · generalize u5 = vo at *
        generalize wr = wo at *
        obtain ⟨x, hx, hd, ht⟩ := drop_ex (l := l) (k := k) (by rw [← HL.out]; exact hlt)
        obtain ⟨ad, rfl, C⟩ := (H.out.below B.out).at_ hx
        obtain ⟨c0, c1, c2, c3, c4, c5, c6, c7⟩ := WSpelt.of C
        have hxv := HV.out.2.1 x (List.mem_of_getElem? hx)
        have HT := Lib.hid (show bytesL (l.take (k + 1)) = bytesL (l.take k) ++ bytesW x by rw [ht, bytesL_snoc])
        obtain ⟨zs, hzs⟩ : ∃ zs, zs = (L : Int) :: bytesL (l.take k) := ⟨_, rfl⟩
        have HZS := Lib.hid hzs
        have HLN := Lib.hid (show zs.length ≤ 3000 by
          have := (bytesL_bd (l := l.take k) fun y hy => HV.out.2.1 y (List.mem_of_mem_take hy)).2
          rw [List.length_take] at this
          rw [hzs, List.length_cons]; omega)
        rw [← hzs] at O
        obtain ⟨p0, p1, ⟨r1, r2, r3, r4, r5, r6, r7, r8⟩, p3⟩ := validW_parts hxv
        obtain ⟨⟨m1, m1'⟩, ⟨m2, m2'⟩, ⟨m3, m3'⟩, ⟨m4, m4'⟩, ⟨m5, m5'⟩⟩ := wag_more hxv
        have hdl := (dst_le hxv).2
        obtain ⟨hs12, hdig, _⟩ := validR_size p0
        have HD := Lib.hid hdig
        have HN12 := Lib.hid hs12
        have S0 := Lib.hid (show AS w.heap.size vo (boxW wo x) wo.heap.size x zs (boxW wo x) vo from ⟨O.out.alloc _, App.refl _ _, newW wo x 30 wo.heap.size rfl, fun e => by have := (own_block O.out e).2; omega, by rw [World.size_alloc]; omega⟩)
        have HB1 := Lib.hid (show w.heap.size ≤ (boxW wo x).heap.size from le_alloc B.out.size)
        clear hx hd ht C hzs hdig p0 p1 p3 r1 r2 r3 r4 r5 r6 r7 r8 hxv
        go_wp2_with fail
        clear c0 c1 c2 c3 c4 c5 c6 c7
        go_loopw [5, 8] (fun u i wx => ∃ k : Nat, k ≤ 6 ∧ i = .int .i64 ((2 * k : Nat) : Int) ∧ Hid (AS w.heap.size vo (boxW wo x) wo.heap.size x (zs ++ dgs2 x.num k) wx u)) (fun _ i _ => 12 - (intOf i).toNat)
        case atStart => exact ⟨0, by omega, rfl, Lib.hid (by show AS _ _ _ _ _ (zs ++ []) _ _; rw [List.append_nil]; exact S0.out)⟩
        case round =>
          clear S0
          obtain ⟨j, hj, rfl, S⟩ := hrel
          have HBW := Lib.hid (S.out.size HB1.out)
          obtain ⟨c0, c1, c2, c3, c4, c5, c6, c7, lt⟩ := WBlk.of S.out.blk
          by_cases hlj : j < 6
          · have hk1 : 2 * j < x.num.size := by omega
            have hk2 : 2 * j + 1 < x.num.size := by omega
            obtain ⟨d1, d2⟩ := dig_all HD.out (2 * j) hk1
            obtain ⟨e1, e2⟩ := dig_all HD.out (2 * j + 1) hk2
            have HS := Lib.hid (show dgB x.num j = ((x.num[2 * j].toNat : Int) - 48) * 16 + ((x.num[2 * j + 1].toNat : Int) - 48) by unfold dgB; rw [nums_getD _ _ hk1, nums_getD _ _ hk2])
            have q1 : (0 : Int) ≤ 2 * (j : Int) := by omega
            have q2 : (2 * (j : Int)).toNat = 2 * j := by omega
            have q3 : IntKind.i64.wrap (2 * (j : Int) + 1) = 2 * (j : Int) + 1 := IntWalk.i64_in _ (by omega)
            have q4 : (0 : Int) ≤ 2 * (j : Int) + 1 := by omega
            have q5 : 2 * (j : Int) + 1 < 12 := by omega
            have q6 : (2 * (j : Int) + 1).toNat = 2 * j + 1 := by omega
            have HL1 := Lib.hid (show (zs ++ dgs2 x.num j).length ≤ 100010 by rw [List.length_append, dgs2_len]; have := HLN.out; omega)
            go_upto_region 12 with fail
            have q11 : IntKind.u8.wrap (IntKind.u8.wrap (IntKind.u8.wrap (IntKind.u8.wrap ((x.num[2 * j].toNat : Int) - 48) * 16) + (x.num[2 * j + 1].toNat : Int)) - 48) = dgB x.num j := by
              rw [HS.out, IntWalk.u8_in ((x.num[2 * j].toNat : Int) - 48) (by omega), IntWalk.u8_in (((x.num[2 * j].toNat : Int) - 48) * 16) (by omega), IntWalk.u8_in (((x.num[2 * j].toNat : Int) - 48) * 16 + (x.num[2 * j + 1].toNat : Int)) (by omega), IntWalk.u8_in _ (by omega)]
              omega
            go_region_law (refine step_app8 _ rfl (.tmp 34) (.tmp 48) rfl w.heap.size _ (zs ++ dgs2 x.num j) rfl (S.out.own.alloc _) [dgB x.num j] wr.drew rfl 1 1 rfl (by decide) rfl (by have := HL1.out; omega) (le_alloc (w := wr) HBW.out) ?_; intro v1 w1 O1 A1)
            all_goals
              go_wp2_with fail
              go_roundw
              case rel =>
                refine ⟨j + 1, by omega, by go_num, Lib.hid (((S.out.drewN 1).alloc _).step A1 ?_)⟩
                show Own _ _ _ _ _ (zs ++ (dgs2 x.num j ++ [dgB x.num j]))
                rw [← List.append_assoc]; exact O1
              case measure => simp [intOf]; omega
          · obtain rfl : j = 6 := by omega
            have HLZ := Lib.hid (show (zs ++ dgs2 x.num 6).length ≤ 100010 by rw [List.length_append, dgs2_len]; have := HLN.out; omega)
            have HGB := Lib.hid (show gdsB x = if x.gen then x.gds + 16 else x.gds from rfl)
            clear hlj hj hs12
            cases hgen : x.gen with
            | true =>
              have HG := Lib.hid (nine x zs (x.gds + 16) (by rw [HGB.out, hgen]; rfl))
              rw [hgen] at c6
              clear hgen
              have wg : IntKind.u8.wrap (x.gds + 16) = x.gds + 16 := IntWalk.u8_in _ (by omega)
              go_wp2_with (first | (at_builtin; refine wpList_app8 _ rfl (.tmp 57) (.tmp 90) rfl w.heap.size _ (zs ++ dgs2 x.num 6) rfl (S.out.own.alloc _) [x.len / 256, x.len % 256, x.axl, x.mas / 256, x.mas % 256, x.brk / 256, x.brk % 256, x.gds + 16, (x.dst.size : Int)] wr rfl 9 9 rfl (by decide) rfl (by have := HLZ.out; omega) (le_alloc HBW.out) ?_; intro v5 w5 O5 A5; have S5 := Lib.hid ((S.out.alloc (.cells #[.int .u8 (x.len / 256), .int .u8 (x.len % 256), .int .u8 x.axl, .int .u8 (x.mas / 256), .int .u8 (x.mas % 256), .int .u8 (x.brk / 256), .int .u8 (x.brk % 256), .int .u8 (x.gds + 16), .int .u8 (x.dst.size : Int)] 5)).step A5 O5); obtain ⟨d0, d1, d2, d3, d4, d5, d6, d7, _⟩ := WBlk.of S5.out.blk; clear c0 c1 c2 c3 c4 c5 c6 c7) | (at_builtin; refine wpList_appS _ rfl (.tmp 92) (.tmp 94) rfl w.heap.size _ (zs ++ dgs2 x.num 6 ++ [x.len / 256, x.len % 256, x.axl, x.mas / 256, x.mas % 256, x.brk / 256, x.brk % 256, x.gds + 16, (x.dst.size : Int)]) rfl S5.out.own x.dst rfl (by rw [List.length_append]; have := HLZ.out; show (zs ++ dgs2 x.num 6).length + 9 + _ ≤ _; omega) (S5.out.size HB1.out) ?_; intro v6 w6 O6 B6))
              go_roundw
              case rel =>
                refine ⟨k + 1, by omega, by go_num, Lib.hid ?_, Lib.hid ?_⟩
                · rw [HT.out, ← List.cons_append, ← HZS.out, ← HG.out]; exact O6
                · exact ((B.out.alloc B.out.size _).trans (S5.out.app.below (fun b hb => (own_block O.out hb).1) HB1.out)).trans B6
              case measure => simp [intOf]; omega
            | false =>
              have HG := Lib.hid (nine x zs (x.gds) (by rw [HGB.out, hgen]; rfl))
              rw [hgen] at c6
              clear hgen
              go_wp2_with (first | (at_builtin; refine wpList_app8 _ rfl (.tmp 57) (.tmp 90) rfl w.heap.size _ (zs ++ dgs2 x.num 6) rfl (S.out.own.alloc _) [x.len / 256, x.len % 256, x.axl, x.mas / 256, x.mas % 256, x.brk / 256, x.brk % 256, x.gds, (x.dst.size : Int)] wr rfl 9 9 rfl (by decide) rfl (by have := HLZ.out; omega) (le_alloc HBW.out) ?_; intro v5 w5 O5 A5; have S5 := Lib.hid ((S.out.alloc (.cells #[.int .u8 (x.len / 256), .int .u8 (x.len % 256), .int .u8 x.axl, .int .u8 (x.mas / 256), .int .u8 (x.mas % 256), .int .u8 (x.brk / 256), .int .u8 (x.brk % 256), .int .u8 x.gds, .int .u8 (x.dst.size : Int)] 5)).step A5 O5); obtain ⟨d0, d1, d2, d3, d4, d5, d6, d7, _⟩ := WBlk.of S5.out.blk; clear c0 c1 c2 c3 c4 c5 c6 c7) | (at_builtin; refine wpList_appS _ rfl (.tmp 92) (.tmp 94) rfl w.heap.size _ (zs ++ dgs2 x.num 6 ++ [x.len / 256, x.len % 256, x.axl, x.mas / 256, x.mas % 256, x.brk / 256, x.brk % 256, x.gds, (x.dst.size : Int)]) rfl S5.out.own x.dst rfl (by rw [List.length_append]; have := HLZ.out; show (zs ++ dgs2 x.num 6).length + 9 + _ ≤ _; omega) (S5.out.size HB1.out) ?_; intro v6 w6 O6 B6))
              go_roundw
              case rel =>
                refine ⟨k + 1, by omega, by go_num, Lib.hid ?_, Lib.hid ?_⟩
                · rw [HT.out, ← List.cons_append, ← HZS.out, ← HG.out]; exact O6
                · exact ((B.out.alloc B.out.size _).trans (S5.out.app.below (fun b hb => (own_block O.out hb).1) HB1.out)).trans B6
              case measure => simp [intOf]; omega
      · obtain rfl : k = L := by omega
        have ho := O.out
        rw [HL.out, List.take_length] at ho
        obtain ⟨A', c', e', R, _⟩ := Own.brow (bs := encB l) ho HBD.out.1 (by have := HBD.out.2; omega)
        have HO := Lib.hid (show Own .u8 5 wr w.heap.size u5 (encB l) from ho)
        subst e'
        have HR := Lib.hid R
        clear hlt hk ho R O
        have hc := chk_bd' (encB l)
        obtain ⟨z, hz⟩ : ∃ z, z = chk (encB l) := ⟨_, rfl⟩
        have HZ := Lib.hid hz
        rw [← hz] at hc
        obtain ⟨z0, z1⟩ := hc
        have HLE := Lib.hid HBD.out.2
        go_wp2_with fail
        refine (rchk_any (encB l) A' c' wr HR.out).mono ?_
        rintro e w' ⟨rfl, rfl⟩
        rw [← hz]
        clear hz
        go_wp2_with (first | (at_builtin; refine wpList_app8 _ rfl (.tmp 98) (.tmp 105) rfl w.heap.size _ (encB l) rfl (HO.out.alloc _) [z / 256, z % 256] wr rfl 2 2 rfl (by decide) rfl (by have := HLE.out; omega) (le_alloc B.out.size) ?_; intro v5 w5 O5 A5))
        have HF := Lib.hid (encR_ok HE.out.symm)
        have HB5 := Lib.hid ((B.out.alloc B.out.size _).trans (A5.below (fun b hb => (own_block HO.out hb).1) (le_alloc B.out.size)))
        go_ret2
        exact EncPost.mk' HF.out (by unfold enc pair; rw [← HZ.out]; exact O5) HB5.out
end Go.Proofs.Ytjgeolfjhfdbmaa
