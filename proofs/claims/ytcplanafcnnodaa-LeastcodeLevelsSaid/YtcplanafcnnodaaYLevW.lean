/-
  Stage 13: the walk of LeastcodeLevels.
-/
import Derived.Test.YtcplanafcnnodaaYLimP
import Derived.Test.YtcplanafcnnodaaJLev
set_option linter.unusedSimpArgs false
set_option linter.unusedVariables false
namespace Go.Proofs.Ytcplanafcnnodaa
open Go.RowKit Go.Lib

/-- An item of round 0; the items of which the first k are of round 0. -/
def zI (p : It) : It := (p.1, p.2.1, 0, p.2.2.2)
def zrK (l : List It) (k : Nat) : List It := (l.take k).map zI ++ l.drop k
theorem zrK_zero (l : List It) : zrK l 0 = l := by unfold zrK; simp
theorem zrK_all (l : List It) : zrK l l.length = l.map zI := by unfold zrK; simp
theorem zrK_len (l : List It) (k : Nat) : (zrK l k).length = l.length := by
  unfold zrK; rw [List.length_append, List.length_map, List.length_take, List.length_drop]; omega
theorem zrK_at (l : List It) {k : Nat} (hk : k < l.length) : (zrK l k).getD k it0 = l.getD k it0 := by
  unfold zrK
  have e : ((l.take k).map zI).length = k := by rw [List.length_map, List.length_take]; omega
  rw [List.getD_eq_getElem?_getD, List.getElem?_append_right (by omega), e, Nat.sub_self, List.getElem?_drop, Nat.add_zero, ← List.getD_eq_getElem?_getD]
theorem zrK_succ (l : List It) {k : Nat} (hk : k < l.length) : (zrK l k).set k (zI (l.getD k it0)) = zrK l (k + 1) := by
  unfold zrK
  have e : ((l.take k).map zI).length = k := by rw [List.length_map, List.length_take]; omega
  rw [List.set_append_right _ _ (by omega), e, Nat.sub_self, drop_at hk, List.set_cons_zero, List.take_succ_eq_append_getElem hk, List.map_append, List.append_assoc, List.getD_eq_getElem?_getD, List.getElem?_eq_getElem hk]
  rfl
theorem flatI_setR (l : List It) : ∀ (k : Nat), k < l.length → (flatI l).set (k * 4 + 2) 0 = flatI (l.set k (zI (l.getD k it0))) := by
  induction l with
  | nil => intro k hk; cases hk
  | cons p l ih =>
    intro k hk
    cases k with
    | zero => rfl
    | succ k =>
      have := ih k (by simp at hk; omega)
      rw [show (k + 1) * 4 + 2 = (k * 4 + 2) + 1 + 1 + 1 + 1 by omega]
      show p.1 :: p.2.1 :: p.2.2.1 :: p.2.2.2 :: (flatI l).set (k * 4 + 2) 0 = _
      rw [this]; rfl
theorem z_valid {l : List It} {wt : Int} (h : validR l wt = 0) : validR (l.map zI) wt = 0 := by
  obtain ⟨h1, h2, _⟩ := valid_ok h
  have hw := (formOk_of h).wb
  unfold validR
  rw [List.length_map, if_neg (by omega), if_pos (btw_iff.2 hw)]
  refine vw_zero (fun p hp => ?_)
  obtain ⟨q, hq, rfl⟩ := List.mem_map.1 hp
  obtain ⟨⟨a1, a2⟩, ⟨b1, b2⟩, ⟨c1, c2⟩, ⟨d1, d2⟩⟩ := h2 q hq
  exact ⟨⟨⟨a1, a2⟩, ⟨b1, b2⟩, ⟨by show (0 : Int) ≤ 0; omega, by show (0 : Int) ≤ 12; omega⟩, ⟨d1, d2⟩⟩, rfl⟩
theorem z_rnd {l : List It} (y : Nat) (hy : y < (l.map zI).length) : rnd (l.map zI) y = 0 := by
  rw [List.length_map] at hy
  unfold rnd
  simp [List.getD_eq_getElem?_getD, hy, zI]
/-- What holds while the rounds are cleared. -/
structure ZSt (w wr : World) (b : Nat) (A : Option Addr) (c : Nat) (l : List It) (wt : Int) : Prop where
  box : JBox wr b A l.length c wt
  own : IOwn 26 wr (w.heap.size + 1) (.slice A l.length c) l
  lo : ∀ g, (Value.slice A l.length c).ownBlock = some g → g < b
  bel : Below w.heap.size w wr
  lt : w.heap.size < b
theorem ZSt.below {w wr w' : World} {b c : Nat} {A : Option Addr} {l : List It} {wt : Int} (h : ZSt w wr b A c l wt) (k : Below wr.heap.size wr w') : ZSt w w' b A c l wt :=
  ⟨h.box.below k h.box.lt, h.own.below k, h.lo, h.bel.trans (k.mono h.bel.size), h.lt⟩
set_option maxRecDepth 100000 in
set_option maxHeartbeats 3200000 in
theorem lev_walk (A : Option Addr) (c : Nat) (zs : List Int) (w : World) (hr : Row .i64 w w.heap.size A zs) (hm : zs.length ≤ maxLen) (hw : ∀ n ∈ zs, (Lit.int .i64 n).wf = true) :
    Calls Try.prog 10 #[.slice A zs.length c] w fun e w' => e = .returned (.bool true) ∧ Below w.heap.size w w' := by
  have K := Lib.hid (mk_row (c := c) (T := 65) hr hm hw)
  have B := Lib.hid ((Below.refl w.heap.size w).alloc (Nat.le_refl _) (.cells #[.slice A zs.length c, .int .i64 0] 65))
  clear hr hw
  go_enter Try.func10, Try.ntmps10
  go_wp2_with fail
  refine (new_any A zs.length c w).mono ?_
  rintro e w1 ⟨rfl, hw1⟩
  rw [← hw1] at K B
  clear hw1 hm
  go_wp2_with fail
  refine mjob_start w w1 14 (by omega) K.out B.out ?_
  intro jA jc l wt w2 hl hlt hS
  obtain ⟨b, hb⟩ : ∃ b, b = w2.heap.size := ⟨_, rfl⟩
  have S := Lib.hid (hS b hb)
  clear K B hS hlt
  go_upto_region 2 with fail
  rw [← hb]
  generalize w2.alloc (.cells #[.slice jA l.length jc, .int .i64 wt] 24) = w3 at *
  clear hb
  obtain ⟨L, hL⟩ : ∃ n, n = l.length := ⟨_, rfl⟩
  have HL := Lib.hid hL
  have Z0 := Lib.hid (show ZSt w w3 b jA jc (zrK l 0) wt by
    rw [zrK_zero]; exact ⟨S.out.box, S.out.own, S.out.lo, S.out.bel, S.out.lt⟩)
  have HV := Lib.hid (z_valid S.out.val)
  have HWT := Lib.hid S.out.wt_
  have J := S.out.box
  rw [← hL] at J hl ⊢
  obtain ⟨j0, j1, jl⟩ := J
  clear hL
  go_wp2_with fail
  clear j0 j1 jl S
  go_loopw [19] (fun iv wr => ∃ k : Nat, k ≤ L ∧ iv = .int .i64 (k : Int) ∧ Hid (ZSt w wr b jA jc (zrK l k) wt)) (fun iv _ => L - (intOf iv).toNat)
  case atStart => exact ⟨0, by omega, rfl, Z0⟩
  case round =>
    clear Z0
    obtain ⟨k, hk, rfl, Z⟩ := hrel
    have HZL := Lib.hid (zrK_len l k)
    by_cases hlt : k < L
    · have hkl : k < l.length := by rw [← HL.out]; exact hlt
      have J := Z.out.box
      rw [HZL.out, ← HL.out] at J
      obtain ⟨j0, j1, jl⟩ := J
      obtain ⟨A', c', ev, _, _, _, hge⟩ := Z.out.own.full
      obtain ⟨g, hg, hg1, hg2⟩ := hge (by rw [HZL.out]; omega)
      have e1 : jA = A' := by injection ev
      subst e1
      subst hg
      have OW := Lib.hid Z.out.own
      rw [HZL.out, ← HL.out] at OW
      obtain ⟨⟨d0, d1, d2, d3⟩, hf⟩ := OW.out.at4 (by rw [HZL.out, HL.out]) (k := k) (by rw [HZL.out]; exact hkl)
      have f2 := hf (k * 4 + 2)
      have hki : (k : Int) < (L : Int) := by omega
      have HZ2 := Lib.hid (show ZSt w (wr.setCell ⟨g, k * 4 + 2, none⟩ (.int .i64 0)) b (some ⟨g, 0, none⟩) jc (zrK l (k + 1)) wt from by
        have hgb : g < b := Z.out.lo g rfl
        have hfs := Flat.store (show Flat 26 4 wr (w.heap.size + 1) (.slice (some ⟨g, 0, none⟩) (zrK l k).length jc) (zrK l k).length (flatI (zrK l k)) from Z.out.own) (k * 4 + 2) 0
        rw [flatI_setR (zrK l k) k (by rw [HZL.out]; exact hkl), zrK_at l hkl, zrK_succ l hkl, zrK_len] at hfs
        have nb : ∀ i j, (⟨g, i, none⟩ : Addr) ≠ ⟨b, j, none⟩ := fun i j e => by have := congrArg Addr.block e; have e2 : g = b := this; omega
        have hbx := Z.out.box
        rw [HZL.out] at hbx
        refine ⟨?_, by unfold IOwn; rw [zrK_len]; exact hfs, by rw [zrK_len]; have := Z.out.lo; rwa [HZL.out] at this, Z.out.bel.setCell (p := ⟨g, k * 4 + 2, none⟩) (by show w.heap.size ≤ g; omega) _, Z.out.lt⟩
        rw [zrK_len]
        exact ⟨by rw [World.cell?_setCell_other _ _ _ _ (nb _ _)]; exact hbx.c0, by rw [World.cell?_setCell_other _ _ _ _ (nb _ _)]; exact hbx.c1, by rw [World.size_setCell]; exact hbx.lt⟩)
      clear ev hge hg1 hf OW Z d0 d1 d3
      go_wp2_with fail
      go_roundw
      case rel => exact ⟨k + 1, by omega, by go_num, HZ2⟩
      case measure => simp [intOf]; omega
    · have hkL : k = L := by omega
      subst hkL
      have hz := Z.out
      rw [HL.out, zrK_all] at hz
      obtain ⟨l', hl'⟩ : ∃ l', l' = l.map zI := ⟨_, rfl⟩
      have HR0 := Lib.hid (fun y hy => z_rnd (l := l) y hy)
      have hlen : k = (l.map zI).length := by rw [List.length_map]; exact HL.out
      rw [← hl'] at hz HV HR0 hlen
      have Z2 := Lib.hid hz
      have HLL := Lib.hid hlen
      clear Z HZL hz hl' hlen hlt hk
      have HLV := Lib.hid (levels_any l' jA jc wt wr Z2.out.own.irow)
      rw [← HLL.out] at HLV
      have HC := Lib.hid (fun (W : World) (q : IRow W jA l') => least_any l' jA jc k wt HLL.out W q)
      have J := Z2.out.box
      rw [← HLL.out] at J
      obtain ⟨j0, j1, jl⟩ := J
      go_wp2_with fail
      refine HLV.out.mono ?_
      rintro e w4 ⟨v0, lv, rfl, O4, hlev, _, B4⟩
      rw [HV.out]
      have HLE := Lib.hid (hlev HV.out)
      obtain ⟨vA, vc, rfl, VR, _⟩ := O4.slice
      have hvl : lv.length = k := by rw [HLE.out.len, HLL.out]
      rw [hvl]
      have HVL := Lib.hid hvl
      have Z4 := Lib.hid (Z2.out.below B4)
      have HVR := Lib.hid VR
      have J := Z4.out.box
      rw [← HLL.out] at J
      clear j0 j1 jl O4 hlev B4 Z2 VR hvl HLV
      obtain ⟨j0, j1, jl⟩ := J
      go_wp2_with fail
      refine (HC.out w4 Z4.out.own.irow).mono ?_
      rintro e w5 ⟨st, pA, pn, pc, er, v, rfl, O, B5, hr⟩
      have HR := Lib.hid (hr.valid HV.out)
      obtain ⟨g1, hg1⟩ : ∃ g, g = w5.heap.size := ⟨_, rfl⟩
      have BX := (Below.refl w5.heap.size w5).alloc (Nat.le_refl _) (.cells #[.int .i64 st, .slice pA pn pc] 29)
      have P1 := Lib.hid (PSt.new (st := st) (m := w.heap.size) O (Nat.lt_trans Z4.out.lt Z4.out.box.lt) g1 hg1 (by rw [hg1]; exact Nat.lt_of_lt_of_le (Nat.lt_trans Z4.out.lt Z4.out.box.lt) B5.size))
      have Z5 := Lib.hid ((Z4.out.below B5).below BX)
      have HV5 := Lib.hid ((HVR.out.below B5).below BX)
      clear j0 j1 jl O B5 hr BX Z4 HVR
      go_upto_region 9 with fail
      rw [← hg1]
      generalize w5.alloc (.cells #[.int .i64 st, .slice pA pn pc] 29) = w6 at *
      clear hg1
      have J := Z5.out.box
      rw [← HLL.out] at J
      obtain ⟨j0, j1, jl⟩ := J
      have hkk : ((k : Int) != (k : Int)) = false := by simp
      have hf := formOk_of HV.out
      have HSL := Lib.hid (sol_levels hf HR0.out HLE.out)
      have HLB := Lib.hid (HLE.out.bound hf.blk)
      have HWN := Lib.hid hf.wb
      clear hf
      go_wp2_with fail
      clear hkk j0 j1 jl
      go_loopw [50] (fun iv wi => ∃ i : Nat, i ≤ k ∧ iv = .int .i64 (i : Int) ∧ Hid (∀ y, y < i → (lv.getD y 0).toNat < cnt 0 wt.toNat 4096) ∧ Hid (wi = w6)) (fun iv _ => k - (intOf iv).toNat)
      case atStart => exact ⟨0, by omega, rfl, Lib.hid (fun y hy => absurd hy (Nat.not_lt_zero _)), Lib.hid rfl⟩
      case round =>
        obtain ⟨i, hi, rfl, F, HW⟩ := hrel
        obtain rfl := HW.out
        by_cases hlti : i < k
        · have J := Z5.out.box
          rw [← HLL.out] at J
          obtain ⟨j0, j1, jl⟩ := J
          obtain ⟨vad, rfl, _, cv⟩ := HV5.out i (by rw [HVL.out]; exact hlti)
          obtain ⟨hb1, hb2⟩ := HLB.out i (by rw [← HLL.out]; exact hlti)
          obtain ⟨n, hn⟩ := Int.eq_ofNat_of_zero_le hb1
          rw [hn] at cv
          obtain ⟨V, hV⟩ := Int.eq_ofNat_of_zero_le HWN.out.1
          have hV12 : V ≤ 12 := by have := HWN.out.2; omega
          have HNT := Lib.hid (fun W => nth_code (n : Int) 0 wt W)
          have HNZ := Lib.hid (show nthZ (n : Int) 0 wt = if nth 0 V n < 4096 then okN (nth 0 V n) else (0, 15) by rw [hV]; exact nthZ_nat (R := 0) (by decide) hV12)
          have HNN := Lib.hid (show (lv.getD i 0).toNat = n by rw [hn]; rfl)
          have HWV := Lib.hid (show wt.toNat = V by rw [hV]; rfl)
          clear hV hn hb1 hb2
          have hki : (i : Int) < (k : Int) := by omega
          go_wp2_with fail
          refine (HNT.out _).mono ?_
          rintro e w7 ⟨rfl, rfl⟩
          rw [HNZ.out]
          rcases nth_is 0 V n with ⟨n1, n2, n3, n4⟩ | ⟨n1, n2⟩
          · rw [if_pos n2]
            have HF2 := Lib.hid (show ∀ y, y < i + 1 → (lv.getD y 0).toNat < cnt 0 wt.toNat 4096 from fun y hy => by
              rcases Nat.lt_or_ge y i with g | g
              · exact F.out y g
              · obtain rfl : y = i := by omega
                rw [HNN.out, HWV.out]; exact n1)
            rcases HR.out with ⟨rfl, rfl, rfl, _⟩ | ⟨rfl, bs, hsol, _⟩
            · clear HNZ n1 n2 n3 n4 F
              go_wp2_with fail
              go_roundw
              case rel => exact ⟨i + 1, by omega, by go_num, HF2, Lib.hid trivial⟩
              case measure => simp [intOf]; omega
            · have hvi := (HSL.out.1 bs v hsol i (by rw [← HLL.out]; exact hlti)).2
              rw [HNN.out, HWV.out] at hvi
              have hpn : pn = k := by rw [P1.out.len, hsol.vlen, HLL.out]
              subst hpn
              obtain ⟨p0, p1, -, pl⟩ := P1.out.box
              obtain ⟨pad, rfl, _, cp⟩ := P1.out.row.1 i (by rw [hsol.vlen, ← HLL.out]; exact hlti)
              rw [hvi] at cp
              have hne : ((nth 0 V n : Int) != (nth 0 V n : Int)) = false := by simp
              have hkn : ¬ (pn : Int) ≤ (i : Int) := by omega
              clear HNZ n1 n2 n3 n4 hvi hsol F
              generalize nth 0 V n = code at *
              go_wp2_with fail
              go_roundw
              case rel => exact ⟨i + 1, by omega, by go_num, HF2, Lib.hid trivial⟩
              case measure => simp [intOf]; omega
          · rw [if_neg (by omega)]
            rcases HR.out with ⟨rfl, rfl, rfl, _⟩ | ⟨rfl, bs, hsol, _⟩
            · clear HNZ n1 n2 F
              go_wp2_with fail
              refine (sane13_any _).mono ?_
              rintro e wz ⟨rfl, BZ⟩
              have HZ := Lib.hid (Z5.out.bel.trans (BZ.mono Z5.out.bel.size))
              clear BZ
              go_wp2_with fail
              go_ret
              exact ⟨rfl, HZ.out⟩
            · exfalso
              have := (HSL.out.1 bs v hsol i (by rw [← HLL.out]; exact hlti)).1
              rw [HNN.out, HWV.out] at this
              omega
        · have hik : i = k := by omega
          subst hik
          rcases HR.out with ⟨rfl, rfl, rfl, hno⟩ | ⟨rfl, bs, hsol, _⟩
          · exfalso
            obtain ⟨b', v', h'⟩ := HSL.out.2 (fun y hy => F.out y (by rw [HLL.out]; exact hy))
            exact hno _ _ h'
          · have hpn : pn = i := by rw [P1.out.len, hsol.vlen, HLL.out]
            subst hpn
            obtain ⟨p0, p1, -, pl⟩ := P1.out.box
            have hkk : ((pn : Int) == (pn : Int)) = true := by simp
            clear F hsol
            go_wp2_with fail
            refine (sane13_any wr).mono ?_
            rintro e wz ⟨rfl, BZ⟩
            have HZ := Lib.hid (Z5.out.bel.trans (BZ.mono Z5.out.bel.size))
            clear BZ
            go_wp2_with fail
            go_ret
            exact ⟨rfl, HZ.out⟩
theorem lev_law (a : Option Addr) (len cap : Nat) (zs : List Int) (w : World) (h : IsRow .i64 w a len cap zs) :
    Calls Try.prog 10 #[.slice a len cap] w fun e w' => e = .returned (.bool true) ∧ Below w.heap.size w w' := by
  obtain ⟨l, rfl, h1, h2, h3⟩ := h.row
  exact lev_walk a cap l w h1 h2 h3
end Go.Proofs.Ytcplanafcnnodaa
