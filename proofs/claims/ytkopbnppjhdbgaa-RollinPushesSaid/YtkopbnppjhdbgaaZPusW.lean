/-
  Stage 14: the walk of RollinPushes.
-/
import Derived.Test.YtkopbnppjhdbgaaZPusP
set_option linter.unusedSimpArgs false
set_option linter.unusedVariables false
namespace Go.Proofs.Ytkopbnppjhdbgaa
open Go.RowKit Go.Lib

set_option maxRecDepth 100000 in
set_option maxHeartbeats 3200000 in
theorem pus_walk (A : Option Addr) (c : Nat) (zs : List Int) (w : World) (hr : Row .i64 w w.heap.size A zs) (hm : zs.length ≤ maxLen) (hw : ∀ n ∈ zs, (Lit.int .i64 n).wf = true) :
    Calls Try.prog 9 #[.slice A zs.length c] w fun e w' => e = .returned (.bool true) ∧ Below w.heap.size w w' := by
  have K := Lib.hid (mk_row (c := c) (T := 73) hr hm hw)
  have B := Lib.hid ((Below.refl w.heap.size w).alloc (Nat.le_refl _) (.cells #[.slice A zs.length c, .int .i64 0] 73))
  clear hr hw
  go_enter Try.func9, Try.ntmps9
  go_wp2_with fail
  refine (new_any A zs.length c w).mono ?_
  rintro e w1 ⟨rfl, hw1⟩
  rw [← hw1] at K B
  clear hw1 hm
  go_wp2_with fail
  refine mjob_start w w1 16 (by omega) K.out B.out ?_
  intro jA jc l wt w2 hl hlt hS
  obtain ⟨b, hb⟩ : ∃ b, b = w2.heap.size := ⟨_, rfl⟩
  have S := Lib.hid (hS b hb)
  clear K B hS hlt
  go_upto_region 2 with fail
  rw [← hb]
  generalize w2.alloc (.cells #[.slice jA l.length jc, .int .i64 wt] 24) = w3 at *
  clear hb
  obtain ⟨L, hL⟩ : ∃ n, n = l.length := ⟨_, rfl⟩
  have HL := Lib.hid hL
  have Z0 := Lib.hid (show ZSt w w3 b jA jc (zrK l 0) wt by
    rw [zrK_zero]; exact ⟨S.out.box, S.out.own, S.out.lo, S.out.bel, S.out.lt⟩)
  have HV := Lib.hid (z_valid S.out.val)
  have HWT := Lib.hid S.out.wt_
  have J := S.out.box
  rw [← hL] at J hl ⊢
  obtain ⟨j0, j1, jl⟩ := J
  clear hL
  go_wp2_with fail
  clear j0 j1 jl S
  go_loopw [15] (fun iv wr => ∃ k : Nat, k ≤ L ∧ iv = .int .i64 (k : Int) ∧ Hid (ZSt w wr b jA jc (zrK l k) wt)) (fun iv _ => L - (intOf iv).toNat)
  case atStart => exact ⟨0, by omega, rfl, Z0⟩
  case round =>
    clear Z0
    obtain ⟨k, hk, rfl, Z⟩ := hrel
    have HZL := Lib.hid (zrK_len l k)
    by_cases hlt : k < L
    · have hkl : k < l.length := by rw [← HL.out]; exact hlt
      have J := Z.out.box
      rw [HZL.out, ← HL.out] at J
      obtain ⟨j0, j1, jl⟩ := J
      obtain ⟨A', c', ev, _, _, _, hge⟩ := Z.out.own.full
      obtain ⟨g, hg, hg1, hg2⟩ := hge (by rw [HZL.out]; omega)
      have e1 : jA = A' := by injection ev
      subst e1
      subst hg
      have OW := Lib.hid Z.out.own
      rw [HZL.out, ← HL.out] at OW
      obtain ⟨⟨d0, d1, d2, d3⟩, hf⟩ := OW.out.at4 (by rw [HZL.out, HL.out]) (k := k) (by rw [HZL.out]; exact hkl)
      have f2 := hf (k * 4 + 2)
      have hki : (k : Int) < (L : Int) := by omega
      have HZ2 := Lib.hid (show ZSt w (wr.setCell ⟨g, k * 4 + 2, none⟩ (.int .i64 0)) b (some ⟨g, 0, none⟩) jc (zrK l (k + 1)) wt from by
        have hgb : g < b := Z.out.lo g rfl
        have hfs := Flat.store (show Flat 29 4 wr (w.heap.size + 1) (.slice (some ⟨g, 0, none⟩) (zrK l k).length jc) (zrK l k).length (flatI (zrK l k)) from Z.out.own) (k * 4 + 2) 0
        rw [flatI_setR (zrK l k) k (by rw [HZL.out]; exact hkl), zrK_at l hkl, zrK_succ l hkl, zrK_len] at hfs
        have nb : ∀ i j, (⟨g, i, none⟩ : Addr) ≠ ⟨b, j, none⟩ := fun i j e => by have := congrArg Addr.block e; have e2 : g = b := this; omega
        have hbx := Z.out.box
        rw [HZL.out] at hbx
        refine ⟨?_, by unfold IOwn; rw [zrK_len]; exact hfs, by rw [zrK_len]; have := Z.out.lo; rwa [HZL.out] at this, Z.out.bel.setCell (p := ⟨g, k * 4 + 2, none⟩) (by show w.heap.size ≤ g; omega) _, Z.out.lt⟩
        rw [zrK_len]
        exact ⟨by rw [World.cell?_setCell_other _ _ _ _ (nb _ _)]; exact hbx.c0, by rw [World.cell?_setCell_other _ _ _ _ (nb _ _)]; exact hbx.c1, by rw [World.size_setCell]; exact hbx.lt⟩)
      clear ev hge hg1 hf OW Z d0 d1 d3
      go_wp2_with fail
      go_roundw
      case rel => exact ⟨k + 1, by omega, by go_num, HZ2⟩
      case measure => simp [intOf]; omega
    · have hkL : k = L := by omega
      subst hkL
      have hz := Z.out
      rw [HL.out, zrK_all] at hz
      obtain ⟨l', hl'⟩ : ∃ l', l' = l.map zI := ⟨_, rfl⟩
      have HR0 := Lib.hid (fun y hy => z_rnd (l := l) y hy)
      have hlen : k = (l.map zI).length := by rw [List.length_map]; exact HL.out
      rw [← hl'] at hz HV HR0 hlen
      have Z2 := Lib.hid hz
      have HLL := Lib.hid hlen
      clear Z HZL hz hl' hlen hlt hk
      have HC := Lib.hid (fun (W : World) (q : IRow W jA l') => least_any l' jA jc k wt HLL.out W q)
      have HPS := Lib.hid (fun (W : World) (st : Int) (v : List Int) (pA : Option Addr) (pn pc : Nat) (hn : pn = v.length) (hm : v.length ≤ maxLen) (q : IRow W jA l') (r : Row .i64 W W.heap.size pA v) => pushes_any l' jA jc k wt st v pA pn pc HLL.out hn W q r hm)
      have J := Z2.out.box
      rw [← HLL.out] at J
      obtain ⟨j0, j1, jl⟩ := J
      go_wp2_with fail
      refine (HC.out wr Z2.out.own.irow).mono ?_
      rintro e w5 ⟨st, pA, pn, pc, er, v, rfl, O, B5, hr⟩
      have HR := Lib.hid (hr.valid HV.out)
      obtain ⟨g1, hg1⟩ : ∃ g, g = w5.heap.size := ⟨_, rfl⟩
      have BX := (Below.refl w5.heap.size w5).alloc (Nat.le_refl _) (.cells #[.int .i64 st, .slice pA pn pc] 27)
      have P1 := Lib.hid (PSt.new (st := st) (m := w.heap.size) O (Nat.lt_trans Z2.out.lt Z2.out.box.lt) g1 hg1 (by rw [hg1]; exact Nat.lt_of_lt_of_le (Nat.lt_trans Z2.out.lt Z2.out.box.lt) B5.size))
      have Z5 := Lib.hid ((Z2.out.below B5).below BX)
      clear j0 j1 jl O B5 hr BX Z2
      go_upto_region 8 with fail
      rw [← hg1]
      generalize w5.alloc (.cells #[.int .i64 st, .slice pA pn pc] 27) = w6 at *
      clear hg1
      rcases HR.out with ⟨rfl, rfl, rfl, hno⟩ | ⟨rfl, bs, hsol, hst⟩
      · clear HR hno
        go_wp2_with fail
        refine (sane14_any w6).mono ?_
        rintro e wz ⟨rfl, BZ⟩
        have HZ := Lib.hid (Z5.out.bel.trans (BZ.mono Z5.out.bel.size))
        clear BZ
        go_wp2_with fail
        go_ret
        exact ⟨rfl, HZ.out⟩
      · have HPL := Lib.hid (push_least HV.out HR0.out hsol hst)
        clear HR hsol hst
        obtain ⟨p0, p1, -, pl⟩ := P1.out.box
        have J := Z5.out.box
        rw [← HLL.out] at J
        obtain ⟨j0, j1, jl⟩ := J
        go_wp2_with fail
        refine (HPS.out w6 st v pA pn pc P1.out.len P1.out.row.2 Z5.out.own.irow P1.out.row.1).mono ?_
        rintro e w7 ⟨rfl, B7⟩
        have J := (Z5.out.below B7).box
        rw [← HLL.out] at J
        obtain ⟨k0, k1, kl⟩ := J
        have q0 := (P1.out.box.below B7 P1.out.box.lt).c0
        have HB7 := Lib.hid ((Z5.out.below B7).bel)
        clear B7 j0 j1 jl p0 p1 pl
        obtain ⟨-, S, hS, hS12, hcase⟩ := HPL.out
        rcases hcase with ⟨hk0, hz⟩ | ⟨hk0, hz⟩
        · rw [hz]
          have hke : k = 0 := by rw [HLL.out]; exact hk0
          have hk1 : ((k : Int) == 0) = true := by rw [hke]; rfl
          have hk2 : ¬ (0 : Int) < (k : Int) := by omega
          clear hz hk0 hke hS
          go_wp2_with fail
          refine (sane14_any w7).mono ?_
          rintro e wz ⟨rfl, BZ⟩
          have HZ := Lib.hid (HB7.out.trans (BZ.mono HB7.out.size))
          clear BZ
          go_wp2_with fail
          go_ret
          exact ⟨rfl, HZ.out⟩
        · rw [hz]
          subst hS
          have hkp : 0 < k := by rw [HLL.out]; exact hk0
          have hk1 : ((k : Int) == 0) = false := beq_eq_false_iff_ne.2 (by omega)
          have hk2 : (0 : Int) < (k : Int) := by omega
          have hss : (((S : Int) + 1) == ((S : Int) + 1)) = true := by simp
          clear hz hk0
          go_wp2_with fail
          refine (sane14_any w7).mono ?_
          rintro e wz ⟨rfl, BZ⟩
          have HZ := Lib.hid (HB7.out.trans (BZ.mono HB7.out.size))
          clear BZ
          go_wp2_with fail
          go_ret
          exact ⟨rfl, HZ.out⟩
theorem pus_law (a : Option Addr) (len cap : Nat) (zs : List Int) (w : World) (h : IsRow .i64 w a len cap zs) :
    Calls Try.prog 9 #[.slice a len cap] w fun e w' => e = .returned (.bool true) ∧ Below w.heap.size w w' := by
  obtain ⟨l, rfl, h1, h2, h3⟩ := h.row
  exact pus_walk a cap l w h1 h2 h3
end Go.Proofs.Ytkopbnppjhdbgaa
