/-
  Stage 15: the walk of CertificateRefuses.
-/
import Derived.Test.YtlagadbkencpbaaBA3
import Derived.Test.YtlagadbkencpbaaBB1
import Derived.Test.YtlagadbkencpbaaBA1
import Derived.Test.YtlagadbkencpbaaBA2
import Derived.BigQuiet
set_option linter.unusedSimpArgs false
set_option linter.unusedVariables false
namespace Go.Proofs.Ytlagadbkencpbaa
open Go.RowKit Go.Lib

/-- Three lists in a list. -/
structure Lit3 (W : World) (g : Nat) (v0 v1 v2 : Value) : Prop where
  c0 : W.cell? ⟨g, 0, none⟩ = some v0
  c1 : W.cell? ⟨g, 1, none⟩ = some v1
  c2 : W.cell? ⟨g, 2, none⟩ = some v2
  lt : g < W.heap.size
theorem Lit3.keep {W W' : World} {g K : Nat} {v0 v1 v2 : Value} (h : Lit3 W g v0 v1 v2) (k : Below K W W') (hK : g < K) : Lit3 W' g v0 v1 v2 :=
  ⟨(k.cell (p := ⟨g, 0, none⟩) hK).trans h.c0, (k.cell (p := ⟨g, 1, none⟩) hK).trans h.c1, (k.cell (p := ⟨g, 2, none⟩) hK).trans h.c2, Nat.lt_of_lt_of_le h.lt k.size⟩
theorem Lit3.setO {W : World} {g : Nat} {v0 v1 v2 : Value} (h : Lit3 W g v0 v1 v2) {p : Addr} (hp : p.block ≠ g) (u : Value) : Lit3 (W.setCell p u) g v0 v1 v2 :=
  have e : ∀ j, p ≠ (⟨g, j, none⟩ : Addr) := fun j e => hp (congrArg Addr.block e)
  ⟨by rw [World.cell?_setCell_other _ _ _ _ (e _)]; exact h.c0, by rw [World.cell?_setCell_other _ _ _ _ (e _)]; exact h.c1, by rw [World.cell?_setCell_other _ _ _ _ (e _)]; exact h.c2, by rw [World.size_setCell]; exact h.lt⟩
theorem Lit3.new {W : World} {v0 v1 v2 : Value} {T : TypeId} (g : Nat) (hg : g = W.heap.size) : Lit3 (W.alloc (.cells #[v0, v1, v2] T)) g v0 v1 v2 := by
  subst hg; exact ⟨by rw [cell_new]; rfl, by rw [cell_new]; rfl, by rw [cell_new]; rfl, by simp⟩
theorem infoIntP : (Try.prog.info? 3).map (fun i => (i.zero, i.size, i.bytes)) = some (some (.int .i64 0), 1, 8) := by kernel_rfl
/-- append([]int{}, xs..) -/
theorem wpList_copy (W : World) {ops : Array Oper} {rest : List Oper} {o : Oper} {a : Act} {Q : Exit → Act → World → Prop} (hgn : o.guard = none) (s x : Operand)
    (ho : o.op = .call { callee := .builtin .append, args := #[s, x], argTypes := #[22, 22] })
    (w0 : World) (hW : W = w0.alloc (.cells #[] 3)) (hs : a.eval s = .slice (some ⟨w0.heap.size, 0, none⟩) 0 0) (A : Option Addr) (m c : Nat) (zs : List Int) (hm : m = zs.length) (hx : a.eval x = .slice A m c) (hr : Row .i64 W W.heap.size A zs) (hA : A = none → m = 0 ∧ c = 0) (hl : m ≤ 1000000)
    (h : ∀ v' w', Own .i64 3 w' w0.heap.size v' zs → Below w0.heap.size w0 w' → wpList Try.prog ops Q rest (a.put o.dst v') w') : wpList Try.prog ops Q (o :: rest) a W := by
  obtain ⟨i0, hi, hz0, hz1, hz2⟩ := info_parts infoIntP
  subst hm
  subst hW
  refine wpList_app_src hgn s x 22 ho w0.heap.size 3 i0 (.int .i64 0) 1 8 Try.underlying22 hi hz0 hz1 hz2 rfl (by decide) _ 0 [] hs (own_empty (Nat.le_refl _)) A zs.length c (zs.map (Value.int .i64)) hx hA (by rw [List.length_map, Nat.mul_one]) hr.newsO one_cells (by unfold maxLen; omega) (by omega) (by simp) ?_
  intro v' w' hown hg
  refine h v' w' ?_ (((Below.refl w0.heap.size w0).alloc (Nat.le_refl _) _).grown hg (by simp) (fun j hj => by
    have e : w0.heap.size = j := by simpa [Value.ownBlock] using hj
    omega))
  unfold Own
  rw [Nat.zero_add, List.nil_append] at hown
  exact hown
/-- The same where there is something to copy. -/
theorem wpList_copyS (W : World) {ops : Array Oper} {rest : List Oper} {o : Oper} {a : Act} {Q : Exit → Act → World → Prop} (hgn : o.guard = none) (s x : Operand)
    (ho : o.op = .call { callee := .builtin .append, args := #[s, x], argTypes := #[22, 22] })
    (w0 : World) (hW : W = w0.alloc (.cells #[] 3)) (hs : a.eval s = .slice (some ⟨w0.heap.size, 0, none⟩) 0 0) (A : Option Addr) (m c : Nat) (zs : List Int) (hm : m = zs.length) (hx : a.eval x = .slice A m c) (hr : Row .i64 W W.heap.size A zs) (h0 : 0 < m) (hA : A = none → m = 0 ∧ c = 0) (hl : m ≤ 1000000)
    (h : ∀ g c' w', Own .i64 3 w' w0.heap.size (.slice (some ⟨g, 0, none⟩) m c') zs → Below w0.heap.size w0 w' → wpList Try.prog ops Q rest (a.put o.dst (.slice (some ⟨g, 0, none⟩) m c')) w') : wpList Try.prog ops Q (o :: rest) a W :=
  wpList_copy W hgn s x ho w0 hW hs A m c zs hm hx hr hA hl fun v' w' O B => by
    obtain ⟨A', c', rfl, -, -, -, hp⟩ := O.slice
    obtain ⟨g, rfl, -, -⟩ := hp (by rw [← hm]; exact h0)
    rw [← hm] at O ⊢
    exact h g c' w' O B
theorem own_noneI {w : World} {base n c : Nat} {A : Option Addr} {zs : List Int} {T : TypeId} (h : Own .i64 T w base (.slice A n c) zs) : A = none → n = 0 ∧ c = 0 := by
  intro e
  rcases h.2 with ⟨e1, _⟩ | ⟨g, cap, cur, e1, _⟩
  · injection e1 with _ e2 e3
    exact ⟨e2, e3⟩
  · subst e; injection e1 with e1; cases e1

set_option maxRecDepth 100000 in
set_option maxHeartbeats 6400000 in
theorem ref_walk (A : Option Addr) (c : Nat) (zs : List Int) (lA : Option Addr) (ln lc : Nat) (ls : List Int) (w : World) (hr : Row .i64 w w.heap.size A zs) (hm : zs.length ≤ maxLen) (hw : ∀ n ∈ zs, (Lit.int .i64 n).wf = true)
    (hlr : Row .i64 w w.heap.size lA ls) (hln : ln = ls.length) (hlm : ln ≤ maxLen) :
    Calls Try.prog 7 #[.slice A zs.length c, .slice lA ln lc] w fun e w' => e = .returned (.bool true) ∧ Below w.heap.size w w' := by
  have K := Lib.hid (mk_row (c := c) (T := 72) hr hm hw)
  have B := Lib.hid ((Below.refl w.heap.size w).alloc (Nat.le_refl _) (.cells #[.slice A zs.length c, .int .i64 0] 72))
  have HLR := Lib.hid hlr
  have HLN := Lib.hid hln
  have HLM := Lib.hid hlm
  have hln9 : ln ≤ 9223372036854775807 := hlm
  clear hr hw hlr hln hlm
  go_enter Try.func7, Try.ntmps7
  go_wp2_with fail
  refine (new_any A zs.length c w).mono ?_
  rintro e w1 ⟨rfl, hw1⟩
  rw [← hw1] at K B
  clear hw1 hm
  go_wp2_with fail
  refine mjob_start w w1 12 (by omega) K.out B.out ?_
  intro jA jc l wt w2 hl hlt hS
  obtain ⟨b, hb⟩ : ∃ b, b = w2.heap.size := ⟨_, rfl⟩
  have S := Lib.hid (hS b hb)
  clear K B hS hlt
  go_upto_region 3 with fail
  rw [← hb]
  generalize w2.alloc (.cells #[.slice jA l.length jc, .int .i64 wt] 39) = w3 at *
  clear hb
  obtain ⟨L, hL⟩ : ∃ n, n = l.length := ⟨_, rfl⟩
  have HL := Lib.hid hL
  have HMK := Lib.hid (make_any l jA jc L wt hL w3 S.out.irow)
  have J := S.out.box
  rw [← hL] at J hl ⊢
  obtain ⟨j0, j1, jl⟩ := J
  clear hL
  go_wp2_with fail
  refine HMK.out.mono ?_
  rintro e w4 ⟨st, vA, vn, vc, uA, un, uc, er, v, ch, rfl, OV, OU, B4, hmk⟩
  have HOK := Lib.hid (hmk.ok S.out.val)
  have HMR := Lib.hid hmk
  obtain ⟨g1, hg1⟩ : ∃ g, g = w4.heap.size := ⟨_, rfl⟩
  have hbw : w.heap.size < w3.heap.size := Nat.lt_trans S.out.lt S.out.box.lt
  have Q4 := Lib.hid (QSt.new (st := st) (m := w.heap.size) OV OU hbw g1 hg1 (by rw [hg1]; exact Nat.lt_of_lt_of_le hbw B4.size))
  have BX := (Below.refl w4.heap.size w4).alloc (Nat.le_refl _) (qcells st vA vn vc uA un uc)
  have S4 := Lib.hid ((S.out.below B4).below BX)
  clear j0 j1 jl S OV OU B4 hmk BX HMK hbw
  go_upto_region 4 with fail
  rw [← hg1]
  generalize w4.alloc (qcells st vA vn vc uA un uc) = w5 at *
  clear hg1
  have HSN := Lib.hid (fun (W : World) (k : Below w5.heap.size w5 W) => (sane15_any W).mono (fun e w' h => show e = .returned (.bool true) ∧ Below w.heap.size w w' from ⟨h.1, (S4.out.bel.trans (k.mono S4.out.bel.size)).trans (h.2.mono (Nat.le_trans S4.out.bel.size k.size))⟩))
  rcases HOK.out with ⟨rfl, -, -, -⟩ | ⟨rfl, hvl, hst, hvb⟩
  · clear HOK
    go_wp2_with fail
    refine (HSN.out w5 (Below.refl _ _)).mono ?_
    rintro e wz ⟨rfl, BZ⟩
    go_wp2_with fail
    go_ret
    exact ⟨rfl, BZ⟩
  · by_cases h40 : 40 < ln
    · have h40i : (40 : Int) < (ln : Int) := by omega
      clear HOK
      go_wp2_with fail
      refine (HSN.out w5 (Below.refl _ _)).mono ?_
      rintro e wz ⟨rfl, BZ⟩
      go_wp2_with fail
      go_ret
      exact ⟨rfl, BZ⟩
    · have h40i : ¬ (40 : Int) < (ln : Int) := by omega
      obtain ⟨hvn, hvr, -⟩ := own_read Q4.out.ov
      have hvL : vn = L := by rw [hvn, hvl, HL.out]
      subst hvL
      have HVL := Lib.hid hvl
      have HVB := Lib.hid hvb
      have HVN := Lib.hid hvn
      have HVR := Lib.hid hvr
      obtain ⟨st0, st1⟩ := hst
      have HMO := Lib.hid (fun zs' => chk_more (ch := zs') S4.out.val HMR.out.1)
      clear HOK hvl hvb hvn hvr
      obtain ⟨p0, p1, p2, -, pl⟩ := Q4.out.box
      have R6 := Lib.hid (QBox.new (w := w5) (st := st) (A := vA) (n := vn) (c := vc) (B := uA) (m := un) (d := uc) w5.heap.size rfl)
      have B6 := Lib.hid ((Below.refl w5.heap.size w5).alloc (Nat.le_refl _) (qcells st vA vn vc uA un uc))
      obtain ⟨g2, hg2⟩ : ∃ g, g = w5.heap.size := ⟨_, rfl⟩
      have HG2 := Lib.hid hg2
      go_upto_region 7 with fail
      rw [← hg2] at R6 B6 ⊢
      generalize w5.alloc (qcells st vA vn vc uA un uc) = w6 at *
      clear p0 p1 p2 pl hg2
      have R7 := Lib.hid (R6.out.set0 (st + 1))
      have B7 := Lib.hid (B6.out.setCell (p := ⟨g2, 0, none⟩) (Nat.le_refl _) (.int .i64 (st + 1)))
      obtain ⟨r0, r1, r2, rf, rl⟩ := R6.out
      have rf0 := rf 0
      clear rf R6 B6
      go_upto_region 8 with fail
      generalize w6.setCell ⟨g2, 0, none⟩ (.int .i64 (st + 1)) = w7 at *
      clear r0 r1 r2 rl rf0
      have Q7 := Lib.hid (Q4.out.below (by rw [HG2.out] at B7; exact B7.out))
      obtain ⟨p0, p1, p2, -, pl⟩ := Q7.out.box
      have L8 := Lib.hid (Lit3.new (W := w7) (v0 := .slice uA un uc) (v1 := .slice none 0 0) (v2 := .slice lA ln lc) (T := 22) w7.heap.size rfl)
      have BX := (Below.refl w7.heap.size w7).alloc (Nat.le_refl _) (.cells #[.slice uA un uc, .slice none 0 0, .slice lA ln lc] 22)
      have R8 := Lib.hid (R7.out.below BX R7.out.lt)
      have B8 := Lib.hid (B7.out.trans (BX.mono (Nat.le_of_lt R7.out.lt)))
      have hgl : g2 < w7.heap.size := R7.out.lt
      obtain ⟨gl, hgl2⟩ : ∃ g, g = w7.heap.size := ⟨_, rfl⟩
      have hgl3 : g2 < gl := by omega
      go_upto_region 9 with fail
      rw [← hgl2] at L8 ⊢
      generalize w7.alloc (.cells #[.slice uA un uc, .slice none 0 0, .slice lA ln lc] 22) = w8 at *
      have HCS := Lib.hid (show ∀ k, k < 3 → ∃ B m d zs', m = zs'.length ∧ zs'.length ≤ maxLen ∧ ∀ W, Lit3 W gl (.slice uA un uc) (.slice none 0 0) (.slice lA ln lc) → Below w5.heap.size w5 W → W.cell? ⟨gl, k, none⟩ = some (.slice B m d) ∧ Row .i64 W W.heap.size B zs' from fun k hk => by
        match k, hk with
        | 0, _ =>
          obtain ⟨e1, e2, e3⟩ := own_read Q4.out.ou
          exact ⟨uA, un, uc, ch, e1, e3, fun W hc hb => ⟨hc.c0, (own_read (Q4.out.below hb).ou).2.1⟩⟩
        | 1, _ => exact ⟨none, 0, 0, [], rfl, Nat.zero_le _, fun W hc hb => ⟨hc.c1, Row.nil⟩⟩
        | 2, _ => exact ⟨lA, ln, lc, ls, HLN.out, by rw [← HLN.out]; exact HLM.out, fun W hc hb => ⟨hc.c2, HLR.out.below (S4.out.bel.trans (hb.mono S4.out.bel.size))⟩⟩)
      have hwb : w.heap.size < w5.heap.size := Nat.lt_trans S4.out.lt S4.out.box.lt
      clear p0 p1 p2 pl BX hgl2 hgl R7 B7 Q7
      rw [HG2.out] at B8
      go_wp2_with fail
      go_loopw [53] (fun iv wr => ∃ (k : Nat) (B : Option Addr) (m d : Nat), k ≤ 3 ∧ iv = .int .i64 (k : Int) ∧ Hid (QBox wr g2 (st + 1) vA vn vc B m d) ∧ Hid (Lit3 wr gl (.slice uA un uc) (.slice none 0 0) (.slice lA ln lc)) ∧ Hid (Below w5.heap.size w5 wr)) (fun iv _ => 3 - (intOf iv).toNat)
      case atStart => exact ⟨0, uA, un, uc, by omega, rfl, R8, L8, B8⟩
      case round =>
        clear R8 L8 B8
        obtain ⟨k, B0, m0, d0, hk, rfl, R, LL, BB⟩ := hrel
        by_cases hlt : k < 3
        · have hki : (k : Int) < 3 := by omega
          obtain ⟨B', m', d', zs', hml, hmx, hall⟩ := HCS.out k hlt
          have hc := (hall wr LL.out BB.out).1
          obtain ⟨r0, r1, r2, rf, rl⟩ := R.out
          have rf2 := rf 2
          have R2 := Lib.hid (R.out.set2 B' m' d')
          have LL2 := Lib.hid (LL.out.setO (p := ⟨g2, 2, none⟩) (by show g2 ≠ gl; omega) (.slice B' m' d'))
          have BB2 := Lib.hid (BB.out.setCell (p := ⟨g2, 2, none⟩) (by rw [HG2.out]; exact Nat.le_refl _) (.slice B' m' d'))
          have HRW := Lib.hid (hall _ LL2.out BB2.out).2
          have HML := Lib.hid hml
          have HMX := Lib.hid hmx
          clear rf hml hmx hall
          go_upto_region 12 with fail
          generalize wr.setCell ⟨g2, 2, none⟩ (.slice B' m' d') = wx at *
          clear r0 r1 r2 rf2 rl hc
          have SX := Lib.hid (S4.out.below BB2.out)
          have QX := Lib.hid (Q4.out.below BB2.out)
          have HCK := Lib.hid (check_any l jA jc vn wt (st + 1) v zs' vA vn vc B' m' d' HL.out HVN.out HML.out (own_read QX.out.ov).2.2 HMX.out wx SX.out.irow (own_read QX.out.ov).2.1 HRW.out)
          have hne : (chkE l wt (st + 1) v zs' == 0) = false := beq_eq_false_iff_ne.2 (HMO.out zs')
          generalize chkE l wt (st + 1) v zs' = ce at *
          have J := SX.out.box
          rw [← HL.out] at J
          obtain ⟨j0, j1, jl⟩ := J
          obtain ⟨r0, r1, r2, -, rl⟩ := R2.out
          go_wp2_with fail
          refine HCK.out.mono ?_
          rintro e wy ⟨rfl, By⟩
          have R3 := Lib.hid (R2.out.below By R2.out.lt)
          have LL3 := Lib.hid (LL2.out.keep By LL2.out.lt)
          have BB3 := Lib.hid (BB2.out.trans (By.mono BB2.out.size))
          clear j0 j1 jl r0 r1 r2 rl By SX QX HCK HRW
          go_wp2_with fail
          go_roundw
          case rel => exact ⟨k + 1, B', m', d', by omega, by go_num, R3, LL3, BB3⟩
          case measure => simp [intOf]; omega
        · have hk3 : ¬ (k : Int) < 3 := by omega
          clear HCS HMO R LL hlt hk
          have HSC := Lib.hid (fun (x y : Nat) (hx : x < vn) (hy : y < vn) (hr : rel l x y ≠ 0) (he : v.getD x 0 + str1 l x y = v.getD y 0) => chk_less (st := st) (v := v) (ch := ch) S4.out.val HVL.out (by rw [← HL.out]; exact hx) (by rw [← HL.out]; exact hy) hr he)
          have HKI := Lib.hid (fun (x y : Nat) (hx : x < vn) (hy : y < vn) (W : World) (k : IRow W jA l) => kind_any l jA jc wt x y (by rw [← HL.out]; exact hx) (by rw [← HL.out]; exact hy) W k)
          have HSI := Lib.hid (fun (x y : Nat) (hx : x < vn) (hy : y < vn) (W : World) (k : IRow W jA l) => strict_any l jA jc wt x y (by rw [← HL.out]; exact hx) (by rw [← HL.out]; exact hy) W k)
          rw [← HL.out] at HKI HSI
          have Q9 := Lib.hid (Q4.out.below BB.out)
          obtain ⟨p0, p1, p2, -, pl⟩ := Q9.out.box
          go_wp2_with fail
          clear p0 p1 p2 pl Q9
          go_loopw [68] (fun iv wr => ∃ y : Nat, y ≤ vn ∧ iv = .int .i64 (y : Int) ∧ Hid (Below w5.heap.size w5 wr)) (fun iv _ => vn - (intOf iv).toNat)
          case atStart => exact ⟨0, by omega, rfl, BB⟩
          case round =>
            clear BB
            obtain ⟨y, hy, rfl, BB⟩ := hrel
            by_cases hly : y < vn
            · have hyi : (y : Int) < (vn : Int) := by omega
              have Q9 := Lib.hid (Q4.out.below BB.out)
              obtain ⟨p0, p1, p2, -, pl⟩ := Q9.out.box
              go_wp2_with fail
              clear p0 p1 p2 pl Q9
              generalize wr = wo at *
              go_loopw [75] (fun iv wi => ∃ x : Nat, x ≤ vn ∧ iv = .int .i64 (x : Int) ∧ Hid (Below w5.heap.size w5 wi)) (fun iv _ => vn - (intOf iv).toNat)
              case atStart => exact ⟨0, by omega, rfl, BB⟩
              case round =>
                clear BB
                obtain ⟨x, hx, rfl, BB⟩ := hrel
                by_cases hlx : x < vn
                · have hxi : (x : Int) < (vn : Int) := by omega
                  have S9 := Lib.hid (S4.out.below BB.out)
                  have Q9 := Lib.hid (Q4.out.below BB.out)
                  obtain ⟨pad, rfl, -, cx⟩ := (own_read Q9.out.ov).2.1 x (by rw [← HVN.out]; exact hlx)
                  obtain ⟨pad', e', -, cy⟩ := (own_read Q9.out.ov).2.1 y (by rw [← HVN.out]; exact hly)
                  obtain rfl : pad = pad' := by injection e'
                  have J := S9.out.box
                  rw [← HL.out] at J
                  obtain ⟨j0, j1, jl⟩ := J
                  obtain ⟨p0, p1, p2, -, pl⟩ := Q9.out.box
                  have hsb : 0 ≤ str1 l x y ∧ str1 l x y ≤ 1 := by unfold str1; split <;> omega
                  have hvx := HVB.out x
                  have hvy := HVB.out y
                  have HK1 := Lib.hid (fun W k => HKI.out x y hlx hly W k)
                  have HS1 := Lib.hid (fun W k => HSI.out x y hlx hly W k)
                  have HCL := Lib.hid (HSC.out x y hlx hly)
                  obtain ⟨r, hr⟩ : ∃ r, r = rel l x y := ⟨_, rfl⟩
                  obtain ⟨s1, hs1⟩ : ∃ r, r = str1 l x y := ⟨_, rfl⟩
                  obtain ⟨ux, hux⟩ : ∃ r, r = v.getD x 0 := ⟨_, rfl⟩
                  obtain ⟨uy, huy⟩ : ∃ r, r = v.getD y 0 := ⟨_, rfl⟩
                  rw [← hr] at HK1 HCL
                  rw [← hs1] at HS1 HCL hsb
                  rw [← hux] at cx HCL hvx
                  rw [← huy] at cy HCL hvy
                  have ltx := lt_of_cell cx
                  have lty := lt_of_cell cy
                  have HPS := Lib.hid (fun (X : World) (hX : Below wr.heap.size wr X) => (show X.cell? ⟨b, 0, none⟩ = some (.slice jA vn jc) ∧ X.cell? ⟨b, 1, none⟩ = some (.int .i64 wt) ∧ X.cell? ⟨g1, 1, none⟩ = some (.slice (some pad) vn vc) ∧ X.cell? (pad.add x) = some (.int .i64 ux) ∧ X.cell? (pad.add y) = some (.int .i64 uy) from
                    ⟨(hX.cell (p := ⟨b, 0, none⟩) jl).trans j0, (hX.cell (p := ⟨b, 1, none⟩) jl).trans j1, (hX.cell (p := ⟨g1, 1, none⟩) pl).trans p1, (hX.cell ltx).trans cx, (hX.cell lty).trans cy⟩))
                  have HIW := Lib.hid (fun (X : World) (hX : Below wr.heap.size wr X) => (S9.out.below hX).irow)
                  have HUY := Lib.hid huy
                  clear e' hr hs1 hux huy ltx lty
                  go_upto_region 21 with fail
                  clear j0 j1 jl p0 p1 p2 pl cx cy
                  obtain ⟨q0, e0⟩ : ∃ x, x = wr.drew := ⟨_, rfl⟩
                  have K0 := Lib.hid (show Below wr.heap.size wr q0 from by rw [e0]; exact (Below.refl _ _).drew)
                  have F0 := HPS.out q0 K0.out
                  have HE0 := Lib.hid e0
                  clear e0
                  refine AnyT.begin_at tlN (fun X => X.cell? ⟨b, 0, none⟩ = some (.slice jA vn jc) ∧ X.cell? ⟨b, 1, none⟩ = some (.int .i64 wt) ∧ X.cell? ⟨g1, 1, none⟩ = some (.slice (some pad) vn vc) ∧ X.cell? (pad.add x) = some (.int .i64 ux) ∧ X.cell? (pad.add y) = some (.int .i64 uy)) (by kernel_rfl) HE0.out F0 ?_
                  clear F0
                  intro F0
                  refine AnyT.takeD (i := 0) (d := some 78) (v := jv jA vn jc wt) rfl rfl (by kernel_rfl) (by kernel_rfl) (by kernel_rfl) (by kernel_rfl) (fun _ _ _ h => h) (Or.inl ⟨by rfl, fun wz hz => by obtain ⟨z0, z1, z2, z3, z4⟩ := hz; go_simp⟩) F0 ?_
                  simp only [Act.put, List.setIfInBounds_toArray, List.set_cons_zero, List.set_cons_succ]
                  refine AnyT.takeD (i := 1) (d := some 79) (v := .int .i64 (x : Int)) rfl rfl (by kernel_rfl) (by kernel_rfl) (by kernel_rfl) (by kernel_rfl) (fun _ _ _ h => h) (Or.inl ⟨by rfl, fun wz _ => by go_simp⟩) F0 ?_
                  simp only [Act.put, List.setIfInBounds_toArray, List.set_cons_zero, List.set_cons_succ]
                  refine AnyT.takeD (i := 2) (d := some 80) (v := .int .i64 (y : Int)) rfl rfl (by kernel_rfl) (by kernel_rfl) (by kernel_rfl) (by kernel_rfl) (fun _ _ _ h => h) (Or.inl ⟨by rfl, fun wz _ => by go_simp⟩) F0 ?_
                  simp only [Act.put, List.setIfInBounds_toArray, List.set_cons_zero, List.set_cons_succ]
                  refine AnyT.branch (rs := [3]) (by kernel_rfl) (by simp) ?_
                  refine all_cons (?_) all_nil
                  refine AnyT.enter (i := 3) (d := some 81) (f := 28) (args := #[jv jA vn jc wt, .int .i64 (x : Int), .int .i64 (y : Int)]) rfl rfl rfl (by go_simp) (HK1.out q0 (HIW.out q0 K0.out)) ?_
                  rintro e q1 ⟨rfl, hB1⟩
                  have K1 := Lib.hid (K0.out.trans (hB1.mono K0.out.size))
                  have F1 := HPS.out q1 K1.out
                  refine ⟨_, rfl, fun _ => F1, ?_⟩
                  clear hB1 F0 HK1
                  simp only [Act.put, List.setIfInBounds_toArray, List.set_cons_zero, List.set_cons_succ]
                  by_cases hr0 : r = 0
                  · subst hr0
                    have BZ := Lib.hid (BB.out.trans (K1.out.mono BB.out.size))
                    refine AnyT.takeD (i := 4) (d := some 82) (v := .bool true) rfl rfl (by kernel_rfl) (by kernel_rfl) (by kernel_rfl) (by kernel_rfl) (fun _ _ _ h => h) (Or.inl ⟨by rfl, fun wz _ => by go_simp⟩) F1 ?_
                    simp only [Act.put, List.setIfInBounds_toArray, List.set_cons_zero, List.set_cons_succ]
                    refine AnyT.takeD (i := 5) (d := some 83) (v := .bool true) rfl rfl (by kernel_rfl) (by kernel_rfl) (by kernel_rfl) (by kernel_rfl) (fun _ _ _ h => h) (Or.inl ⟨by rfl, fun wz _ => by go_simp⟩) F1 ?_
                    simp only [Act.put, List.setIfInBounds_toArray, List.set_cons_zero, List.set_cons_succ]
                    refine AnyT.takeD (i := 6) (d := some 84) (v := undef) rfl rfl (by kernel_rfl) (by kernel_rfl) (by kernel_rfl) (by kernel_rfl) (fun _ _ _ h => h) (Or.inr ⟨by rfl, rfl⟩) F1 ?_
                    simp only [Act.put, List.setIfInBounds_toArray, List.set_cons_zero, List.set_cons_succ]
                    refine AnyT.takeD (i := 7) (d := some 85) (v := undef) rfl rfl (by kernel_rfl) (by kernel_rfl) (by kernel_rfl) (by kernel_rfl) (fun _ _ _ h => h) (Or.inr ⟨by rfl, rfl⟩) F1 ?_
                    simp only [Act.put, List.setIfInBounds_toArray, List.set_cons_zero, List.set_cons_succ]
                    refine AnyT.takeD (i := 8) (d := some 86) (v := undef) rfl rfl (by kernel_rfl) (by kernel_rfl) (by kernel_rfl) (by kernel_rfl) (fun _ _ _ h => h) (Or.inr ⟨by rfl, rfl⟩) F1 ?_
                    simp only [Act.put, List.setIfInBounds_toArray, List.set_cons_zero, List.set_cons_succ]
                    refine AnyT.takeD (i := 9) (d := some 87) (v := undef) rfl rfl (by kernel_rfl) (by kernel_rfl) (by kernel_rfl) (by kernel_rfl) (fun _ _ _ h => h) (Or.inr ⟨by rfl, rfl⟩) F1 ?_
                    simp only [Act.put, List.setIfInBounds_toArray, List.set_cons_zero, List.set_cons_succ]
                    refine AnyT.takeD (i := 10) (d := some 88) (v := undef) rfl rfl (by kernel_rfl) (by kernel_rfl) (by kernel_rfl) (by kernel_rfl) (fun _ _ _ h => h) (Or.inr ⟨by rfl, rfl⟩) F1 ?_
                    simp only [Act.put, List.setIfInBounds_toArray, List.set_cons_zero, List.set_cons_succ]
                    refine AnyT.takeD (i := 11) (d := some 89) (v := undef) rfl rfl (by kernel_rfl) (by kernel_rfl) (by kernel_rfl) (by kernel_rfl) (fun _ _ _ h => h) (Or.inr ⟨by rfl, rfl⟩) F1 ?_
                    simp only [Act.put, List.setIfInBounds_toArray, List.set_cons_zero, List.set_cons_succ]
                    refine AnyT.takeD (i := 12) (d := some 90) (v := undef) rfl rfl (by kernel_rfl) (by kernel_rfl) (by kernel_rfl) (by kernel_rfl) (fun _ _ _ h => h) (Or.inr ⟨by rfl, rfl⟩) F1 ?_
                    simp only [Act.put, List.setIfInBounds_toArray, List.set_cons_zero, List.set_cons_succ]
                    refine AnyT.takeD (i := 13) (d := some 91) (v := undef) rfl rfl (by kernel_rfl) (by kernel_rfl) (by kernel_rfl) (by kernel_rfl) (fun _ _ _ h => h) (Or.inr ⟨by rfl, rfl⟩) F1 ?_
                    simp only [Act.put, List.setIfInBounds_toArray, List.set_cons_zero, List.set_cons_succ]
                    refine AnyT.takeD (i := 14) (d := some 92) (v := undef) rfl rfl (by kernel_rfl) (by kernel_rfl) (by kernel_rfl) (by kernel_rfl) (fun _ _ _ h => h) (Or.inr ⟨by rfl, rfl⟩) F1 ?_
                    simp only [Act.put, List.setIfInBounds_toArray, List.set_cons_zero, List.set_cons_succ]
                    refine AnyT.takeD (i := 15) (d := some 93) (v := undef) rfl rfl (by kernel_rfl) (by kernel_rfl) (by kernel_rfl) (by kernel_rfl) (fun _ _ _ h => h) (Or.inr ⟨by rfl, rfl⟩) F1 ?_
                    simp only [Act.put, List.setIfInBounds_toArray, List.set_cons_zero, List.set_cons_succ]
                    refine AnyT.takeD (i := 16) (d := some 94) (v := undef) rfl rfl (by kernel_rfl) (by kernel_rfl) (by kernel_rfl) (by kernel_rfl) (fun _ _ _ h => h) (Or.inr ⟨by rfl, rfl⟩) F1 ?_
                    simp only [Act.put, List.setIfInBounds_toArray, List.set_cons_zero, List.set_cons_succ]
                    refine AnyT.takeD (i := 17) (d := some 95) (v := undef) rfl rfl (by kernel_rfl) (by kernel_rfl) (by kernel_rfl) (by kernel_rfl) (fun _ _ _ h => h) (Or.inr ⟨by rfl, rfl⟩) F1 ?_
                    simp only [Act.put, List.setIfInBounds_toArray, List.set_cons_zero, List.set_cons_succ]
                    refine AnyT.takeD (i := 18) (d := some 96) (v := undef) rfl rfl (by kernel_rfl) (by kernel_rfl) (by kernel_rfl) (by kernel_rfl) (fun _ _ _ h => h) (Or.inr ⟨by rfl, rfl⟩) F1 ?_
                    simp only [Act.put, List.setIfInBounds_toArray, List.set_cons_zero, List.set_cons_succ]
                    refine AnyT.takeD (i := 19) (d := some 97) (v := undef) rfl rfl (by kernel_rfl) (by kernel_rfl) (by kernel_rfl) (by kernel_rfl) (fun _ _ _ h => h) (Or.inr ⟨by rfl, rfl⟩) F1 ?_
                    simp only [Act.put, List.setIfInBounds_toArray, List.set_cons_zero, List.set_cons_succ]
                    refine AnyT.takeD (i := 20) (d := some 98) (v := undef) rfl rfl (by kernel_rfl) (by kernel_rfl) (by kernel_rfl) (by kernel_rfl) (fun _ _ _ h => h) (Or.inr ⟨by rfl, rfl⟩) F1 ?_
                    simp only [Act.put, List.setIfInBounds_toArray, List.set_cons_zero, List.set_cons_succ]
                    refine AnyT.takeD (i := 21) (d := some 99) (v := undef) rfl rfl (by kernel_rfl) (by kernel_rfl) (by kernel_rfl) (by kernel_rfl) (fun _ _ _ h => h) (Or.inr ⟨by rfl, rfl⟩) F1 ?_
                    simp only [Act.put, List.setIfInBounds_toArray, List.set_cons_zero, List.set_cons_succ]
                    refine AnyT.takeD (i := 22) (d := some 100) (v := undef) rfl rfl (by kernel_rfl) (by kernel_rfl) (by kernel_rfl) (by kernel_rfl) (fun _ _ _ h => h) (Or.inr ⟨by rfl, rfl⟩) F1 ?_
                    simp only [Act.put, List.setIfInBounds_toArray, List.set_cons_zero, List.set_cons_succ]
                    refine AnyT.takeD (i := 23) (d := some 101) (v := undef) rfl rfl (by kernel_rfl) (by kernel_rfl) (by kernel_rfl) (by kernel_rfl) (fun _ _ _ h => h) (Or.inr ⟨by rfl, rfl⟩) F1 ?_
                    simp only [Act.put, List.setIfInBounds_toArray, List.set_cons_zero, List.set_cons_succ]
                    refine AnyT.takeD (i := 24) (d := some 102) (v := .bool true) rfl rfl (by kernel_rfl) (by kernel_rfl) (by kernel_rfl) (by kernel_rfl) (fun _ _ _ h => h) (Or.inl ⟨by rfl, fun wz _ => by go_simp⟩) F1 ?_
                    simp only [Act.put, List.setIfInBounds_toArray, List.set_cons_zero, List.set_cons_succ]
                    refine AnyT.takeD (i := 25) (d := some 103) (v := .bool true) rfl rfl (by kernel_rfl) (by kernel_rfl) (by kernel_rfl) (by kernel_rfl) (fun _ _ _ h => h) (Or.inl ⟨by rfl, fun wz _ => by go_simp⟩) F1 ?_
                    simp only [Act.put, List.setIfInBounds_toArray, List.set_cons_zero, List.set_cons_succ]
                    refine AnyT.takeD (i := 26) (d := some 104) (v := undef) rfl rfl (by kernel_rfl) (by kernel_rfl) (by kernel_rfl) (by kernel_rfl) (fun _ _ _ h => h) (Or.inr ⟨by rfl, rfl⟩) F1 ?_
                    simp only [Act.put, List.setIfInBounds_toArray, List.set_cons_zero, List.set_cons_succ]
                    refine AnyT.takeD (i := 27) (d := some 105) (v := undef) rfl rfl (by kernel_rfl) (by kernel_rfl) (by kernel_rfl) (by kernel_rfl) (fun _ _ _ h => h) (Or.inr ⟨by rfl, rfl⟩) F1 ?_
                    simp only [Act.put, List.setIfInBounds_toArray, List.set_cons_zero, List.set_cons_succ]
                    refine AnyT.takeD (i := 28) (d := some 106) (v := undef) rfl rfl (by kernel_rfl) (by kernel_rfl) (by kernel_rfl) (by kernel_rfl) (fun _ _ _ h => h) (Or.inr ⟨by rfl, rfl⟩) F1 ?_
                    simp only [Act.put, List.setIfInBounds_toArray, List.set_cons_zero, List.set_cons_succ]
                    refine AnyT.takeD (i := 29) (d := some 107) (v := undef) rfl rfl (by kernel_rfl) (by kernel_rfl) (by kernel_rfl) (by kernel_rfl) (fun _ _ _ h => h) (Or.inr ⟨by rfl, rfl⟩) F1 ?_
                    simp only [Act.put, List.setIfInBounds_toArray, List.set_cons_zero, List.set_cons_succ]
                    refine AnyT.takeD (i := 30) (d := some 108) (v := undef) rfl rfl (by kernel_rfl) (by kernel_rfl) (by kernel_rfl) (by kernel_rfl) (fun _ _ _ h => h) (Or.inr ⟨by rfl, rfl⟩) F1 ?_
                    simp only [Act.put, List.setIfInBounds_toArray, List.set_cons_zero, List.set_cons_succ]
                    refine AnyT.takeD (i := 31) (d := some 109) (v := undef) rfl rfl (by kernel_rfl) (by kernel_rfl) (by kernel_rfl) (by kernel_rfl) (fun _ _ _ h => h) (Or.inr ⟨by rfl, rfl⟩) F1 ?_
                    simp only [Act.put, List.setIfInBounds_toArray, List.set_cons_zero, List.set_cons_succ]
                    refine AnyT.takeD (i := 32) (d := some 110) (v := undef) rfl rfl (by kernel_rfl) (by kernel_rfl) (by kernel_rfl) (by kernel_rfl) (fun _ _ _ h => h) (Or.inr ⟨by rfl, rfl⟩) F1 ?_
                    simp only [Act.put, List.setIfInBounds_toArray, List.set_cons_zero, List.set_cons_succ]
                    refine AnyT.takeD (i := 33) (d := some 111) (v := .bool true) rfl rfl (by kernel_rfl) (by kernel_rfl) (by kernel_rfl) (by kernel_rfl) (fun _ _ _ h => h) (Or.inl ⟨by rfl, fun wz _ => by go_simp⟩) F1 ?_
                    simp only [Act.put, List.setIfInBounds_toArray, List.set_cons_zero, List.set_cons_succ]
                    refine AnyT.done_ (by kernel_rfl) ?_ _
                    clear F1 HPS HE0 K0 K1 HIW HS1 HCL
                    go_wp2_with fail
                    go_roundw
                    case rel => exact ⟨x + 1, by omega, by go_num, BZ⟩
                    case measure => simp [intOf]; omega
                  · have hrz : (r == 0) = false := beq_eq_false_iff_ne.2 hr0
                    refine AnyT.takeD (i := 4) (d := some 82) (v := .bool false) rfl rfl (by kernel_rfl) (by kernel_rfl) (by kernel_rfl) (by kernel_rfl) (fun _ _ _ h => h) (Or.inl ⟨by rfl, fun wz _ => by go_simp⟩) F1 ?_
                    simp only [Act.put, List.setIfInBounds_toArray, List.set_cons_zero, List.set_cons_succ]
                    refine AnyT.takeD (i := 5) (d := some 83) (v := .bool false) rfl rfl (by kernel_rfl) (by kernel_rfl) (by kernel_rfl) (by kernel_rfl) (fun _ _ _ h => h) (Or.inl ⟨by rfl, fun wz _ => by go_simp⟩) F1 ?_
                    simp only [Act.put, List.setIfInBounds_toArray, List.set_cons_zero, List.set_cons_succ]
                    refine AnyT.takeD (i := 6) (d := some 84) (v := .pointer (some ⟨g1, 0, none⟩)) rfl rfl (by kernel_rfl) (by kernel_rfl) (by kernel_rfl) (by kernel_rfl) (fun _ _ _ h => h) (Or.inl ⟨by rfl, fun wz _ => by go_simp⟩) F1 ?_
                    simp only [Act.put, List.setIfInBounds_toArray, List.set_cons_zero, List.set_cons_succ]
                    refine AnyT.takeD (i := 7) (d := some 85) (v := .pointer (some ⟨g1, 1, none⟩)) rfl rfl (by kernel_rfl) (by kernel_rfl) (by kernel_rfl) (by kernel_rfl) (fun _ _ _ h => h) (Or.inl ⟨by rfl, fun wz _ => by go_simp⟩) F1 ?_
                    simp only [Act.put, List.setIfInBounds_toArray, List.set_cons_zero, List.set_cons_succ]
                    refine AnyT.takeD (i := 8) (d := some 86) (v := .slice (some pad) vn vc) rfl rfl (by kernel_rfl) (by kernel_rfl) (by kernel_rfl) (by kernel_rfl) (fun _ _ _ h => h) (Or.inl ⟨by rfl, fun wz hz => by obtain ⟨z0, z1, z2, z3, z4⟩ := hz; go_simp⟩) F1 ?_
                    simp only [Act.put, List.setIfInBounds_toArray, List.set_cons_zero, List.set_cons_succ]
                    refine AnyT.takeD (i := 9) (d := some 87) (v := .int .i64 (x : Int)) rfl rfl (by kernel_rfl) (by kernel_rfl) (by kernel_rfl) (by kernel_rfl) (fun _ _ _ h => h) (Or.inl ⟨by rfl, fun wz _ => by go_simp⟩) F1 ?_
                    simp only [Act.put, List.setIfInBounds_toArray, List.set_cons_zero, List.set_cons_succ]
                    refine AnyT.takeD (i := 10) (d := some 88) (v := .pointer (some (pad.add x))) rfl rfl (by kernel_rfl) (by kernel_rfl) (by kernel_rfl) (by kernel_rfl) (fun _ _ _ h => h) (Or.inl ⟨by rfl, fun wz _ => by go_simp⟩) F1 ?_
                    simp only [Act.put, List.setIfInBounds_toArray, List.set_cons_zero, List.set_cons_succ]
                    refine AnyT.takeD (i := 11) (d := some 89) (v := .int .i64 ux) rfl rfl (by kernel_rfl) (by kernel_rfl) (by kernel_rfl) (by kernel_rfl) (fun _ _ _ h => h) (Or.inl ⟨by rfl, fun wz hz => by obtain ⟨z0, z1, z2, z3, z4⟩ := hz; go_simp⟩) F1 ?_
                    simp only [Act.put, List.setIfInBounds_toArray, List.set_cons_zero, List.set_cons_succ]
                    refine AnyT.takeD (i := 12) (d := some 90) (v := jv jA vn jc wt) rfl rfl (by kernel_rfl) (by kernel_rfl) (by kernel_rfl) (by kernel_rfl) (fun _ _ _ h => h) (Or.inl ⟨by rfl, fun wz hz => by obtain ⟨z0, z1, z2, z3, z4⟩ := hz; go_simp⟩) F1 ?_
                    simp only [Act.put, List.setIfInBounds_toArray, List.set_cons_zero, List.set_cons_succ]
                    refine AnyT.takeD (i := 13) (d := some 91) (v := .int .i64 (x : Int)) rfl rfl (by kernel_rfl) (by kernel_rfl) (by kernel_rfl) (by kernel_rfl) (fun _ _ _ h => h) (Or.inl ⟨by rfl, fun wz _ => by go_simp⟩) F1 ?_
                    simp only [Act.put, List.setIfInBounds_toArray, List.set_cons_zero, List.set_cons_succ]
                    refine AnyT.takeD (i := 14) (d := some 92) (v := .int .i64 (y : Int)) rfl rfl (by kernel_rfl) (by kernel_rfl) (by kernel_rfl) (by kernel_rfl) (fun _ _ _ h => h) (Or.inl ⟨by rfl, fun wz _ => by go_simp⟩) F1 ?_
                    simp only [Act.put, List.setIfInBounds_toArray, List.set_cons_zero, List.set_cons_succ]
                    refine AnyT.takeD (i := 17) (d := some 95) (v := .pointer (some ⟨g1, 0, none⟩)) rfl rfl (by kernel_rfl) (by kernel_rfl) (by kernel_rfl) (by kernel_rfl) (fun _ _ _ h => h) (Or.inl ⟨by rfl, fun wz _ => by go_simp⟩) F1 ?_
                    simp only [Act.put, List.setIfInBounds_toArray, List.set_cons_zero, List.set_cons_succ]
                    refine AnyT.takeD (i := 18) (d := some 96) (v := .pointer (some ⟨g1, 1, none⟩)) rfl rfl (by kernel_rfl) (by kernel_rfl) (by kernel_rfl) (by kernel_rfl) (fun _ _ _ h => h) (Or.inl ⟨by rfl, fun wz _ => by go_simp⟩) F1 ?_
                    simp only [Act.put, List.setIfInBounds_toArray, List.set_cons_zero, List.set_cons_succ]
                    refine AnyT.takeD (i := 19) (d := some 97) (v := .slice (some pad) vn vc) rfl rfl (by kernel_rfl) (by kernel_rfl) (by kernel_rfl) (by kernel_rfl) (fun _ _ _ h => h) (Or.inl ⟨by rfl, fun wz hz => by obtain ⟨z0, z1, z2, z3, z4⟩ := hz; go_simp⟩) F1 ?_
                    simp only [Act.put, List.setIfInBounds_toArray, List.set_cons_zero, List.set_cons_succ]
                    refine AnyT.takeD (i := 20) (d := some 98) (v := .int .i64 (y : Int)) rfl rfl (by kernel_rfl) (by kernel_rfl) (by kernel_rfl) (by kernel_rfl) (fun _ _ _ h => h) (Or.inl ⟨by rfl, fun wz _ => by go_simp⟩) F1 ?_
                    simp only [Act.put, List.setIfInBounds_toArray, List.set_cons_zero, List.set_cons_succ]
                    refine AnyT.takeD (i := 21) (d := some 99) (v := .pointer (some (pad.add y))) rfl rfl (by kernel_rfl) (by kernel_rfl) (by kernel_rfl) (by kernel_rfl) (fun _ _ _ h => h) (Or.inl ⟨by rfl, fun wz _ => by go_simp⟩) F1 ?_
                    simp only [Act.put, List.setIfInBounds_toArray, List.set_cons_zero, List.set_cons_succ]
                    refine AnyT.takeD (i := 22) (d := some 100) (v := .int .i64 uy) rfl rfl (by kernel_rfl) (by kernel_rfl) (by kernel_rfl) (by kernel_rfl) (fun _ _ _ h => h) (Or.inl ⟨by rfl, fun wz hz => by obtain ⟨z0, z1, z2, z3, z4⟩ := hz; go_simp⟩) F1 ?_
                    simp only [Act.put, List.setIfInBounds_toArray, List.set_cons_zero, List.set_cons_succ]
                    refine AnyT.branch (rs := [15]) (by kernel_rfl) (by simp) ?_
                    refine all_cons (?_) all_nil
                    refine AnyT.enterG (i := 15) (d := some 93) (f := 29) (args := #[jv jA vn jc wt, .int .i64 (x : Int), .int .i64 (y : Int)]) rfl (by rfl) rfl (by go_simp) (HS1.out q1 (HIW.out q1 K1.out)) ?_
                    rintro e q2 ⟨rfl, hB2⟩
                    have K2 := Lib.hid (K1.out.trans (hB2.mono K1.out.size))
                    have F2 := HPS.out q2 K2.out
                    refine ⟨_, rfl, fun _ => F2, ?_⟩
                    clear hB2 F1 HS1
                    simp only [Act.put, List.setIfInBounds_toArray, List.set_cons_zero, List.set_cons_succ]
                    have BZ := Lib.hid (BB.out.trans (K2.out.mono BB.out.size))
                    have hwr : IntKind.i64.wrap (ux + s1) = ux + s1 := IntWalk.i64_in _ (by omega)
                    by_cases hne : ux + s1 = uy
                    · have hneb : (ux + s1 != uy) = false := by rw [hne]; simp
                      have HNE := Lib.hid hne
                      clear hne
                      by_cases hu0 : uy = 0
                      · have hu0b : (uy == 0) = true := by rw [hu0]; rfl
                        clear hu0
                        refine AnyT.takeD (i := 16) (d := some 94) (v := .int .i64 (ux + s1)) rfl rfl (by kernel_rfl) (by kernel_rfl) (by kernel_rfl) (by kernel_rfl) (fun _ _ _ h => h) (Or.inl ⟨by rfl, fun wz _ => by go_simp⟩) F2 ?_
                        simp only [Act.put, List.setIfInBounds_toArray, List.set_cons_zero, List.set_cons_succ]
                        refine AnyT.takeD (i := 23) (d := some 101) (v := .bool false) rfl rfl (by kernel_rfl) (by kernel_rfl) (by kernel_rfl) (by kernel_rfl) (fun _ _ _ h => h) (Or.inl ⟨by rfl, fun wz _ => by go_simp⟩) F2 ?_
                        simp only [Act.put, List.setIfInBounds_toArray, List.set_cons_zero, List.set_cons_succ]
                        refine AnyT.takeD (i := 24) (d := some 102) (v := .bool false) rfl rfl (by kernel_rfl) (by kernel_rfl) (by kernel_rfl) (by kernel_rfl) (fun _ _ _ h => h) (Or.inl ⟨by rfl, fun wz _ => by go_simp⟩) F2 ?_
                        simp only [Act.put, List.setIfInBounds_toArray, List.set_cons_zero, List.set_cons_succ]
                        refine AnyT.takeD (i := 25) (d := some 103) (v := .bool false) rfl rfl (by kernel_rfl) (by kernel_rfl) (by kernel_rfl) (by kernel_rfl) (fun _ _ _ h => h) (Or.inl ⟨by rfl, fun wz _ => by go_simp⟩) F2 ?_
                        simp only [Act.put, List.setIfInBounds_toArray, List.set_cons_zero, List.set_cons_succ]
                        refine AnyT.takeD (i := 26) (d := some 104) (v := .pointer (some ⟨g1, 0, none⟩)) rfl rfl (by kernel_rfl) (by kernel_rfl) (by kernel_rfl) (by kernel_rfl) (fun _ _ _ h => h) (Or.inl ⟨by rfl, fun wz _ => by go_simp⟩) F2 ?_
                        simp only [Act.put, List.setIfInBounds_toArray, List.set_cons_zero, List.set_cons_succ]
                        refine AnyT.takeD (i := 27) (d := some 105) (v := .pointer (some ⟨g1, 1, none⟩)) rfl rfl (by kernel_rfl) (by kernel_rfl) (by kernel_rfl) (by kernel_rfl) (fun _ _ _ h => h) (Or.inl ⟨by rfl, fun wz _ => by go_simp⟩) F2 ?_
                        simp only [Act.put, List.setIfInBounds_toArray, List.set_cons_zero, List.set_cons_succ]
                        refine AnyT.takeD (i := 28) (d := some 106) (v := .slice (some pad) vn vc) rfl rfl (by kernel_rfl) (by kernel_rfl) (by kernel_rfl) (by kernel_rfl) (fun _ _ _ h => h) (Or.inl ⟨by rfl, fun wz hz => by obtain ⟨z0, z1, z2, z3, z4⟩ := hz; go_simp⟩) F2 ?_
                        simp only [Act.put, List.setIfInBounds_toArray, List.set_cons_zero, List.set_cons_succ]
                        refine AnyT.takeD (i := 29) (d := some 107) (v := .int .i64 (y : Int)) rfl rfl (by kernel_rfl) (by kernel_rfl) (by kernel_rfl) (by kernel_rfl) (fun _ _ _ h => h) (Or.inl ⟨by rfl, fun wz _ => by go_simp⟩) F2 ?_
                        simp only [Act.put, List.setIfInBounds_toArray, List.set_cons_zero, List.set_cons_succ]
                        refine AnyT.takeD (i := 30) (d := some 108) (v := .pointer (some (pad.add y))) rfl rfl (by kernel_rfl) (by kernel_rfl) (by kernel_rfl) (by kernel_rfl) (fun _ _ _ h => h) (Or.inl ⟨by rfl, fun wz _ => by go_simp⟩) F2 ?_
                        simp only [Act.put, List.setIfInBounds_toArray, List.set_cons_zero, List.set_cons_succ]
                        refine AnyT.takeD (i := 31) (d := some 109) (v := .int .i64 uy) rfl rfl (by kernel_rfl) (by kernel_rfl) (by kernel_rfl) (by kernel_rfl) (fun _ _ _ h => h) (Or.inl ⟨by rfl, fun wz hz => by obtain ⟨z0, z1, z2, z3, z4⟩ := hz; go_simp⟩) F2 ?_
                        simp only [Act.put, List.setIfInBounds_toArray, List.set_cons_zero, List.set_cons_succ]
                        refine AnyT.takeD (i := 32) (d := some 110) (v := .bool true) rfl rfl (by kernel_rfl) (by kernel_rfl) (by kernel_rfl) (by kernel_rfl) (fun _ _ _ h => h) (Or.inl ⟨by rfl, fun wz _ => by go_simp⟩) F2 ?_
                        simp only [Act.put, List.setIfInBounds_toArray, List.set_cons_zero, List.set_cons_succ]
                        refine AnyT.takeD (i := 33) (d := some 111) (v := .bool true) rfl rfl (by kernel_rfl) (by kernel_rfl) (by kernel_rfl) (by kernel_rfl) (fun _ _ _ h => h) (Or.inl ⟨by rfl, fun wz _ => by go_simp⟩) F2 ?_
                        simp only [Act.put, List.setIfInBounds_toArray, List.set_cons_zero, List.set_cons_succ]
                        refine AnyT.done_ (by kernel_rfl) ?_ _
                        clear F2 HPS HE0 K0 K1 K2 HIW HCL hrz hr0 HNE hneb hu0b hwr
                        go_wp2_with fail
                        go_roundw
                        case rel => exact ⟨x + 1, by omega, by go_num, BZ⟩
                        case measure => simp [intOf]; omega
                      · have hu0b : (uy == 0) = false := beq_eq_false_iff_ne.2 hu0
                        refine AnyT.takeD (i := 16) (d := some 94) (v := .int .i64 (ux + s1)) rfl rfl (by kernel_rfl) (by kernel_rfl) (by kernel_rfl) (by kernel_rfl) (fun _ _ _ h => h) (Or.inl ⟨by rfl, fun wz _ => by go_simp⟩) F2 ?_
                        simp only [Act.put, List.setIfInBounds_toArray, List.set_cons_zero, List.set_cons_succ]
                        refine AnyT.takeD (i := 23) (d := some 101) (v := .bool false) rfl rfl (by kernel_rfl) (by kernel_rfl) (by kernel_rfl) (by kernel_rfl) (fun _ _ _ h => h) (Or.inl ⟨by rfl, fun wz _ => by go_simp⟩) F2 ?_
                        simp only [Act.put, List.setIfInBounds_toArray, List.set_cons_zero, List.set_cons_succ]
                        refine AnyT.takeD (i := 24) (d := some 102) (v := .bool false) rfl rfl (by kernel_rfl) (by kernel_rfl) (by kernel_rfl) (by kernel_rfl) (fun _ _ _ h => h) (Or.inl ⟨by rfl, fun wz _ => by go_simp⟩) F2 ?_
                        simp only [Act.put, List.setIfInBounds_toArray, List.set_cons_zero, List.set_cons_succ]
                        refine AnyT.takeD (i := 25) (d := some 103) (v := .bool false) rfl rfl (by kernel_rfl) (by kernel_rfl) (by kernel_rfl) (by kernel_rfl) (fun _ _ _ h => h) (Or.inl ⟨by rfl, fun wz _ => by go_simp⟩) F2 ?_
                        simp only [Act.put, List.setIfInBounds_toArray, List.set_cons_zero, List.set_cons_succ]
                        refine AnyT.takeD (i := 26) (d := some 104) (v := .pointer (some ⟨g1, 0, none⟩)) rfl rfl (by kernel_rfl) (by kernel_rfl) (by kernel_rfl) (by kernel_rfl) (fun _ _ _ h => h) (Or.inl ⟨by rfl, fun wz _ => by go_simp⟩) F2 ?_
                        simp only [Act.put, List.setIfInBounds_toArray, List.set_cons_zero, List.set_cons_succ]
                        refine AnyT.takeD (i := 27) (d := some 105) (v := .pointer (some ⟨g1, 1, none⟩)) rfl rfl (by kernel_rfl) (by kernel_rfl) (by kernel_rfl) (by kernel_rfl) (fun _ _ _ h => h) (Or.inl ⟨by rfl, fun wz _ => by go_simp⟩) F2 ?_
                        simp only [Act.put, List.setIfInBounds_toArray, List.set_cons_zero, List.set_cons_succ]
                        refine AnyT.takeD (i := 28) (d := some 106) (v := .slice (some pad) vn vc) rfl rfl (by kernel_rfl) (by kernel_rfl) (by kernel_rfl) (by kernel_rfl) (fun _ _ _ h => h) (Or.inl ⟨by rfl, fun wz hz => by obtain ⟨z0, z1, z2, z3, z4⟩ := hz; go_simp⟩) F2 ?_
                        simp only [Act.put, List.setIfInBounds_toArray, List.set_cons_zero, List.set_cons_succ]
                        refine AnyT.takeD (i := 29) (d := some 107) (v := .int .i64 (y : Int)) rfl rfl (by kernel_rfl) (by kernel_rfl) (by kernel_rfl) (by kernel_rfl) (fun _ _ _ h => h) (Or.inl ⟨by rfl, fun wz _ => by go_simp⟩) F2 ?_
                        simp only [Act.put, List.setIfInBounds_toArray, List.set_cons_zero, List.set_cons_succ]
                        refine AnyT.takeD (i := 30) (d := some 108) (v := .pointer (some (pad.add y))) rfl rfl (by kernel_rfl) (by kernel_rfl) (by kernel_rfl) (by kernel_rfl) (fun _ _ _ h => h) (Or.inl ⟨by rfl, fun wz _ => by go_simp⟩) F2 ?_
                        simp only [Act.put, List.setIfInBounds_toArray, List.set_cons_zero, List.set_cons_succ]
                        refine AnyT.takeD (i := 31) (d := some 109) (v := .int .i64 uy) rfl rfl (by kernel_rfl) (by kernel_rfl) (by kernel_rfl) (by kernel_rfl) (fun _ _ _ h => h) (Or.inl ⟨by rfl, fun wz hz => by obtain ⟨z0, z1, z2, z3, z4⟩ := hz; go_simp⟩) F2 ?_
                        simp only [Act.put, List.setIfInBounds_toArray, List.set_cons_zero, List.set_cons_succ]
                        refine AnyT.takeD (i := 32) (d := some 110) (v := .bool false) rfl rfl (by kernel_rfl) (by kernel_rfl) (by kernel_rfl) (by kernel_rfl) (fun _ _ _ h => h) (Or.inl ⟨by rfl, fun wz _ => by go_simp⟩) F2 ?_
                        simp only [Act.put, List.setIfInBounds_toArray, List.set_cons_zero, List.set_cons_succ]
                        refine AnyT.takeD (i := 33) (d := some 111) (v := .bool false) rfl rfl (by kernel_rfl) (by kernel_rfl) (by kernel_rfl) (by kernel_rfl) (fun _ _ _ h => h) (Or.inl ⟨by rfl, fun wz _ => by go_simp⟩) F2 ?_
                        simp only [Act.put, List.setIfInBounds_toArray, List.set_cons_zero, List.set_cons_succ]
                        refine AnyT.done_ (by kernel_rfl) ?_ _
                        have HC2 := Lib.hid (HCL.out hr0 HNE.out)
                        clear F2 HPS HE0 K0 K1 K2 HIW HCL hrz hr0 HNE hneb hu0 hu0b hwr
                        have S9 := Lib.hid (S4.out.below BZ.out)
                        have Q9 := Lib.hid (Q4.out.below BZ.out)
                        obtain ⟨p0, p1, p2, -, pl⟩ := Q9.out.box
                        have B9 := (Below.refl q2.heap.size q2).alloc (Nat.le_refl _) (qcells st (some pad) vn vc uA un uc)
                        have RA := Lib.hid (QBox.new (w := q2) (st := st) (A := some pad) (n := vn) (c := vc) (B := uA) (m := un) (d := uc) q2.heap.size rfl)
                        have QA := Lib.hid (Q9.out.below B9)
                        have BA := Lib.hid (BZ.out.trans (B9.mono BZ.out.size))
                        have hqs : w5.heap.size ≤ q2.heap.size := BZ.out.size
                        obtain ⟨g3, hg3⟩ : ∃ g, g = q2.heap.size := ⟨_, rfl⟩
                        go_upto_region 23 with fail
                        rw [← hg3] at RA hqs ⊢
                        generalize q2.alloc (qcells st (some pad) vn vc uA un uc) = w9 at *
                        clear p0 p1 p2 pl hg3 B9 S9 Q9 BZ
                        obtain ⟨p0, p1, p2, -, pl⟩ := QA.out.box
                        have HRV := Lib.hid (((own_read QA.out.ov).2.1).below ((Below.refl w9.heap.size w9).alloc (Nat.le_refl _) (.cells #[] 3)))
                        have h0n : 0 < vn := by omega
                        go_wp2_with (first | (at_builtin; refine wpList_copyS _ rfl (.tmp 113) (.tmp 116) rfl w9 rfl rfl (some pad) vn vc v HVN.out rfl HRV.out h0n (fun e => by cases e) (by omega) ?_; intro gn ac w10 O1 B1; have RB := Lib.hid (RA.out.below B1 RA.out.lt); obtain ⟨r0, r1, r2, rf, rl⟩ := RB.out; have rf1 := rf 1; clear rf p0 p1 p2 pl))
                        have hgn : w9.heap.size ≤ gn := (own_block O1 rfl).1
                        have hg9 : g3 < w9.heap.size := RA.out.lt
                        have hg35 : g1 < g3 := Nat.lt_of_lt_of_le Q4.out.box.lt hqs
                        have RC := Lib.hid (RB.out.set1 (some ⟨gn, 0, none⟩) vn ac)
                        have hgne : gn ≠ g3 := by omega
                        have OC := Lib.hid (O1.setN (p := ⟨g3, 1, none⟩) (fun q e => (show gn = q by simpa [Value.ownBlock] using e) ▸ hgne) (.slice (some ⟨gn, 0, none⟩) vn ac))
                        have BC := Lib.hid ((BA.out.trans (B1.mono BA.out.size)).setCell (p := ⟨g3, 1, none⟩) hqs (.slice (some ⟨gn, 0, none⟩) vn ac))
                        clear RB O1 B1 BA RA QA HRV
                        generalize w10.setCell ⟨g3, 1, none⟩ (.slice (some ⟨gn, 0, none⟩) vn ac) = w11 at *
                        clear r0 r1 r2 rl rf1
                        have QC := Lib.hid (Q4.out.below BC.out)
                        have SC := Lib.hid (S4.out.below BC.out)
                        obtain ⟨p0, p1, p2, -, pl⟩ := QC.out.box
                        obtain ⟨r0, r1, r2, -, rl⟩ := RC.out
                        obtain ⟨pad2, e2, -, cy⟩ := (own_read QC.out.ov).2.1 y (by rw [← HVN.out]; exact hly)
                        obtain rfl : pad = pad2 := by injection e2
                        rw [← HUY.out] at cy
                        have hfz := OC.out.frozen HVN.out y
                        have hcz := OC.out.cell HVN.out y (by rw [← HVN.out]; exact hly)
                        rw [← HUY.out] at hcz
                        have OD := Lib.hid (OC.out.store HVN.out y (uy - 1))
                        have RD := Lib.hid (RC.out.setO (p := ⟨gn, y, none⟩) hgne (.int .i64 (uy - 1)))
                        have BD := Lib.hid (BC.out.setCell (p := ⟨gn, y, none⟩) (by show w5.heap.size ≤ gn; omega) (.int .i64 (uy - 1)))
                        have hw1 : IntKind.i64.wrap (uy - 1) = uy - 1 := IntWalk.i64_in _ (by omega)
                        have hy0 : (0 : Int) ≤ (y : Int) := by omega
                        clear e2 QC SC OC RC BC
                        go_region
                        have KD : Below (w11.setCell ⟨gn, y, none⟩ (.int .i64 (uy - 1))).heap.size (w11.setCell ⟨gn, y, none⟩ (.int .i64 (uy - 1))) (w11.setCell ⟨gn, y, none⟩ (.int .i64 (uy - 1))).drew := (Below.refl _ _).drew
                        have OE := Lib.hid (OD.out.below KD)
                        have RE := Lib.hid (RD.out.below KD RD.out.lt)
                        have BE := Lib.hid (BD.out.trans (KD.mono BD.out.size))
                        clear OD RD BD KD p0 p1 p2 pl r0 r1 r2 rl cy hfz hcz hw1 hy0
                        generalize (w11.setCell ⟨gn, y, none⟩ (.int .i64 (uy - 1))).drew = w12 at *
                        have SE := Lib.hid (S4.out.below BE.out)
                        have QE := Lib.hid (Q4.out.below BE.out)
                        obtain ⟨en, eR, em⟩ := own_read OE.out
                        obtain ⟨fn, fR, fm⟩ := own_read QE.out.ou
                        have HCK := Lib.hid (check_any l jA jc vn wt st (v.set y (uy - 1)) ch (some ⟨gn, 0, none⟩) vn ac uA un uc HL.out en fn em fm w12 SE.out.irow eR fR)
                        have J := SE.out.box
                        rw [← HL.out] at J
                        obtain ⟨j0, j1, jl⟩ := J
                        obtain ⟨r0, r1, r2, -, rl⟩ := RE.out
                        generalize chkE l wt st (v.set y (uy - 1)) ch = ce at *
                        have hce := HC2.out
                        clear en eR em fn fR fm HC2
                        go_wp2_with fail
                        refine HCK.out.mono ?_
                        rintro e wy ⟨rfl, By⟩
                        have BF := Lib.hid (BE.out.trans (By.mono BE.out.size))
                        clear By j0 j1 jl r0 r1 r2 rl HCK SE QE OE RE BE
                        rcases hce with rfl | rfl
                        · go_wp2_with fail
                          go_roundw
                          case rel => exact ⟨x + 1, by omega, by go_num, BF⟩
                          case measure => simp [intOf]; omega
                        · go_wp2_with fail
                          go_roundw
                          case rel => exact ⟨x + 1, by omega, by go_num, BF⟩
                          case measure => simp [intOf]; omega
                    · have hneb : (ux + s1 != uy) = true := bne_iff_ne.2 hne
                      refine AnyT.takeD (i := 16) (d := some 94) (v := .int .i64 (ux + s1)) rfl rfl (by kernel_rfl) (by kernel_rfl) (by kernel_rfl) (by kernel_rfl) (fun _ _ _ h => h) (Or.inl ⟨by rfl, fun wz _ => by go_simp⟩) F2 ?_
                      simp only [Act.put, List.setIfInBounds_toArray, List.set_cons_zero, List.set_cons_succ]
                      refine AnyT.takeD (i := 23) (d := some 101) (v := .bool true) rfl rfl (by kernel_rfl) (by kernel_rfl) (by kernel_rfl) (by kernel_rfl) (fun _ _ _ h => h) (Or.inl ⟨by rfl, fun wz _ => by go_simp⟩) F2 ?_
                      simp only [Act.put, List.setIfInBounds_toArray, List.set_cons_zero, List.set_cons_succ]
                      refine AnyT.takeD (i := 24) (d := some 102) (v := .bool true) rfl rfl (by kernel_rfl) (by kernel_rfl) (by kernel_rfl) (by kernel_rfl) (fun _ _ _ h => h) (Or.inl ⟨by rfl, fun wz _ => by go_simp⟩) F2 ?_
                      simp only [Act.put, List.setIfInBounds_toArray, List.set_cons_zero, List.set_cons_succ]
                      refine AnyT.takeD (i := 25) (d := some 103) (v := .bool true) rfl rfl (by kernel_rfl) (by kernel_rfl) (by kernel_rfl) (by kernel_rfl) (fun _ _ _ h => h) (Or.inl ⟨by rfl, fun wz _ => by go_simp⟩) F2 ?_
                      simp only [Act.put, List.setIfInBounds_toArray, List.set_cons_zero, List.set_cons_succ]
                      refine AnyT.takeD (i := 26) (d := some 104) (v := undef) rfl rfl (by kernel_rfl) (by kernel_rfl) (by kernel_rfl) (by kernel_rfl) (fun _ _ _ h => h) (Or.inr ⟨by rfl, rfl⟩) F2 ?_
                      simp only [Act.put, List.setIfInBounds_toArray, List.set_cons_zero, List.set_cons_succ]
                      refine AnyT.takeD (i := 27) (d := some 105) (v := undef) rfl rfl (by kernel_rfl) (by kernel_rfl) (by kernel_rfl) (by kernel_rfl) (fun _ _ _ h => h) (Or.inr ⟨by rfl, rfl⟩) F2 ?_
                      simp only [Act.put, List.setIfInBounds_toArray, List.set_cons_zero, List.set_cons_succ]
                      refine AnyT.takeD (i := 28) (d := some 106) (v := undef) rfl rfl (by kernel_rfl) (by kernel_rfl) (by kernel_rfl) (by kernel_rfl) (fun _ _ _ h => h) (Or.inr ⟨by rfl, rfl⟩) F2 ?_
                      simp only [Act.put, List.setIfInBounds_toArray, List.set_cons_zero, List.set_cons_succ]
                      refine AnyT.takeD (i := 29) (d := some 107) (v := undef) rfl rfl (by kernel_rfl) (by kernel_rfl) (by kernel_rfl) (by kernel_rfl) (fun _ _ _ h => h) (Or.inr ⟨by rfl, rfl⟩) F2 ?_
                      simp only [Act.put, List.setIfInBounds_toArray, List.set_cons_zero, List.set_cons_succ]
                      refine AnyT.takeD (i := 30) (d := some 108) (v := undef) rfl rfl (by kernel_rfl) (by kernel_rfl) (by kernel_rfl) (by kernel_rfl) (fun _ _ _ h => h) (Or.inr ⟨by rfl, rfl⟩) F2 ?_
                      simp only [Act.put, List.setIfInBounds_toArray, List.set_cons_zero, List.set_cons_succ]
                      refine AnyT.takeD (i := 31) (d := some 109) (v := undef) rfl rfl (by kernel_rfl) (by kernel_rfl) (by kernel_rfl) (by kernel_rfl) (fun _ _ _ h => h) (Or.inr ⟨by rfl, rfl⟩) F2 ?_
                      simp only [Act.put, List.setIfInBounds_toArray, List.set_cons_zero, List.set_cons_succ]
                      refine AnyT.takeD (i := 32) (d := some 110) (v := undef) rfl rfl (by kernel_rfl) (by kernel_rfl) (by kernel_rfl) (by kernel_rfl) (fun _ _ _ h => h) (Or.inr ⟨by rfl, rfl⟩) F2 ?_
                      simp only [Act.put, List.setIfInBounds_toArray, List.set_cons_zero, List.set_cons_succ]
                      refine AnyT.takeD (i := 33) (d := some 111) (v := .bool true) rfl rfl (by kernel_rfl) (by kernel_rfl) (by kernel_rfl) (by kernel_rfl) (fun _ _ _ h => h) (Or.inl ⟨by rfl, fun wz _ => by go_simp⟩) F2 ?_
                      simp only [Act.put, List.setIfInBounds_toArray, List.set_cons_zero, List.set_cons_succ]
                      refine AnyT.done_ (by kernel_rfl) ?_ _
                      clear F2 HPS HE0 K0 K1 K2 HIW HCL hrz hr0 hne hneb hwr
                      go_wp2_with fail
                      go_roundw
                      case rel => exact ⟨x + 1, by omega, by go_num, BZ⟩
                      case measure => simp [intOf]; omega
                · obtain rfl : x = vn := by omega
                  go_wp2_with fail
                  go_roundw
                  case rel => exact ⟨y + 1, by omega, by go_num, BB⟩
                  case measure => simp [intOf]; omega
            · obtain rfl : y = vn := by omega
              go_wp2_with fail
              refine (HSN.out _ BB.out).mono ?_
              rintro e wz ⟨rfl, BZ⟩
              go_wp2_with fail
              go_ret
              exact ⟨rfl, BZ⟩
theorem ref_law (a : Option Addr) (len cap : Nat) (zs : List Int) (lA : Option Addr) (ln lc : Nat) (ls : List Int) (w : World) (h : IsRow .i64 w a len cap zs) (k : IsRow .i64 w lA ln lc ls) :
    Calls Try.prog 7 #[.slice a len cap, .slice lA ln lc] w fun e w' => e = .returned (.bool true) ∧ Below w.heap.size w w' := by
  obtain ⟨l, rfl, h1, h2, h3⟩ := h.row
  obtain ⟨l2, rfl, k1, k2, k3⟩ := k.row
  exact ref_walk a cap l lA _ lc l2 w h1 h2 h3 k1 rfl k2
end Go.Proofs.Ytlagadbkencpbaa
