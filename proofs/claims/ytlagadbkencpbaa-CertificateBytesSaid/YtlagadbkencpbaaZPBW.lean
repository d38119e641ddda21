/-
  Stage 15: the walk of CertificateBytes.
-/
import Derived.Test.YtlagadbkencpbaaBE1
import Derived.Test.YtlagadbkencpbaaBA3
import Derived.Test.YtlagadbkencpbaaBD1
import Derived.Test.YtlagadbkencpbaaBC1
import Derived.Test.YtlagadbkencpbaaZPXW
import Derived.Deep.CutBlock
set_option linter.unusedSimpArgs false
set_option linter.unusedVariables false
namespace Go.Proofs.Ytlagadbkencpbaa
open Go.RowKit Go.Lib

/-- A proof in a box, wherever its lists lie. -/
structure ZRow (w : World) (g : Nat) (st : Int) (A : Option Addr) (n c : Nat) (B : Option Addr) (m d : Nat) (v u : List Int) : Prop where
  box : QBox w g st A n c B m d
  nv : n = v.length
  nu : m = u.length
  rv : Row .i64 w w.heap.size A v
  ru : Row .i64 w w.heap.size B u
  lv : v.length ≤ maxLen
  lu : u.length ≤ maxLen
theorem ZRow.below {w w' : World} {g n c m d : Nat} {st : Int} {A B : Option Addr} {v u : List Int} (h : ZRow w g st A n c B m d v u) (k : Below w.heap.size w w') : ZRow w' g st A n c B m d v u :=
  ⟨h.box.below k h.box.lt, h.nv, h.nu, h.rv.below k, h.ru.below k, h.lv, h.lu⟩
theorem QSt.zrow {wr : World} {m g n c nn d : Nat} {st : Int} {A B : Option Addr} {v ch : List Int} (h : QSt wr m g st A n c B nn d v ch) : ZRow wr g st A n c B nn d v ch := by
  obtain ⟨a1, a2, a3⟩ := own_read h.ov
  obtain ⟨b1, b2, b3⟩ := own_read h.ou
  exact ⟨h.box, a1, b1, a2, b2, a3, b3⟩
theorem ZRow.new {w2 : World} {n c m d base : Nat} {st : Int} {A B : Option Addr} {v u : List Int} (O : Own .i64 3 w2 base (.slice A n c) v) (U : Own .i64 3 w2 base (.slice B m d) u) (g : Nat) (hg : g = w2.heap.size) : ZRow (w2.alloc (qcells st A n c B m d)) g st A n c B m d v u := by
  have k := (Below.refl w2.heap.size w2).alloc (Nat.le_refl _) (qcells st A n c B m d)
  obtain ⟨a1, a2, a3⟩ := own_read O
  obtain ⟨b1, b2, b3⟩ := own_read U
  exact ⟨QBox.new g hg, a1, b1, a2.below k, b2.below k, a3, b3⟩
/-- Three byte slices in a list. -/
structure LitB (W : World) (g : Nat) (v0 v1 v2 : Value) : Prop where
  c0 : W.cell? ⟨g, 0, none⟩ = some v0
  c1 : W.cell? ⟨g, 1, none⟩ = some v1
  c2 : W.cell? ⟨g, 2, none⟩ = some v2
  lt : g < W.heap.size
theorem LitB.keep {W W' : World} {g K : Nat} {v0 v1 v2 : Value} (h : LitB W g v0 v1 v2) (k : Below K W W') (hK : g < K) : LitB W' g v0 v1 v2 :=
  ⟨(k.cell (p := ⟨g, 0, none⟩) hK).trans h.c0, (k.cell (p := ⟨g, 1, none⟩) hK).trans h.c1, (k.cell (p := ⟨g, 2, none⟩) hK).trans h.c2, Nat.lt_of_lt_of_le h.lt k.size⟩
theorem LitB.new {W : World} {v0 v1 v2 : Value} {T : TypeId} (g : Nat) (hg : g = W.heap.size) : LitB (W.alloc (.cells #[v0, v1, v2] T)) g v0 v1 v2 := by
  subst hg; exact ⟨by rw [cell_new]; rfl, by rw [cell_new]; rfl, by rw [cell_new]; rfl, by simp⟩
set_option maxRecDepth 100000 in
set_option maxHeartbeats 12800000 in
theorem byt15_walk (A : Option Addr) (c : Nat) (zs : List Int) (pst : Int) (vA : Option Addr) (vn vc : Nat) (uA : Option Addr) (un uc : Nat) (pv ph : List Int) (bA : Option Addr) (bn bc : Nat) (bl : List Int) (w : World) (hr : Row .i64 w w.heap.size A zs) (hm : zs.length ≤ maxLen) (hw : ∀ n ∈ zs, (Lit.int .i64 n).wf = true)
    (hv : Row .i64 w w.heap.size vA pv) (hvn : vn = pv.length) (hvm : pv.length ≤ maxLen) (hu : Row .i64 w w.heap.size uA ph) (hun : un = ph.length) (hum : ph.length ≤ maxLen) (hvz : vn ≤ 140737488355328) (huz : un ≤ 140737488355328)
    (hbr : Row .u8 w w.heap.size bA bl) (hbn : bn = bl.length) (hbc : bn ≤ bc ∧ bc ≤ maxLen) (hb8 : BB8 bl) :
    Calls Try.prog 5 #[.slice A zs.length c, qv pst vA vn vc uA un uc, .slice bA bn bc] w fun e w' => e = .returned (.bool true) ∧ Below w.heap.size w w' := by
  have HB0 := Lib.hid ((Below.refl w.heap.size w).alloc (Nat.le_refl _) (qcells pst vA vn vc uA un uc))
  have P0 := Lib.hid (QBox.new (w := w) (st := pst) (A := vA) (n := vn) (c := vc) (B := uA) (m := un) (d := uc) w.heap.size rfl)
  have HR0 := Lib.hid (hr.below HB0.out)
  have HMM := Lib.hid hm
  have HWW := Lib.hid hw
  have HPV := Lib.hid (fun (W : World) (k : Below w.heap.size w W) => And.intro (hv.below k) (hu.below k))
  have HBY := Lib.hid (fun (W : World) (k : Below w.heap.size w W) => hbr.below k)
  have HPN := Lib.hid (And.intro (And.intro hvn hun) (And.intro hvm hum))
  have HBN := Lib.hid (And.intro hbn (And.intro hbc hb8))
  have hbc9 : bc ≤ 9223372036854775807 := hbc.2
  have hbn9 : bn ≤ 9223372036854775807 := Nat.le_trans hbc.1 hbc9
  obtain ⟨b0, hb0⟩ : ∃ b, b = w.heap.size := ⟨_, rfl⟩
  have HB00 := Lib.hid hb0
  clear hr hm hw hv hvn hvm hu hun hum hbr hbn hbc hb8
  go_enter Try.func5, Try.ntmps5
  go_upto_region 1 with fail
  rw [← hb0] at P0 ⊢
  generalize w.alloc (qcells pst vA vn vc uA un uc) = w0 at *
  clear hb0
  have K := Lib.hid (mk_row (c := c) (T := 72) HR0.out HMM.out HWW.out)
  have B := Lib.hid ((Below.refl w0.heap.size w0).alloc (Nat.le_refl _) (.cells #[.slice A zs.length c, .int .i64 0] 72))
  go_wp2_with fail
  refine (new_any A zs.length c w0).mono ?_
  rintro e w1 ⟨rfl, hw1⟩
  rw [← hw1] at K B
  have HBM := Lib.hid (show b0 < w0.heap.size from P0.out.lt)
  obtain ⟨m, hmm⟩ : ∃ m, m = w0.heap.size := ⟨_, rfl⟩
  have HMW := Lib.hid (show w.heap.size ≤ m by rw [hmm]; exact HB0.out.size)
  have HJW := Lib.hid (show ∀ W, Below m w0 W → QBox W b0 pst vA vn vc uA un uc from fun W k => P0.out.below k (by rw [hmm]; exact HBM.out))
  have HBA := Lib.hid (show ∀ W, Below m w0 W → Below w.heap.size w W from fun W k => HB0.out.trans (k.mono HMW.out))
  have hb0m : b0 < m := by rw [hmm]; exact HBM.out
  rw [← hmm] at K B ⊢
  clear hw1 hmm P0 HR0 HMM HWW HB0 HBM
  go_wp2_with fail
  go_loopw [8] (fun iv wr => ∃ (i M : Nat), i ≤ 3 ∧ iv = .int .i64 (i : Int) ∧ M ≤ 200 * i ∧ Hid (IsMk wr m M) ∧ Hid (Below m w0 wr)) (fun iv _ => 3 - (intOf iv).toNat)
  case atStart => exact ⟨0, 0, by omega, rfl, by omega, K, B⟩
  case round =>
    clear K B
    obtain ⟨i, M, hi, rfl, hM, K, B⟩ := hrel
    by_cases hlt : i < 3
    · have hii : (i : Int) < 3 := by omega
      go_wp2_with fail
      refine (mjob_any m M 10 wr K.out (by omega) (by omega)).mono ?_
      rintro e w2 ⟨pA, pc, l, wt, rfl, O, hl, hrun, hwt, K2, V2⟩
      have hkl := K.out.lt
      have HVAL := Lib.hid (valid_of (l := l) (wt := wt) (by omega) hrun hwt)
      have B2 := Lib.hid (Moves.below B.out V2 (Nat.le_refl _) (Nat.le_of_lt hkl))
      have hm2 : m < w2.heap.size := K2.lt
      have K2 := Lib.hid K2
      have HL10 := Lib.hid hl
      have HMK := Lib.hid (rmake_any l pA pc l.length wt rfl w2 O.irow)
      clear K B O V2 hkl hl hrun hwt
      go_wp2_with fail
      refine HMK.out.mono ?_
      rintro e w4 ⟨st, yA, yn, yc, yB, ym, yd, er, v, ch, rfl, OY, OYC, B4, hmk⟩
      obtain ⟨hcl, hvl, hsp⟩ := make_chX HVAL.out hmk
      have HCL := Lib.hid hcl
      have HVL := Lib.hid (show v.length ≤ 12 by have := HL10.out; omega)
      have HSP := Lib.hid hsp
      have BX := (Below.refl w4.heap.size w4).alloc (Nat.le_refl _) (qcells st yA yn yc yB ym yd)
      have QZ := Lib.hid (QSt.new (m := m) (st := st) OY OYC (show m + 1 ≤ w2.heap.size by omega) w4.heap.size rfl (by have := B4.size; omega))
      have K5 := Lib.hid ((K2.out.stays' B4).stays' BX)
      have B5 := Lib.hid ((B2.out.trans (B4.mono (Nat.le_of_lt hm2))).trans (BX.mono (by have := B4.size; omega)))
      have HGM := Lib.hid (show m < w4.heap.size by have := B4.size; omega)
      clear B2 K2 B4 BX OY OYC hmk hcl hvl hsp HMK hm2 HVAL HL10
      go_upto_block 2 with fail
      obtain ⟨gz, hgz⟩ : ∃ g, g = w4.heap.size := ⟨_, rfl⟩
      rw [← hgz] at QZ HGM ⊢
      generalize w4.alloc (qcells st yA yn yc yB ym yd) = w5 at *
      clear hgz
      go_cut [37] from 38 to 56 (fun sv wx => ∃ (st' : Int) (zA : Option Addr) (zn zc : Nat) (zB : Option Addr) (zm zd : Nat) (v' u' : List Int), Hid (ZRow wx gz st' zA zn zc zB zm zd v' u') ∧ Hid (IsMk wx m (M + 5 + 5 * 10 + 6)) ∧ Hid (Below m w0 wx))
      case first =>
        have hgm := HGM.out
        by_cases h1 : i = 1
        · subst h1
          have h1b : (((1 : Nat) : Int) == 1) = true := rfl
          obtain ⟨x0, x1, x2, -, xl⟩ := QZ.out.box
          obtain ⟨a1, a2, a3⟩ := own_read QZ.out.ov
          obtain ⟨b1, b2, b3⟩ := own_read QZ.out.ou
          have HSO := Lib.hid (show Calls Try.prog 17 #[.pointer (some ⟨m, 0, none⟩), qv st yA yn yc yB ym yd] w5 (SpoPost m (M + 5 + 5 * 10) 12 4095 yn ym w5) from
            spo_any m (M + 5 + 5 * 10) st v ch yA yB yn yc ym yd 12 4095 w5 K5.out (by omega) a1 b1 a2 b2 (own_noneX QZ.out.ov) (own_noneX QZ.out.ou) (by have := HVL.out; omega) (by have := HCL.out; omega) (by omega) (by omega) HSP.out)
          have HYN := Lib.hid (show yn ≤ 12 ∧ ym ≤ 96 from ⟨by have := HVL.out; omega, by have := HCL.out; omega⟩)
          clear a1 a2 a3 b1 b2 b3
          go_wp2_with fail
          refine HSO.out.mono ?_
          rintro e w9 ⟨s1, sA, sc, sB, sn, sd, sv, sh, rfl, OS, OSC, K9, M9, hb9, hsn⟩
          obtain ⟨a1, a2, a3⟩ := own_read OS
          obtain ⟨b1, b2, b3⟩ := own_read OSC
          have HSO2 := Lib.hid (show Calls Try.prog 17 #[.pointer (some ⟨m, 0, none⟩), qv s1 sA yn sc sB sn sd] w9 (SpoPost m (M + 5 + 5 * 10 + 3) (12 + 1) (4095 + 4) yn sn w9) from
            spo_any m (M + 5 + 5 * 10 + 3) s1 sv sh sA sB yn sc sn sd (12 + 1) (4095 + 4) w9 K9 (by omega) a1 b1 a2 b2 (own_noneX OS) (own_noneX OSC) (by have := HYN.out; omega) (by have := HYN.out; omega) (by omega) (by omega) hb9)
          have QZ9 := Lib.hid (QZ.out.step M9)
          have B9 := Lib.hid (Moves.below B5.out M9 (Nat.le_refl _) (by have := K5.out.lt; omega))
          have hmw9 := Lib.hid (show m < w9.heap.size from K9.lt)
          clear a1 a2 a3 b1 b2 b3 OS OSC K9 M9 hb9 x0 x1 x2 xl HSO
          go_wp2_with fail
          refine HSO2.out.mono ?_
          rintro e w12 ⟨s2, tA, tc, tB, tn, td, tv, th, rfl, OT, OTC, K12, M12, hb12, htn⟩
          have QS12 := QZ9.out.step M12
          have hgw : gz < w9.heap.size := QZ9.out.box.lt
          have nt : ∀ q, (Value.slice tA yn tc).ownBlock = some q → q ≠ gz := fun q e => by have := (own_block OT e).1; omega
          have nu : ∀ q, (Value.slice tB tn td).ownBlock = some q → q ≠ gz := fun q e => by have := (own_block OTC e).1; omega
          have hmw := hmw9.out
          have QT := Lib.hid (QS12.put (st' := s2) (OT.base (show m + 1 ≤ w9.heap.size by omega)) (OTC.base (show m + 1 ≤ w9.heap.size by omega)) nt nu)
          have K13 := Lib.hid (((K12.setCell (p := ⟨gz, 0, none⟩) hgm (.int .i64 s2)).setCell (p := ⟨gz, 1, none⟩) hgm (.slice tA yn tc)).setCell (p := ⟨gz, 2, none⟩) hgm (.slice tB tn td))
          have B13 := Lib.hid ((((Moves.below B9.out M12 (Nat.le_refl _) (Nat.le_of_lt hmw)).setCell (p := ⟨gz, 0, none⟩) (Nat.le_of_lt hgm) (.int .i64 s2)).setCell (p := ⟨gz, 1, none⟩) (Nat.le_of_lt hgm) (.slice tA yn tc)).setCell (p := ⟨gz, 2, none⟩) (Nat.le_of_lt hgm) (.slice tB tn td))
          obtain ⟨y0, y1, y2, yf, yl⟩ := QS12.box
          have f0 := yf 0
          have f1 := yf 1
          have f2 := yf 2
          clear yf QS12 OT OTC K12 M12 nt nu HSO2 hb12 QZ9 B9
          go_wp2_with fail
          go_meet
          case rel => exact ⟨s2, tA, yn, tc, tB, tn, td, tv, th, Lib.hid QT.out.zrow, Lib.hid (K13.out.more (by omega)), B13⟩
        · have h1b : ((i : Int) == 1) = false := by simp; omega
          by_cases h2 : i = 2 ∧ vn + un ≤ 200
          · obtain ⟨h2, h200⟩ := h2
            subst h2
            have h2b : (((2 : Nat) : Int) == 2) = true := rfl
            have h200i : (vn : Int) + (un : Int) ≤ 200 := by omega
            have PX := Lib.hid (HJW.out _ B5.out)
            obtain ⟨p0, p1, p2, -, pl⟩ := PX.out
            obtain ⟨y0, y1, y2, yf, yl⟩ := QZ.out.box
            have f0 := yf 0
            have f1 := yf 1
            have f2 := yf 2
            have B6 := Lib.hid (((B5.out.setCell (p := ⟨gz, 0, none⟩) (Nat.le_of_lt hgm) (.int .i64 pst)).setCell (p := ⟨gz, 1, none⟩) (Nat.le_of_lt hgm) (.slice vA vn vc)).setCell (p := ⟨gz, 2, none⟩) (Nat.le_of_lt hgm) (.slice uA un uc))
            have K6 := Lib.hid (((K5.out.setCell (p := ⟨gz, 0, none⟩) hgm (.int .i64 pst)).setCell (p := ⟨gz, 1, none⟩) hgm (.slice vA vn vc)).setCell (p := ⟨gz, 2, none⟩) hgm (.slice uA un uc))
            have Z6 := Lib.hid (show ZRow _ gz pst vA vn vc uA un uc pv ph from ⟨QZ.out.box.put pst vA vn vc uA un uc, HPN.out.1.1, HPN.out.1.2, (HPV.out _ (HBA.out _ B6.out)).1, (HPV.out _ (HBA.out _ B6.out)).2, HPN.out.2.1, HPN.out.2.2⟩)
            clear yf
            go_wp2_with fail
            go_meet
            case rel => exact ⟨pst, vA, vn, vc, uA, un, uc, pv, ph, Z6, Lib.hid (K6.out.more (by omega)), B6⟩
          · have PX := Lib.hid (HJW.out _ B5.out)
            obtain ⟨p0, p1, p2, -, pl⟩ := PX.out
            have FINZ := Lib.hid (show ∃ (st' : Int) (zA : Option Addr) (zn zc : Nat) (zB : Option Addr) (zm zd : Nat) (v' u' : List Int), Hid (ZRow w5 gz st' zA zn zc zB zm zd v' u') ∧ Hid (IsMk w5 m (M + 5 + 5 * 10 + 6)) ∧ Hid (Below m w0 w5) from ⟨st, yA, yn, yc, yB, ym, yd, v, ch, Lib.hid QZ.out.zrow, Lib.hid (K5.out.more (by omega)), B5⟩)
            by_cases h22 : i = 2
            · subst h22
              have h2b : (((2 : Nat) : Int) == 2) = true := rfl
              have h200i : ¬ (vn : Int) + (un : Int) ≤ 200 := by omega
              clear h2
              go_wp2_with fail
              go_meet
              case rel => exact FINZ.out
            · have h2b : ((i : Int) == 2) = false := by simp; omega
              clear h2
              go_wp2_with fail
              go_meet
              case rel => exact FINZ.out
      case rest =>
      obtain ⟨st', zA, zn, zc, zB, zm, zd, v', u', Z, K6, B6⟩ := hcut
      obtain ⟨E, Y, hY300, hYB, hDX, hEC⟩ := encode2 st' v' u'
      obtain ⟨ny, hny⟩ : ∃ n, n = Y.length := ⟨_, rfl⟩
      have HNY := Lib.hid hny
      have hny3 : ny ≤ 300 := by omega
      have HYB := Lib.hid hYB
      have HDX := Lib.hid hDX
      have HEC := Lib.hid (fun (W : World) (k : Below wc.heap.size wc W) => hEC zA zB zn zc zm zd W Z.out.nv Z.out.nu Z.out.lv Z.out.lu (Z.out.below k).rv (Z.out.below k).ru)
      have hmc : m < wc.heap.size := K6.out.lt
      clear QZ K5 B5 HCL HVL HSP hY300 hYB hDX hEC
      generalize wc = wq at *
      obtain ⟨x0, x1, x2, -, xl⟩ := Z.out.box
      clear hny
      go_wp2_with fail
      refine (HEC.out wq (Below.refl _ _)).1.mono ?_
      rintro e w6 ⟨xA, xc, rfl, OX, k6⟩
      rw [← HNY.out] at OX ⊢
      have Z7 := Lib.hid (Z.out.below k6)
      have KX := Lib.hid k6
      have OX := Lib.hid OX
      clear x0 x1 x2 xl k6
      obtain ⟨x0, x1, x2, -, xl⟩ := Z7.out.box
      go_wp2_with fail
      refine (HEC.out w6 KX.out).2.mono ?_
      rintro e w7 ⟨oA, oc, rfl, OY, k7⟩
      rw [← HNY.out] at OY ⊢
      have Z8 := Lib.hid (Z7.out.below k7)
      have OX8 := Lib.hid (OX.out.below k7)
      have HBS := Lib.hid (bytes_same Y xA oA xc oc w7 (own_read OX8.out).2.1 (own_read OY).2.1 (own_read OY).2.2)
      rw [← HNY.out] at HBS
      have OY := Lib.hid (OY.base (show m + 1 ≤ w6.heap.size by have := KX.out.size; omega))
      have K8 := Lib.hid ((K6.out.stays' KX.out).stays' k7)
      have B8 := Lib.hid ((B6.out.trans (KX.out.mono (Nat.le_of_lt hmc))).trans (k7.mono (by have := KX.out.size; omega)))
      have hee : (E != E) = false := by simp
      have hm7 : m < w7.heap.size := by have := KX.out.size; have := k7.size; omega
      clear x0 x1 x2 xl k7 Z7 Z OX K6 B6 HEC KX hmc
      go_wp2_with fail
      refine HBS.out.mono ?_
      rintro e w8 ⟨rfl, nn, hw8⟩
      have k8 : Below w7.heap.size w7 w8 := by rw [hw8]; exact bdn (Below.refl _ _)
      have Z9 := Lib.hid (Z8.out.below k8)
      have OX9 := Lib.hid (OX8.out.below k8)
      have OY9 := Lib.hid (OY.out.below k8)
      have K9 := Lib.hid (K8.out.stays' k8)
      have B9 := Lib.hid (B8.out.trans (k8.mono (Nat.le_of_lt hm7)))
      have hm8 : m < w8.heap.size := by have := k8.size; omega
      have HOB := Lib.hid (show w6.heap.size ≤ w7.heap.size → True from fun _ => trivial)
      clear hw8 k8 Z8 OX8 OY K8 B8 hm7 HBS HOB
      go_upto_if 77 with fail
      go_cut [15, 16] from 78 to 90 (fun o1 o2 wx => Hid (Below w8.heap.size w8 wx))
      case first =>
        by_cases hE : E = 0
        · subst hE
          have HD := Lib.hid (HDX.out rfl w8 xA ny xc HNY.out (Own.capn OX9.out) (own_read OX9.out).2.1)
          go_wp2_with fail
          refine HD.out.mono ?_
          rintro e w9 ⟨qA, qn, qc, qB, qm, qd, rfl, OQ, OR, k9⟩
          have BX := (Below.refl w9.heap.size w9).alloc (Nat.le_refl _) (qcells st' qA qn qc qB qm qd)
          have ZQ := Lib.hid (ZRow.new (st := st') OQ OR w9.heap.size rfl)
          have Z10 := Lib.hid ((Z9.out.below k9).below BX)
          have B10 := Lib.hid (k9.trans (BX.mono k9.size))
          clear OQ OR k9 BX HD
          go_upto_region 18 with fail
          obtain ⟨gq, hgq⟩ : ∃ g, g = w9.heap.size := ⟨_, rfl⟩
          rw [← hgq] at ZQ ⊢
          generalize w9.alloc (qcells st' qA qn qc qB qm qd) = w10 at *
          clear hgq
          have HPR := Lib.hid (proofs_same st' v' u' qA zA qB zB qn zn qc zc qm zm qd zd w10 ZQ.out.nv Z10.out.nv ZQ.out.nu Z10.out.nu ZQ.out.rv Z10.out.rv Z10.out.lv ZQ.out.ru Z10.out.ru Z10.out.lu)
          obtain ⟨x0, x1, x2, -, xl⟩ := ZQ.out.box
          obtain ⟨y0, y1, y2, -, yl⟩ := Z10.out.box
          go_wp2_with fail
          refine HPR.out.mono ?_
          rintro e w11 ⟨rfl, k11⟩
          have B11 := Lib.hid (B10.out.trans (k11.mono B10.out.size))
          clear x0 x1 x2 xl y0 y1 y2 yl k11 ZQ Z10 HPR
          go_wp2_with fail
          go_meet
          case rel => exact B11
        · have hEb : (E == 0) = false := beq_eq_false_iff_ne.2 hE
          go_wp2_with fail
          go_meet
          case rel => exact Lib.hid (Below.refl _ _)
      case rest =>
      have K10 := Lib.hid (K9.out.stays' hcut.out)
      have B10 := Lib.hid (B9.out.trans (hcut.out.mono (Nat.le_of_lt hm8)))
      have OY10 := Lib.hid (OY9.out.below hcut.out)
      clear hcut Z9 OX9 OY9 K9 B9 HDX hee
      generalize wc = wp at *
      have hmp : m < wp.heap.size := K10.out.lt
      have HMS := Lib.hid (mspoilb_any m (M + 5 + 5 * 10 + 6) ny Y oA oc wp K10.out (by omega) (own_read OY10.out).2.1 HNY.out (by omega))
      go_wp2_with fail
      refine HMS.out.mono ?_
      rintro e w12 ⟨sA, sc, xs, rfl, RS, S8, SC, hsl, KS, MS⟩
      obtain ⟨ns, hns⟩ : ∃ n, n = xs.length := ⟨_, rfl⟩
      rw [← hns] at SC hsl ⊢
      have HNS := Lib.hid hns
      have hbB := HBN.out
      have B12 := Lib.hid (Moves.below B10.out MS (Nat.le_refl _) (Nat.le_of_lt hmp))
      have OY12 := Lib.hid (OY10.out.moves MS (Nat.lt_succ_self _))
      have LB := Lib.hid (LitB.new (W := w12) (v0 := .slice bA bn bc) (v1 := .slice oA ny oc) (v2 := .slice sA ns sc) (T := 28) w12.heap.size rfl)
      have BX := (Below.refl w12.heap.size w12).alloc (Nat.le_refl _) (.cells #[.slice bA bn bc, .slice oA ny oc, .slice sA ns sc] 28)
      have KZ := Lib.hid (KS.stays' BX)
      have BZ := Lib.hid (B12.out.trans (BX.mono (Nat.le_of_lt KS.lt)))
      have OYZ := Lib.hid (OY12.out.below BX)
      have RSZ := Lib.hid (RS.below BX)
      have HS8 := Lib.hid (And.intro S8 SC)
      clear hns RS S8 SC hsl KS MS BX B12 OY12 K10 B10 OY10 HMS hmp hbB hm8
      go_upto_region 21 with fail
      obtain ⟨gl, hgl⟩ : ∃ g, g = w12.heap.size := ⟨_, rfl⟩
      rw [← hgl] at LB ⊢
      generalize w12.alloc (.cells #[.slice bA bn bc, .slice oA ny oc, .slice sA ns sc] 28) = wz at *
      clear hgl
      have HCS := Lib.hid (show ∀ k, k < 3 → ∃ (C : Option Addr) (cn cc : Nat) (cs : List Int), cn = cs.length ∧ (cn ≤ cc ∧ cc ≤ maxLen) ∧ BB8 cs ∧ ∀ W, Below wz.heap.size wz W → W.cell? ⟨gl, k, none⟩ = some (.slice C cn cc) ∧ Row .u8 W W.heap.size C cs from fun k hk => by
        match k, hk with
        | 0, _ => exact ⟨bA, bn, bc, bl, HBN.out.1, HBN.out.2.1, HBN.out.2.2, fun W hb => ⟨(LB.out.keep hb LB.out.lt).c0, (HBY.out wz (HBA.out wz BZ.out)).below hb⟩⟩
        | 1, _ => exact ⟨oA, ny, oc, Y, HNY.out, Own.capn OYZ.out, HYB.out, fun W hb => ⟨(LB.out.keep hb LB.out.lt).c1, (own_read OYZ.out).2.1.below hb⟩⟩
        | 2, _ => exact ⟨sA, ns, sc, xs, HNS.out, HS8.out.2, HS8.out.1, fun W hb => ⟨(LB.out.keep hb LB.out.lt).c2, RSZ.out.below hb⟩⟩)
      have hmz : m < wz.heap.size := KZ.out.lt
      clear LB OYZ RSZ HS8 HNS HYB HNY
      go_loopw [98] (fun iv wr => ∃ (k : Nat), k ≤ 3 ∧ iv = .int .i64 (k : Int) ∧ Hid (Below wz.heap.size wz wr)) (fun iv _ => 3 - (intOf iv).toNat)
      case atStart => exact ⟨0, by omega, rfl, Lib.hid (Below.refl _ _)⟩
      case round =>
        obtain ⟨k, hk, rfl, BB⟩ := hrel
        by_cases hlt3 : k < 3
        · have hki : (k : Int) < 3 := by omega
          obtain ⟨C, cn, cc, cs, hcn, hcc, hc8, hall⟩ := HCS.out k hlt3
          have hc := (hall wr BB.out).1
          obtain ⟨qs, qV, qC, D, hEN, hDE⟩ := decode2 cs hc8
          have HEN := Lib.hid hEN
          have HDE := Lib.hid (fun (W : World) (k' : Below wz.heap.size wz W) => hDE C cn cc W hcn hcc (hall W k').2)
          have HCN := Lib.hid hcn
          have HCR := Lib.hid (fun (W : World) (k' : Below wz.heap.size wz W) => (hall W k').2)
          have hcc9 : cc ≤ 9223372036854775807 := hcc.2
          have hcn9 : cn ≤ 9223372036854775807 := Nat.le_trans hcc.1 hcc9
          have HCM := Lib.hid (show cs.length ≤ maxLen by rw [← hcn]; exact Nat.le_trans hcc.1 hcc.2)
          clear hcn hcc hc8 hall hEN hDE
          by_cases h600 : 600 < cn
          · have h6i : (600 : Int) < (cn : Int) := by omega
            go_wp2_with fail
            go_roundw
            case rel => exact ⟨k + 1, by omega, by go_num, BB⟩
            case measure => simp [intOf]; omega
          · have h6i : ¬ (600 : Int) < (cn : Int) := by omega
            go_wp2_with fail
            refine (HDE.out wr BB.out).1.mono ?_
            rintro e w14 ⟨qA, qn, qc, qB, qm, qd, rfl, OQ, OR, k14⟩
            have BX := (Below.refl w14.heap.size w14).alloc (Nat.le_refl _) (qcells qs qA qn qc qB qm qd)
            have ZQ := Lib.hid (ZRow.new (st := qs) OQ OR w14.heap.size rfl)
            have B14 := BB.out.trans (k14.mono BB.out.size)
            have B15 := Lib.hid (B14.trans (BX.mono B14.size))
            clear OQ OR k14 BX B14 hc
            go_upto_region 25 with fail
            obtain ⟨g1, hg1⟩ : ∃ g, g = w14.heap.size := ⟨_, rfl⟩
            rw [← hg1] at ZQ ⊢
            generalize w14.alloc (qcells qs qA qn qc qB qm qd) = w15 at *
            clear hg1
            go_wp2_with fail
            refine (HDE.out w15 B15.out).2.mono ?_
            rintro e w16 ⟨rA, rn, rc, rB, rm, rd, rfl, OS, OT, k16⟩
            have BX := (Below.refl w16.heap.size w16).alloc (Nat.le_refl _) (qcells qs rA rn rc rB rm rd)
            have ZR := Lib.hid (ZRow.new (st := qs) OS OT w16.heap.size rfl)
            have ZQ17 := Lib.hid ((ZQ.out.below k16).below BX)
            have B16 := B15.out.trans (k16.mono B15.out.size)
            have B17 := Lib.hid (B16.trans (BX.mono B16.size))
            clear OS OT k16 BX B16 ZQ B15
            go_upto_region 26 with fail
            obtain ⟨g2, hg2⟩ : ∃ g, g = w16.heap.size := ⟨_, rfl⟩
            rw [← hg2] at ZR ⊢
            generalize w16.alloc (qcells qs rA rn rc rB rm rd) = w17 at *
            clear hg2
            have HPR := Lib.hid (proofs_same qs qV qC qA rA qB rB qn rn qc rc qm rm qd rd w17 ZQ17.out.nv ZR.out.nv ZQ17.out.nu ZR.out.nu ZQ17.out.rv ZR.out.rv ZR.out.lv ZQ17.out.ru ZR.out.ru ZR.out.lu)
            obtain ⟨x0, x1, x2, -, xl⟩ := ZQ17.out.box
            obtain ⟨y0, y1, y2, -, yl⟩ := ZR.out.box
            have hdd : (D != D) = false := by simp
            go_wp2_with fail
            refine HPR.out.mono ?_
            rintro e w18 ⟨rfl, k18⟩
            have ZQ18 := Lib.hid (ZQ17.out.below k18)
            have B18 := Lib.hid (B17.out.trans (k18.mono B17.out.size))
            clear x0 x1 x2 xl y0 y1 y2 yl k18 ZQ17 ZR HPR B17
            obtain ⟨x0, x1, x2, -, xl⟩ := ZQ18.out.box
            by_cases hD : D = 0
            · subst hD
              have HE := Lib.hid (HEN.out rfl qA qB qn qc qm qd w18 ZQ18.out.nv ZQ18.out.nu ZQ18.out.lv ZQ18.out.lu ZQ18.out.rv ZQ18.out.ru)
              go_wp2_with fail
              refine HE.out.mono ?_
              rintro e w19 ⟨dA, dc, rfl, OD, k19⟩
              have B19 := Lib.hid (B18.out.trans (k19.mono B18.out.size))
              have HBS := Lib.hid (bytes_same cs C dA cc dc w19 (HCR.out w19 B19.out) (own_read OD).2.1 HCM.out)
              rw [← HCN.out] at HBS ⊢
              clear x0 x1 x2 xl k19 OD HE ZQ18 B18
              go_wp2_with fail
              refine HBS.out.mono ?_
              rintro e w20 ⟨rfl, nn2, hw20⟩
              have B20 := Lib.hid (show Below wz.heap.size wz w20 by rw [hw20]; exact bdn B19.out)
              clear hw20 B19 HBS
              go_wp2_with fail
              go_roundw
              case rel => exact ⟨k + 1, by omega, by go_num, B20⟩
              case measure => simp [intOf]; omega
            · have hDb : (D == 0) = false := beq_eq_false_iff_ne.2 hD
              clear x0 x1 x2 xl
              go_wp2_with fail
              go_roundw
              case rel => exact ⟨k + 1, by omega, by go_num, B18⟩
              case measure => simp [intOf]; omega
        · have hk3 : ¬ (k : Int) < 3 := by omega
          have K20 := Lib.hid (KZ.out.stays' BB.out)
          have B20 := Lib.hid (BZ.out.trans (BB.out.mono (Nat.le_of_lt hmz)))
          clear HCS KZ BZ BB
          go_wp2_with fail
          go_roundw
          case rel => exact ⟨i + 1, M + 5 + 5 * 10 + 6 + 3, by omega, by go_num, by omega, K20, B20⟩
          case measure => simp [intOf]; omega
    · have hii : ¬ (i : Int) < 3 := by omega
      have HBW := Lib.hid (HBA.out _ B.out)
      go_wp2_with fail
      refine (sane15_any _).mono ?_
      rintro e wz ⟨rfl, BZ⟩
      have HZ := Lib.hid (HBW.out.trans (BZ.mono HBW.out.size))
      clear BZ
      go_wp2_with fail
      go_ret
      exact ⟨rfl, HZ.out⟩
theorem byte_wf {n : Int} (h : (Lit.int .u8 n).wf = true) : 0 ≤ n ∧ n ≤ 255 := by
  simp [Lit.wf, IntKind.wrap, IntKind.bits, IntKind.signed] at h
  have e1 : IntKind.u8.min = 0 := by decide
  have e2 : IntKind.u8.max = 255 := by decide
  omega
theorem byt15_law (a : Option Addr) (len cap : Nat) (zs : List Int) (pst : Int) (vA : Option Addr) (vn vc : Nat) (uA : Option Addr) (un uc : Nat) (pv ph : List Int) (bA : Option Addr) (bn bc : Nat) (bl : List Int) (w : World) (h : IsRow .i64 w a len cap zs)
    (hv : IsRow .i64 w vA vn vc pv) (hvz : vn ≤ 140737488355328) (hu : IsRow .i64 w uA un uc ph) (huz : un ≤ 140737488355328) (hb : IsRow .u8 w bA bn bc bl) (hbc : bn ≤ bc ∧ bc ≤ maxLen) :
    Calls Try.prog 5 #[.slice a len cap, qv pst vA vn vc uA un uc, .slice bA bn bc] w fun e w' => e = .returned (.bool true) ∧ Below w.heap.size w w' := by
  obtain ⟨l, rfl, h1, h2, h3⟩ := h.row
  obtain ⟨l2, rfl, k1, k2, k3⟩ := hv.row
  obtain ⟨l3, rfl, m1, m2, m3⟩ := hu.row
  obtain ⟨l4, rfl, n1, n2, n3⟩ := hb.row
  exact byt15_walk a cap l pst vA _ vc uA _ uc l2 l3 bA _ bc l4 w h1 h2 h3 k1 rfl k2 m1 rfl m2 hvz huz n1 rfl hbc (fun x hx => byte_wf (n3 x hx))
end Go.Proofs.Ytlagadbkencpbaa
