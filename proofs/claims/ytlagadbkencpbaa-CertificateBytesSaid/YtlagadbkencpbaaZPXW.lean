/-
  Stage 15: the walk of CertificateExact.
-/
import Derived.Test.YtlagadbkencpbaaBA3
import Derived.Test.YtlagadbkencpbaaBD1
import Derived.Test.YtlagadbkencpbaaBC1
set_option linter.unusedSimpArgs false
set_option linter.unusedVariables false
namespace Go.Proofs.Ytlagadbkencpbaa
open Go.RowKit Go.Lib

theorem own_noneX {w : World} {base n c : Nat} {A : Option Addr} {zs : List Int} {T : TypeId} (h : Own .i64 T w base (.slice A n c) zs) : A = none → n = 0 ∧ c = 0 := by
  intro e
  rcases h.2 with ⟨e1, _⟩ | ⟨g, cap, cur, e1, _⟩
  · injection e1 with _ e2 e3
    exact ⟨e2, e3⟩
  · subst e; injection e1 with e1; cases e1
theorem make_chX {l : List It} {wt st er : Int} {v ch : List Int} (hv : validR l wt = 0) (h : MakeR l wt st v ch er) : ch.length ≤ 96 ∧ v.length ≤ l.length ∧ SpB 12 4095 st v := by
  have hf := formOk_of hv
  rcases h.ok hv with ⟨_, rfl, rfl, rfl⟩ | ⟨rfl, h1, h2, h3⟩
  · exact ⟨Nat.zero_le _, Nat.zero_le _, ⟨by omega, by omega⟩, fun x => by simp⟩
  · refine ⟨?_, by omega, ⟨by omega, by omega⟩, fun x => by have := h3 x; omega⟩
    rcases h.2.valid hv with ⟨h1, _⟩ | ⟨_, bs, u, h2, h3⟩
    · cases h1
    · rcases h3 with ⟨_, rfl⟩ | ⟨y, c, h4, h5, rfl⟩
      · exact Nat.zero_le _
      · have hy : y < l.length := by rw [← h2.vlen]; exact h4.lt
        have h6 := h5.len hf.blk hy
        have h7 := (hf.blk y hy).2
        rw [toZ_len]
        omega
set_option maxRecDepth 100000 in
set_option maxHeartbeats 12800000 in
theorem exa15_walk (A : Option Addr) (c : Nat) (zs : List Int) (jA : Option Addr) (jn jc : Nat) (jl : List It) (jwt : Int) (pst : Int) (vA : Option Addr) (vn vc : Nat) (uA : Option Addr) (un uc : Nat) (pv ph : List Int) (w : World) (hr : Row .i64 w w.heap.size A zs) (hm : zs.length ≤ maxLen) (hw : ∀ n ∈ zs, (Lit.int .i64 n).wf = true)
    (hj : IRow w jA jl) (hjn : jn = jl.length) (hv : Row .i64 w w.heap.size vA pv) (hvn : vn = pv.length) (hvm : pv.length ≤ maxLen) (hu : Row .i64 w w.heap.size uA ph) (hun : un = ph.length) (hum : ph.length ≤ maxLen) (hvz : vn ≤ 140737488355328) (huz : un ≤ 140737488355328) :
    Calls Try.prog 4 #[.slice A zs.length c, jv jA jn jc jwt, qv pst vA vn vc uA un uc] w fun e w' => e = .returned (.bool true) ∧ Below w.heap.size w w' := by
  have B1 := (Below.refl w.heap.size w).alloc (Nat.le_refl _) (.cells #[.slice jA jn jc, .int .i64 jwt] 39)
  have s1 : (w.alloc (.cells #[.slice jA jn jc, .int .i64 jwt] 39)).heap.size = w.heap.size + 1 := by simp
  have b2 := (Below.refl (w.heap.size + 1) (w.alloc (.cells #[.slice jA jn jc, .int .i64 jwt] 39))).alloc (Nat.le_of_eq s1.symm) (qcells pst vA vn vc uA un uc)
  have J0 := Lib.hid ((JBox.new (w := w) (A := jA) (n := jn) (c := jc) (wt := jwt) w.heap.size rfl).below b2 (Nat.lt_succ_self _))
  have P0 := Lib.hid (QBox.new (w := w.alloc (.cells #[.slice jA jn jc, .int .i64 jwt] 39)) (st := pst) (A := vA) (n := vn) (c := vc) (B := uA) (m := un) (d := uc) (w.heap.size + 1) s1.symm)
  have HB0 := Lib.hid (B1.trans (b2.mono (Nat.le_succ _)))
  have HR0 := Lib.hid (hr.below HB0.out)
  have HMM := Lib.hid hm
  have HWW := Lib.hid hw
  have hvn9 : vn ≤ 9223372036854775807 := by rw [hvn]; exact hvm
  have hun9 : un ≤ 9223372036854775807 := by rw [hun]; exact hum
  have hjn9 : jn ≤ 9223372036854775807 := by rw [hjn]; exact hj.len
  have HCF := Lib.hid (fun (W : World) (k : Below w.heap.size w W) => check_any jl jA jc jn jwt pst pv ph vA vn vc uA un uc hjn hvn hun hvm hum W (hj.below k) (hv.below k) (hu.below k))
  have HRF := Lib.hid (fun (W : World) (k : Below w.heap.size w W) => rcheck_any jl jA jc jn jwt pst pv ph vA vn vc uA un uc hjn hvn hun hvm hum W (hj.below k) (hv.below k) (hu.below k))
  obtain ⟨cf, hcf⟩ : ∃ x, x = chkE jl jwt pst pv ph := ⟨_, rfl⟩
  rw [← hcf] at HCF HRF
  obtain ⟨b0, hb0⟩ : ∃ b, b = w.heap.size := ⟨_, rfl⟩
  have HB00 := Lib.hid hb0
  clear B1 s1 b2 hr hm hw hj hjn hv hvn hvm hu hun hum hcf
  go_enter Try.func4, Try.ntmps4
  go_upto_region 1 with fail
  rw [← hb0] at J0 P0 ⊢
  generalize (w.alloc (.cells #[.slice jA jn jc, .int .i64 jwt] 39)).alloc (qcells pst vA vn vc uA un uc) = w0 at *
  clear hb0
  have K := Lib.hid (mk_row (c := c) (T := 72) HR0.out HMM.out HWW.out)
  have B := Lib.hid ((Below.refl w0.heap.size w0).alloc (Nat.le_refl _) (.cells #[.slice A zs.length c, .int .i64 0] 72))
  go_wp2_with fail
  refine (new_any A zs.length c w0).mono ?_
  rintro e w1 ⟨rfl, hw1⟩
  rw [← hw1] at K B
  have HBM := Lib.hid (show b0 + 1 < w0.heap.size from P0.out.lt)
  obtain ⟨m, hmm⟩ : ∃ m, m = w0.heap.size := ⟨_, rfl⟩
  have HMW := Lib.hid (show w.heap.size ≤ m by rw [hmm]; exact HB0.out.size)
  have HJW := Lib.hid (show ∀ W, Below m w0 W → JBox W b0 jA jn jc jwt ∧ QBox W (b0 + 1) pst vA vn vc uA un uc from fun W k => ⟨J0.out.below k (by rw [hmm]; have := HBM.out; omega), P0.out.below k (by rw [hmm]; exact HBM.out)⟩)
  have HBA := Lib.hid (show ∀ W, Below m w0 W → Below w.heap.size w W from fun W k => HB0.out.trans (k.mono HMW.out))
  rw [← hmm] at K B ⊢
  clear hw1 hmm J0 P0 HR0 HMM HWW HB0 HBM
  go_wp2_with fail
  go_loopw [8] (fun iv wr => ∃ (i M : Nat), i ≤ 4 ∧ iv = .int .i64 (i : Int) ∧ M ≤ 200 * i ∧ Hid (IsMk wr m M) ∧ Hid (Below m w0 wr)) (fun iv _ => 4 - (intOf iv).toNat)
  case atStart => exact ⟨0, 0, by omega, rfl, by omega, K, B⟩
  case round =>
    clear K B
    obtain ⟨i, M, hi, rfl, hM, K, B⟩ := hrel
    by_cases hlt : i < 4
    · have hii : (i : Int) < 4 := by omega
      go_wp2_with fail
      refine (mjob_any m M 12 wr K.out (by omega) (by omega)).mono ?_
      rintro e w2 ⟨pA, pc, l, wt, rfl, O, hl, hrun, hwt, K2, V2⟩
      have hkl := K.out.lt
      have HVAL := Lib.hid (valid_of (l := l) (wt := wt) (by omega) hrun hwt)
      have B2 := Moves.below B.out V2 (Nat.le_refl _) (Nat.le_of_lt hkl)
      have HAN := Lib.hid (fun e => iown_none O e)
      have K3 := Lib.hid (K2.alloc (.cells #[.slice pA l.length pc, .int .i64 wt] 39))
      have O3 := Lib.hid ((O.base (show m + 1 ≤ wr.heap.size from hkl)).alloc (.cells #[.slice pA l.length pc, .int .i64 wt] 39))
      have J3 := Lib.hid (JBox.new (w := w2) (A := pA) (n := l.length) (c := pc) (wt := wt) w2.heap.size rfl)
      have G3 := Lib.hid (fun j => frozen_new w2 #[.slice pA l.length pc, .int .i64 wt] 39 w2.heap.size j rfl)
      have B3 := Lib.hid (B2.alloc (Nat.le_of_lt K2.lt) (.cells #[.slice pA l.length pc, .int .i64 wt] 39))
      have hmb0 := K2.lt
      obtain ⟨b, hb⟩ : ∃ b, b = w2.heap.size := ⟨_, rfl⟩
      have hmb : m < b := by omega
      obtain ⟨L, hL⟩ : ∃ n, n = l.length := ⟨_, rfl⟩
      have HL := Lib.hid hL
      have HL12 := Lib.hid (show L ≤ 12 by rw [hL]; exact hl)
      clear K B O K2 V2 B2 hkl hmb0 hl hrun hwt
      go_upto_region 6 with fail
      rw [← hb] at J3 G3 ⊢
      rw [← hL] at J3 O3 HAN K3 B3 G3 ⊢
      generalize w2.alloc (.cells #[.slice pA L pc, .int .i64 wt] 39) = w3 at *
      clear hb hL
      have HMK := Lib.hid (make_any l pA pc L wt HL.out w3 O3.out.irow)
      have HRM := Lib.hid (fun (W : World) (k : IRow W pA l) => rmake_any l pA pc L wt HL.out W k)
      obtain ⟨j0, j1, jlt⟩ := J3.out
      go_wp2_with fail
      refine HMK.out.mono ?_
      rintro e w4 ⟨st, yA, yn, yc, yB, ym, yd, er, v, ch, rfl, OY, OYC, B4, hmk⟩
      obtain ⟨hcl, hvl, hsp⟩ := make_chX HVAL.out hmk
      have HMR := Lib.hid hmk
      have HCL := Lib.hid hcl
      have HVL := Lib.hid hvl
      have HSP := Lib.hid hsp
      have BX := (Below.refl w4.heap.size w4).alloc (Nat.le_refl _) (qcells st yA yn yc yB ym yd)
      have BF := Lib.hid (fun (k : Below w3.heap.size w3 (w4.alloc (qcells st yA yn yc yB ym yd))) => (trivial : True))
      have QY := Lib.hid (QSt.new (m := m) (st := st) OY OYC (show m + 1 ≤ w3.heap.size by omega) w4.heap.size rfl (by have := B4.size; omega))
      have J5 := Lib.hid ((J3.out.below B4 jlt).below BX (J3.out.below B4 jlt).lt)
      have G5 := Lib.hid (fun j => (BX.frozen (p := ⟨b, j, none⟩) (J3.out.below B4 jlt).lt).trans ((B4.frozen (p := ⟨b, j, none⟩) jlt).trans (G3.out j)))
      have O5 := Lib.hid ((O3.out.below B4).below BX)
      have K5 := Lib.hid ((K3.out.stays' B4).stays' BX)
      have B5 := Lib.hid ((B3.out.trans (B4.mono (Nat.le_of_lt K3.out.lt))).trans (BX.mono (by have := K3.out.lt; have := B4.size; omega)))
      clear j0 j1 jlt J3 G3 O3 K3 B3 B4 BX BF OY OYC hmk hcl hvl hsp HMK
      obtain ⟨gy, hgy⟩ : ∃ g, g = w4.heap.size := ⟨_, rfl⟩
      go_upto_region 7 with fail
      rw [← hgy] at QY ⊢
      generalize w4.alloc (qcells st yA yn yc yB ym yd) = w5 at *
      clear hgy
      obtain ⟨j0, j1, jlt⟩ := J5.out
      go_wp2_with fail
      refine (HRM.out w5 O5.out.irow).mono ?_
      rintro e w6 ⟨st', zA, zn, zc, zB, zm, zd, er', v', ch', rfl, OZ, OZC, B6, hmk'⟩
      obtain ⟨rfl, rfl, rfl, rfl⟩ := HMR.out.uniq hmk'
      have BX := (Below.refl w6.heap.size w6).alloc (Nat.le_refl _) (qcells st zA zn zc zB zm zd)
      have QZ := Lib.hid (QSt.new (m := m) (st := st) OZ OZC (show m + 1 ≤ w5.heap.size by omega) w6.heap.size rfl (by have := B6.size; omega))
      have J7 := Lib.hid ((J5.out.below B6 jlt).below BX (J5.out.below B6 jlt).lt)
      have G7 := Lib.hid (fun j => (BX.frozen (p := ⟨b, j, none⟩) (J5.out.below B6 jlt).lt).trans ((B6.frozen (p := ⟨b, j, none⟩) jlt).trans (G5.out j)))
      have O7 := Lib.hid ((O5.out.below B6).below BX)
      have K7 := Lib.hid ((K5.out.stays' B6).stays' BX)
      have B7 := Lib.hid ((B5.out.trans (B6.mono (Nat.le_of_lt K5.out.lt))).trans (BX.mono (by have := K5.out.lt; have := B6.size; omega)))
      have QY7 := Lib.hid ((QY.out.below B6).below BX)
      clear j0 j1 jlt J5 G5 O5 K5 B5 B6 BX OZ OZC hmk' QY HRM HMR
      obtain ⟨gz, hgz⟩ : ∃ g, g = w6.heap.size := ⟨_, rfl⟩
      go_upto_region 8 with fail
      rw [← hgz] at QZ ⊢
      generalize w6.alloc (qcells st zA zn zc zB zm zd) = w7 at *
      clear hgz
      obtain ⟨hy1, hy2, hy3⟩ := own_read QY7.out.ov
      obtain ⟨hy4, hy5, hy6⟩ := own_read QY7.out.ou
      obtain ⟨hz1, hz2, hz3⟩ := own_read QZ.out.ov
      obtain ⟨hz4, hz5, hz6⟩ := own_read QZ.out.ou
      have HPR := Lib.hid (proofs_same st v ch yA zA yB zB yn zn yc zc ym zm yd zd w7 hy1 hz1 hy4 hz4 hy2 hz2 hy3 hy5 hz5 hy6)
      have HZN := Lib.hid (show zn ≤ 12 ∧ zm ≤ 96 from ⟨by have := HVL.out; have := HL12.out; have := HL.out; omega, by have := HCL.out; omega⟩)
      obtain ⟨y0, y1, y2, -, yl⟩ := QY7.out.box
      obtain ⟨x0, x1, x2, -, xl⟩ := QZ.out.box
      have hee : (er != er) = false := by simp
      clear hy1 hy2 hy3 hy4 hy5 hy6 hz1 hz2 hz3 hz4 hz5 hz6
      go_wp2_with fail
      refine HPR.out.mono ?_
      rintro e w8 ⟨rfl, B8⟩
      have QZ8 := Lib.hid (QZ.out.below B8)
      have J8 := Lib.hid (J7.out.below B8 J7.out.lt)
      have G8 := Lib.hid (fun j => (B8.frozen (p := ⟨b, j, none⟩) J7.out.lt).trans (G7.out j))
      have O8 := Lib.hid (O7.out.below B8)
      have K8 := Lib.hid (K7.out.stays' B8)
      have BB8 := Lib.hid (B7.out.trans (B8.mono (Nat.le_of_lt K7.out.lt)))
      clear y0 y1 y2 yl x0 x1 x2 xl HPR QY7 QZ J7 G7 O7 K7 B7 B8
      obtain ⟨x0, x1, x2, -, xl⟩ := QZ8.out.box
      have HSO := Lib.hid (show Calls Try.prog 17 #[.pointer (some ⟨m, 0, none⟩), qv st zA zn zc zB zm zd] w8 (SpoPost m (M + 5 + 5 * 12) 12 4095 zn zm w8) from
        spo_any m (M + 5 + 5 * 12) st v ch zA zB zn zc zm zd 12 4095 w8 K8.out (by omega) (own_read QZ8.out.ov).1 (own_read QZ8.out.ou).1 (own_read QZ8.out.ov).2.1 (own_read QZ8.out.ou).2.1 (own_noneX QZ8.out.ov) (own_noneX QZ8.out.ou) (by have := HZN.out; omega) (by have := HZN.out; omega) (by omega) (by omega) HSP.out)
      go_wp2_with fail
      refine HSO.out.mono ?_
      rintro e w9 ⟨s1, sA, sc, sB, sn, sd, sv, sh, rfl, OS, OSC, K9, M9, hb9, hsn⟩
      have hlt8 := QZ8.out.box.lt
      have hb8 := J8.out.lt
      have BX := (Below.refl w9.heap.size w9).alloc (Nat.le_refl _) (qcells s1 sA zn sc sB sn sd)
      have hm8 : m < w8.heap.size := K8.out.lt
      have QS := Lib.hid (QSt.new (m := m) (st := s1) OS OSC (show m + 1 ≤ w8.heap.size by omega) w9.heap.size rfl (by have := M9.size; omega))
      have QZ10 := Lib.hid ((QZ8.out.step M9).below BX)
      have J9 := J8.out.moves M9 (show b ≠ m by omega)
      have J10 := Lib.hid (J9.below BX J9.lt)
      have G10 := Lib.hid (fun j => (BX.frozen (p := ⟨b, j, none⟩) J9.lt).trans ((M9.frozen (p := ⟨b, j, none⟩) hb8 (by show b ≠ m; omega)).trans (G8.out j)))
      have O10 := Lib.hid ((O8.out.moves M9 (Nat.lt_succ_self _)).below BX)
      have K10 := Lib.hid (K9.stays' BX)
      have B10 := Lib.hid ((Moves.below BB8.out M9 (Nat.le_refl _) (Nat.le_of_lt hm8)).trans (BX.mono (by have := M9.size; omega)))
      have HSB := Lib.hid hb9
      have HOB := Lib.hid (show ∀ q, (Value.slice pA L pc).ownBlock = some q → q < w9.heap.size from fun q e => ((O8.out.moves M9 (Nat.lt_succ_self _)).block e).2)
      have hbs : b < w9.heap.size := J9.lt
      have hsn2 : sn ≤ 96 := by have := HZN.out; omega
      clear x0 x1 x2 xl QZ8 J8 G8 O8 K8 BB8 OS OSC K9 M9 hb9 hlt8 hb8 BX J9 HSO
      obtain ⟨gs, hgs⟩ : ∃ g, g = w9.heap.size := ⟨_, rfl⟩
      go_upto_region 11 with fail
      rw [← hgs] at QS hbs HOB ⊢
      generalize w9.alloc (qcells s1 sA zn sc sB sn sd) = w10 at *
      clear hgs hm8
      obtain ⟨c1, hc1⟩ : ∃ x, x = chkE l wt st v ch := ⟨_, rfl⟩
      obtain ⟨c2, hc2⟩ : ∃ x, x = chkE l wt s1 sv sh := ⟨_, rfl⟩
      have HC1 := Lib.hid (fun (W : World) (k : Below w10.heap.size w10 W) => check_any l pA pc L wt st v ch zA zn zc zB zm zd HL.out (own_read QZ10.out.ov).1 (own_read QZ10.out.ou).1 (own_read QZ10.out.ov).2.2 (own_read QZ10.out.ou).2.2 W (O10.out.irow.below k) ((own_read QZ10.out.ov).2.1.below k) ((own_read QZ10.out.ou).2.1.below k))
      have HC2 := Lib.hid (fun (W : World) (k : Below w10.heap.size w10 W) => rcheck_any l pA pc L wt st v ch zA zn zc zB zm zd HL.out (own_read QZ10.out.ov).1 (own_read QZ10.out.ou).1 (own_read QZ10.out.ov).2.2 (own_read QZ10.out.ou).2.2 W (O10.out.irow.below k) ((own_read QZ10.out.ov).2.1.below k) ((own_read QZ10.out.ou).2.1.below k))
      have HD1 := Lib.hid (fun (W : World) (k : Below w10.heap.size w10 W) => check_any l pA pc L wt s1 sv sh sA zn sc sB sn sd HL.out (own_read QS.out.ov).1 (own_read QS.out.ou).1 (own_read QS.out.ov).2.2 (own_read QS.out.ou).2.2 W (O10.out.irow.below k) ((own_read QS.out.ov).2.1.below k) ((own_read QS.out.ou).2.1.below k))
      have HD2 := Lib.hid (fun (W : World) (k : Below w10.heap.size w10 W) => rcheck_any l pA pc L wt s1 sv sh sA zn sc sB sn sd HL.out (own_read QS.out.ov).1 (own_read QS.out.ou).1 (own_read QS.out.ov).2.2 (own_read QS.out.ou).2.2 W (O10.out.irow.below k) ((own_read QS.out.ov).2.1.below k) ((own_read QS.out.ou).2.1.below k))
      rw [← hc1] at HC1 HC2
      rw [← hc2] at HD1 HD2
      clear hc1 hc2
      have hn1 : (c1 != c1) = false := by simp
      have hn2 : (c2 != c2) = false := by simp
      go_cut [60] from 45 to 60 (fun cv wx => cv = .bool false ∧ Hid (Below w10.heap.size w10 wx))
      case first =>
        have HPS := Lib.hid (fun (X : World) (k : Below w10.heap.size w10 X) => (show X.cell? ⟨b, 0, none⟩ = some (.slice pA L pc) ∧ X.cell? ⟨b, 1, none⟩ = some (.int .i64 wt) ∧ X.cell? ⟨gz, 0, none⟩ = some (.int .i64 st) ∧ X.cell? ⟨gz, 1, none⟩ = some (.slice zA zn zc) ∧ X.cell? ⟨gz, 2, none⟩ = some (.slice zB zm zd) ∧ X.cell? ⟨gs, 0, none⟩ = some (.int .i64 s1) ∧ X.cell? ⟨gs, 1, none⟩ = some (.slice sA zn sc) ∧ X.cell? ⟨gs, 2, none⟩ = some (.slice sB sn sd) from
          ⟨(J10.out.below k J10.out.lt).c0, (J10.out.below k J10.out.lt).c1, (QZ10.out.below k).box.c0, (QZ10.out.below k).box.c1, (QZ10.out.below k).box.c2, (QS.out.below k).box.c0, (QS.out.below k).box.c1, (QS.out.below k).box.c2⟩))
        obtain ⟨q0, e0⟩ : ∃ x, x = w10.drew := ⟨_, rfl⟩
        have K0 := Lib.hid (show Below w10.heap.size w10 q0 from by rw [e0]; exact (Below.refl _ _).drew)
        have F0 := HPS.out q0 K0.out
        have HE0 := Lib.hid e0
        clear e0
        refine AnyT.begin_at tlN (fun X => X.cell? ⟨b, 0, none⟩ = some (.slice pA L pc) ∧ X.cell? ⟨b, 1, none⟩ = some (.int .i64 wt) ∧ X.cell? ⟨gz, 0, none⟩ = some (.int .i64 st) ∧ X.cell? ⟨gz, 1, none⟩ = some (.slice zA zn zc) ∧ X.cell? ⟨gz, 2, none⟩ = some (.slice zB zm zd) ∧ X.cell? ⟨gs, 0, none⟩ = some (.int .i64 s1) ∧ X.cell? ⟨gs, 1, none⟩ = some (.slice sA zn sc) ∧ X.cell? ⟨gs, 2, none⟩ = some (.slice sB sn sd)) (by kernel_rfl) HE0.out F0 ?_
        clear F0
        intro F0
        refine AnyT.takeD (i := 0) (d := some 45) (v := jv pA L pc wt) rfl rfl (by kernel_rfl) (by kernel_rfl) (by kernel_rfl) (by kernel_rfl) (fun _ _ _ h => h) (Or.inl ⟨by rfl, fun wz hz => by obtain ⟨z0, z1, z2, z3, z4, z5, z6, z7⟩ := hz; go_simp⟩) F0 ?_
        simp only [Act.put, List.setIfInBounds_toArray, List.set_cons_zero, List.set_cons_succ]
        refine AnyT.takeD (i := 1) (d := some 46) (v := qv st zA zn zc zB zm zd) rfl rfl (by kernel_rfl) (by kernel_rfl) (by kernel_rfl) (by kernel_rfl) (fun _ _ _ h => h) (Or.inl ⟨by rfl, fun wz hz => by obtain ⟨z0, z1, z2, z3, z4, z5, z6, z7⟩ := hz; go_simp⟩) F0 ?_
        simp only [Act.put, List.setIfInBounds_toArray, List.set_cons_zero, List.set_cons_succ]
        refine AnyT.takeD (i := 3) (d := some 48) (v := jv pA L pc wt) rfl rfl (by kernel_rfl) (by kernel_rfl) (by kernel_rfl) (by kernel_rfl) (fun _ _ _ h => h) (Or.inl ⟨by rfl, fun wz hz => by obtain ⟨z0, z1, z2, z3, z4, z5, z6, z7⟩ := hz; go_simp⟩) F0 ?_
        simp only [Act.put, List.setIfInBounds_toArray, List.set_cons_zero, List.set_cons_succ]
        refine AnyT.takeD (i := 4) (d := some 49) (v := qv st zA zn zc zB zm zd) rfl rfl (by kernel_rfl) (by kernel_rfl) (by kernel_rfl) (by kernel_rfl) (fun _ _ _ h => h) (Or.inl ⟨by rfl, fun wz hz => by obtain ⟨z0, z1, z2, z3, z4, z5, z6, z7⟩ := hz; go_simp⟩) F0 ?_
        simp only [Act.put, List.setIfInBounds_toArray, List.set_cons_zero, List.set_cons_succ]
        refine AnyT.branch (rs := [2]) (by kernel_rfl) (by simp) ?_
        refine all_cons (?_) all_nil
        refine AnyT.enter (i := 2) (d := some 47) (f := 18) (args := #[jv pA L pc wt, qv st zA zn zc zB zm zd]) rfl rfl rfl (by go_simp) (HC1.out q0 K0.out) ?_
        rintro e q1 ⟨rfl, hB1⟩
        have K1 := Lib.hid (K0.out.trans (hB1.mono K0.out.size))
        have F1 := HPS.out q1 K1.out
        refine ⟨_, rfl, fun _ => F1, ?_⟩
        clear hB1 F0
        simp only [Act.put, List.setIfInBounds_toArray, List.set_cons_zero, List.set_cons_succ]
        refine AnyT.branch (rs := [5]) (by kernel_rfl) (by simp) ?_
        refine all_cons (?_) all_nil
        refine AnyT.enter (i := 5) (d := some 50) (f := 19) (args := #[jv pA L pc wt, qv st zA zn zc zB zm zd]) rfl rfl rfl (by go_simp) (HC2.out q1 K1.out) ?_
        rintro e q2 ⟨rfl, hB2⟩
        have K2 := Lib.hid (K1.out.trans (hB2.mono K1.out.size))
        have F2 := HPS.out q2 K2.out
        refine ⟨_, rfl, fun _ => F2, ?_⟩
        clear hB2 F1
        simp only [Act.put, List.setIfInBounds_toArray, List.set_cons_zero, List.set_cons_succ]
        refine AnyT.takeD (i := 6) (d := some 51) (v := .bool false) rfl rfl (by kernel_rfl) (by kernel_rfl) (by kernel_rfl) (by kernel_rfl) (fun _ _ _ h => h) (Or.inl ⟨by rfl, fun wz _ => by go_simp⟩) F2 ?_
        simp only [Act.put, List.setIfInBounds_toArray, List.set_cons_zero, List.set_cons_succ]
        refine AnyT.takeD (i := 7) (d := some 52) (v := .bool false) rfl rfl (by kernel_rfl) (by kernel_rfl) (by kernel_rfl) (by kernel_rfl) (fun _ _ _ h => h) (Or.inl ⟨by rfl, fun wz _ => by go_simp⟩) F2 ?_
        simp only [Act.put, List.setIfInBounds_toArray, List.set_cons_zero, List.set_cons_succ]
        refine AnyT.takeD (i := 8) (d := some 53) (v := jv pA L pc wt) rfl rfl (by kernel_rfl) (by kernel_rfl) (by kernel_rfl) (by kernel_rfl) (fun _ _ _ h => h) (Or.inl ⟨by rfl, fun wz hz => by obtain ⟨z0, z1, z2, z3, z4, z5, z6, z7⟩ := hz; go_simp⟩) F2 ?_
        simp only [Act.put, List.setIfInBounds_toArray, List.set_cons_zero, List.set_cons_succ]
        refine AnyT.takeD (i := 9) (d := some 54) (v := qv s1 sA zn sc sB sn sd) rfl rfl (by kernel_rfl) (by kernel_rfl) (by kernel_rfl) (by kernel_rfl) (fun _ _ _ h => h) (Or.inl ⟨by rfl, fun wz hz => by obtain ⟨z0, z1, z2, z3, z4, z5, z6, z7⟩ := hz; go_simp⟩) F2 ?_
        simp only [Act.put, List.setIfInBounds_toArray, List.set_cons_zero, List.set_cons_succ]
        refine AnyT.takeD (i := 11) (d := some 56) (v := jv pA L pc wt) rfl rfl (by kernel_rfl) (by kernel_rfl) (by kernel_rfl) (by kernel_rfl) (fun _ _ _ h => h) (Or.inl ⟨by rfl, fun wz hz => by obtain ⟨z0, z1, z2, z3, z4, z5, z6, z7⟩ := hz; go_simp⟩) F2 ?_
        simp only [Act.put, List.setIfInBounds_toArray, List.set_cons_zero, List.set_cons_succ]
        refine AnyT.takeD (i := 12) (d := some 57) (v := qv s1 sA zn sc sB sn sd) rfl rfl (by kernel_rfl) (by kernel_rfl) (by kernel_rfl) (by kernel_rfl) (fun _ _ _ h => h) (Or.inl ⟨by rfl, fun wz hz => by obtain ⟨z0, z1, z2, z3, z4, z5, z6, z7⟩ := hz; go_simp⟩) F2 ?_
        simp only [Act.put, List.setIfInBounds_toArray, List.set_cons_zero, List.set_cons_succ]
        refine AnyT.branch (rs := [10]) (by kernel_rfl) (by simp) ?_
        refine all_cons (?_) all_nil
        refine AnyT.enterG (i := 10) (d := some 55) (f := 18) (args := #[jv pA L pc wt, qv s1 sA zn sc sB sn sd]) rfl (by rfl) rfl (by go_simp) (HD1.out q2 K2.out) ?_
        rintro e q3 ⟨rfl, hB3⟩
        have K3 := Lib.hid (K2.out.trans (hB3.mono K2.out.size))
        have F3 := HPS.out q3 K3.out
        refine ⟨_, rfl, fun _ => F3, ?_⟩
        clear hB3 F2
        simp only [Act.put, List.setIfInBounds_toArray, List.set_cons_zero, List.set_cons_succ]
        refine AnyT.branch (rs := [13]) (by kernel_rfl) (by simp) ?_
        refine all_cons (?_) all_nil
        refine AnyT.enterG (i := 13) (d := some 58) (f := 19) (args := #[jv pA L pc wt, qv s1 sA zn sc sB sn sd]) rfl (by rfl) rfl (by go_simp) (HD2.out q3 K3.out) ?_
        rintro e q4 ⟨rfl, hB4⟩
        have K4 := Lib.hid (K3.out.trans (hB4.mono K3.out.size))
        have F4 := HPS.out q4 K4.out
        refine ⟨_, rfl, fun _ => F4, ?_⟩
        clear hB4 F3
        simp only [Act.put, List.setIfInBounds_toArray, List.set_cons_zero, List.set_cons_succ]
        refine AnyT.takeD (i := 14) (d := some 59) (v := .bool false) rfl rfl (by kernel_rfl) (by kernel_rfl) (by kernel_rfl) (by kernel_rfl) (fun _ _ _ h => h) (Or.inl ⟨by rfl, fun wz _ => by go_simp⟩) F4 ?_
        simp only [Act.put, List.setIfInBounds_toArray, List.set_cons_zero, List.set_cons_succ]
        refine AnyT.takeD (i := 15) (d := some 60) (v := .bool false) rfl rfl (by kernel_rfl) (by kernel_rfl) (by kernel_rfl) (by kernel_rfl) (fun _ _ _ h => h) (Or.inl ⟨by rfl, fun wz _ => by go_simp⟩) F4 ?_
        simp only [Act.put, List.setIfInBounds_toArray, List.set_cons_zero, List.set_cons_succ]
        refine AnyT.done_ (by kernel_rfl) ?_ _
        have KZ := Lib.hid K4.out
        clear F4 HPS HE0
        go_wp2_with fail
        go_meet
        case rel => exact ⟨rfl, KZ⟩
      case rest =>
      obtain ⟨rfl, HBC⟩ := hcut
      have QS11 := Lib.hid (QS.out.below HBC.out)
      have J11 := Lib.hid (J10.out.below HBC.out J10.out.lt)
      have G11 := Lib.hid (fun j => (HBC.out.frozen (p := ⟨b, j, none⟩) J10.out.lt).trans (G10.out j))
      have O11 := Lib.hid (O10.out.below HBC.out)
      have K11 := Lib.hid (K10.out.stays' HBC.out)
      have B11 := Lib.hid (B10.out.trans (HBC.out.mono (Nat.le_of_lt K10.out.lt)))
      clear QS QZ10 J10 G10 O10 K10 B10 HBC HC1 HC2 HD1 HD2 hn1 hn2
      have HSO := Lib.hid (show Calls Try.prog 17 #[.pointer (some ⟨m, 0, none⟩), qv s1 sA zn sc sB sn sd] wc (SpoPost m (M + 5 + 5 * 12 + 3) (12 + 1) (4095 + 4) zn sn wc) from
        spo_any m (M + 5 + 5 * 12 + 3) s1 sv sh sA sB zn sc sn sd (12 + 1) (4095 + 4) wc K11.out (by omega) (own_read QS11.out.ov).1 (own_read QS11.out.ou).1 (own_read QS11.out.ov).2.1 (own_read QS11.out.ou).2.1 (own_noneX QS11.out.ov) (own_noneX QS11.out.ou) (by have := HZN.out; omega) (by omega) (by omega) (by omega) HSB.out)
      obtain ⟨x0, x1, x2, -, xl⟩ := QS11.out.box
      go_wp2_with fail
      refine HSO.out.mono ?_
      rintro e w12 ⟨s2, tA, tc, tB, tn, td, tv, th, rfl, OT, OTC, K12, M12, hb12, htn⟩
      have QS12 := QS11.out.step M12
      have hgm := QS12.lt
      have hgw : gs < wc.heap.size := xl
      have nt : ∀ q, (Value.slice tA zn tc).ownBlock = some q → q ≠ gs := fun q e => by have := (own_block OT e).1; omega
      have nu : ∀ q, (Value.slice tB tn td).ownBlock = some q → q ≠ gs := fun q e => by have := (own_block OTC e).1; omega
      have QT := Lib.hid (QS12.put (st' := s2) (OT.base (show m + 1 ≤ wc.heap.size by omega)) (OTC.base (show m + 1 ≤ wc.heap.size by omega)) nt nu)
      have ntb : ∀ q, (Value.slice tA zn tc).ownBlock = some q → b < q := fun q e => by have := (own_block OT e).1; have := J11.out.lt; omega
      have nub : ∀ q, (Value.slice tB tn td).ownBlock = some q → b < q := fun q e => by have := (own_block OTC e).1; have := J11.out.lt; omega
      have J12 := J11.out.moves M12 (show b ≠ m by omega)
      have J13 := Lib.hid (((J12.stO (p := ⟨gs, 0, none⟩) (by show gs ≠ b; omega) (.int .i64 s2)).stO (p := ⟨gs, 1, none⟩) (by show gs ≠ b; omega) (.slice tA zn tc)).stO (p := ⟨gs, 2, none⟩) (by show gs ≠ b; omega) (.slice tB tn td))
      have G13 := Lib.hid (fun j => show (((w12.setCell ⟨gs, 0, none⟩ (.int .i64 s2)).setCell ⟨gs, 1, none⟩ (.slice tA zn tc)).setCell ⟨gs, 2, none⟩ (.slice tB tn td)).frozen? ⟨b, j, none⟩ = false from by rw [World.frozen?_setCell, World.frozen?_setCell, World.frozen?_setCell]; exact (M12.frozen (p := ⟨b, j, none⟩) J11.out.lt (by show b ≠ m; omega)).trans (G11.out j))
      have O13 := Lib.hid ((((O11.out.moves M12 (Nat.lt_succ_self _)).setOther (p := ⟨gs, 0, none⟩) (fun e => Nat.lt_irrefl _ (HOB.out _ e)) (.int .i64 s2)).setOther (p := ⟨gs, 1, none⟩) (fun e => Nat.lt_irrefl _ (HOB.out _ e)) (.slice tA zn tc)).setOther (p := ⟨gs, 2, none⟩) (fun e => Nat.lt_irrefl _ (HOB.out _ e)) (.slice tB tn td))
      have K13 := Lib.hid (((K12.setCell (p := ⟨gs, 0, none⟩) hgm (.int .i64 s2)).setCell (p := ⟨gs, 1, none⟩) hgm (.slice tA zn tc)).setCell (p := ⟨gs, 2, none⟩) hgm (.slice tB tn td))
      have B13 := Lib.hid ((((Moves.below B11.out M12 (Nat.le_refl _) (Nat.le_of_lt K11.out.lt)).setCell (p := ⟨gs, 0, none⟩) (Nat.le_of_lt hgm) (.int .i64 s2)).setCell (p := ⟨gs, 1, none⟩) (Nat.le_of_lt hgm) (.slice tA zn tc)).setCell (p := ⟨gs, 2, none⟩) (Nat.le_of_lt hgm) (.slice tB tn td))
      obtain ⟨y0, y1, y2, yf, yl⟩ := QS12.box
      have f0 := yf 0
      have f1 := yf 1
      have f2 := yf 2
      clear yf x0 x1 x2 xl QS11 QS12 J11 J12 G11 O11 K11 B11 OT OTC K12 M12 nt nu HSO HSB hb12
      go_upto_region 14 with fail
      generalize ((w12.setCell ⟨gs, 0, none⟩ (.int .i64 s2)).setCell ⟨gs, 1, none⟩ (.slice tA zn tc)).setCell ⟨gs, 2, none⟩ (.slice tB tn td) = w13 at *
      clear f0 f1 f2 y0 y1 y2 yl
      by_cases hi3 : i = 3
      · subst hi3
        have hi3b : (((3 : Nat) : Int) == 3) = true := rfl
        have g0 := G13.out 0
        have g1 := G13.out 1
        obtain ⟨j0, j1, jlt⟩ := J13.out
        go_wp2_with fail
        refine (spoil_any m (M + 5 + 5 * 12 + 3 + 3) l pA pc L wt HL.out (by have := HL12.out; omega) w13 K13.out (by have := HL12.out; omega) O13.out.irow HAN.out).mono ?_
        rintro e w14 ⟨xA, xc, xl, xwt, rfl, OX, hxl, K14, M14⟩
        have J14 := J13.out.moves M14 (show b ≠ m by omega)
        have h0 := (M14.frozen (p := ⟨b, 0, none⟩) jlt (by show b ≠ m; omega)).trans g0
        have h1 := (M14.frozen (p := ⟨b, 1, none⟩) jlt (by show b ≠ m; omega)).trans g1
        have OX2 := Lib.hid ((OX.setOther (p := ⟨b, 0, none⟩) (fun e => by have := (OX.block e).1; have : w13.heap.size ≤ b := this; omega) (.slice xA L xc)).setOther (p := ⟨b, 1, none⟩) (fun e => by have := (OX.block e).1; have : w13.heap.size ≤ b := this; omega) (.int .i64 xwt))
        have QT13 := QT.out.step M14
        have QT2 := Lib.hid (show QSt ((w14.setCell ⟨b, 0, none⟩ (.slice xA L xc)).setCell ⟨b, 1, none⟩ (.int .i64 xwt)) m gs s2 tA zn tc tB tn td tv th from
          ⟨(QT13.box.setO (p := ⟨b, 0, none⟩) (by show b ≠ gs; omega) _).setO (p := ⟨b, 1, none⟩) (by show b ≠ gs; omega) _, (QT13.ov.setN (p := ⟨b, 0, none⟩) (fun q e => by have := ntb q e; show q ≠ b; omega) _).setN (p := ⟨b, 1, none⟩) (fun q e => by have := ntb q e; show q ≠ b; omega) _, (QT13.ou.setN (p := ⟨b, 0, none⟩) (fun q e => by have := nub q e; show q ≠ b; omega) _).setN (p := ⟨b, 1, none⟩) (fun q e => by have := nub q e; show q ≠ b; omega) _, QT13.nv, QT13.nu, QT13.lt⟩)
        have J15 := Lib.hid (J14.put (A' := xA) (n' := L) (c' := xc) (wt' := xwt))
        have K15 := Lib.hid ((K14.setCell (p := ⟨b, 0, none⟩) hmb (.slice xA L xc)).setCell (p := ⟨b, 1, none⟩) hmb (.int .i64 xwt))
        have B15 := Lib.hid (((Moves.below B13.out M14 (Nat.le_refl _) (Nat.le_of_lt K13.out.lt)).setCell (p := ⟨b, 0, none⟩) (Nat.le_of_lt hmb) (.slice xA L xc)).setCell (p := ⟨b, 1, none⟩) (Nat.le_of_lt hmb) (.int .i64 xwt))
        have HLX := Lib.hid hxl
        have HIX := Lib.hid OX2.out.irow
        clear j0 j1 jlt g0 g1 J13 G13 O13 K13 B13 QT OX K14 M14 HAN QT13 OX2 hxl
        obtain ⟨i0, i1, ilt⟩ := J14
        go_upto_region 16 with fail
        generalize (w14.setCell ⟨b, 0, none⟩ (.slice xA L xc)).setCell ⟨b, 1, none⟩ (.int .i64 xwt) = w16 at *
        clear i0 i1 ilt h0 h1
        have hMM : M + 5 + 5 * 12 + 3 + 3 + 4 ≤ 200 * (3 + 1) := by omega
        have hmeas : True := trivial
        obtain ⟨c3, hc3⟩ : ∃ x, x = chkE xl xwt s2 tv th := ⟨_, rfl⟩
        have HC1 := Lib.hid (fun (W : World) (k : Below w16.heap.size w16 W) => check_any xl xA xc L xwt s2 tv th tA zn tc tB tn td HLX.out (own_read QT2.out.ov).1 (own_read QT2.out.ou).1 (own_read QT2.out.ov).2.2 (own_read QT2.out.ou).2.2 W (HIX.out.below k) ((own_read QT2.out.ov).2.1.below k) ((own_read QT2.out.ou).2.1.below k))
        have HC2 := Lib.hid (fun (W : World) (k : Below w16.heap.size w16 W) => rcheck_any xl xA xc L xwt s2 tv th tA zn tc tB tn td HLX.out (own_read QT2.out.ov).1 (own_read QT2.out.ou).1 (own_read QT2.out.ov).2.2 (own_read QT2.out.ou).2.2 W (HIX.out.below k) ((own_read QT2.out.ov).2.1.below k) ((own_read QT2.out.ou).2.1.below k))
        rw [← hc3] at HC1 HC2
        clear hc3
        have hn3 : (c3 != c3) = false := by simp
        go_cut [75] from 69 to 75 (fun cv wx => cv = .bool false ∧ Hid (Below w16.heap.size w16 wx))
        case first =>
          have HPS := Lib.hid (fun (X : World) (k : Below w16.heap.size w16 X) => (show X.cell? ⟨b, 0, none⟩ = some (.slice xA L xc) ∧ X.cell? ⟨b, 1, none⟩ = some (.int .i64 xwt) ∧ X.cell? ⟨gs, 0, none⟩ = some (.int .i64 s2) ∧ X.cell? ⟨gs, 1, none⟩ = some (.slice tA zn tc) ∧ X.cell? ⟨gs, 2, none⟩ = some (.slice tB tn td) from
            ⟨(J15.out.below k J15.out.lt).c0, (J15.out.below k J15.out.lt).c1, (QT2.out.below k).box.c0, (QT2.out.below k).box.c1, (QT2.out.below k).box.c2⟩))
          obtain ⟨q0, e0⟩ : ∃ x, x = w16.drew := ⟨_, rfl⟩
          have K0 := Lib.hid (show Below w16.heap.size w16 q0 from by rw [e0]; exact (Below.refl _ _).drew)
          have F0 := HPS.out q0 K0.out
          have HE0 := Lib.hid e0
          clear e0
          refine AnyT.begin_at tlN (fun X => X.cell? ⟨b, 0, none⟩ = some (.slice xA L xc) ∧ X.cell? ⟨b, 1, none⟩ = some (.int .i64 xwt) ∧ X.cell? ⟨gs, 0, none⟩ = some (.int .i64 s2) ∧ X.cell? ⟨gs, 1, none⟩ = some (.slice tA zn tc) ∧ X.cell? ⟨gs, 2, none⟩ = some (.slice tB tn td)) (by kernel_rfl) HE0.out F0 ?_
          clear F0
          intro F0
          refine AnyT.takeD (i := 0) (d := some 69) (v := jv xA L xc xwt) rfl rfl (by kernel_rfl) (by kernel_rfl) (by kernel_rfl) (by kernel_rfl) (fun _ _ _ h => h) (Or.inl ⟨by rfl, fun wz hz => by obtain ⟨z0, z1, z2, z3, z4⟩ := hz; go_simp⟩) F0 ?_
          simp only [Act.put, List.setIfInBounds_toArray, List.set_cons_zero, List.set_cons_succ]
          refine AnyT.takeD (i := 1) (d := some 70) (v := qv s2 tA zn tc tB tn td) rfl rfl (by kernel_rfl) (by kernel_rfl) (by kernel_rfl) (by kernel_rfl) (fun _ _ _ h => h) (Or.inl ⟨by rfl, fun wz hz => by obtain ⟨z0, z1, z2, z3, z4⟩ := hz; go_simp⟩) F0 ?_
          simp only [Act.put, List.setIfInBounds_toArray, List.set_cons_zero, List.set_cons_succ]
          refine AnyT.takeD (i := 3) (d := some 72) (v := jv xA L xc xwt) rfl rfl (by kernel_rfl) (by kernel_rfl) (by kernel_rfl) (by kernel_rfl) (fun _ _ _ h => h) (Or.inl ⟨by rfl, fun wz hz => by obtain ⟨z0, z1, z2, z3, z4⟩ := hz; go_simp⟩) F0 ?_
          simp only [Act.put, List.setIfInBounds_toArray, List.set_cons_zero, List.set_cons_succ]
          refine AnyT.takeD (i := 4) (d := some 73) (v := qv s2 tA zn tc tB tn td) rfl rfl (by kernel_rfl) (by kernel_rfl) (by kernel_rfl) (by kernel_rfl) (fun _ _ _ h => h) (Or.inl ⟨by rfl, fun wz hz => by obtain ⟨z0, z1, z2, z3, z4⟩ := hz; go_simp⟩) F0 ?_
          simp only [Act.put, List.setIfInBounds_toArray, List.set_cons_zero, List.set_cons_succ]
          refine AnyT.branch (rs := [2]) (by kernel_rfl) (by simp) ?_
          refine all_cons (?_) all_nil
          refine AnyT.enter (i := 2) (d := some 71) (f := 18) (args := #[jv xA L xc xwt, qv s2 tA zn tc tB tn td]) rfl rfl rfl (by go_simp) (HC1.out q0 K0.out) ?_
          rintro e q1 ⟨rfl, hB1⟩
          have K1 := Lib.hid (K0.out.trans (hB1.mono K0.out.size))
          have F1 := HPS.out q1 K1.out
          refine ⟨_, rfl, fun _ => F1, ?_⟩
          clear hB1 F0
          simp only [Act.put, List.setIfInBounds_toArray, List.set_cons_zero, List.set_cons_succ]
          refine AnyT.branch (rs := [5]) (by kernel_rfl) (by simp) ?_
          refine all_cons (?_) all_nil
          refine AnyT.enter (i := 5) (d := some 74) (f := 19) (args := #[jv xA L xc xwt, qv s2 tA zn tc tB tn td]) rfl rfl rfl (by go_simp) (HC2.out q1 K1.out) ?_
          rintro e q2 ⟨rfl, hB2⟩
          have K2 := Lib.hid (K1.out.trans (hB2.mono K1.out.size))
          have F2 := HPS.out q2 K2.out
          refine ⟨_, rfl, fun _ => F2, ?_⟩
          clear hB2 F1
          simp only [Act.put, List.setIfInBounds_toArray, List.set_cons_zero, List.set_cons_succ]
          refine AnyT.takeD (i := 6) (d := some 75) (v := .bool false) rfl rfl (by kernel_rfl) (by kernel_rfl) (by kernel_rfl) (by kernel_rfl) (fun _ _ _ h => h) (Or.inl ⟨by rfl, fun wz _ => by go_simp⟩) F2 ?_
          simp only [Act.put, List.setIfInBounds_toArray, List.set_cons_zero, List.set_cons_succ]
          refine AnyT.done_ (by kernel_rfl) ?_ _
          have KZ := Lib.hid K2.out
          clear F2 HPS HE0
          go_wp2_with fail
          go_meet
          case rel => exact ⟨rfl, KZ⟩
        case rest =>
        obtain ⟨rfl, HBC⟩ := hcut
        have K17 := Lib.hid (K15.out.stays' HBC.out)
        have B17 := Lib.hid (B15.out.trans (HBC.out.mono (Nat.le_of_lt K15.out.lt)))
        clear QT2 J15 K15 B15 HBC HC1 HC2 hn3 HIX HLX
        go_wp2_with fail
        go_roundw
        case rel => exact ⟨_, M + 5 + 5 * 12 + 3 + 3 + 4, by omega, by go_num, hMM, K17, B17⟩
        case measure => simp [intOf]; try omega
      · have hi3b : ((i : Int) == 3) = false := by simp; omega
        have J15 := J13
        have K15 := Lib.hid (K13.out.more (show M + 5 + 5 * 12 + 3 + 3 ≤ M + 5 + 5 * 12 + 3 + 3 + 4 by omega))
        have B15 := B13
        have QT2 := QT
        have HLX := HL
        have HIX := Lib.hid O13.out.irow
        clear J13 G13 O13 K13 B13 QT HAN
        go_upto_region 16 with fail
        generalize w13 = w16 at *
        have hMM : M + 5 + 5 * 12 + 3 + 3 + 4 ≤ 200 * (i + 1) := by omega
        obtain ⟨c3, hc3⟩ : ∃ x, x = chkE l wt s2 tv th := ⟨_, rfl⟩
        have HC1 := Lib.hid (fun (W : World) (k : Below w16.heap.size w16 W) => check_any l pA pc L wt s2 tv th tA zn tc tB tn td HLX.out (own_read QT2.out.ov).1 (own_read QT2.out.ou).1 (own_read QT2.out.ov).2.2 (own_read QT2.out.ou).2.2 W (HIX.out.below k) ((own_read QT2.out.ov).2.1.below k) ((own_read QT2.out.ou).2.1.below k))
        have HC2 := Lib.hid (fun (W : World) (k : Below w16.heap.size w16 W) => rcheck_any l pA pc L wt s2 tv th tA zn tc tB tn td HLX.out (own_read QT2.out.ov).1 (own_read QT2.out.ou).1 (own_read QT2.out.ov).2.2 (own_read QT2.out.ou).2.2 W (HIX.out.below k) ((own_read QT2.out.ov).2.1.below k) ((own_read QT2.out.ou).2.1.below k))
        rw [← hc3] at HC1 HC2
        clear hc3
        have hn3 : (c3 != c3) = false := by simp
        go_cut [75] from 69 to 75 (fun cv wx => cv = .bool false ∧ Hid (Below w16.heap.size w16 wx))
        case first =>
          have HPS := Lib.hid (fun (X : World) (k : Below w16.heap.size w16 X) => (show X.cell? ⟨b, 0, none⟩ = some (.slice pA L pc) ∧ X.cell? ⟨b, 1, none⟩ = some (.int .i64 wt) ∧ X.cell? ⟨gs, 0, none⟩ = some (.int .i64 s2) ∧ X.cell? ⟨gs, 1, none⟩ = some (.slice tA zn tc) ∧ X.cell? ⟨gs, 2, none⟩ = some (.slice tB tn td) from
            ⟨(J15.out.below k J15.out.lt).c0, (J15.out.below k J15.out.lt).c1, (QT2.out.below k).box.c0, (QT2.out.below k).box.c1, (QT2.out.below k).box.c2⟩))
          obtain ⟨q0, e0⟩ : ∃ x, x = w16.drew := ⟨_, rfl⟩
          have K0 := Lib.hid (show Below w16.heap.size w16 q0 from by rw [e0]; exact (Below.refl _ _).drew)
          have F0 := HPS.out q0 K0.out
          have HE0 := Lib.hid e0
          clear e0
          refine AnyT.begin_at tlN (fun X => X.cell? ⟨b, 0, none⟩ = some (.slice pA L pc) ∧ X.cell? ⟨b, 1, none⟩ = some (.int .i64 wt) ∧ X.cell? ⟨gs, 0, none⟩ = some (.int .i64 s2) ∧ X.cell? ⟨gs, 1, none⟩ = some (.slice tA zn tc) ∧ X.cell? ⟨gs, 2, none⟩ = some (.slice tB tn td)) (by kernel_rfl) HE0.out F0 ?_
          clear F0
          intro F0
          refine AnyT.takeD (i := 0) (d := some 69) (v := jv pA L pc wt) rfl rfl (by kernel_rfl) (by kernel_rfl) (by kernel_rfl) (by kernel_rfl) (fun _ _ _ h => h) (Or.inl ⟨by rfl, fun wz hz => by obtain ⟨z0, z1, z2, z3, z4⟩ := hz; go_simp⟩) F0 ?_
          simp only [Act.put, List.setIfInBounds_toArray, List.set_cons_zero, List.set_cons_succ]
          refine AnyT.takeD (i := 1) (d := some 70) (v := qv s2 tA zn tc tB tn td) rfl rfl (by kernel_rfl) (by kernel_rfl) (by kernel_rfl) (by kernel_rfl) (fun _ _ _ h => h) (Or.inl ⟨by rfl, fun wz hz => by obtain ⟨z0, z1, z2, z3, z4⟩ := hz; go_simp⟩) F0 ?_
          simp only [Act.put, List.setIfInBounds_toArray, List.set_cons_zero, List.set_cons_succ]
          refine AnyT.takeD (i := 3) (d := some 72) (v := jv pA L pc wt) rfl rfl (by kernel_rfl) (by kernel_rfl) (by kernel_rfl) (by kernel_rfl) (fun _ _ _ h => h) (Or.inl ⟨by rfl, fun wz hz => by obtain ⟨z0, z1, z2, z3, z4⟩ := hz; go_simp⟩) F0 ?_
          simp only [Act.put, List.setIfInBounds_toArray, List.set_cons_zero, List.set_cons_succ]
          refine AnyT.takeD (i := 4) (d := some 73) (v := qv s2 tA zn tc tB tn td) rfl rfl (by kernel_rfl) (by kernel_rfl) (by kernel_rfl) (by kernel_rfl) (fun _ _ _ h => h) (Or.inl ⟨by rfl, fun wz hz => by obtain ⟨z0, z1, z2, z3, z4⟩ := hz; go_simp⟩) F0 ?_
          simp only [Act.put, List.setIfInBounds_toArray, List.set_cons_zero, List.set_cons_succ]
          refine AnyT.branch (rs := [2]) (by kernel_rfl) (by simp) ?_
          refine all_cons (?_) all_nil
          refine AnyT.enter (i := 2) (d := some 71) (f := 18) (args := #[jv pA L pc wt, qv s2 tA zn tc tB tn td]) rfl rfl rfl (by go_simp) (HC1.out q0 K0.out) ?_
          rintro e q1 ⟨rfl, hB1⟩
          have K1 := Lib.hid (K0.out.trans (hB1.mono K0.out.size))
          have F1 := HPS.out q1 K1.out
          refine ⟨_, rfl, fun _ => F1, ?_⟩
          clear hB1 F0
          simp only [Act.put, List.setIfInBounds_toArray, List.set_cons_zero, List.set_cons_succ]
          refine AnyT.branch (rs := [5]) (by kernel_rfl) (by simp) ?_
          refine all_cons (?_) all_nil
          refine AnyT.enter (i := 5) (d := some 74) (f := 19) (args := #[jv pA L pc wt, qv s2 tA zn tc tB tn td]) rfl rfl rfl (by go_simp) (HC2.out q1 K1.out) ?_
          rintro e q2 ⟨rfl, hB2⟩
          have K2 := Lib.hid (K1.out.trans (hB2.mono K1.out.size))
          have F2 := HPS.out q2 K2.out
          refine ⟨_, rfl, fun _ => F2, ?_⟩
          clear hB2 F1
          simp only [Act.put, List.setIfInBounds_toArray, List.set_cons_zero, List.set_cons_succ]
          refine AnyT.takeD (i := 6) (d := some 75) (v := .bool false) rfl rfl (by kernel_rfl) (by kernel_rfl) (by kernel_rfl) (by kernel_rfl) (fun _ _ _ h => h) (Or.inl ⟨by rfl, fun wz _ => by go_simp⟩) F2 ?_
          simp only [Act.put, List.setIfInBounds_toArray, List.set_cons_zero, List.set_cons_succ]
          refine AnyT.done_ (by kernel_rfl) ?_ _
          have KZ := Lib.hid K2.out
          clear F2 HPS HE0
          go_wp2_with fail
          go_meet
          case rel => exact ⟨rfl, KZ⟩
        case rest =>
        obtain ⟨rfl, HBC⟩ := hcut
        have K17 := Lib.hid (K15.out.stays' HBC.out)
        have B17 := Lib.hid (B15.out.trans (HBC.out.mono (Nat.le_of_lt K15.out.lt)))
        clear QT2 J15 K15 B15 HBC HC1 HC2 hn3 HIX HLX
        go_wp2_with fail
        go_roundw
        case rel => exact ⟨_, M + 5 + 5 * 12 + 3 + 3 + 4, by omega, by go_num, hMM, K17, B17⟩
        case measure => simp [intOf]; try omega
    · have hii : ¬ (i : Int) < 4 := by omega
      have HBW := Lib.hid (HBA.out _ B.out)
      obtain ⟨JX, PX⟩ := HJW.out _ B.out
      have JX := Lib.hid JX
      have PX := Lib.hid PX
      obtain ⟨j0, j1, jlt⟩ := JX.out
      obtain ⟨p0, p1, p2, -, pl⟩ := PX.out
      by_cases h1 : 30 < jn
      · have h1i : (30 : Int) < (jn : Int) := by omega
        go_wp2_with fail
        refine (sane15_any _).mono ?_
        rintro e wz ⟨rfl, BZ⟩
        have HZ := Lib.hid (HBW.out.trans (BZ.mono HBW.out.size))
        clear BZ
        go_wp2_with fail
        go_ret
        exact ⟨rfl, HZ.out⟩
      · have h1i : ¬ (30 : Int) < (jn : Int) := by omega
        by_cases h2 : 60 < vn + un
        · have h2i : (60 : Int) < (vn : Int) + (un : Int) := by omega
          go_wp2_with fail
          refine (sane15_any _).mono ?_
          rintro e wz ⟨rfl, BZ⟩
          have HZ := Lib.hid (HBW.out.trans (BZ.mono HBW.out.size))
          clear BZ
          go_wp2_with fail
          go_ret
          exact ⟨rfl, HZ.out⟩
        · have h2i : ¬ (60 : Int) < (vn : Int) + (un : Int) := by omega
          have HC1 := Lib.hid (fun (W : World) (k : Below wr.heap.size wr W) => HCF.out W (HBW.out.trans (k.mono HBW.out.size)))
          have HC2 := Lib.hid (fun (W : World) (k : Below wr.heap.size wr W) => HRF.out W (HBW.out.trans (k.mono HBW.out.size)))
          have HPS := Lib.hid (fun (X : World) (k : Below wr.heap.size wr X) => (show X.cell? ⟨b0, 0, none⟩ = some (.slice jA jn jc) ∧ X.cell? ⟨b0, 1, none⟩ = some (.int .i64 jwt) ∧ X.cell? ⟨b0 + 1, 0, none⟩ = some (.int .i64 pst) ∧ X.cell? ⟨b0 + 1, 1, none⟩ = some (.slice vA vn vc) ∧ X.cell? ⟨b0 + 1, 2, none⟩ = some (.slice uA un uc) from
            ⟨(JX.out.below k JX.out.lt).c0, (JX.out.below k JX.out.lt).c1, (PX.out.below k PX.out.lt).c0, (PX.out.below k PX.out.lt).c1, (PX.out.below k PX.out.lt).c2⟩))
          have hcc : (cf == cf) = true := by simp
          go_upto_region 20 with fail
          clear j0 j1 jlt p0 p1 p2 pl h1 h1i h2 h2i
          obtain ⟨q0, e0⟩ : ∃ x, x = wr.drew := ⟨_, rfl⟩
          have K0 := Lib.hid (show Below wr.heap.size wr q0 from by rw [e0]; exact (Below.refl _ _).drew)
          have F0 := HPS.out q0 K0.out
          have HE0 := Lib.hid e0
          clear e0
          refine AnyT.begin_at tlN (fun X => X.cell? ⟨b0, 0, none⟩ = some (.slice jA jn jc) ∧ X.cell? ⟨b0, 1, none⟩ = some (.int .i64 jwt) ∧ X.cell? ⟨b0 + 1, 0, none⟩ = some (.int .i64 pst) ∧ X.cell? ⟨b0 + 1, 1, none⟩ = some (.slice vA vn vc) ∧ X.cell? ⟨b0 + 1, 2, none⟩ = some (.slice uA un uc)) (by kernel_rfl) HE0.out F0 ?_
          clear F0
          intro F0
          refine AnyT.takeD (i := 0) (d := some 92) (v := jv jA jn jc jwt) rfl rfl (by kernel_rfl) (by kernel_rfl) (by kernel_rfl) (by kernel_rfl) (fun _ _ _ h => h) (Or.inl ⟨by rfl, fun wz hz => by obtain ⟨z0, z1, z2, z3, z4⟩ := hz; go_simp⟩) F0 ?_
          simp only [Act.put, List.setIfInBounds_toArray, List.set_cons_zero, List.set_cons_succ]
          refine AnyT.takeD (i := 1) (d := some 93) (v := qv pst vA vn vc uA un uc) rfl rfl (by kernel_rfl) (by kernel_rfl) (by kernel_rfl) (by kernel_rfl) (fun _ _ _ h => h) (Or.inl ⟨by rfl, fun wz hz => by obtain ⟨z0, z1, z2, z3, z4⟩ := hz; go_simp⟩) F0 ?_
          simp only [Act.put, List.setIfInBounds_toArray, List.set_cons_zero, List.set_cons_succ]
          refine AnyT.takeD (i := 3) (d := some 95) (v := jv jA jn jc jwt) rfl rfl (by kernel_rfl) (by kernel_rfl) (by kernel_rfl) (by kernel_rfl) (fun _ _ _ h => h) (Or.inl ⟨by rfl, fun wz hz => by obtain ⟨z0, z1, z2, z3, z4⟩ := hz; go_simp⟩) F0 ?_
          simp only [Act.put, List.setIfInBounds_toArray, List.set_cons_zero, List.set_cons_succ]
          refine AnyT.takeD (i := 4) (d := some 96) (v := qv pst vA vn vc uA un uc) rfl rfl (by kernel_rfl) (by kernel_rfl) (by kernel_rfl) (by kernel_rfl) (fun _ _ _ h => h) (Or.inl ⟨by rfl, fun wz hz => by obtain ⟨z0, z1, z2, z3, z4⟩ := hz; go_simp⟩) F0 ?_
          simp only [Act.put, List.setIfInBounds_toArray, List.set_cons_zero, List.set_cons_succ]
          refine AnyT.branch (rs := [2]) (by kernel_rfl) (by simp) ?_
          refine all_cons (?_) all_nil
          refine AnyT.enter (i := 2) (d := some 94) (f := 18) (args := #[jv jA jn jc jwt, qv pst vA vn vc uA un uc]) rfl rfl rfl (by go_simp) (HC1.out q0 K0.out) ?_
          rintro e q1 ⟨rfl, hB1⟩
          have K1 := Lib.hid (K0.out.trans (hB1.mono K0.out.size))
          have F1 := HPS.out q1 K1.out
          refine ⟨_, rfl, fun _ => F1, ?_⟩
          clear hB1 F0
          simp only [Act.put, List.setIfInBounds_toArray, List.set_cons_zero, List.set_cons_succ]
          refine AnyT.branch (rs := [5]) (by kernel_rfl) (by simp) ?_
          refine all_cons (?_) all_nil
          refine AnyT.enter (i := 5) (d := some 97) (f := 19) (args := #[jv jA jn jc jwt, qv pst vA vn vc uA un uc]) rfl rfl rfl (by go_simp) (HC2.out q1 K1.out) ?_
          rintro e q2 ⟨rfl, hB2⟩
          have K2 := Lib.hid (K1.out.trans (hB2.mono K1.out.size))
          have F2 := HPS.out q2 K2.out
          refine ⟨_, rfl, fun _ => F2, ?_⟩
          clear hB2 F1
          simp only [Act.put, List.setIfInBounds_toArray, List.set_cons_zero, List.set_cons_succ]
          refine AnyT.takeD (i := 6) (d := some 98) (v := .bool true) rfl rfl (by kernel_rfl) (by kernel_rfl) (by kernel_rfl) (by kernel_rfl) (fun _ _ _ h => h) (Or.inl ⟨by rfl, fun wz _ => by go_simp⟩) F2 ?_
          simp only [Act.put, List.setIfInBounds_toArray, List.set_cons_zero, List.set_cons_succ]
          refine AnyT.takeD (i := 7) (d := some 99) (v := .bool true) rfl rfl (by kernel_rfl) (by kernel_rfl) (by kernel_rfl) (by kernel_rfl) (fun _ _ _ h => h) (Or.inl ⟨by rfl, fun wz _ => by go_simp⟩) F2 ?_
          simp only [Act.put, List.setIfInBounds_toArray, List.set_cons_zero, List.set_cons_succ]
          refine AnyT.branch (rs := [8]) (by kernel_rfl) (by simp) ?_
          refine all_cons (?_) all_nil
          refine AnyT.enterG (i := 8) (d := some 100) (f := 10) (args := #[]) rfl (by rfl) rfl (by go_simp) (sane15_any q2) ?_
          rintro e qz ⟨rfl, hBz⟩
          have KZ := Lib.hid (K2.out.trans (hBz.mono K2.out.size))
          have FZ := HPS.out qz KZ.out
          refine ⟨_, rfl, fun _ => FZ, ?_⟩
          clear hBz F2
          simp only [Act.put, List.setIfInBounds_toArray, List.set_cons_zero, List.set_cons_succ]
          refine AnyT.takeD (i := 9) (d := some 101) (v := .bool true) rfl rfl (by kernel_rfl) (by kernel_rfl) (by kernel_rfl) (by kernel_rfl) (fun _ _ _ h => h) (Or.inl ⟨by rfl, fun wz _ => by go_simp⟩) FZ ?_
          simp only [Act.put, List.setIfInBounds_toArray, List.set_cons_zero, List.set_cons_succ]
          refine AnyT.takeD (i := 10) (d := some 6) (v := .bool true) rfl rfl (by kernel_rfl) (by kernel_rfl) (by kernel_rfl) (by kernel_rfl) (fun _ _ _ h => h) (Or.inl ⟨by rfl, fun wz _ => by go_simp⟩) FZ ?_
          simp only [Act.put, List.setIfInBounds_toArray, List.set_cons_zero, List.set_cons_succ]
          refine AnyT.done_ (by kernel_rfl) ?_ _
          clear FZ HPS HE0
          go_wp2_with fail
          go_ret
          exact ⟨rfl, HBW.out.trans (KZ.out.mono HBW.out.size)⟩
theorem exa15_law (a : Option Addr) (len cap : Nat) (zs : List Int) (jA : Option Addr) (jc : Nat) (jl : List It) (jwt : Int) (pst : Int) (vA : Option Addr) (vn vc : Nat) (uA : Option Addr) (un uc : Nat) (pv ph : List Int) (w : World) (h : IsRow .i64 w a len cap zs)
    (hj : IRow w jA jl) (hv : IsRow .i64 w vA vn vc pv) (hvz : vn ≤ 140737488355328) (hu : IsRow .i64 w uA un uc ph) (huz : un ≤ 140737488355328) :
    Calls Try.prog 4 #[.slice a len cap, jv jA jl.length jc jwt, qv pst vA vn vc uA un uc] w fun e w' => e = .returned (.bool true) ∧ Below w.heap.size w w' := by
  obtain ⟨l, rfl, h1, h2, h3⟩ := h.row
  obtain ⟨l2, rfl, k1, k2, k3⟩ := hv.row
  obtain ⟨l3, rfl, m1, m2, m3⟩ := hu.row
  exact exa15_walk a cap l jA _ jc jl jwt pst vA _ vc uA _ uc l2 l3 w h1 h2 h3 hj rfl k1 rfl k2 m1 rfl m2 hvz huz
end Go.Proofs.Ytlagadbkencpbaa
